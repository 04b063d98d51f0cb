import PyProof.Rows.All
import Wide.All
import OpenK.AllK
import Wide.FinOn
import Lean
import PyProof.EqAt
import PyProof.EqKinds
import PyProof.TupleCall
import PyProof.ListStr
import PyProof.TupleOfStr
import PyProof.ConsumeWalk
import PyProof.SliceStr2
import PyProof.CompUse
import PyProof.Rows.SetFrom
import PyProof.SetRoads
import PyProof.StrLawsIn
import PyProof.Rows.StrIndexOr
import PyProof.Rows.StrJoin2
import PyProof.Rows.SumAny
import PyProof.WalkInts
import PyProof.SeqI3
import PyProof.Draws
import PyProof.ZipIter
import PyProof.EnumMake
import Wide.Txt2
import PyProof.Rows.SortWalk
import PyProof.ListRange
import PyProof.Rows.Range3
import KE.KStateDown
import PyProof.ReprRoads
import PyProof.CallFns
import PyProof.WalksMore
import KE.KTryDeep
import PyProof.ExcBaseAll.ValueError
import KE.KTryMore
import KE.KIsNot
import PyProof.ExcAttrAll.ValueError
import PyProof.NsDelKeeps
import PySem.SetOps
import PyProof.SetScanFacts
import PyProof.Walks
import PyProof.CollectWalk
import PyProof.SumWalk
import PyProof.SeqWrite
import KE.KRevIter
import PyProof.CollectIter
import PyProof.WalksS
import PySem.Challenge.RW_nearreach_k08_whole_words_taken
set_option Elab.async false
set_option linter.all false
set_option maxRecDepth 100000
namespace L2
open PySem PySem.Spec PyProof.Rows
abbrev Key:=Sum Int Str
def aor:Key->Value->Bool
 | .inl k,v=>Value.isInt k v
 | .inr x,v=>Value.isStrOf x v
def awi(w:World):Key->Int
 | .inl k=>hashInt k
 | .inr x=>hashStr w x
theorem o9:∀ {k:Key} {v:Value},aor k v=true->(∃ i t,k=Sum.inl i/\v=Value.int i t)\/(∃ x t,k=Sum.inr x/\v=Value.str x t)
 | .inl i,v,h=>by
  obtain ⟨t,e⟩:=Value.isInt_shape (k:=i) (v:=v) h;exact .inl ⟨i,t,rfl,e⟩
 | .inr x,v,h=>by
  obtain ⟨t,e⟩:=Value.isStrOf_shape (x:=x) (v:=v) h;exact .inr ⟨x,t,rfl,e⟩
theorem aos(a b:Int):decide ((Sum.inl a:Key)=Sum.inl b)=(a == b):=by
 by_cases e:a=b
 ·subst e;simp
 ·have h:¬ (Sum.inl a:Key)=Sum.inl b:=λq=>e (Sum.inl.inj q);rw [decide_eq_false h];exact (beq_eq_false_iff_ne.mpr e).symm
theorem aot(a b:Str):decide ((Sum.inr a:Key)=Sum.inr b)=decide (a=b):=by
 by_cases e:a=b
 ·subst e;simp
 ·have h:¬ (Sum.inr a:Key)=Sum.inr b:=λq=>e (Sum.inr.inj q);rw [decide_eq_false h,decide_eq_false e]
theorem aou(a:Int)(b:Str):decide ((Sum.inl a:Key)=Sum.inr b)=false:=decide_eq_false (λq=>nomatch q)
theorem aov(a:Str)(b:Int):decide ((Sum.inr a:Key)=Sum.inl b)=false:=decide_eq_false (λq=>nomatch q)
def a3z(prog:Program)(w:World):PySem.KeyKind prog w Key where
 is:=aor
 hash:=awi w
 inj:=λv a b ha hb=>by
  rcases o9 ha with ⟨i,t,rfl,rfl⟩ | ⟨x,t,rfl,rfl⟩
  ·rcases o9 hb with ⟨j,u,rfl,e⟩ | ⟨y,u,rfl,e⟩
   ·injection e with e1 _;rw [e1]
   ·exact nomatch e
  ·rcases o9 hb with ⟨j,u,rfl,e⟩ | ⟨y,u,rfl,e⟩
   ·exact nomatch e
   ·injection e with e1 _;rw [e1]
 byValue:=λk v h=>by
  rcases o9 h with ⟨i,t,rfl,rfl⟩ | ⟨x,t,rfl,rfl⟩<;>rfl
 pyHash:=λhv h=>by
  rcases o9 hv with ⟨i,t,rfl,rfl⟩ | ⟨x,t,rfl,rfl⟩
  ·exact wpAny_pyHash_int h
  ·exact wpAny_pyHash_str h
 eqBool:=λhu hv h=>by
  rcases o9 hu with ⟨i,t,rfl,rfl⟩ | ⟨x,t,rfl,rfl⟩
  ·rcases o9 hv with ⟨j,u,rfl,rfl⟩ | ⟨y,u,rfl,rfl⟩
   ·rw [aos] at h;exact wpAny_eqBool_int h
   ·rw [aou] at h;exact SeqAt.EqAt.int_str i t y u _ _ _ _ h
  ·rcases o9 hv with ⟨j,u,rfl,rfl⟩ | ⟨y,u,rfl,rfl⟩
   ·rw [aov] at h;exact SeqAt.EqAt.str_int x t j u _ _ _ _ h
   ·rw [aot] at h;exact wpAny_eqBool_str h
 «strs»:=λk x t v h=>by
  rcases o9 h with ⟨i,u,rfl,e⟩ | ⟨y,u,rfl,e⟩
  ·exact nomatch e
  ·injection e with e1 _
   subst e1
   cases v<;>rfl
inductive V where
 | non | bl (b:Bool) | int (i:Int) | str (x:Str) | byt (b:Array UInt8) | flt (b:UInt64) | ref (a:Addr) | ty (n:String)
 deriving DecidableEq
def RelV:V->Value->Prop
 | .non,u=>u=Value.none
 | .bl b,u=>u=Value.bool b
 | .int i,u=>∃ t,u=Value.int i t
 | .str x,u=>∃ t,u=Value.str x t
 | .byt b,u=>∃ t,u=Value.bytes b t
 | .flt b,u=>∃ t,u=Value.float b t
 | .ref a,u=>u=Value.ref a
 | .ty n,u=>u=Value.type n
abbrev Vals:List V->List Value->Prop:=Paired RelV
theorem Vals.length{xs:List V}{us:List Value}(r:Vals xs us):xs.length=us.length:=Paired.length r
theorem Vals.get:∀ {xs:List V} {us:List Value} {i:Nat} {x:V},Vals xs us->xs[i]? = some x->∃ u,us[i]? = some u/\RelV x u
 | _,_,_,_, .nil,e=>by simp at e
 | _,_,0,_, .cons r _,e=>by simp at e;subst e;exact ⟨_,rfl,r⟩
 | _,_,i+1,x, .cons _ t,e=>by
  obtain ⟨u,h1,h2⟩:=Vals.get (i:=i) (x:=x) t (by simpa using e)
  exact ⟨u,by simpa using h1,h2⟩
theorem Vals.set{x:V}{u:Value}(r:RelV x u):∀ {xs:List V} {us:List Value} (i:Nat),Vals xs us->Vals (xs.set i x) (us.set i u)
 | _,_,_, .nil=>.nil
 | _,_,0, .cons _ t=>.cons r t
 | _,_,i+1, .cons q t=>.cons q (Vals.set r i t)
theorem Vals.append:∀ {xs ys:List V} {us ws:List Value},Vals xs us->Vals ys ws->Vals (xs++ys) (us++ws)
 | _,_,_,_, .nil,s=>s
 | _,_,_,_, .cons r t,s=>.cons r (Vals.append t s)
theorem Vals.take:∀ {xs:List V} {us:List Value} (n:Nat),Vals xs us->Vals (xs.take n) (us.take n)
 | _,_,0,_=>.nil
 | _,_,_+1, .nil=>.nil
 | _,_,n+1, .cons r t=>.cons r (Vals.take n t)
theorem Vals.drop:∀ {xs:List V} {us:List Value} (n:Nat),Vals xs us->Vals (xs.drop n) (us.drop n)
 | _,_,0,r=>r
 | _,_,_+1, .nil=>.nil
 | _,_,n+1, .cons _ t=>Vals.drop n t
def RelO:Option V->Option Value->Prop
 | some v,some u=>RelV v u
 | none,none=>True
 | _,_=>False
def KV{κ:Type}:List (κ × V)->List (κ × Value)->Prop:=Paired λ(p:κ × V) (q:κ × Value)=>p.1=q.1/\RelV p.2 q.2
def kV:Key->V
 | .inl i=>.int i
 | .inr x=>.str x
inductive HO where
 | lst (xs:List V)
 | tup (xs:List V)
 | dK (kvs:List (Key × V)) | dT (kvs:List (List Key × V))
 | set (S:Int->Bool) (n:Nat)
 | ins (C dx:Addr) (fs:List (Str × V))
 | own (x:Addr)
 | xd (fs:List (Str × V))
 | met (f x:Addr)
 | rng (lo hi:Int)
 | frz (o:Obj) (u:HO)
 | tbl (ps:Array Value)
 | ext (φ:Heap->Prop)
abbrev Hp:=Addr->Option HO
def upd(H:Hp)(a:Addr)(o:HO):Hp:=λb=>if b=a then some o else H b
theorem nj{H:Hp}{a:Addr}{o:HO}:upd H a o a=some o:=by unfold upd;rw [if_pos rfl]
theorem j9{H:Hp}{a b:Addr}{o:HO}(h:b≠a):upd H a o b=H b:=by unfold upd;rw [if_neg h]
theorem gf{H:Hp}{a b:Addr}{o:HO}(h:H a=some o)(h':H b=none):a≠b:=by
 intro e;subst e;rw [h] at h';cases h'
section
variable(P:Program)(w:World)
def ObjOk(H:Hp)(h:Heap)(a:Addr):HO->Prop
 | .lst xs=>xs.length<=sizeLine/\∃ (its:List Value) (n:Nat),Vals xs its/\h.get? a=some { cls:=.type "list",data:=.seq its.toArray n }
 | .tup xs=>xs.length<=sizeLine/\∃ its:List Value,Vals xs its/\IsTup h a its.toArray
 | .dK kvs=>kvs.length<=sizeLine/\(a == sysModules)=false/\∃ vs,KV kvs vs/\h.DictOf (a3z P w) a vs
 | .dT kvs=>kvs.length<=sizeLine/\(a == sysModules)=false/\∃ xs:List (List Key × Addr × Value),
   Paired (λ(p:List Key × V) (q:List Key × Addr × Value)=>p.1=q.1/\H q.2.1=some (.tup (p.1.map kV))/\RelV p.2 q.2.2) kvs xs /\
   ∃ o es ep,h.get? a=some o/\o.ExactDict/\o.data = .dict es ep/\es.toList=xs.map (entryOfKey (tupleKind (a3z P w)))/\(xs.map (·.1)).Nodup
 | .set S n=>h.SetOf (intKind P w) a S n
 | .ins C dx fs=>H dx=some (.own a)/\fs.length<=1000/\dx≠a/\h.get? a=some (PySem.W.instObj C dx) /\
   ∃ mA,h.Ns1 dx mA/\(∀ f,RelO (fs.lookup f) (mA f))/\PySem.Within mA (fs.map (·.1))
 | .own _=>∃ o,h.get? a=some o
 | .xd fs=>∃ mA,h.Ns1 a mA/\∀ f,RelO (fs.lookup f) (mA f)
 | .rng lo hi=>∃ t u v,h.get? a=some { cls:=.type "range",data:=.fields #[.int lo t, .int hi u, .int 1 v] }
 | .frz o u=>h.get? a=some o/\ObjOk H h a u
 | .tbl ps=>h.get? a=some { cls:=.none,data:=.fields ps }
 | .met f x=>h.get? a=some (PySem.W.methodObj (.ref f) (.ref x))
 | .ext φ=>φ h/\(∃ o,h.get? a=some o)/\∀ h1 h2:Heap,φ h1->(∀ o,h1.get? a=some o->h2.get? a=some o)->φ h2
def HOk(H:Hp)(h:Heap):Prop:=∀ a o,H a=some o->ObjOk P w H h a o
end
section
variable{P:Program}{w:World}{H H':Hp}{h h':Heap}{a:Addr}{o:HO}
theorem ObjOk.lt(x:ObjOk P w H h a o):a<h.objs.size:=by
 cases o with
 | lst xs=>obtain ⟨_,_,_,_,e⟩:=x;exact Heap.lt_size e
 | tup xs=>obtain ⟨_,_,_,p⟩:=x;exact p.lt
 | dK kvs=>obtain ⟨_,_,_,_,o,_,_,e,_⟩:=x;exact Heap.lt_size e
 | dT kvs=>obtain ⟨_,_,_,_,o,_,_,e,_⟩:=x;exact Heap.lt_size e
 | set S n=>obtain ⟨o,_,_,_,e,_⟩:=x;exact Heap.lt_size e
 | ins C dx fs=>obtain ⟨_,_,_,e,_⟩:=x;exact Heap.lt_size e
 | own y=>obtain ⟨_,e⟩:=x;exact Heap.lt_size e
 | xd fs=>obtain ⟨_,⟨_,_,_,e,_⟩,_⟩:=x;exact Heap.lt_size e
 | rng lo hi=>obtain ⟨_,_,_,e⟩:=x;exact Heap.lt_size e
 | frz ob u=>obtain ⟨e,_⟩:=x;exact Heap.lt_size e
 | tbl ps=>exact Heap.lt_size (show h.get? a=some _ from x)
 | met f y=>exact Heap.lt_size (show h.get? a=some _ from x)
 | ext φ=>obtain ⟨_,⟨_,e⟩,_⟩:=x;exact Heap.lt_size e
theorem Paired.mapP{α β:Type}{F G:α->β->Prop}:∀ {l₁:List α} {l₂:List β},Paired F l₁ l₂->(∀ a b,F a b->G a b)->Paired G l₁ l₂
 | _,_, .nil,_=>.nil
 | _,_, .cons r t,f=>.cons (f _ _ r) (Paired.mapP t f)
theorem ObjOk.stay(x:ObjOk P w H h a o)(k:∀ b u,(b=a\/H b=some (.own a))->h.get? b=some u->h'.get? b=some u)
  (ho:∀ b,H b=some (.own a)->H' b=some (.own a)) (ht:∀ b xs,H b=some (.tup xs)->H' b=some (.tup xs)):ObjOk P w H' h' a o:=by
 induction o with
 | lst xs=>obtain ⟨z,its,n,r,e⟩:=x;exact ⟨z,its,n,r,k _ _ (.inl rfl) e⟩
 | tup xs=>obtain ⟨z,its,r,ob,e,c⟩:=x;exact ⟨z,its,r,ob,k _ _ (.inl rfl) e,c⟩
 | dK kvs=>obtain ⟨z,y,vs,r,ob,es,ep,e,c⟩:=x;exact ⟨z,y,vs,r,ob,es,ep,k _ _ (.inl rfl) e,c⟩
 | dT kvs =>
  obtain ⟨z,y,xs,r,ob,es,ep,e,c⟩:=x;exact ⟨z,y,xs,Paired.mapP r λp q z=>⟨z.1,ht _ _ z.2.1,z.2.2⟩,ob,es,ep,k _ _ (.inl rfl) e,c⟩
 | set S n=>obtain ⟨ob,es,ep,t,e,c⟩:=x;exact ⟨ob,es,ep,t,k _ _ (.inl rfl) e,c⟩
 | ins C dx fs =>
  obtain ⟨d,z,ne,e,mA,⟨od,es,ep,e2,c⟩,r⟩:=x;exact ⟨ho _ d,z,ne,k _ _ (.inl rfl) e,mA,⟨od,es,ep,k _ _ (.inr d) e2,c⟩,r⟩
 | own y=>obtain ⟨ob,e⟩:=x;exact ⟨ob,k _ _ (.inl rfl) e⟩
 | xd fs=>obtain ⟨mA,⟨od,es,ep,e,c⟩,r⟩:=x;exact ⟨mA,⟨od,es,ep,k _ _ (.inl rfl) e,c⟩,r⟩
 | rng lo hi=>obtain ⟨t,u,v,e⟩:=x;exact ⟨t,u,v,k _ _ (.inl rfl) e⟩
 | frz ob u ih=>obtain ⟨e,q⟩:=x;exact ⟨k _ _ (.inl rfl) e,ih q⟩
 | tbl ps =>
  have e:h.get? a=some { cls:=.none,data:=.fields ps }:=x;show h'.get? a=some { cls:=.none,data:=.fields ps };exact k a _ (.inl rfl) e
 | met f y =>
  have e:h.get? a=some (PySem.W.methodObj (.ref f) (.ref y)):=x;show h'.get? a=some (PySem.W.methodObj (.ref f) (.ref y));exact k a _ (.inl rfl) e
 | ext φ=>obtain ⟨p,⟨o,e⟩,st⟩:=x;exact ⟨st _ _ p λo q=>k _ _ (.inl rfl) q,⟨o,k _ _ (.inl rfl) e⟩,st⟩
theorem HOk.lt(x:HOk P w H h)(e:H a=some o):a<h.objs.size:=(x a o e).lt
theorem HOk.fresh(x:HOk P w H h)(e:h.objs.size<=a):H a=none:=by
 cases q:H a with
 | none=>rfl
 | some u=>exact absurd (Nat.lt_of_lt_of_le (x.lt q) e) (Nat.lt_irrefl _)
theorem HOk.kept(x:HOk P w H h)(k:∀ b u,h.get? b=some u->h'.get? b=some u):HOk P w H h':=λa o e =>
 (x a o e).stay (λb u _ q=>k b u q) (λ_ q=>q) λ_ _ q=>q
theorem HOk.laid(x:HOk P w H h)(k:∀ b u,h.get? b=some u->h'.get? b=some u)(hp:h.objs.size<=a)(new:ObjOk P w (upd H a o) h' a o):HOk P w (upd H a o) h':=λb u e=>by
 have hn:=x.fresh hp
 by_cases hb:b=a
 ·subst hb;rw [nj] at e;cases e;exact new
 ·rw [j9 hb] at e;exact (x b u e).stay (λc v _ q=>k c v q) (λc q=>by rw [j9 (gf q hn)];exact q) λc xs q=>by rw [j9 (gf q hn)];exact q
end
def Rd(H:Hp)(a:Addr)(u:HO):Prop:=H a=some u\/∃ o,H a=some (.frz o u)
theorem Rd.of{H:Hp}{a:Addr}{u:HO}(h:H a=some u):Rd H a u:=.inl h
theorem Rd.ok{P:Program}{w:World}{H:Hp}{h:Heap}{a:Addr}{u:HO}(r:Rd H a u)(x:HOk P w H h):ObjOk P w H h a u:=by
 rcases r with r | ⟨o,r⟩
 ·exact x a u r
 ·obtain ⟨_,q⟩:=x a _ r;exact q
def Mut:Option HO->Prop
 | some (.lst _)=>True
 | some (.dK _)=>True
 | some (.dT _)=>True
 | some (.set _ _)=>True
 | some (.ins _ _ _)=>True
 | some (.ext _)=>True
 | _=>False
section
variable{P:Program}{w:World}{H:Hp}{h h':Heap}{x e:Addr}{o':HO}
theorem HOk.write(ok:HOk P w H h)(mu:Mut (H x))(he:e=x\/H e=some (.own x))(k:∀ b u,b≠e->h.get? b=some u->h'.get? b=some u)(heo:∃ u,h'.get? e=some u)
  (new:ObjOk P w (upd H x o') h' x o'):HOk P w (upd H x o') h':=λb u q=>by
 have nown:∀ c y,H c=some (.own y)->c≠x:=λc y r z=>by subst z;rw [r] at mu;exact mu
 have ntup:∀ c xs,H c=some (.tup xs)->c≠x:=λc xs r z=>by subst z;rw [r] at mu;exact mu
 by_cases hb:b=x
 ·subst hb;rw [nj] at q;cases q;exact new
 ·rw [j9 hb] at q
  by_cases hbe:b=e
  ·have q':H b=some (.own x):=by
    rcases he with z | z
    ·exact absurd (hbe.trans z) hb
    ·rw [hbe];exact z
   rw [q] at q';cases q'
   obtain ⟨v,hv⟩:=heo;exact ⟨v,by rw [hbe];exact hv⟩
  ·refine (ok b u q).stay (λc v hc r=>k c v ?_ r) (λc r=>by rw [j9 (nown c b r)];exact r) λc xs r=>by rw [j9 (ntup c xs r)];exact r
   rcases hc with rfl | hc
   ·exact hbe
   ·rintro rfl
    rcases he with z | z
    ·exact nown c b hc z
    ·rw [hc] at z;cases z;exact hb rfl
end
structure Un (fs ex:List Addr) (H H':Hp) (h h':Heap):Prop where
 keep:∀ b o,h.get? b=some o->H b=none->b ∉ fs->b ∉ ex->h'.get? b=some o
 slot:∀ b o,h.get? b=some o->H b=none->b∈fs->b ∉ ex->∃ sl,h'.get? b=some { o with slots:=sl }
 free:∀ b o,h.get? b=some o->H b=none->b ∉ ex->H' b=none
 there:∀ b o,h.get? b=some o->b ∉ ex->∃ o',h'.get? b=some o'
 tups:∀ b xs,H b=some (.tup xs)->H' b=some (.tup xs)
 frzs:∀ b o u,H b=some (.frz o u)->H' b=some (.frz o u)
 tbls:∀ b ps,H b=some (.tbl ps)->∃ more,H' b=some (.tbl (ps++more))
section
variable{fs fs' ex ex':List Addr}{H H1 H2:Hp}{h h1 h2 h':Heap}{a x e:Addr}{o:HO}
theorem Un.any(u:Un fs ex H H1 h h1){b:Addr}{ob:Obj}(q:h.get? b=some ob)(n:H b=none)(hx:b ∉ ex):∃ sl,h1.get? b=some { ob with slots:=sl }:=by
 by_cases hb:b∈fs
 ·exact u.slot b ob q n hb hx
 ·exact ⟨ob.slots,u.keep b ob q n hb hx⟩
theorem Un.kept(k:∀ b u,h.get? b=some u->h'.get? b=some u):Un fs ex H H h h' :=
 ⟨λb ob q _ _ _=>k b ob q,λb ob q _ _ _=>⟨ob.slots,k b ob q⟩,λ_ _ _ n _=>n,λb ob q _=>⟨ob,k b ob q⟩,λ_ _ q=>q,λ_ _ _ q=>q,λ_ ps q=>⟨#[],by rw [q];simp⟩⟩
theorem Un.refl:Un fs ex H H h h:=Un.kept λ_ _ q=>q
theorem Un.laid(k:∀ b u,h.get? b=some u->h'.get? b=some u)(hp:h.objs.size<=a)(hn:H a=none):Un fs ex H (upd H a o) h h' where
 keep:=λb u q _ _ _=>k b u q
 slot:=λb u q _ _ _=>⟨u.slots,k b u q⟩
 free:=λb u q n _=>by rw [j9 (Nat.ne_of_lt (Nat.lt_of_lt_of_le (Heap.lt_size q) hp))];exact n
 there:=λb u q _=>⟨u,k b u q⟩
 tups:=λb xs q=>by rw [j9 (gf q hn)];exact q
 frzs:=λb u xs q=>by rw [j9 (gf q hn)];exact q
 tbls:=λb ps q=>⟨#[],by rw [j9 (gf q hn),q];simp⟩
theorem Un.write(mu:Mut (H x))(he:e=x\/H e=some (.own x))(k:∀ b u,b≠e->h.get? b=some u->h'.get? b=some u)(heo:∃ u,h'.get? e=some u):Un fs ex H (upd H x o) h h':=by
 have hx:∀ b,H b=none->b≠x:=λb n z=>by subst z;rw [n] at mu;exact mu
 have hb:∀ b,H b=none->b≠e:=λb n z=>by
  subst z
  rcases he with r | r
  ·exact hx b n r
  ·rw [n] at r;cases r
 have hm:∀ b u,H b=some u->¬ Mut (some u)->b≠x:=λb u q nm z=>by subst z;rw [q] at mu;exact nm mu
 refine ⟨λb u q n _ _=>k b u (hb b n) q,λb u q n _ _=>⟨u.slots,k b u (hb b n) q⟩,λb u q n _=>by rw [j9 (hx b n)];exact n,λb u q _=>?_,
  λb xs q=>by rw [j9 (hm b _ q λz=>z)];exact q,λb u xs q=>by rw [j9 (hm b _ q λz=>z)];exact q,λb ps q=>⟨#[],by rw [j9 (hm b _ q λz=>z),q];simp⟩⟩
 by_cases hbe:b=e
 ·subst hbe;exact heo
 ·exact ⟨u,k b u hbe q⟩
end
def trk(h:Heap)(H:Hp):List Addr:=(List.range h.objs.size).filter λa=>(H a).isSome
def ahq(h:Heap)(H:Hp):Heap:=PySem.W.hideAll h (trk h H)
theorem adz(h:Heap)(H:Hp):(ahq h H).objs.size=h.objs.size:=PySem.W.hideAll_size _ _
theorem ahr{h:Heap}{H:Hp}{b:Addr}{o:Obj}(e:h.get? b=some o)(n:H b=none):(ahq h H).get? b=some o :=
 PySem.W.hideAll_get _ e λhm=>by
  have q:(H b).isSome=true:=(List.mem_filter.mp hm).2;rw [n] at q;simp at q
theorem alh{h:Heap}{H:Hp}{b:Addr}{o:Obj}(e:(ahq h H).get? b=some o):h.get? b=some o/\H b=none:=by
 have e':h.get? b=some o:=PySem.W.of_hideAll (trk h H) e;refine ⟨e',?_⟩
 cases q:H b with
 | none=>rfl
 | some x =>
  have hm:b∈trk h H:=List.mem_filter.mpr ⟨List.mem_range.mpr (Heap.lt_size e'),by simp [q]⟩
  have z:(ahq h H).get? b=none:=PySem.W.hideAll_none (trk h H) hm;rw [z] at e;cases e
def ali(g h:Heap)(L:Addr):List (Addr × Obj):=(List.range h.objs.size).filterMap λa=>if a=L\/(g.get? a).isSome=true then none else (h.get? a).map λo=>(a,o)
def rest(g h:Heap)(L d:Addr):List (Addr × Obj):=(ali g h L).filter λp=>decide (p.1≠d)
structure Mod (K:PySem.W.Frag) (mg:Str->Option Value) (base:Heap):Prop where
 kin:K.In base
 glob:base.Ns mainGlobals mg
 blt:∃ mb,base.Ns builtinsNs mb/\∀ x:Str,x ≠ "__name__"->mb x=bootBuiltins x
 nolimit:base.NoLimit
structure Cx where
 prog:Program
 w:World
 K:PySem.W.Frag
 mg:Str->Option Value
 base:Heap
 A:Around
 N:List Str
 s₀:Shared
 H₀:Hp
 env:Env
 outer:List Env
 stack:List Env
 ex:List Addr
 fn:Str->Bool
 calm:Bool
 pn:List (Addr × Obj)
 xe:Value->Shared->Prop
def frs(l:List Env):List Addr:=l.filterMap (·.frame)
abbrev Cx.fs(X:Cx):List Addr:=frs X.outer
def Vis(sc:Scope)(x:Str):Prop:=sc.names.lookup x=some .local\/sc.names.lookup x=some .cell\/sc.names.lookup x=some .free
def Loc(sc:Scope)(x:Str):Prop:=sc.names.lookup x=some .local\/sc.names.lookup x=some .cell
def Look(env:Env)(h:Heap)(m:Str->Option Value)(x:Str)(u:Value):Prop :=
 (env.kindOf x=some .local/\m x=some u)\/((env.kindOf x=some .cell\/env.kindOf x=some .free)/\∃ c,env.cells.lookup x=some c/\h.IsCell c (some u))
structure Cx.Ok (X:Cx):Prop where
 mod:Mod X.K X.mg X.base
 kind:X.env.scope.kind = .function
 glob:X.env.globals=mainGlobals
 blt:X.env.builtins=builtinsNs
 above:X.s₀.heap.objs.size<=X.env.locals
 inj:∀ x y c,X.env.cells.lookup x=some c->X.env.cells.lookup y=some c->x=y
 has:∀ x,(X.env.kindOf x=some .cell\/X.env.kindOf x=some .free)->∃ c,X.env.cells.lookup x=some c
 cab:∀ x c,X.fn x=true->X.env.cells.lookup x=some c->X.s₀.heap.objs.size<=c
 hd:X.calm=true->X.A.handled=none
 frames:X.A.frames=some X.stack
 stk:X.stack=X.outer\/(X.stack=X.env::X.outer/\X.env.frame=some X.env.locals)
 exf:∀ b∈X.ex,b≠X.env.locals/\∀ x c,X.env.cells.lookup x=some c->c≠b
 bs:∀ b o,X.base.get? b=some o->X.s₀.heap.get? b=some o/\X.H₀ b=none
 bsz:X.base.objs.size<=X.s₀.heap.objs.size
 noex:∀ b o,X.base.get? b=some o->b ∉ X.ex
 exfs:∀ b∈X.ex,b ∉ X.fs
 funs:X.s₀.heap.FunFrames X.base X.outer
 frf:∀ b∈X.fs,X.H₀ b=none
structure Inv (X:Cx) (pins:List (Addr × Obj)) (σ:List (Option V)) (H:Hp) (s:Shared):Prop where
 ok:X.Ok
 os:s.os=X.s₀.os
 bare:AllBare s.gens
 base:Un X.fs X.ex X.H₀ H X.s₀.heap s.heap
 loc:∃ m,s.heap.Ns X.env.locals m/\∀ (i:Nat) (x:Str) (v:V),X.N[i]? = some x->σ[i]? = some (some v)->Vis X.env.scope x->∃ u,RelV v u/\Look X.env s.heap m x u
 cell:∀ x c,X.env.cells.lookup x=some c->∃ v,s.heap.IsCell c v
 free:H X.env.locals=none
 freeC:∀ x c,X.env.cells.lookup x=some c->H c=none
 pin:∀ p∈X.pn++pins,s.heap.get? p.1=some p.2/\H p.1=none/\p.1≠X.env.locals/\p.1 ∉ X.fs/\∀ v,p.2.data≠.cell v
 hok:HOk X.prog X.w H s.heap
 len:σ.length=X.N.length
section
variable{X:Cx}{pins:List (Addr × Obj)}{σ:List (Option V)}{H H':Hp}{s:Shared}{h':Heap}
theorem Cx.Ok.nofr(ok:X.Ok){b:Addr}{o:Obj}(e:X.base.get? b=some o):b ∉ X.fs:=λhb=>by
 have:=(ok.funs.mem hb).1
 rw [e] at this;cases this
theorem Inv.bs(I:Inv X pins σ H s):∀ b o,X.base.get? b=some o->s.heap.get? b=some o/\H b=none:=λb o e =>
 ⟨I.base.keep b o (I.ok.bs b o e).1 (I.ok.bs b o e).2 (I.ok.nofr e) (I.ok.noex b o e),I.base.free b o (I.ok.bs b o e).1 (I.ok.bs b o e).2 (I.ok.noex b o e)⟩
theorem Inv.bk(I:Inv X pins σ H s):∀ b o,X.base.get? b=some o->s.heap.get? b=some o:=λb o e=>(I.bs b o e).1
theorem Inv.mod(I:Inv X pins σ H s):Mod X.K X.mg X.base:=I.ok.mod
theorem Inv.kIn(I:Inv X pins σ H s):X.K.In s.heap:=I.ok.mod.kin.keeps I.bk
theorem Inv.fr(I:Inv X pins σ H s):∃ m,Fr X.base X.env.locals s.heap m :=
 let ⟨m,hn,_⟩:=I.loc
 ⟨m,hn,I.bk,Nat.le_trans I.ok.bsz I.ok.above⟩
theorem Inv.lt(I:Inv X pins σ H s):X.env.locals<s.heap.objs.size:=let ⟨_,hn,_⟩:=I.loc;hn.lt
theorem Inv.sz(I:Inv X pins σ H s):X.s₀.heap.objs.size<=s.heap.objs.size:=Nat.le_trans I.ok.above (Nat.le_of_lt I.lt)
theorem Inv.nofs(I:Inv X pins σ H s){a:Addr}(h:s.heap.objs.size<=a):a ∉ X.fs:=λhb=>by
 obtain ⟨_,o,ho,_⟩:=I.ok.funs.mem hb;exact absurd (Nat.lt_of_lt_of_le (Heap.lt_size ho) (Nat.le_trans I.sz h)) (Nat.lt_irrefl _)
theorem Inv.cne(I:Inv X pins σ H s):∀ x c,X.env.cells.lookup x=some c->c≠X.env.locals:=λx c e z=>by
 obtain ⟨v,o,ho,hd⟩:=I.cell x c e;obtain ⟨m,⟨o',es,ep,ho',hd',_⟩,_⟩:=I.loc;rw [z,ho'] at ho;cases ho;rw [hd'] at hd;cases hd
theorem Inv.funs(I:Inv X pins σ H s):s.heap.FunFrames X.base X.outer:=by
 have all:∀ (l:List Env),(∀ b∈frs l,b∈X.fs)->X.s₀.heap.FunFrames X.base l->s.heap.FunFrames X.base l:=by
  intro l
  induction l with
  | nil=>intro _ _;trivial
  | cons env r ih =>
   intro hs hl
   obtain ⟨hk,⟨L,o,hf,hn,ho,hd⟩,hr⟩:=hl;have hL:L∈X.fs:=hs L (by unfold frs;rw [List.filterMap_cons,hf];exact List.mem_cons_self)
   obtain ⟨sl,e⟩:=I.base.slot L o ho (I.ok.frf L hL) hL λz=>I.ok.exfs L z hL;exact ⟨hk,⟨L,_,hf,hn,e,hd⟩,ih (λb hb=>hs b (by unfold frs;rw [List.filterMap_cons,hf];exact List.mem_cons_of_mem _ hb)) hr⟩
 exact all X.outer (λ_ hb=>hb) I.ok.funs
theorem Inv.stack(I:Inv X pins σ H s):s.heap.FunFrames X.base X.stack:=by
 rcases I.ok.stk with e | ⟨e,hf⟩
 ·rw [e];exact I.funs
 ·rw [e];obtain ⟨m,hn,_⟩:=I.loc;refine .cons (by rw [I.ok.kind];decide) hf hn ?_ I.funs
  exact Heap.get?_none_of_le (Nat.le_trans I.ok.bsz I.ok.above)
theorem Inv.stkSub(I:Inv X pins σ H s):∀ b∈frs X.stack,b∈X.env.locals::X.fs:=λb hb=>by
 rcases I.ok.stk with e | ⟨e,hf⟩
 ·rw [e] at hb;exact List.mem_cons_of_mem _ hb
 ·rw [e] at hb;unfold frs at hb;rw [List.filterMap_cons,hf] at hb;exact hb
theorem Inv.stkFree(I:Inv X pins σ H s):∀ b∈frs X.stack,H b=none:=λb hb=>by
 rcases List.mem_cons.mp (I.stkSub b hb) with e | hb
 ·rw [e];exact I.free
 ·obtain ⟨_,o,ho,_⟩:=I.ok.funs.mem hb;exact I.base.free b o ho (I.ok.frf b hb) λz=>I.ok.exfs b z hb
theorem Inv.step{g':Array GenState}{t':Nat}{d':Drawn}{ch:List Addr}(I:Inv X pins σ H s)
  (hch:∀ b∈ch,(b∈X.ex\/X.s₀.heap.objs.size<=b)/\b≠X.env.locals/\(∀ x c,X.env.cells.lookup x=some c->c≠b)/\∀ p∈X.pn++pins,p.1≠b)
  (keep:∀ b o,b≠X.env.locals->b ∉ X.fs->b ∉ ch->s.heap.get? b=some o->H b=none->h'.get? b=some o)
  (slot:∀ b o,b≠X.env.locals->b∈X.fs->b ∉ ch->s.heap.get? b=some o->H b=none->∃ sl,h'.get? b=some { o with slots:=sl }) (free:∀ b o,b ∉ ch->s.heap.get? b=some o->H b=none->H' b=none)
  (there:∀ b o,b ∉ ch->s.heap.get? b=some o->∃ o',h'.get? b=some o')
  (tups:∀ b xs,H b=some (.tup xs)->H' b=some (.tup xs)) (frzs:∀ b o u,H b=some (.frz o u)->H' b=some (.frz o u)) (tbls:∀ b ps,H b=some (.tbl ps)->∃ more,H' b=some (.tbl (ps++more)))
  (ns:∀ m,s.heap.Ns X.env.locals m->h'.Ns X.env.locals m) (hok:HOk X.prog X.w H' h') (hg:AllBare g') :
  Inv X pins σ H' { s with heap:=h',gens:=g',drawn:=d',toks:=t' }:=by
 have neL:∀ b o,X.s₀.heap.get? b=some o->b≠X.env.locals:=λb o e=>Nat.ne_of_lt (Nat.lt_of_lt_of_le (Heap.lt_size e) I.ok.above);have neC:∀ b o,X.s₀.heap.get? b=some o->b ∉ X.ex->b ∉ ch:=λb o e hx hb=>by
  rcases (hch b hb).1 with z | z
  ·exact hx z
  ·exact absurd (Nat.lt_of_lt_of_le (Heap.lt_size e) z) (Nat.lt_irrefl _)
 have cellK:∀ x c,X.env.cells.lookup x=some c->∀ v,s.heap.IsCell c v->h'.IsCell c v:=λx c e v ⟨o,ho,hd⟩=>by
  have nch:c ∉ ch:=λz=>(hch c z).2.2.1 x c e rfl
  by_cases hc:c∈X.fs
  ·obtain ⟨sl,q⟩:=slot c o (I.cne x c e) hc nch ho (I.freeC x c e);exact ⟨_,q,hd⟩
  ·exact ⟨o,keep c o (I.cne x c e) hc nch ho (I.freeC x c e),hd⟩
 refine ⟨I.ok,I.os,hg,⟨λb o e n hb hx=>?_,λb o e n hb hx=>?_,λb o e n hx=>?_,λb o e hx=>?_,λb xs e=>tups b xs (I.base.tups b xs e),λb o xs e=>frzs b o xs (I.base.frzs b o xs e),λb ps e=>?_⟩,?_,λx c e=>?_,?_,λx c e=>?_,λp hp=>?_,hok,I.len⟩
 ·exact keep b o (neL b o e) hb (neC b o e hx) (I.base.keep b o e n hb hx) (I.base.free b o e n hx)
 ·obtain ⟨sl,e1⟩:=I.base.slot b o e n hb hx;obtain ⟨sl',e2⟩:=slot b _ (neL b o e) hb (neC b o e hx) e1 (I.base.free b o e n hx);exact ⟨sl',e2⟩
 ·obtain ⟨o',e1⟩:=I.base.there b o e hx;exact free b o' (neC b o e hx) e1 (I.base.free b o e n hx)
 ·obtain ⟨o',e1⟩:=I.base.there b o e hx;exact there b o' (neC b o e hx) e1
 ·obtain ⟨m1,e1⟩:=I.base.tbls b ps e;obtain ⟨m2,e2⟩:=tbls b _ e1;exact ⟨m1++m2,by rw [e2,Array.append_assoc]⟩
 ·obtain ⟨m,hn,hl⟩:=I.loc;refine ⟨m,ns m hn,λi x v e1 e2 e3=>?_⟩;obtain ⟨u,r,l⟩:=hl i x v e1 e2 e3;refine ⟨u,r,?_⟩
  rcases l with l | ⟨k,c,e,z⟩
  ·exact .inl l
  ·exact .inr ⟨k,c,e,cellK x c e _ z⟩
 ·obtain ⟨v,z⟩:=I.cell x c e;exact ⟨v,cellK x c e v z⟩
 ·obtain ⟨m,⟨o,_,_,ho,_⟩,_⟩:=I.loc;exact free _ o (λz=>(hch _ z).2.1 rfl) ho I.free
 ·obtain ⟨v,o,ho,hd⟩:=I.cell x c e;exact free c o (λz=>(hch c z).2.2.1 x c e rfl) ho (I.freeC x c e)
 ·obtain ⟨e,n,ne,nf,d⟩:=I.pin p hp;have nch:p.1 ∉ ch:=λz=>(hch p.1 z).2.2.2 p hp rfl;exact ⟨keep p.1 p.2 ne nf nch e n,free p.1 p.2 nch e n,ne,nf,d⟩
theorem Inv.un{t':Nat}(I:Inv X pins σ H s)(u:Un X.fs [] H H' s.heap h')(hok:HOk X.prog X.w H' h'):Inv X pins σ H' { s with heap:=h',toks:=t' }:=by
 obtain ⟨m,⟨o,es,ep,ho,r⟩,_⟩:=id I.loc;obtain ⟨sl,hL⟩:=u.any ho I.free (by simp)
 exact I.step (g':=s.gens) (d':=s.drawn) (ch:=[]) (λ_ z=>nomatch z) (λb o _ hb _ e n=>u.keep b o e n hb (by simp)) (λb o _ hb _ e n=>u.slot b o e n hb (by simp)) (λb o _ e n=>u.free b o e n (by simp)) (λb o _ e=>u.there b o e (by simp)) u.tups u.frzs u.tbls (λm' hm=>by
  obtain ⟨o',es',ep',ho',r'⟩:=hm;rw [ho] at ho';cases ho'
  exact ⟨_,es',ep',hL,r'⟩) hok I.bare
theorem Inv.call{g':Array GenState}{t':Nat}{d':Drawn}{ch:List Addr}(I:Inv X pins σ H s)(u:Un (frs X.stack) ch H H' s.heap h')(hok:HOk X.prog X.w H' h')(hg:AllBare g')
  (hch:∀ b∈ch,(b∈X.ex\/X.s₀.heap.objs.size<=b)/\b≠X.env.locals/\(∀ x c,X.env.cells.lookup x=some c->c≠b)/\∀ p∈X.pn++pins,p.1≠b) :
  Inv X pins σ H' { s with heap:=h',gens:=g',drawn:=d',toks:=t' }:=by
 obtain ⟨m,⟨o,es,ep,ho,r⟩,_⟩:=id I.loc;obtain ⟨sl,hL⟩:=u.any ho I.free λz=>(hch _ z).2.1 rfl;exact I.step (ch:=ch) hch (λb o hL hb hc e n=>u.keep b o e n (λz=>(List.mem_cons.mp (I.stkSub b z)).elim hL hb) hc) (λb o _ _ hc e n=>u.any e n hc) (λb o hc e n=>u.free b o e n hc) (λb o hc e=>u.there b o e hc) u.tups u.frzs u.tbls (λm' hm=>by
  obtain ⟨o',es',ep',ho',r'⟩:=hm;rw [ho] at ho';cases ho'
  exact ⟨_,es',ep',hL,r'⟩) hok hg
theorem Inv.turned{t':Nat}{it:Addr}(I:Inv X pins σ H s)(k:∀ b o,b≠it->s.heap.get? b=some o->h'.get? b=some o)(hn:H it=none)(hL:it≠X.env.locals)
  (h1:it∈X.ex\/X.s₀.heap.objs.size<=it) (h2:∀ x c,X.env.cells.lookup x=some c->c≠it) (h3:∀ p∈X.pn++pins,p.1≠it):Inv X pins σ H { s with heap:=h',toks:=t' }:=by
 have nit:∀ b u,H b=some u->b≠it:=λb u e z=>by rw [z,hn] at e;cases e
 refine I.step (g':=s.gens) (d':=s.drawn) (ch:=[it]) (λb hb=>?_) (λb o _ _ hc e _=>k b o (λz=>hc (by simp [z])) e) (λb o _ _ hc e _=>⟨o.slots,k b o (λz=>hc (by simp [z])) e⟩) (λ_ _ _ _ n=>n)
  (λb o hc e=>⟨o,k b o (λz=>hc (by simp [z])) e⟩) (λ_ _ e=>e) (λ_ _ _ e=>e) (λb ps e=>⟨#[],by rw [e];simp⟩) (λm hm=>?_) (λb u e=>?_) I.bare
 ·have e:b=it:=by simpa using hb
  subst e;exact ⟨h1,hL,h2,h3⟩
 ·obtain ⟨o,es,ep,ho,r⟩:=hm;exact ⟨o,es,ep,k _ o (Ne.symm hL) ho,r⟩
 ·refine (I.hok b u e).stay (λc v hc q=>k c v ?_ q) (λ_ q=>q) λ_ _ q=>q
  rcases hc with z | z
  ·rw [z];exact nit b u e
  ·exact nit c _ z
theorem Inv.tok(I:Inv X pins σ H s)(t:Nat):Inv X pins σ H { s with toks:=t }:=I.un (h':=s.heap) (t':=t) Un.refl I.hok
theorem Inv.kept{t':Nat}(I:Inv X pins σ H s)(k:∀ b u,s.heap.get? b=some u->h'.get? b=some u):Inv X pins σ H { s with heap:=h',toks:=t' }:=I.un (Un.kept k) (I.hok.kept k)
theorem Inv.laid{a:Addr}{o:HO}{t':Nat}(I:Inv X pins σ H s)(k:∀ b u,s.heap.get? b=some u->h'.get? b=some u)(hp:s.heap.objs.size<=a)(new:ObjOk X.prog X.w (upd H a o) h' a o) :
  Inv X pins σ (upd H a o) { s with heap:=h',toks:=t' }:=I.un (Un.laid k hp (I.hok.fresh hp)) (I.hok.laid k hp new)
theorem Inv.write{x e:Addr}{o:HO}{t':Nat}(I:Inv X pins σ H s)(mu:Mut (H x))(he:e=x\/H e=some (.own x))(k:∀ b u,b≠e->s.heap.get? b=some u->h'.get? b=some u)(heo:∃ u,h'.get? e=some u)
  (new:ObjOk X.prog X.w (upd H x o) h' x o):Inv X pins σ (upd H x o) { s with heap:=h',toks:=t' }:=I.un (Un.write mu he k heo) (I.hok.write mu he k heo new)
theorem Inv.weak{σ':List (Option V)}(I:Inv X pins σ H s)(hl:σ'.length=σ.length)(w:∀ (i:Nat) v,σ'[i]? = some (some v)->σ[i]? = some (some v)):Inv X pins σ' H s :=
 ⟨I.ok,I.os,I.bare,I.base,let ⟨m,hn,hl'⟩:=I.loc; ⟨m,hn,λi x v e1 e2 e3=>hl' i x v e1 (w i v e2) e3⟩,I.cell,I.free,I.freeC,I.pin,I.hok,hl.trans I.len⟩
theorem Inv.pins_of{pins':List (Addr × Obj)}(I:Inv X pins σ H s)(h:∀ p∈pins',s.heap.get? p.1=some p.2/\H p.1=none/\p.1≠X.env.locals/\p.1 ∉ X.fs/\∀ v,p.2.data≠.cell v):Inv X pins' σ H s :=
 ⟨I.ok,I.os,I.bare,I.base,I.loc,I.cell,I.free,I.freeC,λp hp=>(List.mem_append.mp hp).elim (λz=>I.pin p (List.mem_append_left _ z)) (h p),I.hok,I.len⟩
theorem aao{N:List Str}(hN:N.Nodup){i j:Nat}{x:Str}(a:N[i]? = some x)(b:N[j]? = some x):i=j:=by
 obtain ⟨h1,e1⟩:=List.getElem?_eq_some_iff.mp a;obtain ⟨h2,e2⟩:=List.getElem?_eq_some_iff.mp b;exact (List.getElem_inj hN).mp (e1.trans e2.symm)
theorem a8a{M:Model}{A:Around}{E:Value->Shared->Prop}{i:Nat}{x:Str}{v:V}{u:Value}{Q:Unit->Shared->Prop}(I:Inv X pins σ H s)(hN:X.N.Nodup)(hi:X.N[i]? = some x)(hx:Loc X.env.scope x)(r:RelV v u)
  (h:∀ s',Inv X pins (σ.set i (some v)) H s'->(∃ a,Heap.SameBut a s.heap s'.heap/\(a=X.env.locals\/X.env.cells.lookup x=some a))->Q () s') (hf:X.fn x=true\/X.env.scope.names.lookup x=some .local:=by first | exact .inl rfl | exact .inr rfl | assumption):wpAny M A (storeName X.env x u) Q E s:=by
 obtain ⟨m,hn,hl⟩:=id I.loc;have hcls:(X.env.scope.kind == .class || (X.env.scope.kind == .module && X.env.locals != X.env.globals))=false:=by rw [I.ok.kind];rfl
 have hiσ:i<σ.length:=by rw [I.len];exact (List.getElem?_eq_some_iff.mp hi).1
 have cne:=I.cne;have tracked:∀ {a:Addr} {h':Heap},(∃ o,s.heap.get? a=some o/\H a=none)->Heap.SameBut a s.heap h'->HOk X.prog X.w H h':=λ{a h'} ha hs b ob e=>by
  obtain ⟨_,_,hfree⟩:=ha;refine (I.hok b ob e).stay (λc w' hc q=>(hs.2 c ?_).trans q) (λ_ q=>q) λ_ _ q=>q
  rintro rfl
  rcases hc with rfl | hc
  ·rw [hfree] at e;cases e
  ·rw [hfree] at hc;cases hc
 rcases hx with hk | hk
 ·refine wpAny_storeName_local hk hn (λh' hn' hs=>?_) hcls;obtain ⟨oL,_,_,hoL,_⟩:=id hn;refine h _ ⟨I.ok,I.os,I.bare,⟨λb o e n hb hx=>?_,λb o e n hb hx=>?_,I.base.free,λb o e hx=>?_,I.base.tups,I.base.frzs,I.base.tbls⟩,⟨_,hn',λj y v' e1 e2 e3=>?_⟩,λy c e=>?_,I.free,I.freeC,λp hp=>?_,tracked ⟨oL,hoL,I.free⟩ hs,by simpa using I.len⟩ ⟨_,hs, .inl rfl⟩
  ·exact (hs.2 b (Nat.ne_of_lt (Nat.lt_of_lt_of_le (Heap.lt_size e) I.ok.above))).trans (I.base.keep b o e n hb hx)
  ·obtain ⟨sl,e1⟩:=I.base.slot b o e n hb hx;exact ⟨sl,(hs.2 b (Nat.ne_of_lt (Nat.lt_of_lt_of_le (Heap.lt_size e) I.ok.above))).trans e1⟩
  ·obtain ⟨o',e1⟩:=I.base.there b o e hx;exact ⟨o',(hs.2 b (Nat.ne_of_lt (Nat.lt_of_lt_of_le (Heap.lt_size e) I.ok.above))).trans e1⟩
  ·by_cases hj:j=i
   ·subst hj;rw [hi] at e1;cases e1
    rw [List.getElem?_set_self hiσ] at e2;cases e2
    exact ⟨u,r, .inl ⟨hk,by simp⟩⟩
   ·rw [List.getElem?_set_ne (Ne.symm hj)] at e2;obtain ⟨u',r',q⟩:=hl j y v' e1 e2 e3;refine ⟨u',r',?_⟩
    rcases q with ⟨k,e⟩ | ⟨k,c,e,z⟩
    ·refine .inl ⟨k,?_⟩;have:y≠x:=λe=>hj (aao hN e1 (e ▸ hi));simp [this,e]
    ·exact .inr ⟨k,c,e,z.sameBut hs (cne y c e)⟩
  ·obtain ⟨w',z⟩:=I.cell y c e;exact ⟨w',z.sameBut hs (cne y c e)⟩
  ·obtain ⟨e,n,ne,nf,d⟩:=I.pin p hp;exact ⟨(hs.2 p.1 ne).trans e,n,ne,nf,d⟩
 ·have hfn:X.fn x=true:=by
   rcases hf with z | z
   ·exact z
   ·rw [z] at hk;cases hk
  obtain ⟨c,hc⟩:=I.ok.has x (.inl hk);obtain ⟨w',z⟩:=I.cell x c hc;refine wpAny_storeName_cell I.ok.kind hk hc z (λh' hc' hs=>?_);obtain ⟨oc,hoc,hocd⟩:=id z;refine h { s with heap:=h' } ⟨I.ok,I.os,I.bare,⟨λb o e n hb hx=>?_,λb o e n hb hx=>?_,I.base.free,λb o e hx=>?_,I.base.tups,I.base.frzs,I.base.tbls⟩,⟨m,hn.sameBut hs (Ne.symm (cne x c hc)),λj y v' e1 e2 e3=>?_⟩,λy c' e=>?_,I.free,I.freeC,λp hp=>?_,tracked ⟨oc,hoc,I.freeC x c hc⟩ hs,by simpa using I.len⟩ ⟨c,hs, .inr hc⟩
  ·exact (hs.2 b (Nat.ne_of_lt (Nat.lt_of_lt_of_le (Heap.lt_size e) (I.ok.cab x c hfn hc)))).trans (I.base.keep b o e n hb hx)
  ·obtain ⟨sl,e1⟩:=I.base.slot b o e n hb hx;exact ⟨sl,(hs.2 b (Nat.ne_of_lt (Nat.lt_of_lt_of_le (Heap.lt_size e) (I.ok.cab x c hfn hc)))).trans e1⟩
  ·obtain ⟨o',e1⟩:=I.base.there b o e hx;exact ⟨o',(hs.2 b (Nat.ne_of_lt (Nat.lt_of_lt_of_le (Heap.lt_size e) (I.ok.cab x c hfn hc)))).trans e1⟩
  ·by_cases hj:j=i
   ·subst hj;rw [hi] at e1;cases e1
    rw [List.getElem?_set_self hiσ] at e2;cases e2
    exact ⟨u,r, .inr ⟨.inl hk,c,hc,hc'⟩⟩
   ·rw [List.getElem?_set_ne (Ne.symm hj)] at e2;obtain ⟨u',r',q⟩:=hl j y v' e1 e2 e3;refine ⟨u',r',?_⟩
    rcases q with q | ⟨k,c',e,z'⟩
    ·exact .inl q
    ·refine .inr ⟨k,c',e,z'.sameBut hs ?_⟩
     rintro rfl
     exact hj (aao hN e1 (I.ok.inj _ _ _ e hc ▸ hi))
  ·by_cases hcc:c'=c
   ·subst hcc;exact ⟨_,hc'⟩
   ·obtain ⟨w2,z2⟩:=I.cell y c' e;exact ⟨w2,z2.sameBut hs hcc⟩
  ·obtain ⟨e,n,ne,nf,d⟩:=I.pin p hp;refine ⟨(hs.2 p.1 ?_).trans e,n,ne,nf,d⟩
   intro q
   rw [q,hoc] at e;have q':oc=p.2:=Option.some.inj e;exact d w' (by rw [<-q'];exact hocd)
theorem aap{M:Model}{A:Around}{E:Value->Shared->Prop}{i:Nat}{x:Str}{v:V}{u:Value}{Q:Unit->Shared->Prop}(I:Inv X pins σ H s)(hN:X.N.Nodup)(hi:X.N[i]? = some x)(hx:Loc X.env.scope x)(r:RelV v u)
  (h:∀ s',Inv X pins (σ.set i (some v)) H s'->Q () s') (hf:X.fn x=true\/X.env.scope.names.lookup x=some .local:=by first | exact .inl rfl | exact .inr rfl | assumption):wpAny M A (storeName X.env x u) Q E s :=
 a8a I hN hi hx r (λs' I' _=>h s' I') hf
end
abbrev XK:=Value->Option Addr->Hp->Prop
abbrev St:=List (Option V)
abbrev VK:=V->Hp->Prop
abbrev TE:=St->Hp->VK->Prop
abbrev TT:=St->Hp->(Bool->Hp->Prop)->Prop
abbrev TA:=St->Hp->(List V->Hp->Prop)->Prop
structure Ends where
 nx:St->Hp->Prop
 rt:VK
 bk:St->Hp->Prop:=λ_ _=>False
 ct:St->Hp->Prop:=λ_ _=>False
abbrev TS:=Ends->St->Hp->Prop
def EP(X:Cx)(pins:List (Addr × Obj))(σ:St)(Q:VK)(u:Value)(s':Shared):Prop:=∃ v H',Inv X pins σ H' s'/\RelV v u/\Q v H'
def TP(X:Cx)(pins:List (Addr × Obj))(σ:St)(Q:Bool->Hp->Prop)(b:Bool)(s':Shared):Prop:=∃ H',Inv X pins σ H' s'/\Q b H'
def AP(X:Cx)(pins:List (Addr × Obj))(σ:St)(Q:List V->Hp->Prop)(us:List Value)(s':Shared):Prop:=∃ vs H',Inv X pins σ H' s'/\Vals vs us/\Q vs H'
def SP(X:Cx)(pins:List (Addr × Obj))(D:Ends)(f:Flow)(s':Shared):Prop :=
 match f with
 | .next=>∃ σ' H',Inv X pins σ' H' s'/\D.nx σ' H'
 | .brk=>∃ σ' H',Inv X pins σ' H' s'/\D.bk σ' H'
 | .cont=>∃ σ' H',Inv X pins σ' H' s'/\D.ct σ' H'
 | .ret u=>∃ v σ' H',Inv X pins σ' H' s'/\RelV v u/\D.rt v H'
def PE(X:Cx)(e:Expr)(t:TE):Prop :=
 ∀ (pins:List (Addr × Obj)) (s:Shared) (σ:St) (H:Hp) (Q:VK),Inv X pins σ H s->t σ H Q->wpAny (model X.prog X.w) X.A (eval e X.env) (EP X pins σ Q) X.xe s
def PT(X:Cx)(e:Expr)(t:TT):Prop :=
 ∀ (pins:List (Addr × Obj)) (s:Shared) (σ:St) (H:Hp) (Q:Bool->Hp->Prop),Inv X pins σ H s->t σ H Q->wpAny (model X.prog X.w) X.A (isTrue e X.env (eval e X.env)) (TP X pins σ Q) X.xe s
def PW(X:Cx)(e:Expr)(t:TT):Prop :=
 ∀ (whole:Sem Value) (pins:List (Addr × Obj)) (s:Shared) (σ:St) (H:Hp) (Q:Bool->Hp->Prop),Inv X pins σ H s->t σ H Q->wpAny (model X.prog X.w) X.A (isTrue e X.env whole) (TP X pins σ Q) X.xe s
theorem PW.pt{X:Cx}{e:Expr}{t:TT}(h:PW X e t):PT X e t:=h _
def PA(X:Cx)(es:List Expr)(t:TA):Prop :=
 ∀ (pos:Pos) (pins:List (Addr × Obj)) (s:Shared) (σ:St) (H:Hp) (Q:List V->Hp->Prop),Inv X pins σ H s->t σ H Q->wpAny (model X.prog X.w) X.A (spliced (backTo pos (starEach es X.env))) (AP X pins σ Q) X.xe s
def PS(X:Cx)(st:Stmt)(t:TS):Prop :=
 ∀ (pins:List (Addr × Obj)) (s:Shared) (σ:St) (H:Hp) (D:Ends),Inv X pins σ H s->t D σ H->wpAny (model X.prog X.w) X.A (exec st X.env) (SP X pins D) X.xe s
def PSs(X:Cx)(st:List Stmt)(t:TS):Prop :=
 ∀ (pins:List (Addr × Obj)) (s:Shared) (σ:St) (H:Hp) (D:Ends),Inv X pins σ H s->t D σ H->wpAny (model X.prog X.w) X.A (execs st X.env) (SP X pins D) X.xe s
theorem thn{α:Type}{t:Sem α}{Q Q':α->Shared->Prop}{M:Model}{A:Around}{E:Value->Shared->Prop}{s:Shared}(h:wpAny M A t Q E s)(hQ:∀ a s,Q a s->Q' a s):wpAny M A t Q' E s:=wpAny_mono h hQ λ_ _ x=>x
section
variable{X:Cx}
def awj(i:Nat):TE:=λσ H Q=>∃ v,σ[i]? = some (some v)/\Q v H
def tC(v:V):TE:=λ_ H Q=>Q v H
theorem aow{i:Nat}{x:Str}{pos:Pos}(hN:X.N[i]? = some x)(hv:Vis X.env.scope x)(hd:(x == ("__debug__" : Str))=false:=by decide)(hcd:(x == ("__classdict__" : Str))=false:=by decide):PE X (.Name x pos) (awj i):=by
 intro pins s σ H Q I h
 obtain ⟨v,e,h⟩:=h;obtain ⟨m,hn,hl⟩:=I.loc;obtain ⟨u,r,l⟩:=hl i x v hN e hv;have fin:EP X pins σ Q u s:=⟨v,H,I,r,h⟩
 rcases l with ⟨hk,hm⟩ | ⟨hk,c,hc,hcell⟩
 ·exact wpAny_Name (wpAny_loadName_local I.ok.kind hk hn hm fin) hd
 ·rcases hk with hk | hk
  ·exact wpAny_Name (wpAny_loadName_cell I.ok.kind hk hc hcell fin) hd
  ·exact wpAny_Name (wpAny_loadName_free I.ok.kind hk hc hcell fin hcd) hd
theorem aox{i j pos}:PE X (.Constant (.int i) j pos) (tC (.int i)):=λ_ _ _ H _ I h=>wpAny_Constant_int ⟨.int i,H,I.tok _,⟨_,rfl⟩,h⟩
theorem atu{b j pos}:PE X (.Constant (.bool b) j pos) (tC (.bl b)):=λ_ _ _ H _ I h=>Constant_bool ⟨.bl b,H,I,rfl,h⟩
theorem aoy{x j pos}:PE X (.Constant (.str x) j pos) (tC (.str x)):=λ_ _ _ H _ I h=>Calls.Constant_str ⟨.str x,H,I.tok _,⟨_,rfl⟩,h⟩
def Gl(X:Cx)(x:Str):Prop:=X.env.kindOf x=some .globalImplicit
theorem ae0{E:Value->Shared->Prop}{pins:List (Addr × Obj)}{s:Shared}{σ:St}{H:Hp}{x:Str}{u:Value}{pos:Pos}{Q:Value->Shared->Prop}(I:Inv X pins σ H s)(hg:Gl X x)(hm:X.mg x=some u)(h:Q u s)
  (hd:(x == ("__debug__" : Str))=false:=by decide):wpAny (model X.prog X.w) X.A (eval (.Name x pos) X.env) Q E s :=
 Calls.Name_function_global I.ok.kind hg (Calls.loadGlobal_global (by rw [I.ok.glob];exact I.mod.glob.keeps I.bk) hm h) hd
theorem a4a{E:Value->Shared->Prop}{pins:List (Addr × Obj)}{s:Shared}{σ:St}{H:Hp}{x:Str}{u:Value}{pos:Pos}{Q:Value->Shared->Prop}(I:Inv X pins σ H s)(hg:Gl X x)(hm:X.mg x=none)(hv:bootBuiltins x=some u)(h:Q u s)
  (hn:x ≠ "__name__":=by decide) (hd:(x == ("__debug__" : Str))=false:=by decide):wpAny (model X.prog X.w) X.A (eval (.Name x pos) X.env) Q E s:=by
 obtain ⟨mb,h1,h2⟩:=I.mod.blt;exact Calls.Name_function_global I.ok.kind hg (Calls.loadGlobal_builtin (by rw [I.ok.glob];exact I.mod.glob.keeps I.bk) hm (by rw [I.ok.blt];exact h1.keeps I.bk) ((h2 x hn).trans hv) h) hd
theorem alj{x:Str}{v:V}{u:Value}{pos:Pos}(hg:Gl X x)(hm:X.mg x=none)(hv:bootBuiltins x=some u)(r:RelV v u)(hn:x ≠ "__name__":=by decide)(hd:(x == ("__debug__" : Str))=false:=by decide):PE X (.Name x pos) (tC v) :=
 λ_ _ _ H _ I h=>a4a I hg hm hv ⟨v,H,I,r,h⟩ hn hd
variable{a b:Expr}{ta tb:TE}{pos:Pos}
variable{tA tB':TT}{rest:List Expr}
def awk(t u:TT):TT:=λσ H Q=>t σ H λc H1=>if c=true then u σ H1 Q else Q false H1
def tOr(t u:TT):TT:=λσ H Q=>t σ H λc H1=>if c=true then Q true H1 else u σ H1 Q
def awl(t:TT):TT:=λσ H Q=>t σ H λc H1=>Q (!c) H1
theorem alk(ha:PT X a tA):PW X (.BoolOp .And [a] pos) tA:=by
 intro wh pins s σ H Q I h
 refine isTrue_and (thn (ha pins s σ H Q I h) λc s1 e=>?_)
 cases c with
 | true=>exact isTrue_and_nil e
 | false=>exact e
theorem aoz(ha:PT X a tA):PW X (.BoolOp .Or [a] pos) tA:=by
 intro wh pins s σ H Q I h
 refine isTrue_or (thn (ha pins s σ H Q I h) λc s1 e=>?_)
 cases c with
 | false=>exact isTrue_or_nil e
 | true=>exact e
theorem ap0(ha:PT X a tA)(hb:PW X (.BoolOp .And (b::rest) pos) tB'):PW X (.BoolOp .And (a::b::rest) pos) (awk tA tB'):=by
 intro wh pins s σ H Q I h
 refine isTrue_and (thn (ha pins s σ H _ I h) λc s1 ⟨H1,I1,q1⟩=>?_)
 cases c with
 | true=>exact hb wh pins s1 σ H1 Q I1 q1
 | false=>exact ⟨H1,I1,q1⟩
theorem atv(ha:PT X a tA)(hb:PW X (.BoolOp .Or (b::rest) pos) tB'):PW X (.BoolOp .Or (a::b::rest) pos) (tOr tA tB'):=by
 intro wh pins s σ H Q I h
 refine isTrue_or (thn (ha pins s σ H _ I h) λc s1 ⟨H1,I1,q1⟩=>?_)
 cases c with
 | true=>exact ⟨H1,I1,q1⟩
 | false=>exact hb wh pins s1 σ H1 Q I1 q1
theorem ap1(ha:PT X a tA):PT X (.UnaryOp .Not a pos) (awl tA):=by
 intro pins s σ H Q I h
 exact isTrue_not (ha pins s σ H (λc H1=>Q (!c) H1) I h)
def atw(ta tb:TE):TE:=λσ H Q=>ta σ H λx H1=>∃ c,x = .bl c/\if c=true then tb σ H1 Q else Q (.bl false) H1
def awm(ta tb:TE):TE:=λσ H Q=>ta σ H λx H1=>∃ c,x = .bl c/\if c=true then Q (.bl true) H1 else tb σ H1 Q
theorem ap2{op}{t:TE}(h:PE X a t):PE X (.BoolOp op [a] pos) t:=λpins s σ H Q I hw=>BoolOp_one (h pins s σ H Q I hw)
theorem ap3(ha:PE X a ta)(hb:PE X (.BoolOp .And (b::rest) pos) tb):PE X (.BoolOp .And (a::b::rest) pos) (atw ta tb):=by
 intro pins s σ H Q I h
 refine BoolOp_and (thn (ha pins s σ H _ I h) λv s1 ⟨x,H1,I1,r1,q1⟩=>?_);obtain ⟨c,rfl,q1⟩:=q1;cases r1
 refine wpAny_truthy_bool ?_
 cases c with
 | true=>exact hb pins s1 σ H1 Q I1 q1
 | false=>exact ⟨.bl false,H1,I1,rfl,q1⟩
theorem atx(ha:PE X a ta)(hb:PE X (.BoolOp .Or (b::rest) pos) tb):PE X (.BoolOp .Or (a::b::rest) pos) (awm ta tb):=by
 intro pins s σ H Q I h
 refine BoolOp_or (thn (ha pins s σ H _ I h) λv s1 ⟨x,H1,I1,r1,q1⟩=>?_);obtain ⟨c,rfl,q1⟩:=q1;cases r1
 refine wpAny_truthy_bool ?_
 cases c with
 | false=>exact hb pins s1 σ H1 Q I1 q1
 | true=>exact ⟨.bl true,H1,I1,rfl,q1⟩
def tIf(t:TT)(ta tb:TE):TE:=λσ H Q=>t σ H λc H1=>if c=true then ta σ H1 Q else tb σ H1 Q
theorem ahs{c:Expr}(hc:PT X c tA)(ha:PE X a ta)(hb:PE X b tb):PE X (.IfExp c a b pos) (tIf tA ta tb):=by
 intro pins s σ H Q I h
 refine wpAny_IfExp (thn (hc pins s σ H _ I h) λd s1 ⟨H1,I1,q1⟩=>?_)
 cases d with
 | true=>exact ha pins s1 σ H1 Q I1 q1
 | false=>exact hb pins s1 σ H1 Q I1 q1
end
def SqL(K:PySem.W.Frag)(H:Hp)(a:Addr)(xs:List V):Prop :=
 Rd H a (.lst xs) \/
  ∃ (o:Obj) (its:Array Value) (n:Nat),K.lookup a=some o/\o.cls = .type "list"/\o.dict=none/\o.data = .seq its n/\its.size<=sizeLine/\Vals xs its.toList
def SqT(K:PySem.W.Frag)(H:Hp)(a:Addr)(xs:List V):Prop :=
 Rd H a (.tup xs) \/
  ∃ (o:Obj) (its:Array Value) (n:Nat),K.lookup a=some o/\o.cls = .type "tuple"/\o.data = .seq its n/\its.size<=sizeLine/\Vals xs its.toList
def awn:Value->Option V
 | .none=>some .non
 | .bool b=>some (.bl b)
 | .int i _=>some (.int i)
 | .str x _=>some (.str x)
 | .bytes b _=>some (.byt b)
 | .float b _=>some (.flt b)
 | .ref a=>some (.ref a)
 | .type n=>some (.ty n)
 | _=>none
theorem RelV.abs{x:V}{u:Value}(r:RelV x u):awn u=some x:=by
 cases x with
 | non=>cases r;rfl
 | bl _=>cases r;rfl
 | int _=>obtain ⟨t,rfl⟩:=r;rfl
 | str _=>obtain ⟨t,rfl⟩:=r;rfl
 | byt _=>obtain ⟨t,rfl⟩:=r;rfl
 | flt _=>obtain ⟨t,rfl⟩:=r;rfl
 | ref _=>cases r;rfl
 | ty _=>cases r;rfl
theorem RelV.inj{x y:V}{u:Value}(r:RelV x u)(q:RelV y u):x=y:=Option.some.inj (r.abs.symm.trans q.abs)
theorem Vals.inj:∀ {xs ys:List V} {us:List Value},Vals xs us->Vals ys us->xs=ys
 | _,_,_, .nil, .nil=>rfl
 | _,_,_, .cons r t, .cons r' t'=>by rw [r.inj r',Vals.inj t t']
section
variable{X:Cx}{pins:List (Addr × Obj)}{σ:St}{H:Hp}{s:Shared}{a:Addr}{xs ys:List V}
theorem SqL.of{K:PySem.W.Frag}(h:H a=some (.lst xs)):SqL K H a xs:=.inl (.inl h)
theorem SqT.of{K:PySem.W.Frag}(h:H a=some (.tup xs)):SqT K H a xs:=.inl (.inl h)
theorem Inv.list(I:Inv X pins σ H s)(h:SqL X.K H a xs):∃ its:List Value,Vals xs its/\PlainL s.heap a its.toArray/\xs.length<=sizeLine:=by
 rcases h with h | ⟨o,its,n,hk,hc,hd,hs,hz,r⟩
 ·obtain ⟨z,its,n,r,e⟩:=h.ok I.hok;exact ⟨its,r,⟨_,n,e,rfl,rfl,rfl⟩,z⟩
 ·refine ⟨its.toList,r,⟨o,n,I.kIn a o hk,hc,hd,by simpa using hs⟩,?_⟩
  have e:=r.length;simp only [Array.length_toList] at e;omega
theorem Inv.tuple(I:Inv X pins σ H s)(h:SqT X.K H a xs):∃ its:List Value,Vals xs its/\IsTup s.heap a its.toArray/\xs.length<=sizeLine:=by
 rcases h with h | ⟨o,its,n,hk,hc,hs,hz,r⟩
 ·obtain ⟨z,its,r,p⟩:=h.ok I.hok;exact ⟨its,r,p,z⟩
 ·refine ⟨its.toList,r,⟨o,I.kIn a o hk,hc,n,by simpa using hs⟩,?_⟩
  have e:=r.length;simp only [Array.length_toList] at e;omega
theorem Inv.list_inj(I:Inv X pins σ H s)(h:SqL X.K H a xs)(h':SqL X.K H a ys):xs=ys:=by
 obtain ⟨its,r,⟨o,n,e,_,_,d⟩,_⟩:=I.list h;obtain ⟨its',r',⟨o',n',e',_,_,d'⟩,_⟩:=I.list h';rw [e] at e';cases e'
 rw [d] at d'
 injection d' with d1 _
 have:its=its':=by simpa using congrArg Array.toList d1
 subst this;exact r.inj r'
theorem Inv.tuple_inj(I:Inv X pins σ H s)(h:SqT X.K H a xs)(h':SqT X.K H a ys):xs=ys:=by
 obtain ⟨its,r,⟨o,e,_,n,d⟩,_⟩:=I.tuple h;obtain ⟨its',r',⟨o',e',_,n',d'⟩,_⟩:=I.tuple h';rw [e] at e';cases e'
 rw [d] at d'
 injection d' with d1 _
 have:its=its':=by simpa using congrArg Array.toList d1
 subst this;exact r.inj r'
end
abbrev Cx.wish(X:Cx)(E:Value->Shared->Prop):Cx:={ X with xe:=E }
abbrev Cx.nox(X:Cx):Cx:=X.wish λ_ _=>False
theorem Cx.Ok.wish{X:Cx}(ok:X.Ok)(E:Value->Shared->Prop):(X.wish E).Ok :=
 ⟨ok.mod,ok.kind,ok.glob,ok.blt,ok.above,ok.inj,ok.has,ok.cab,ok.hd,ok.frames,ok.stk,ok.exf,ok.bs,ok.bsz,ok.noex,ok.exfs,ok.funs,ok.frf⟩
theorem Cx.Ok.unwish{X:Cx}{E:Value->Shared->Prop}(ok:(X.wish E).Ok):X.Ok :=
 ⟨ok.mod,ok.kind,ok.glob,ok.blt,ok.above,ok.inj,ok.has,ok.cab,ok.hd,ok.frames,ok.stk,ok.exf,ok.bs,ok.bsz,ok.noex,ok.exfs,ok.funs,ok.frf⟩
section
variable{X:Cx}{pins:List (Addr × Obj)}{σ:St}{H:Hp}{s:Shared}{E:Value->Shared->Prop}
theorem Inv.wish(I:Inv X pins σ H s)(E:Value->Shared->Prop):Inv (X.wish E) pins σ H s:=⟨I.ok.wish E,I.os,I.bare,I.base,I.loc,I.cell,I.free,I.freeC,I.pin,I.hok,I.len⟩
theorem Inv.unwish(I:Inv (X.wish E) pins σ H s):Inv X pins σ H s:=⟨I.ok.unwish,I.os,I.bare,I.base,I.loc,I.cell,I.free,I.freeC,I.pin,I.hok,I.len⟩
theorem SP.unwish{D:Ends}{f:Flow}{s':Shared}(h:SP (X.wish E) pins D f s'):SP X pins D f s':=by
 cases f with
 | next=>obtain ⟨σ',H',I,q⟩:=h;exact ⟨σ',H',I.unwish,q⟩
 | brk=>obtain ⟨σ',H',I,q⟩:=h;exact ⟨σ',H',I.unwish,q⟩
 | cont=>obtain ⟨σ',H',I,q⟩:=h;exact ⟨σ',H',I.unwish,q⟩
 | ret u=>obtain ⟨v,σ',H',I,r,q⟩:=h;exact ⟨v,σ',H',I.unwish,r,q⟩
theorem PSs.nox{st:List Stmt}{t:TS}(h:PSs X.nox st t):PSs X st t:=λpins s σ H D I hw =>
 wpAny_mono (h pins s σ H D (I.wish _) hw) (λ_ _ q=>q.unwish) λ_ _ z=>False.elim z
end
section
variable{X:Cx}{st:Stmt}{rest:List Stmt}{t u:TS}{e:Expr}{te:TE}{pos:Pos}
def aty:TS:=λD σ H=>D.nx σ H
def awo(t u:TS):TS:=λD σ H=>t { D with nx:=u D } σ H
theorem alm:PSs X [] aty:=λ_ _ σ H _ I h=>wpAny_execs_nil ⟨σ,H,I,h⟩
theorem aht(h1:PS X st t)(h2:PSs X rest u):PSs X (st::rest) (awo t u):=by
 intro pins s σ H D I h
 refine wpAny_execs_cons (thn (h1 pins s σ H { D with nx:=u D } I h) λf s1 q=>?_)
 cases f with
 | next =>
  obtain ⟨σ',H',I',q⟩:=q;exact h2 pins s1 σ' H' D I' q
 | ret v=>exact q
 | brk=>exact q
 | cont=>exact q
theorem aln(h1:PS X st t):PSs X [st] t:=by
 intro pins s σ H D I h
 refine wpAny_execs_cons (thn (h1 pins s σ H D I h) λf s1 q=>?_)
 cases f with
 | next=>exact wpAny_execs_nil q
 | ret v=>exact q
 | brk=>exact q
 | cont=>exact q
theorem Inv.quiet{pins:List (Addr × Obj)}{σ:St}{H:Hp}{s:Shared}(I:Inv X pins σ H s):interactive X.env=false:=by simp [interactive,I.ok.kind]
def atz(te:TE):TS:=λD σ H=>te σ H λ_ H1=>D.nx σ H1
theorem alo(he:PE X e te)(hs:swapsWith e none pos.line X.env=pure false:=by rfl):PS X (.Expr e pos) (atz te):=by
 intro pins s σ H D I h
 exact wpAny_Expr_any (thn (he pins s σ H _ I h) λv s1 ⟨x,H1,I1,r1,q1⟩=>⟨σ,H1,I1,q1⟩) I.quiet hs
def awp(te:TE):TS:=λD σ H=>te σ H D.rt
theorem ap4(he:PE X e te):PS X (.Return (some e) pos) (awp te):=by
 intro pins s σ H D I h
 exact wpAny_Return_some (thn (he pins s σ H _ I h) λv s1 ⟨x,H1,I1,r1,q1⟩=>⟨x,σ,H1,I1,r1,q1⟩)
def awq(c:TT)(t u:TS):TS:=λD σ H=>c σ H λb H1=>if b=true then t D σ H1 else u D σ H1
theorem au0{c:Expr}{a b:List Stmt}{tc:TT}(hc:PT X c tc)(ha:PSs X a t)(hb:PSs X b u):PS X (.If c a b pos) (awq tc t u):=by
 intro pins s σ H D I h
 refine wpAny_If (thn (hc pins s σ H _ I h) λd s1 ⟨H1,I1,q1⟩=>?_)
 cases d with
 | true=>exact ha pins s1 σ H1 D I1 q1
 | false=>exact hb pins s1 σ H1 D I1 q1
end
abbrev TG:=V->St->Hp->(St->Hp->Prop)->Prop
abbrev TGs:=List V->St->Hp->(St->Hp->Prop)->Prop
def PG(X:Cx)(target:Expr)(t:TG):Prop :=
 ∀ (pins:List (Addr × Obj)) (s:Shared) (σ:St) (H:Hp) (v:V) (u:Value) (Q:St->Hp->Prop),Inv X pins σ H s->RelV v u->t v σ H Q->
  wpAny (model X.prog X.w) X.A (assign target X.env u) (λ_ s'=>∃ σ' H',Inv X pins σ' H' s'/\Q σ' H') X.xe s
def PGs(X:Cx)(ts:List Expr)(t:TGs):Prop :=
 ∀ (pins:List (Addr × Obj)) (s:Shared) (σ:St) (H:Hp) (vs:List V) (us:List Value) (Q:St->Hp->Prop),Inv X pins σ H s->Vals vs us->t vs σ H Q->
  wpAny (model X.prog X.w) X.A (assignInOrder ((assignEach ts X.env).map (·.2)) us) (λ_ s'=>∃ σ' H',Inv X pins σ' H' s'/\Q σ' H') X.xe s
abbrev au1:=V->V->V->Hp->(Hp->Prop)->Prop
def avj(X:Cx)(t:au1):Prop :=
 ∀ (pins:List (Addr × Obj)) (s:Shared) (σ:St) (H:Hp) (o i v:V) (ov iv u:Value) (Q:Hp->Prop),Inv X pins σ H s->RelV o ov->RelV i iv->RelV v u->t o i v H Q->
  wpAny (model X.prog X.w) X.A (setItem ov iv u) (λ_ s'=>∃ H',Inv X pins σ H' s'/\Q H') X.xe s
section
variable{X:Cx}{pos:Pos}
def a1r(i:Nat):TG:=λv σ H Q=>Q (σ.set i (some v)) H
theorem jq{i:Nat}{x:Str}(hN:X.N.Nodup)(hi:X.N[i]? = some x)(hx:Loc X.env.scope x)(hf:X.fn x=true\/X.env.scope.names.lookup x=some .local:=by first | exact .inl rfl | exact .inr rfl | assumption):PG X (.Name x pos) (a1r i):=by
 intro pins s σ H v u Q I r h
 exact wpAny_assign_Name (aap I hN hi hx r (λs' I'=>⟨_,H,I',h⟩) hf)
def avk:TGs:=λvs σ H Q=>vs=[]/\Q σ H
def ahu(t:TG)(u:TGs):TGs:=λvs σ H Q=>∃ v r,vs=v::r/\t v σ H λσ' H'=>u r σ' H' Q
theorem a6k:PGs X [] avk:=by
 intro pins s σ H vs us Q I r h
 obtain ⟨e,h⟩:=h;subst e;cases r
 exact assignInOrder_nil ⟨σ,H,I,h⟩
theorem zy{e:Expr}{es:List Expr}{t:TG}{u:TGs}(h1:PG X e t)(h2:PGs X es u)
  (hs:(assignEach (e::es) X.env).map (·.2)=assign e X.env::(assignEach es X.env).map (·.2):=by rfl):PGs X (e::es) (ahu t u):=by
 intro pins s σ H vs us Q I r h
 obtain ⟨v,vr,e1,h⟩:=h;subst e1
 cases r with
 | cons r rr =>
  rw [hs];refine assignInOrder_cons (thn (h1 pins s σ H _ _ _ I r h) λ_ s1 ⟨σ1,H1,I1,q1⟩=>?_);exact h2 pins s1 σ1 H1 _ _ Q I1 rr q1
def yc(K:PySem.W.Frag)(n:Nat)(t:TGs):TG:=λv σ H Q=>∃ a xs,v = .ref a/\SqT K H a xs/\xs.length=n/\t xs σ H Q
theorem aaq{es:List Expr}{k:Nat}{t:TGs}{n:Nat}(hc:X.calm=true)(h:PGs X es t)
  (hn:(assignEach es X.env).length=n:=by rfl) (hst:(assignEach es X.env).findIdx? (·.1)=none:=by rfl):PG X (.Tuple es k pos) (yc X.K n t):=by
 intro pins s σ H v u Q I r hw
 obtain ⟨a,xs,e1,hq,hl,hw⟩:=hw;subst e1;cases r
 obtain ⟨its,rv,ht,hz⟩:=I.tuple hq;refine assign_Tuple_tuple (I.ok.hd hc) ht (by simp [hn,<-hl,rv.length]) hst λh' hx=>?_
 have I1:Inv X pins σ H { s with heap:=h' }:=I.kept (t':=s.toks) λb o e=>hx b o (Nat.ne_of_lt (Heap.lt_size e)) e
 exact h pins _ σ H xs _ Q I1 (by simpa using rv) hw
def a8b(to ti:TE)(t:au1):TG:=λv σ H Q=>to σ H λo H1=>ti σ H1 λi H2=>t o i v H2 λH3=>Q σ H3
theorem ap5{o i:Expr}{to ti:TE}{t:au1}(ho:PE X o to)(hi:PE X i ti)(hs:avj X t)
  (ha:∀ v,assign (.Subscript o i pos) X.env v=(do
   let ov <-holding [v] (eval o X.env)
   let iv <-holding [v,ov] (eval i X.env)
   standAt pos
   holding [v,ov,iv] (setItem ov iv v)
   release [v,ov,iv] []):=by intro _;rfl):PG X (.Subscript o i pos) (a8b to ti t):=by
 intro pins s σ H v u Q I r h
 rw [ha];refine wpAny_bind (wpAny_holding (thn (ho pins s σ H _ I h) λov s1 ⟨x,H1,I1,r1,q1⟩=>?_));refine wpAny_bind (wpAny_holding (thn (hi pins s1 σ H1 _ I1 q1) λiv s2 ⟨y,H2,I2,r2,q2⟩=>?_));refine wpAny_bind (wpAny_standAt (wpAny_bind (wpAny_holding (thn (hs pins s2 σ H2 x y v ov iv u _ I2 r1 r2 r q2) λ_ s3 ⟨H3,I3,q3⟩=>?_))));exact wpAny_release ⟨σ,H3,I3,q3⟩
def ap6(te:TE)(g:TG):TS:=λD σ H=>te σ H λx H1=>g x σ H1 D.nx
theorem akd{tg e:Expr}{te:TE}{g:TG}(he:PE X e te)(hg:PG X tg g)(hs:swapsWithSole [tg] e pos.line X.env=pure false:=by rfl)(hw:swappedStores [tg] e X.env=pure none:=by rfl)
  (h1:(assignEach [tg] X.env).map (·.2)=[assign tg X.env]:=by rfl):PS X (.Assign [tg] e pos) (ap6 te g):=by
 intro pins s σ H D I h
 refine wpAny_Assign_stores (thn (he pins s σ H _ I h) λv s1 ⟨x,H1,I1,r1,q1⟩=>?_) hs hw;rw [h1];exact thn (hg pins s1 σ H1 x v _ I1 r1 q1) λ_ s2 q=>q
theorem ap7{i:Nat}{x:Str}{e:Expr}{te:TE}{pos':Pos}(hN:X.N.Nodup)(hi:X.N[i]? = some x)(hx:Loc X.env.scope x)(he:PE X e te)(hs:swapsWith e (some (.Name x pos')) pos.line X.env=pure false:=by rfl)(hf:X.fn x=true\/X.env.scope.names.lookup x=some .local:=by first | exact .inl rfl | exact .inr rfl | assumption) :
  PS X (.Assign [.Name x pos'] e pos) (ap6 te (a1r i)):=by
 intro pins s σ H D I h
 refine wpAny_Assign_Name (thn (he pins s σ H _ I h) λv s1 ⟨y,H1,I1,r1,q1⟩=>?_) hs;exact aap I1 hN hi hx r1 (λs2 I2=>⟨_,H1,I2,q1⟩) hf
end
section
variable{X:Cx}{pos:Pos}
def ap8(c:TT)(tb:TS):TS:=λD σ H=>∃ W:Nat->St->Hp->Prop,(∃ m,W m σ H)/\∀ m σ H,W m σ H->
 c σ H λb H1=>if b=true then ∃ N:St->Hp->Prop,(∀ σ' H',N σ' H'->∃ m',m'<m/\W m' σ' H')/\tb { D with nx:=N,ct:=N,bk:=D.nx } σ H1 else D.nx σ H1
theorem ahv{c:Expr}{body:List Stmt}{tc:TT}{tb:TS}(hp:PassesOwn (model X.prog X.w) X.A X.env X.xe)(hc:PT X c tc)(hb:PSs X body tb):PS X (.While c body [] pos) (ap8 tc tb):=by
 intro pins s σ H D I h
 obtain ⟨W,⟨m0,w0⟩,turn⟩:=h;refine wpAny_While (codeAny_whileLoop (λn s'=>∃ σ' H',Inv X pins σ' H' s'/\W n σ' H') ?_ m0 ⟨σ,H,I,w0⟩)
 rintro n s1 ⟨σ1,H1,I1,w1⟩
 refine wpAny_passesOwn hp (thn (hc pins s1 σ1 H1 _ I1 (turn n σ1 H1 w1)) λb s2 ⟨H2,I2,q2⟩=>?_)
 cases b with
 | true =>
  obtain ⟨N,hN,q2⟩:=q2;rw [if_pos rfl];refine wpAny_passesOwn hp (thn (hb pins s2 σ1 H2 _ I2 q2) λf s3 q3=>?_)
  cases f with
  | next =>
   obtain ⟨σ3,H3,I3,n3⟩:=q3;obtain ⟨m',hm,w3⟩:=hN σ3 H3 n3;exact ⟨m',hm,σ3,H3,I3,w3⟩
  | cont =>
   obtain ⟨σ3,H3,I3,n3⟩:=q3;obtain ⟨m',hm,w3⟩:=hN σ3 H3 n3;exact ⟨m',hm,σ3,H3,I3,w3⟩
  | brk=>exact q3
  | ret v=>exact q3
 | false =>
  rw [if_neg Bool.false_ne_true];exact wpAny_execs_nil ⟨σ1,H2,I2,q2⟩
end
structure It where
 go:Nat->Hp->Prop
 yld:Nat->Hp->V->Hp->Prop
 stop:Nat->Hp->Prop
def FpOk(X:Cx)(pins:List (Addr × Obj))(H:Hp)(b:Addr):Prop :=
 H b=none/\b≠X.env.locals/\b ∉ X.fs/\(b∈X.ex\/X.s₀.heap.objs.size<=b)/\(∀ x c,X.env.cells.lookup x=some c->c≠b)/\∀ p∈X.pn++pins,p.1≠b
theorem Inv.fpOk{X:Cx}{pins:List (Addr × Obj)}{σ:St}{H H':Hp}{s:Shared}{b:Addr}(I:Inv X pins σ H s)(hb:s.heap.objs.size<=b)(hn:H' b=none):FpOk X pins H' b:=by
 refine ⟨hn,Nat.ne_of_gt (Nat.lt_of_lt_of_le I.lt hb),I.nofs hb, .inr (Nat.le_trans I.sz hb),λx c e z=>?_,λp hp z=>?_⟩
 ·obtain ⟨v,q⟩:=I.cell x c e;exact absurd (Nat.lt_of_lt_of_le q.lt (by rw [z];exact hb)) (Nat.lt_irrefl _)
 ·exact absurd (Nat.lt_of_lt_of_le (Heap.lt_size (I.pin p hp).1) (by rw [z];exact hb)) (Nat.lt_irrefl _)
structure Turn (P:Program) (w:World) (K:PySem.W.Frag) (tg:Expr) (J:It) (fp:List Addr) (it:Addr) (tn:Nat->Heap->Prop):Prop where
 mem:it∈fp
 obj:∀ i h,tn i h->∀ b∈fp,∃ o,h.get? b=some o/\∀ v,o.data≠.cell v
 keep:∀ i h h',tn i h->(∀ b∈fp,∀ o,h.get? b=some o->h'.get? b=some o)->tn i h'
 item:∀ (X:Cx),X.prog=P->X.w=w->X.K=K->X.calm=true->∀ (i:Nat) (pins:List (Addr × Obj)) (s:Shared) (σ:St) (H:Hp) (E:Value->Shared->Prop),Inv X pins σ H s->(∀ b∈fp,FpOk X pins H b)->tn i s.heap->J.go i H->
  wpAny (model P w) X.A (pyNext (.ref it)) (λr s1=>∃ u,r=some u /\
   wpAny (model P w) X.A (letOwnedTupleGo tg (.ref it) u) (λ_ s2=>∃ x H',Inv X pins σ H' s2/\RelV x u/\J.yld i H x H'/\tn (i+1) s2.heap/\∀ b∈fp,H' b=none) E s1) E s
 done:∀ (X:Cx),X.prog=P->X.w=w->X.K=K->X.calm=true->∀ (i:Nat) (pins:List (Addr × Obj)) (s:Shared) (σ:St) (H:Hp) (E:Value->Shared->Prop),Inv X pins σ H s->(∀ b∈fp,FpOk X pins H b)->tn i s.heap->J.stop i H->
  wpAny (model P w) X.A (pyNext (.ref it)) (λr s1=>r=none/\Inv X pins σ H s1) E s
 self:∀ (A:Around) (i:Nat) (s:Shared) (Q:Value->Shared->Prop) (E:Value->Shared->Prop),tn i s.heap->Q (.ref it) s->wpAny (model P w) A (pyIter (.ref it)) Q E s
abbrev TI:=St->Hp->(It->Hp->Prop)->Prop
def PIE(X:Cx)(pins:List (Addr × Obj))(σ:St)(tg:Expr)(R:It->Hp->Prop)(itv:Value)(s2:Shared):Prop :=
 ∃ (it:Addr) (fp:List Addr) (tn:Nat->Heap->Prop) (J:It) (H':Hp),itv = .ref it/\Inv X pins σ H' s2/\Turn X.prog X.w X.K tg J fp it tn/\tn 0 s2.heap/\(∀ b∈fp,FpOk X pins H' b)/\R J H'
def PI(X:Cx)(tg iter:Expr)(wi:TI):Prop :=
 ∀ (pins:List (Addr × Obj)) (s:Shared) (σ:St) (H:Hp) (R:It->Hp->Prop),Inv X pins σ H s->wi σ H R->
  wpAny (model X.prog X.w) X.A (eval iter X.env) (λv s1=>wpAny (model X.prog X.w) X.A (pyIter v) (PIE X pins σ tg R) X.xe s1) X.xe s
theorem ae1{M:Model}{A:Around}{E:Value->Shared->Prop}{s:Shared}{tg:Expr}{it:Addr}{u:Value}{o:Obj}{n:String}{vs:Array Value}{Q:Unit->Shared->Prop}(ho:s.heap.get? it=some o)(hc:o.cls = .type n)(hd:o.data = .fields vs)
  (hn:["enumerate", "zip", "dict_itemiterator", "dict_reverseitemiterator", "odict_iterator", "itertools.zip_longest", "itertools.pairwise"].contains n=false) (hQ:Q () s):wpAny M A (letOwnedTupleGo tg (.ref it) u) Q E s:=by
 unfold letOwnedTupleGo
 cases tg<;>first
  | exact wpAny_pure hQ
  | (cases u<;>first
    | exact wpAny_pure hQ
    | (refine wpAny_bind (wpAny_load ho ?_)
       rw [hc,hd];show wpAny M A (if (["enumerate", "zip", "dict_itemiterator", "dict_reverseitemiterator", "odict_iterator", "itertools.zip_longest", "itertools.pairwise"].contains n && vs[0]? == some (rawInt _))=true then _ else _) Q E s
       rw [if_neg (by intro h;rw [hn,Bool.false_and] at h;cases h)]
       exact wpAny_pure hQ))
def Itl(K:PySem.W.Frag)(a:Addr):It :=
 ⟨λi H=>∃ xs x,SqL K H a xs/\xs[i]? = some x,λi H x H'=>H'=H/\∀ xs,SqL K H a xs->xs[i]? = some x,λi H=>∃ xs,SqL K H a xs/\xs.length<=i⟩
def Itt(K:PySem.W.Frag)(a:Addr):It :=
 ⟨λi H=>∃ xs x,SqT K H a xs/\xs[i]? = some x,λi H x H'=>H'=H/\∀ xs,SqT K H a xs->xs[i]? = some x,λi H=>∃ xs,SqT K H a xs/\xs.length<=i⟩
def Itr(lo:Int)(n:Nat):It:=⟨λi _=>i<n,λi H x H'=>H'=H/\x = .int (lo+i),λi _=>n<=i⟩
theorem ae2{P:Program}{w:World}{K:PySem.W.Frag}{tg:Expr}(a it:Addr):Turn P w K tg (Itl K a) [it] it (λi h=>h.IsListIter it a i) where
 mem:=by simp
 obj:=λi h st b hb=>by
  have e:b=it:=by simpa using hb
  subst e;obtain ⟨o,e,c,d⟩:=st;exact ⟨o,e,λv z=>by rw [d] at z;cases z⟩
 keep:=λi h h' st k=>st.at λo e=>k it (by simp) o e
 item:=by
  intro X hP hw hK hc i pins s σ H E I hf st hg
  subst hP hw hK;obtain ⟨xs,x,hq,hx⟩:=hg;obtain ⟨its,rv,p,hz⟩:=I.list hq;obtain ⟨u,hu,ru⟩:=rv.get hx;obtain ⟨f0,f1,f2,f3,f4,f5⟩:=hf it (by simp)
  refine wpAny_pyNext_list_item st p.isList (x:=u) (by simpa using hu) λh' st' sb=>?_
  have I1:Inv X pins σ H { s with heap:=h' }:=I.turned (t':=s.toks) (λb o hb e=>(sb.2 b hb).trans e) f0 f1 f3 f4 f5
  obtain ⟨o,e,c,d⟩:=id st';exact ⟨u,rfl,ae1 (s:={ s with heap:=h' }) e c d (by decide) ⟨x,H,I1,ru,⟨rfl,λys hy=>by rw [I.list_inj hy hq];exact hx⟩,st',λb hb=>(hf b hb).1⟩⟩
 done:=by
  intro X hP hw hK hc i pins s σ H E I hf st hg
  subst hP hw hK;obtain ⟨xs,hq,hx⟩:=hg;obtain ⟨its,rv,p,hz⟩:=I.list hq;obtain ⟨f0,f1,f2,f3,f4,f5⟩:=hf it (by simp)
  have hl:=rv.length;exact wpAny_pyNext_list_end (I.ok.hd hc) st p.isList (by simp;omega) λh' eb=>⟨rfl,I.turned (t':=s.toks) (λb o hb e=>eb b o hb e) f0 f1 f3 f4 f5⟩
 self:=λ_ _ _ _ _ st h=>wpAny_pyIter_listiter st h
theorem ace{P:Program}{w:World}{K:PySem.W.Frag}{tg:Expr}(a it:Addr):Turn P w K tg (Itt K a) [it] it (λi h=>h.IsTupleIter it a i) where
 mem:=by simp
 obj:=λi h st b hb=>by
  have e:b=it:=by simpa using hb
  subst e;obtain ⟨o,e,c,d⟩:=st;exact ⟨o,e,λv z=>by rw [d] at z;cases z⟩
 keep:=λi h h' st k=>st.at λo e=>k it (by simp) o e
 item:=by
  intro X hP hw hK hc i pins s σ H E I hf st hg
  subst hP hw hK;obtain ⟨xs,x,hq,hx⟩:=hg;obtain ⟨its,rv,p,hz⟩:=I.tuple hq;obtain ⟨u,hu,ru⟩:=rv.get hx;obtain ⟨f0,f1,f2,f3,f4,f5⟩:=hf it (by simp)
  refine wpAny_pyNext_tuple_item st (show s.heap.IsTuple a its.toArray from p) (x:=u) (by simpa using hu) λh' st' sb=>?_
  have I1:Inv X pins σ H { s with heap:=h' }:=I.turned (t':=s.toks) (λb o hb e=>(sb.2 b hb).trans e) f0 f1 f3 f4 f5
  obtain ⟨o,e,c,d⟩:=id st';exact ⟨u,rfl,ae1 (s:={ s with heap:=h' }) e c d (by decide) ⟨x,H,I1,ru,⟨rfl,λys hy=>by rw [I.tuple_inj hy hq];exact hx⟩,st',λb hb=>(hf b hb).1⟩⟩
 done:=by
  intro X hP hw hK hc i pins s σ H E I hf st hg
  subst hP hw hK;obtain ⟨xs,hq,hx⟩:=hg;obtain ⟨its,rv,p,hz⟩:=I.tuple hq;obtain ⟨f0,f1,f2,f3,f4,f5⟩:=hf it (by simp)
  have hl:=rv.length;exact wpAny_pyNext_tuple_end (I.ok.hd hc) st (show s.heap.IsTuple a its.toArray from p) (by simp;omega) λh' eb=>⟨rfl,I.turned (t':=s.toks) (λb o hb e=>eb b o hb e) f0 f1 f3 f4 f5⟩
 self:=λ_ _ _ _ _ st h=>wpAny_pyIter_tupleiter st h
theorem acf{P:Program}{w:World}{K:PySem.W.Frag}{tg:Expr}(it:Addr)(lo:Int)(n:Nat):Turn P w K tg (Itr lo n) [it] it (λi h=>IsRangeIter h it (lo+(i:Nat)*1) ((n:Int) - (i:Nat)) 1) where
 mem:=by simp
 obj:=λi h st b hb=>by
  have e:b=it:=by simpa using hb
  subst e;exact ⟨_,st,λv z=>by
   have z':Data.fields _=Data.cell v:=z
   cases z'⟩
 keep:=λi h h' st k=>k it (by simp) _ st
 item:=by
  intro X hP hw hK hc i pins s σ H E I hf st hg
  subst hP hw hK;obtain ⟨f0,f1,f2,f3,f4,f5⟩:=hf it (by simp)
  have W:=Walks.range (prog:=X.prog) (w:=X.w) (I.ok.hd hc) it lo 1 n;refine W.item i s _ _ hg st λv h' tk hv st' kk=>?_;obtain ⟨t,rfl⟩:=hv;have I1:Inv X pins σ H { s with heap:=h',toks:=tk }:=I.turned (λb o hb e=>kk b o (by simpa using hb) e) f0 f1 f3 f4 f5
  refine ⟨_,rfl,ae1 (s:={ s with heap:=h',toks:=tk }) (n := "range_iterator") st' rfl rfl (by decide) ⟨.int (lo+i),H,I1,⟨t,?_⟩,⟨rfl,rfl⟩,st',λb hb=>(hf b hb).1⟩⟩
  rw [Int.mul_one]
 done:=by
  intro X hP hw hK hc i pins s σ H E I hf st hg
  subst hP hw hK;obtain ⟨f0,f1,f2,f3,f4,f5⟩:=hf it (by simp)
  exact wpAny_pyNext_range_end (I.ok.hd hc) st (by have:n<=i:=hg;omega) λh' eb=>⟨rfl,I.turned (t':=s.toks) (λb o hb e=>eb b o hb e) f0 f1 f3 f4 f5⟩
 self:=λ_ _ _ _ _ st h=>wpAny_pyIter_rangeiter st h
section
variable{X:Cx}{tg:Expr}
def au2(K:PySem.W.Frag)(tl:TE):TI:=λσ H R=>tl σ H λx H1=>∃ a,x = .ref a/\(∃ xs,SqL K H1 a xs)/\R (Itl K a) H1
def awr(K:PySem.W.Frag)(tl:TE):TI:=λσ H R=>tl σ H λx H1=>∃ a,x = .ref a/\(∃ xs,SqT K H1 a xs)/\R (Itt K a) H1
theorem ae3{l:Expr}{tl:TE}(hl:PE X l tl):PI X tg l (au2 X.K tl):=by
 intro pins s σ H R I h
 refine thn (hl pins s σ H _ I h) λv s1 ⟨x,H1,I1,r1,q1⟩=>?_;obtain ⟨a,e,⟨xs,hq⟩,q⟩:=q1;subst e;cases r1
 obtain ⟨its,rv,p,hz⟩:=I1.list hq;refine wpAny_pyIter_list p.isList ?_;refine ⟨s1.heap.objs.size,[s1.heap.objs.size],_,_,H1,rfl,I1.kept (t':=s1.toks) λb o e=>Heap.get?_push_of_some _ e,ae2 a _,⟨_,Heap.get?_push_size _ rfl,rfl,rfl⟩,λb hb=>?_,q⟩;have e:b=s1.heap.objs.size:=by simpa using hb
 subst e;exact I1.fpOk (Nat.le_refl _) (I1.hok.fresh (Nat.le_refl _))
theorem ap9{l:Expr}{tl:TE}(hl:PE X l tl):PI X tg l (awr X.K tl):=by
 intro pins s σ H R I h
 refine thn (hl pins s σ H _ I h) λv s1 ⟨x,H1,I1,r1,q1⟩=>?_;obtain ⟨a,e,⟨xs,hq⟩,q⟩:=q1;subst e;cases r1
 obtain ⟨its,rv,p,hz⟩:=I1.tuple hq;refine wpAny_pyIter_tuple (show s1.heap.IsTuple a its.toArray from p) ?_
 refine ⟨s1.heap.objs.size,[s1.heap.objs.size],_,_,H1,rfl,I1.kept (t':=s1.toks) λb o e=>Heap.get?_push_of_some _ e,ace a _,⟨_,Heap.get?_push_size _ rfl,rfl,rfl⟩,λb hb=>?_,q⟩;have e:b=s1.heap.objs.size:=by simpa using hb
 subst e;exact I1.fpOk (Nat.le_refl _) (I1.hok.fresh (Nat.le_refl _))
theorem ahw{pins:List (Addr × Obj)}{σ:St}{H:Hp}{s:Shared}{R:It->Hp->Prop}{E:Value->Shared->Prop}{lo hi:Int}{t u v:Tok}{tk:Nat}(I:Inv X pins σ H s)(h1 : -(2 ^ 62)<=lo)(h2:lo<2 ^ 62)(h3 : -(2 ^ 62)<=hi)(h4:hi<2 ^ 62)
  (q:R (Itr lo (hi - lo).toNat) H):wpAny (model X.prog X.w) X.A (pyIter (.ref s.heap.objs.size)) (PIE X pins σ tg R) E { s with heap:=s.heap.push { cls:=.type "range",data:=.fields #[.int lo t, .int hi u, .int 1 v] },toks:=tk }:=by
 refine wpAny_pyIter_range (IsRange.new ..) (small_one h1 h2 h3 h4) ?_;have I1:Inv X pins σ H { s with heap:=s.heap.push { cls:=.type "range",data:=.fields #[.int lo t, .int hi u, .int 1 v] },toks:=tk }:=I.kept λb o e=>Heap.get?_push_of_some _ e
 refine ⟨(s.heap.push { cls:=.type "range",data:=.fields #[.int lo t, .int hi u, .int 1 v] }).objs.size,[(s.heap.push { cls:=.type "range",data:=.fields #[.int lo t, .int hi u, .int 1 v] }).objs.size],_,_,H,rfl,
  I1.kept (t':=tk) λb o e=>Heap.get?_push_of_some _ e,acf _ lo (hi - lo).toNat,?_,λb hb=>?_,q⟩
 ·have e1:lo+((0:Nat):Int)*1=lo:=by simp
  have e2:(((hi - lo).toNat:Nat):Int) - ((0:Nat):Int)=Builtin.Range.rangeSize lo hi 1:=by rw [rangeSize_one];split<;>omega
  show IsRangeIter _ _ (lo+((0:Nat):Int)*1) ((((hi - lo).toNat:Nat):Int) - ((0:Nat):Int)) 1;rw [e1,e2];exact Heap.get?_push_size _ rfl
 ·have e:b=(s.heap.push { cls:=.type "range",data:=.fields #[.int lo t, .int hi u, .int 1 v] }).objs.size:=by simpa using hb
  subst e;exact I1.fpOk (Nat.le_refl _) (I1.hok.fresh (Nat.le_refl _))
def au3(ta:TA):TI:=λσ H R=>ta σ H λvs H1=>∃ j:Int,vs=[.int j] /\ -(2 ^ 62)<=j/\j<2 ^ 62/\R (Itr 0 j.toNat) H1
theorem ae4{a:Expr}{ta:TA}{p pos:Pos}(hg:Gl X "range")(hm:X.mg "range" = none)(ha:PA X [a] ta)(hs:starEach [a] X.env=[(false,eval a X.env)]:=by rfl):PI X tg (.Call (.Name "range" p) [a] [] pos) (au3 ta):=by
 intro pins s σ H R I h
 refine Call_ (a4a I hg hm boot_range (PyProof.Rows.callWith_type1 (thn (ha pos pins s σ H _ I h) λus s1 ⟨vs,H1,I1,r1,q1⟩=>?_) hs rfl));obtain ⟨j,e,q1,q2,q⟩:=q1;subst e
 cases r1 with
 | cons r rr =>
  cases rr
  obtain ⟨t,rfl⟩:=r;exact call_range_1 (ahw I1 (by omega) (by omega) q1 q2 (by simpa using q))
def aws(wi:TI)(g:TG)(tb:TS):TS:=λD σ H=>wi σ H λJ H1=>∃ W:Nat->Nat->St->Hp->Prop,(∃ m,W 0 m σ H1)/\∀ i m σ H,W i m σ H->
 (J.stop i H/\D.nx σ H)\/(J.go i H/\∃ N:St->Hp->Prop,(∀ σ' H',N σ' H'->∃ m',m'<m/\W (i+1) m' σ' H')/\∀ x H',J.yld i H x H'->g x σ H' λσ2 H2=>tb { D with nx:=N,ct:=N,bk:=D.nx } σ2 H2)
def uf(fp:List Addr)(h:Heap):List (Addr × Obj):=fp.filterMap λb=>(h.get? b).map λo=>(b,o)
theorem jo{fp:List Addr}{h:Heap}{b:Addr}{o:Obj}(hb:b∈fp)(e:h.get? b=some o):(b,o)∈uf fp h:=List.mem_filterMap.mpr ⟨b,hb,by rw [e];rfl⟩
theorem a8c{fp:List Addr}{h:Heap}{p:Addr × Obj}(hp:p∈uf fp h):p.1∈fp/\h.get? p.1=some p.2:=by
 obtain ⟨b,hb,e⟩:=List.mem_filterMap.mp hp
 cases q:h.get? b with
 | none=>rw [q] at e;cases e
 | some o =>
  rw [q] at e;have e':(b,o)=p:=Option.some.inj e;subst e';exact ⟨hb,q⟩
theorem Inv.pinned{pins:List (Addr × Obj)}{σ:St}{H:Hp}{s:Shared}{fp:List Addr}(I:Inv X pins σ H s)(hf:∀ b∈fp,FpOk X pins H b)(ho:∀ b∈fp,∃ o,s.heap.get? b=some o/\∀ v,o.data≠.cell v):Inv X (pins++uf fp s.heap) σ H s :=
 I.pins_of λp hp=>(List.mem_append.mp hp).elim (λz=>I.pin p (List.mem_append_right _ z)) λz=>by
  obtain ⟨hb,e⟩:=a8c z;obtain ⟨f0,f1,f2,_⟩:=hf p.1 hb;obtain ⟨o,e',d⟩:=ho p.1 hb;rw [e] at e';cases e'
  exact ⟨e,f0,f1,f2,d⟩
theorem Inv.unpinned{pins pl:List (Addr × Obj)}{σ:St}{H:Hp}{s:Shared}(I:Inv X (pins++pl) σ H s):Inv X pins σ H s:=I.pins_of λp hp=>I.pin p (List.mem_append_right _ (List.mem_append_left _ hp))
theorem apa{iter:Expr}{body:List Stmt}{wi:TI}{g:TG}{tb:TS}{pos:Pos}(hp:PassesOwn (model X.prog X.w) X.A X.env X.xe)(hc:X.calm=true)(hi:PI X tg iter wi)(hg:PG X tg g)(hb:PSs X body tb)
  (hs:∀ x,foldedSetIterable iter X.env x=pure x:=by intro _;rfl):PS X (.For tg iter body [] pos) (aws wi g tb):=by
 intro pins s σ H D I h
 refine wpAny_For (thn (hi pins s σ H _ I h) λv s1 h1=>thn h1 λitv s2 h2=>?_) hs;obtain ⟨it,fp,tn,J,H2,e,I2,T,st2,f2,W,⟨m0,w0⟩,turn⟩:=h2;subst e;have stat:∀ {H':Hp},(∀ b∈fp,H' b=none)->∀ b∈fp,FpOk X pins H' b:=λhn b hb=>⟨hn b hb,(f2 b hb).2⟩;refine codeAny_forLoop_any (λn s'=>∃ i σ' H',Inv X pins σ' H' s'/\tn i s'.heap/\(∀ b∈fp,H' b=none)/\W i n σ' H') ?_ m0 ⟨0,σ,H2,I2,st2,λb hb=>(f2 b hb).1,w0⟩
 rintro n s3 ⟨i,σ3,H3,I3,st3,fr3,w3⟩
 rcases turn i n σ3 H3 w3 with ⟨stop,qn⟩ | ⟨go,N,hN,step⟩
 ·refine wpAny_passesOwn hp (thn (T.done X rfl rfl rfl hc i pins s3 σ3 H3 X.xe I3 (stat fr3) st3 stop) λr s4 ⟨hr,I4⟩=>?_);subst hr;exact wpAny_execs_nil ⟨σ3,H3,I4,qn⟩
 ·refine wpAny_passesOwn hp (thn (T.item X rfl rfl rfl hc i pins s3 σ3 H3 X.xe I3 (stat fr3) st3 go) λr s4 ⟨u,hr,h4⟩=>?_);subst hr;refine wpAny_passesOwn hp (thn h4 λ_ s5 ⟨x,H5,I5,r5,y5,st5,fr5⟩=>?_);have I5':=I5.pinned (stat fr5) (T.obj _ _ st5);refine wpAny_passesOwn hp (thn (hg _ s5 σ3 H5 x u _ I5' r5 (step x H5 y5)) λ_ s6 ⟨σ6,H6,I6,q6⟩=>?_);refine wpAny_passesOwn hp (thn (hb _ s6 σ6 H6 _ I6 q6) λf s7 q7=>?_);have again:∀ {σ7:St} {H7:Hp},Inv X (pins++uf fp s5.heap) σ7 H7 s7->N σ7 H7->∃ m,m<n/\∃ i σ' H',Inv X pins σ' H' s7/\tn i s7.heap/\(∀ b∈fp,H' b=none)/\W i m σ' H':=λ{σ7 H7} I7 n7=>by
   obtain ⟨m',hm,w7⟩:=hN σ7 H7 n7;refine ⟨m',hm,i+1,σ7,H7,I7.unpinned,T.keep _ _ _ st5 λb hb o e=>(I7.pin (b,o) (List.mem_append_right _ (List.mem_append_right _ (jo hb e)))).1,λb hb=>?_,w7⟩;obtain ⟨o,e,d⟩:=T.obj _ _ st5 b hb;exact (I7.pin (b,o) (List.mem_append_right _ (List.mem_append_right _ (jo hb e)))).2.1
  cases f with
  | next=>obtain ⟨σ7,H7,I7,n7⟩:=q7;exact again I7 n7
  | cont=>obtain ⟨σ7,H7,I7,n7⟩:=q7;exact again I7 n7
  | brk=>obtain ⟨σ7,H7,I7,q7⟩:=q7;exact ⟨σ7,H7,I7.unpinned,q7⟩
  | ret v=>obtain ⟨x7,σ7,H7,I7,r7,q7⟩:=q7;exact ⟨x7,σ7,H7,I7.unpinned,r7,q7⟩
end
abbrev R2:=V->V->Hp->VK->Prop
def OpR(X:Cx)(f:Value->Value->Sem Value)(r:R2):Prop :=
 ∀ (pins:List (Addr × Obj)) (s:Shared) (σ:St) (H:Hp) (x y:V) (v u:Value) (Q:VK),Inv X pins σ H s->RelV x v->RelV y u->r x y H Q->
  wpAny (model X.prog X.w) X.A (f v u) (EP X pins σ Q) X.xe s
def CallR(X:Cx)(f:Value)(r:List V->Hp->VK->Prop):Prop :=
 ∀ (pins:List (Addr × Obj)) (s:Shared) (σ:St) (H:Hp) (xs:List V) (us:List Value) (Q:VK),Inv X pins σ H s->Vals xs us->r xs H Q->
  wpAny (model X.prog X.w) X.A (call f us) (EP X pins σ Q) X.xe s
def awt(X:Cx)(r:V->Hp->(Bool->Hp->Prop)->Prop):Prop :=
 ∀ (pins:List (Addr × Obj)) (s:Shared) (σ:St) (H:Hp) (x:V) (v:Value) (Q:Bool->Hp->Prop),Inv X pins σ H s->RelV x v->r x H Q->
  wpAny (model X.prog X.w) X.A (truthy v) (TP X pins σ Q) X.xe s
def tOp(r:R2)(ta tb:TE):TE:=λσ H Q=>ta σ H λx H1=>tb σ H1 λy H2=>r x y H2 Q
def rI(C:Int->Int->Prop)(g:Int->Int->V):R2:=λx y H Q=>∃ i j,x = .int i/\y = .int j/\C i j/\Q (g i j) H
def rI0(g:Int->Int->V):R2:=λx y H Q=>∃ i j,x = .int i/\y = .int j/\Q (g i j) H
section
variable{X:Cx}{a b c:Expr}{ta tb tc:TE}{pos:Pos}
theorem au4(ha:PE X a ta)(hb:PE X b tb){pins:List (Addr × Obj)}{s:Shared}{σ:St}{H:Hp}{R:V->V->Hp->Prop}(I:Inv X pins σ H s)
  (h:ta σ H λx H1=>tb σ H1 λy H2=>R x y H2) {Q:Value->Shared->Prop} {f:Value->Value->Sem Value}
  (hf:∀ v u s2 x y H2,Inv X pins σ H2 s2->RelV x v->RelV y u->R x y H2->wpAny (model X.prog X.w) X.A (f v u) Q X.xe s2) :
  wpAny (model X.prog X.w) X.A (eval a X.env) (λv s₁=>wpAny (model X.prog X.w) X.A (eval b X.env) (λu s₂=>wpAny (model X.prog X.w) X.A (f v u) Q X.xe s₂) X.xe s₁) X.xe s:=by
 refine thn (ha pins s σ H _ I h) λv s1 ⟨x,H1,I1,r1,q1⟩=>?_;refine thn (hb pins s1 σ H1 _ I1 q1) λu s2 ⟨y,H2,I2,r2,q2⟩=>?_;exact hf v u s2 x y H2 I2 r1 r2 q2
theorem apb{op:Operator}{r:R2}(ho:OpR X (binaryOp op) r)(ha:PE X a ta)(hb:PE X b tb):PE X (.BinOp a op b pos) (tOp r ta tb):=by
 intro pins s σ H Q I h
 exact wpAny_BinOp (au4 ha hb I h λv u s2 x y H2 I2 rx ry q=>ho pins s2 σ H2 x y v u Q I2 rx ry q)
theorem opI{f:Value->Value->Sem Value}{C:Int->Int->Prop}{g:Int->Int->Int}
  (rule:∀ (i j:Int) (t u:Tok) (s:Shared) (Q:Value->Shared->Prop) (E:Value->Shared->Prop),C i j->Q (.int (g i j) s.toks) { s with toks:=s.toks+1 }->wpAny (model X.prog X.w) X.A (f (.int i t) (.int j u)) Q E s) :
  OpR X f (rI C λi j=>.int (g i j)):=by
 intro pins s σ H x y v u Q I rx ry h
 obtain ⟨i,j,rfl,rfl,hc,q⟩:=h;obtain ⟨t,rfl⟩:=rx;obtain ⟨t',rfl⟩:=ry;exact rule i j t t' s _ _ hc ⟨.int (g i j),H,I.tok _,⟨_,rfl⟩,q⟩
theorem avl{f:Value->Value->Sem Value}{g:Int->Int->Int}
  (rule:∀ (i j:Int) (t u:Tok) (s:Shared) (Q:Value->Shared->Prop) (E:Value->Shared->Prop),Q (.int (g i j) s.toks) { s with toks:=s.toks+1 }->wpAny (model X.prog X.w) X.A (f (.int i t) (.int j u)) Q E s) :
  OpR X f (rI0 λi j=>.int (g i j)):=by
 intro pins s σ H x y v u Q I rx ry h
 obtain ⟨i,j,rfl,rfl,q⟩:=h;obtain ⟨t,rfl⟩:=rx;obtain ⟨t',rfl⟩:=ry;exact rule i j t t' s _ _ ⟨.int (g i j),H,I.tok _,⟨_,rfl⟩,q⟩
theorem au5{f:Value->Value->Sem Value}{g:Int->Int->Bool}
  (rule:∀ (i j:Int) (t u:Tok) (s:Shared) (Q:Value->Shared->Prop) (E:Value->Shared->Prop),Q (.bool (g i j)) s->wpAny (model X.prog X.w) X.A (f (.int i t) (.int j u)) Q E s) :
  OpR X f (rI0 λi j=>.bl (g i j)):=by
 intro pins s σ H x y v u Q I rx ry h
 obtain ⟨i,j,rfl,rfl,q⟩:=h;obtain ⟨t,rfl⟩:=rx;obtain ⟨t',rfl⟩:=ry;exact rule i j t t' s _ _ ⟨.bl (g i j),H,I,rfl,q⟩
def avm(i j:Int):Prop:=0<j/\j<1073741824
def avn(i j:Int):Prop:=0<=j/\j<=1000000/\i.natAbs<2 ^ 64
def CMul(i j:Int):Prop:=(-(2 ^ 64)<i/\i<2 ^ 64)\/(-(2 ^ 64)<j/\j<2 ^ 64)
theorem CMul.ok{i j:Int}(h:CMul i j):IntMulOk i j:=by
 rcases h with ⟨h1,h2⟩ | ⟨h1,h2⟩
 ·exact .of_left (intBits_le_64 h1 h2)
 ·exact .of_right (intBits_le_64 h1 h2)
theorem apc:OpR X (binaryOp .Add) (rI0 λi j=>.int (i+j)):=avl λ_ _ _ _ _ _ _ q=>add_int q
theorem apd:OpR X (binaryOp .Sub) (rI0 λi j=>.int (i - j)):=avl λ_ _ _ _ _ _ _ q=>sub_int q
theorem ape:OpR X (binaryOp .Mult) (rI CMul λi j=>.int (i*j)):=opI λ_ _ _ _ _ _ _ hc q=>mul_int q hc.ok
theorem alp:OpR X (binaryOp .FloorDiv) (rI avm λi j=>.int (i / j)):=opI λi j _ _ _ _ _ hc q=>by
 have h1:(0:Int)<j:=hc.1;have h2:j<1073741824:=hc.2;exact floordiv_int (by omega) (by rw [Int.fdiv_eq_ediv_of_nonneg i (by omega)];exact q) (.inl (PyProof.noPylong_small (by omega)))
theorem apf:OpR X (binaryOp .Mod) (rI (λ_ j=>0<j) λi j=>.int (i % j)):=opI λi j _ _ _ _ _ hc q=>by
 have h1:(0:Int)<j:=hc;exact mod_int' (by omega) (by rw [Int.fmod_eq_emod_of_nonneg i (by omega)];exact q)
theorem apg:OpR X (binaryOp .Pow) (rI avn λi j=>.int (i ^ j.toNat)):=opI λ_ _ _ _ _ _ _ hc q=>pow_int_small hc.1 hc.2.1 hc.2.2 q
end
section
variable{X:Cx}{a b c:Expr}{ta tb tc:TE}{pos:Pos}
theorem a5w{pins:List (Addr × Obj)}{σ:St}{H:Hp}{s:Shared}{Q:VK}{k k':Bool}(I:Inv X pins σ H s)(q:Q (.bl k) H)(e:k=k'):EP X pins σ Q (.bool k') s:=by
 subst e;exact ⟨.bl k,H,I,rfl,q⟩
theorem a2l:OpR X (compareOp .Lt) (rI0 λi j=>.bl (decide (i<j))):=au5 λ_ _ _ _ _ _ _ q=>lt_int q
theorem ae5:OpR X (compareOp .Gt) (rI0 λi j=>.bl (decide (j<i))):=au5 λ_ _ _ _ _ _ _ q=>gt_int q
theorem alq:OpR X (compareOp .GtE) (rI0 λi j=>.bl (decide (j<=i))):=au5 λ_ _ _ _ _ _ _ q=>ge_int q
theorem nq:OpR X (compareOp .Lt) (λx y H Q=>∃ i j,x = .str i/\y = .str j/\Q (.bl (decide (i.cps.toList<j.cps.toList))) H):=by
 intro pins s σ H x y v u Q I rx ry h
 obtain ⟨i,j,rfl,rfl,q⟩:=h;obtain ⟨t,rfl⟩:=rx;obtain ⟨t',rfl⟩:=ry;exact lt_str (a5w I q rfl)
theorem ae6:OpR X (compareOp .In) (λx y H Q=>∃ i j,x = .str i/\y = .str j/\Q (.bl (!(Builtin.Str.occurrences j i 0 j.length 1).isEmpty)) H):=by
 intro pins s σ H x y v u Q I rx ry h
 obtain ⟨i,j,rfl,rfl,q⟩:=h;obtain ⟨t,rfl⟩:=rx;obtain ⟨t',rfl⟩:=ry;exact in_str (a5w I q rfl)
theorem aph:OpR X (compareOp .Is) (λx y H Q=>y = .non/\Q (.bl (decide (x = .non))) H):=by
 intro pins s σ H x y v u Q I rx ry h
 obtain ⟨rfl,q⟩:=h;cases ry
 refine is_none_gen (a5w I q ?_)
 cases x<;>first
  | (cases rx;rfl)
  | (obtain ⟨t,rfl⟩:=rx;rfl)
theorem a1n:OpR X (compareOp .IsNot) (λx y H Q=>y = .non/\Q (.bl (!decide (x = .non))) H):=by
 intro pins s σ H x y v u Q I rx ry h
 obtain ⟨rfl,q⟩:=h;cases ry
 refine isnot_none_gen (a5w I q ?_)
 cases x<;>first
  | (cases rx;rfl)
  | (obtain ⟨t,rfl⟩:=rx;rfl)
theorem OpR.or{f:Value->Value->Sem Value}{r r':R2}(h:OpR X f r)(h':OpR X f r'):OpR X f (λx y H Q=>r x y H Q\/r' x y H Q):=by
 intro pins s σ H x y v u Q I rx ry q
 rcases q with q | q
 ·exact h pins s σ H x y v u Q I rx ry q
 ·exact h' pins s σ H x y v u Q I rx ry q
theorem j8(b:Expr){op:CmpOp}(h:op≠.In:=by decide)(h2:op≠.NotIn:=by decide):behindInMarks op b=false:=by
 have e1:(op == CmpOp.In)=false:=by cases op<;>first | rfl | exact absurd rfl h
 have e2:(op == CmpOp.NotIn)=false:=by cases op<;>first | rfl | exact absurd rfl h2
 cases b<;>simp [behindInMarks,e1,e2]
theorem alr{op:CmpOp}{r:R2}(ho:OpR X (compareOp op) r)(ha:PE X a ta)(hb:PE X b tb)(hm:behindInMarks op b=false):PE X (.Compare a [op] [b] pos) (tOp r ta tb):=by
 intro pins s σ H Q I h
 exact wpAny_Compare1 (au4 ha hb I h λv u s2 x y H2 I2 rx ry q=>ho pins s2 σ H2 x y v u Q I2 rx ry q) hm
def api(t:TE):TT:=λσ H Q=>t σ H λx H'=>∃ k,x = .bl k/\Q k H'
theorem als{op:CmpOp}{r:R2}(ho:OpR X (compareOp op) r)(ha:PE X a ta)(hb:PE X b tb)(hm:behindInMarks op b=false):PT X (.Compare a [op] [b] pos) (api (tOp r ta tb)):=by
 intro pins s σ H Q I h
 refine wpAny_isTrue_Compare1 (thn (ha pins s σ H _ I h) λv s1 ⟨x,H1,I1,r1,q1⟩=>thn (hb pins s1 σ H1 _ I1 q1) λu s2 ⟨y,H2,I2,r2,q2⟩ =>
  thn (ho pins s2 σ H2 x y v u _ I2 r1 r2 q2) λc s3 ⟨z,H3,I3,r3,k,e,q3⟩=>?_) hm
 subst e;cases r3
 exact wpAny_truthy_bool ⟨H3,I3,q3⟩
def au6(K:PySem.W.Frag)(x:V)(H:Hp)(k:Bool):Prop :=
 match x with
 | .non=>k=false
 | .bl b=>k=b
 | .int i=>k=(i != 0)
 | .str y=>y.length<=sizeLine/\k=((y.length:Int) != 0)
 | .byt y=>y.size<=sizeLine/\k=((y.size:Int) != 0)
 | .ref p=>(∃ xs,SqL K H p xs/\k = !xs.isEmpty)\/(∃ xs,SqT K H p xs/\k = !xs.isEmpty)\/∃ kvs,H p=some (.dK kvs)/\k = !kvs.isEmpty
 | _=>False
theorem acg{κ:Type}{kvs:List (κ × V)}{vs:List (κ × Value)}(r:KV kvs vs):(!vs.isEmpty) = !kvs.isEmpty:=by
 cases r<;>rfl
theorem a5x{xs:List V}{its:List Value}(r:Vals xs its):(!its.toArray.isEmpty) = !xs.isEmpty:=by
 cases r<;>simp
theorem a4b:(sizeLine:Nat)<2 ^ 63:=by rw [sizeLine_eq];decide
theorem apj:awt X (λx H Q=>∃ k,au6 X.K x H k/\Q k H):=by
 intro pins s σ H x v Q I rx h
 obtain ⟨k,e,q⟩:=h;have hl:=a4b;have hs:sizeLine=16777216:=sizeLine_eq
 cases x with
 | non =>
  cases rx
  have e':k=false:=e;subst e';exact truthy_none ⟨H,I,q⟩
 | bl b =>
  cases rx
  have e':k=b:=e;subst e';exact wpAny_truthy_bool ⟨H,I,q⟩
 | int i =>
  obtain ⟨t,rfl⟩:=rx;have e':k=(i != 0):=e;subst e';exact PySem.P.truthy_int ⟨H,I,q⟩
 | str y =>
  obtain ⟨t,rfl⟩:=rx;obtain ⟨hy,e'⟩:y.length<=sizeLine/\k=((y.length:Int) != 0):=e;subst e';exact PySem.P.truthy_str (by omega) ⟨H,I.tok _,q⟩
 | byt y =>
  obtain ⟨t,rfl⟩:=rx;obtain ⟨hy,e'⟩:y.size<=sizeLine/\k=((y.size:Int) != 0):=e;subst e';exact PySem.W.truthy_bytes (by omega) ⟨H,I.tok _,q⟩
 | ref p =>
  cases rx
  have e':(∃ xs,SqL X.K H p xs/\k = !xs.isEmpty)\/(∃ xs,SqT X.K H p xs/\k = !xs.isEmpty)\/∃ kvs,H p=some (.dK kvs)/\k = !kvs.isEmpty:=e
  rcases e' with ⟨xs,hx,e'⟩ | ⟨xs,hx,e'⟩ | ⟨kvs,hx,e'⟩
  ·subst e';obtain ⟨its,r,pl,hz⟩:=I.list hx;have hlen:=r.length;exact wpAny_truthy_list pl.isList (by simp only [List.size_toArray];omega) ⟨H,I.tok _,by rw [a5x r];exact q⟩
  ·subst e';obtain ⟨its,r,pl,hz⟩:=I.tuple hx;have hlen:=r.length;exact truthy_tuple pl (by simp only [List.size_toArray];omega) ⟨H,I.tok _,by rw [a5x r];exact q⟩
  ·subst e';obtain ⟨hz,hS,vs,r,m⟩:kvs.length<=sizeLine/\(p == sysModules)=false/\∃ vs,KV kvs vs/\s.heap.DictOf (a3z X.prog X.w) p vs:=I.hok p _ hx;have hlen:kvs.length=vs.length:=Paired.length r;exact wpAny_truthy_dict hS m (by omega) ⟨H,I.tok _,by rw [acg r];exact q⟩
 | _=>exact (show False from e).elim
theorem ahx(ha:PE X a ta)(he:∀ whole,isTrue a X.env whole=(do let v <-whole;standAt a.pos;holding [v] (truthy v))) :
  PT X a (λσ H Q=>ta σ H λx H'=>∃ k,au6 X.K x H' k/\Q k H'):=by
 intro pins s σ H Q I h
 exact isTrue_plain (thn (ha pins s σ H _ I h) λv s1 ⟨x,H1,I1,r1,q1⟩=>apj pins s1 σ H1 x v Q I1 r1 q1) (he _)
theorem ach:OpR X (binaryOp .Add) (λx y H Q=>∃ i j,x = .str i/\y = .str j/\i.length+j.length<=sizeLine/\Q (.str (i++j)) H):=by
 intro pins s σ H x y v u Q I rx ry h
 obtain ⟨i,j,rfl,rfl,hz,q⟩:=h;obtain ⟨t,rfl⟩:=rx;obtain ⟨t',rfl⟩:=ry;exact add_str (λt' tk=>⟨.str (i++j),H,I.tok _,⟨_,rfl⟩,q⟩) hz
theorem vals1{x:V}{us:List Value}(r:Vals [x] us):∃ u,us=[u]/\RelV x u:=by
 cases r with
 | cons r1 r2=>cases r2;exact ⟨_,rfl,r1⟩
theorem vals2{x y:V}{us:List Value}(r:Vals [x,y] us):∃ u w',us=[u,w']/\RelV x u/\RelV y w':=by
 cases r with
 | cons r1 r2 =>
  cases r2 with
  | cons r3 r4=>cases r4;exact ⟨_,_,rfl,r1,r3⟩
theorem aar:CallR X (.builtin "abs") (λxs H Q=>∃ i,xs=[.int i]/\Q (.int (if i<0 then -i else i)) H):=by
 intro pins s σ H xs us Q I r h
 obtain ⟨i,rfl,q⟩:=h;obtain ⟨u,rfl,t,rfl⟩:=vals1 r;exact call_abs_int λu tk=>⟨.int (if i<0 then -i else i),H,I.tok _,⟨_,rfl⟩,q⟩
theorem ae7(hc:X.calm=true):CallR X (.builtin "max") (λxs H Q=>∃ i j,xs=[.int i, .int j]/\Q (.int (if j > i then j else i)) H):=by
 intro pins s σ H xs us Q I r h
 obtain ⟨i,j,rfl,q⟩:=h;obtain ⟨u,w',rfl,⟨t,rfl⟩,⟨t',rfl⟩⟩:=vals2 r;refine max_two_ints (I.ok.hd hc) λh' tk k=>⟨_,H,I.kept k,?_,q⟩
 by_cases hj:j > i
 ·rw [if_pos hj,if_pos hj];exact ⟨_,rfl⟩
 ·rw [if_neg hj,if_neg hj];exact ⟨_,rfl⟩
theorem ae8(hc:X.calm=true):CallR X (.builtin "min") (λxs H Q=>∃ i j,xs=[.int i, .int j]/\Q (.int (if j<i then j else i)) H):=by
 intro pins s σ H xs us Q I r h
 obtain ⟨i,j,rfl,q⟩:=h;obtain ⟨u,w',rfl,⟨t,rfl⟩,⟨t',rfl⟩⟩:=vals2 r;refine min_two_ints (I.ok.hd hc) λh' tk k=>⟨_,H,I.kept k,?_,q⟩
 by_cases hj:j<i
 ·rw [if_pos hj,if_pos hj];exact ⟨_,rfl⟩
 ·rw [if_neg hj,if_neg hj];exact ⟨_,rfl⟩
theorem a4c:CallR X (.type "int") (λxs H Q=>(∃ i,xs=[.int i]/\Q (.int i) H)\/∃ k,xs=[.bl k]/\Q (.int (if k then 1 else 0)) H):=by
 intro pins s σ H xs us Q I r h
 rcases h with ⟨i,rfl,q⟩ | ⟨k,rfl,q⟩
 ·obtain ⟨u,rfl,t,rfl⟩:=vals1 r;exact call_int_int ⟨.int i,H,I,⟨_,rfl⟩,q⟩
 ·obtain ⟨u,rfl,r1⟩:=vals1 r;cases r1
  exact call_int_bool ⟨.int (if k then 1 else 0),H,I.tok _,⟨_,rfl⟩,q⟩
end
structure ObjM (h:Heap) (x dx C:Addr) (mA:Str->Option Value):Prop where
 obj:h.get? x=some (PySem.W.instObj C dx)
 ns:h.Ns1 dx mA
 ne:dx≠x
theorem ae9{h:Heap}{dx:Addr}{mA:Str->Option Value}(n:h.Ns1 dx mA):∃ od,h.get? dx=some od/\∀ name,PySem.W.lookIn name od=some (mA name):=by
 obtain ⟨o,es,ep,ho,hd,hk,_,hm⟩:=n;refine ⟨o,ho,λname=>?_⟩;have e:=hm name;unfold nsFind findBy at e;rw [<-Array.find?_toList] at e;unfold PySem.W.lookIn;rw [hd];dsimp only
 split
 ·rename_i y q;rw [q] at e;exact congrArg some e
 ·rename_i q;rw [q] at e;have a:es.toList.any (·.refKey)=false:=by
   rw [List.any_eq_false]
   intro y hy
   obtain ⟨z,t,hkey⟩:=hk y (Array.mem_toList_iff.mp hy);simp [DictEntry.refKey,hkey]
  have a':¬ es.toList.any (·.refKey)=true:=by rw [a];exact Bool.false_ne_true
  rw [if_neg a'];exact congrArg some e
theorem ObjM.look{h:Heap}{x dx C:Addr}{mA:Str->Option Value}(I:ObjM h x dx C mA):∃ od,PySem.W.InstAt h x (PySem.W.instObj C dx) C (some od)/\∀ name,PySem.W.lookIn name od=some (mA name) :=
 let ⟨od,ho,hl⟩:=ae9 I.ns
 ⟨od,⟨I.obj,rfl,rfl,ho⟩,hl⟩
section
variable{P:Program}{w:World}{H H':Hp}{h h':Heap}{a C dx:Addr}{fs fs':List (Str × V)}
theorem alu(hok:HOk P w H h)(e:H a=some (.ins C dx fs)):∃ mA,ObjM h a dx C mA/\(∀ f,RelO (fs.lookup f) (mA f))/\PySem.Within mA (fs.map (·.1))/\fs.length<=1000/\H dx=some (.own a):=by
 obtain ⟨d,z,ne,ob,mA,n,r,q⟩:=(show ObjOk P w H h a (.ins C dx fs) from hok a _ e)
 exact ⟨mA,⟨ob,n,ne⟩,r,q,z,d⟩
end
structure Cls (K:PySem.W.Frag) (C:Addr):Prop where
 pg:PySem.W.plainGet K C Str.empty=true
 hd:PySem.W.hasDictIn K C=true
 po:PySem.W.plainOver K C=true
 sa:PySem.W.findIn K (.ref C) "__setattr__" = some (some (.builtin "object.__setattr__"))
theorem Cls.get{K:PySem.W.Frag}{C:Addr}(c:Cls K C)(f:Str):PySem.W.plainGet K C f=true:=c.pg
section
variable{X:Cx}{pins:List (Addr × Obj)}{σ:St}{H:Hp}{s:Shared}{A:Around}{E:Value->Shared->Prop}{Q:Value->Shared->Prop}{c:Value}{b:Bool}
inductive TyOf (K:PySem.W.Frag) (H:Hp):V->Value->Prop where
 | non:TyOf K H .non (.type "NoneType")
 | bl (x:Bool):TyOf K H (.bl x) (.type "bool")
 | int (i:Int):TyOf K H (.int i) (.type "int")
 | str (x:Str):TyOf K H (.str x) (.type "str")
 | flt (x:UInt64):TyOf K H (.flt x) (.type "float")
 | lst {a:Addr} {xs:List V} (e:H a=some (.lst xs)):TyOf K H (.ref a) (.type "list")
 | frz {a:Addr} {o:Obj} {xs:List V} (e:H a=some (.frz o (.lst xs))):TyOf K H (.ref a) (.type "list")
 | tup {a:Addr} {xs:List V} (e:H a=some (.tup xs)):TyOf K H (.ref a) (.type "tuple")
 | dK {a:Addr} {kvs:List (Key × V)} (e:H a=some (.dK kvs)):TyOf K H (.ref a) (.type "dict")
 | dT {a:Addr} {kvs:List (List Key × V)} (e:H a=some (.dT kvs)):TyOf K H (.ref a) (.type "dict")
 | ins {a C dx:Addr} {fs:List (Str × V)} (e:H a=some (.ins C dx fs)) (cl:Cls K C) (ha:PySem.W.findIn K (.ref C) "__class__" = some (some (.builtin "object.__class__")))
   (hn:PySem.W.specialIn K (.builtin "object.__class__") "__get__" = some (some (.builtin "getset_descriptor.__get__"))) (htk:PySem.W.takesIn K (.builtin "object.__class__")=some true)
   (hm:PySem.W.mroIn K C (.type "object")=some true):TyOf K H (.ref a) (.ref C)
theorem aea{x:V}{u t:Value}(I:Inv X pins σ H s)(rx:RelV x u)(ty:TyOf X.K H x t)(e:PySem.W.kitOne X.K t c=some b)(h:∀ tk,Q (.bool b) { s with toks:=tk }) :
  wpAny (model X.prog X.w) A (call (.builtin "isinstance") [u,c]) Q E s:=by
 cases ty with
 | non=>cases (show u=Value.none from rx);exact PySem.W.kia_one PySem.W.kitx_none I.kIn True.intro e (λz=>nomatch z) h
 | bl y=>cases (show u=Value.bool y from rx);exact PySem.W.kia_one PySem.W.kitx_bool I.kIn True.intro e (λz=>nomatch z) h
 | int i=>obtain ⟨t,q⟩:=(show ∃ t,u=Value.int i t from rx);cases q;exact PySem.W.kia_one PySem.W.kitx_int I.kIn True.intro e (λz=>nomatch z) h
 | str y=>obtain ⟨t,q⟩:=(show ∃ t,u=Value.str y t from rx);cases q;exact PySem.W.kia_one PySem.W.kitx_str I.kIn True.intro e (λz=>nomatch z) h
 | flt y=>obtain ⟨t,q⟩:=(show ∃ t,u=Value.float y t from rx);cases q;exact PySem.W.kia_one PySem.W.kitx_float I.kIn True.intro e (λz=>nomatch z) h
 | @lst a xs ea =>
  cases (show u=Value.ref a from rx)
  obtain ⟨_,_,n,_,h1⟩:=(show ObjOk X.prog X.w H s.heap a (.lst xs) from I.hok a _ ea)
  exact PySem.W.kia_one PySem.W.kitx_list I.kIn ⟨_,h1,rfl⟩ e (λz=>nomatch z) h
 | @frz a ob xs ea =>
  cases (show u=Value.ref a from rx)
  obtain ⟨_,_,_,n,_,h1⟩:=(show ObjOk X.prog X.w H s.heap a (.frz ob (.lst xs)) from I.hok a _ ea)
  exact PySem.W.kia_one PySem.W.kitx_list I.kIn ⟨_,h1,rfl⟩ e (λz=>nomatch z) h
 | @tup a xs ea =>
  cases (show u=Value.ref a from rx)
  obtain ⟨_,_,_,p⟩:=(show ObjOk X.prog X.w H s.heap a (.tup xs) from I.hok a _ ea)
  obtain ⟨o,h1,h2,_⟩:=p;exact PySem.W.kia_one PySem.W.kitx_tuple I.kIn ⟨o,h1,h2⟩ e (λz=>nomatch z) h
 | @dK a kvs ea =>
  cases (show u=Value.ref a from rx)
  obtain ⟨_,_,vs,_,p⟩:=(show ObjOk X.prog X.w H s.heap a (.dK kvs) from I.hok a _ ea)
  obtain ⟨o,es,ep,h1,h2,_⟩:=p;exact PySem.W.kia_one PySem.W.kitx_dict I.kIn ⟨o,h1,h2.1⟩ e (λz=>nomatch z) h
 | @dT a kvs ea =>
  cases (show u=Value.ref a from rx)
  obtain ⟨_,_,xs,_,o,es,ep,h1,h2,_⟩:=(show ObjOk X.prog X.w H s.heap a (.dT kvs) from I.hok a _ ea)
  exact PySem.W.kia_one PySem.W.kitx_dict I.kIn ⟨o,h1,h2.1⟩ e (λz=>nomatch z) h
 | @ins a C dx fs ea cl ha hn htk hm =>
  cases (show u=Value.ref a from rx)
  obtain ⟨mA,O,_⟩:=alu I.hok ea;obtain ⟨od,J,_⟩:=O.look;exact PySem.W.kia_one (PySem.W.kitx_own (cl.get _) cl.hd ha hn htk hm) I.kIn J e (λz=>nomatch z) h
end
structure Room (k:Nat) (A:Around):Prop where
 hd:A.handled=none
 dp:A.depth+3*k+5<recursionLimit
 un:A.units+16*k+200<cLine
 gd:A.guards=some []
theorem Room.mono{j k:Nat}{A:Around}(r:Room k A)(h:j<=k):Room j A:=⟨r.hd,by have:=r.dp;omega,by have:=r.un;omega,r.gd⟩
theorem Room.deeper{k:Nat}{A:Around}(r:Room (k+1) A)(env:Env):Room k (A.deeper env) :=
 ⟨r.hd,by have:=r.dp;show A.depth+1+3*k+5<_;omega,by have:=r.un;show A.units+3+16*k+200<_;omega,r.gd⟩
theorem Room.depth{k:Nat}{A:Around}(r:Room k A):A.depth<recursionLimit:=by have:=r.dp;omega
theorem Room.units{k:Nat}{A:Around}(r:Room k A):A.units+64<cLine:=by have:=r.un;omega
def avo:TA:=λ_ H Q=>Q [] H
def au7(ta:TE)(tr:TA):TA:=λσ H Q=>ta σ H λx H1=>tr σ H1 λxs H2=>Q (x::xs) H2
section
variable{X:Cx}{e:Expr}{es:List Expr}{te:TE}{t:TA}{pos:Pos}
theorem a3d:PA X [] avo:=λ_ _ _ _ H Q I h=>Calls.spliced_nil ⟨[],H,I, .nil,h⟩
theorem a00(ha:PE X e te)(hr:PA X es t)(hs:starEach (e::es) X.env=(false,eval e X.env)::starEach es X.env:=by rfl):PA X (e::es) (au7 te t):=by
 intro pos pins s σ H Q I h
 rw [hs];show wpAny _ _ (spliced ((false,eval e X.env)::backTo pos (starEach es X.env))) _ _ s;refine Calls.spliced_cons (thn (ha pins s σ H _ I h) λu s1 ⟨x,H1,I1,r1,q1⟩=>?_);exact thn (hr pos pins s1 σ H1 _ I1 q1) λus s2 ⟨xs,H2,I2,r2,q2⟩=>⟨x::xs,H2,I2, .cons r1 r2,q2⟩
def awu(t:TA):TE:=λσ H Q=>t σ H λxs H1=>xs.length<=sizeLine/\∀ p,H1 p=none->Q (.ref p) (upd H1 p (.tup xs))
def awv(t:TA):TE:=λσ H Q=>t σ H λxs H1=>xs.length<=sizeLine/\∀ p,H1 p=none->Q (.ref p) (upd H1 p (.lst xs))
theorem apk{x1}(h:PA X es t):PE X (.Tuple es x1 pos) (awu t):=by
 intro pins s σ H Q I hq
 refine wpAny_Tuple_spliced (thn (h pos pins s σ H _ I hq) λus s1 ⟨xs,H1,I1,r,z,q⟩=>⟨by rw [<-r.length];exact z,?_⟩)
 have hf:H1 s1.heap.objs.size=none:=I1.hok.fresh (Nat.le_refl _);refine ⟨.ref s1.heap.objs.size,upd H1 s1.heap.objs.size (.tup xs),I1.laid (t':=s1.toks) (λb u e=>Heap.get?_push_of_some _ e) (Nat.le_refl _) ?_,rfl,q _ hf⟩;exact ⟨z,us,r,⟨_,Heap.get?_push_size _ rfl,rfl,_,rfl⟩⟩
theorem apl(h:PA X es t):PE X (.List es pos) (awv t):=by
 intro pins s σ H Q I hq
 refine wpAny_List_spliced (thn (h pos pins s σ H _ I hq) λus s1 ⟨xs,H1,I1,r,z,q⟩=>⟨by rw [<-r.length];exact z,?_⟩)
 have hf:H1 s1.heap.objs.size=none:=I1.hok.fresh (Nat.le_refl _);refine ⟨.ref s1.heap.objs.size,upd H1 s1.heap.objs.size (.lst xs),I1.laid (t':=s1.toks) (λb u e=>Heap.get?_push_of_some _ e) (Nat.le_refl _) ?_,rfl,q _ hf⟩;exact ⟨z,us,0,r,Heap.get?_push_size _ rfl⟩
end
abbrev Sp:=List V->Hp->VK->XK->Prop
abbrev CXT:=List Env->Hp->Shared->XK->Value->Shared->Prop
structure Env0 (P:Program) (w:World) (K:PySem.W.Frag) (mg:Str->Option Value) (base:Heap) (A:Around) (outer:List Env) (s:Shared) (H:Hp):Prop where
 frames:A.frames=some outer
 mod:Mod K mg base
 bs:∀ b o,base.get? b=some o->s.heap.get? b=some o/\H b=none
 bsz:base.objs.size<=s.heap.objs.size
 funs:s.heap.FunFrames base outer
 frf:∀ b∈frs outer,H b=none
 hok:HOk P w H s.heap
 bare:AllBare s.gens
def CE(outer:List Env)(P:Program)(w:World)(H:Hp)(s:Shared)(Q:VK)(u:Value)(s':Shared):Prop :=
 ∃ v H',s'.os=s.os/\AllBare s'.gens/\Un (frs outer) [] H H' s.heap s'.heap/\HOk P w H' s'.heap/\RelV v u/\Q v H'
def CR(CX:CXT)(outer:List Env)(P:Program)(w:World)(H:Hp)(s:Shared)(Q:VK)(E:XK)(r:Result)(s':Shared):Prop :=
 match r with
 | .ok (.ret u)=>CE outer P w H s Q u s'
 | .ok _=>False
 | .error e=>CX outer H s E e s'
structure FnOk (P:Program) (w:World) (K:PySem.W.Frag) (mg:Str->Option Value) (base:Heap) (CX:CXT) (k:Nat) (f:Addr) (fd:FuncData) (ps:List Str) (sp:Sp):Prop where
 len:∀ vs H Q E,sp vs H Q E->vs.length=ps.length
 run:∀ (A:Around) (outer:List Env) (s:Shared) (H:Hp) (args:Args) (us:List Value) (vs:List V) (Q:VK) (E:XK),Room k A->Env0 P w K mg base A outer s H->BindsTo s fd args (ps.zip us)->Vals vs us->sp vs H Q E->
  codeAny (model P w) A (.call (.ref f) args) (CR CX outer P w H s Q E) s
theorem FnOk.imp{P:Program}{w:World}{K:PySem.W.Frag}{mg:Str->Option Value}{base:Heap}{CX:CXT}{k:Nat}{f:Addr}{fd:FuncData}{ps:List Str}{sp sp':Sp}(F:FnOk P w K mg base CX k f fd ps sp)
  (h:∀ vs H Q E,sp' vs H Q E->sp vs H Q E):FnOk P w K mg base CX k f fd ps sp' :=
 ⟨λvs H Q E q=>F.len vs H Q E (h _ _ _ _ q),λA outer s H args us vs Q E hr he hb hv hs=>F.run A outer s H args us vs Q E hr he hb hv (h _ _ _ _ hs)⟩
section
variable{X:Cx}{pins:List (Addr × Obj)}{σ:St}{H:Hp}{s s':Shared}
theorem Inv.env0(I:Inv X pins σ H s):Env0 X.prog X.w X.K X.mg X.base X.A X.stack s H :=
 ⟨I.ok.frames,I.ok.mod,I.bs,Nat.le_trans I.ok.bsz I.sz,I.stack,I.stkFree,I.hok,I.bare⟩
theorem Inv.after{Q:VK}{u:Value}(I:Inv X pins σ H s)(h:CE X.stack X.prog X.w H s Q u s'):EP X pins σ Q u s':=by
 obtain ⟨v,H',os,bare,un,hok,r,q⟩:=h;obtain ⟨hh,g,d,t,os'⟩:=s';obtain rfl:os'=s.os:=os;exact ⟨v,H',I.call (h':=hh) (g':=g) (d':=d) (t':=t) (ch:=[]) un hok bare (λb z=>absurd z (by simp)),r,q⟩
end
def apm(sp:Sp)(dvs:List V)(E:XK)(t:TA):TE:=λσ H Q=>t σ H λvs H1=>sp (vs++dvs) H1 Q E
def Binds(K:PySem.W.Frag)(fd:FuncData)(ps:List Str)(ds:List Value):Prop :=
 ∀ (s:Shared) (us:List Value),K.In s.heap->(us++ds).length=ps.length->BindsTo s fd ⟨us,[]⟩ (ps.zip (us++ds))
theorem Binds.all{K:PySem.W.Frag}{fd:FuncData}{ps:List Str}(h:∀ us:List Value,us.length=ps.length->bindArgs fd ⟨us,[]⟩=pure (ps.zip us)):Binds K fd ps []:=λs us _ hl=>by
 rw [List.append_nil] at hl ⊢;exact .of_eq (h us hl)
def aas(CX:CXT)(X:Cx)(E:XK):Prop:=∀ (pins:List (Addr × Obj)) (σ:St) (H:Hp) (s:Shared) (e:Value) (s':Shared),Inv X pins σ H s->CX X.stack H s E e s'->X.xe e s'
section
variable{X:Cx}{CX:CXT}{k:Nat}{f C:Addr}{fd:FuncData}{ps:List Str}{sp:Sp}{dvs:List V}{ds:List Value}{E:XK}{x m:Str}{p pos apos:Pos}{e o:Expr}{es:List Expr}{ta:TE}{t:TA}
theorem ake{pins:List (Addr × Obj)}{σ:St}{H:Hp}{s:Shared}{Q:VK}{us:List Value}{vs:List V}(F:FnOk X.prog X.w X.K X.mg X.base CX k f fd ps sp)(hr:Room k X.A)(hb:Binds X.K fd ps ds)(hd:Vals dvs ds)(hx:aas CX X E)
  (I:Inv X pins σ H s) (r:Vals vs us) (h:sp (vs++dvs) H Q E):wpAny (model X.prog X.w) X.A (call (.ref f) us) (EP X pins σ Q) X.xe s:=by
 have r2:Vals (vs++dvs) (us++ds):=r.append hd;have hl:(us++ds).length=ps.length:=by rw [<-r2.length];exact F.len _ _ _ _ h
 refine wpAny_call (codeAny_mono (F.run X.A X.stack s H ⟨us,[]⟩ (us++ds) (vs++dvs) Q E hr I.env0 (hb s us I.kIn hl) r2 h) λr s' hq=>?_)
 cases r with
 | error e=>exact hx pins σ H s e s' I hq
 | ok fl =>
  cases fl with
  | ret u=>exact I.after hq
  | next=>exact False.elim hq
  | brk=>exact False.elim hq
  | cont=>exact False.elim hq
theorem alv(F:FnOk X.prog X.w X.K X.mg X.base CX k f fd ps sp)(hr:Room k X.A)(hg:Gl X x)(hm:X.mg x=some (.ref f))(hk:PySem.W.keepIn X.K (.ref f)=true)(hb:Binds X.K fd ps ds)(hd:Vals dvs ds)(hx:aas CX X E)
  (ha:PA X (e::es) t) (hdb:(x == ("__debug__" : Str))=false:=by decide) (he:starEach (e::es) X.env=(false,eval e X.env)::starEach es X.env:=by rfl) (hpl:(backTo pos (starEach es X.env)).any (·.1)=false:=by rfl) :
  PE X (.Call (.Name x p) (e::es) [] pos) (apm sp dvs E t):=by
 intro pins s σ H Q I h
 refine wpAny_Call_Name_kw (ae0 I hg hm ?_ hdb);refine PySem.W.callWith_K (h₀:=X.base) I.ok.mod.kin hk (thn (ha pos pins s σ H _ I h) λus s1 ⟨vs,H1,I1,r,q⟩=>⟨I1.kIn,?_⟩) he hpl;exact ake F hr hb hd hx I1 r q
theorem ahy(F:FnOk X.prog X.w X.K X.mg X.base CX k f fd ps sp)(hr:Room k X.A)(hg:Gl X x)(hm:X.mg x=some (.ref f))(hk:PySem.W.keepIn X.K (.ref f)=true)(hb:Binds X.K fd ps ds)(hd:Vals dvs ds)(hx:aas CX X E)
  (hdb:(x == ("__debug__" : Str))=false:=by decide):PE X (.Call (.Name x p) [] [] pos) (apm sp dvs E avo):=by
 intro pins s σ H Q I h
 refine wpAny_Call_Name_kw (ae0 I hg hm ?_ hdb);exact PySem.W.callWith_K0 I.kIn hk (ake (us:=[]) F hr hb hd hx I .nil h)
end
structure FnScope (N P:List Str) (sc:Scope):Prop where
 kind:sc.kind = .function
 co:sc.isCoroutine=false
 gen:sc.isGenerator=false
 nd:N.Nodup
 pre:N.take P.length=P
 par:∀ x∈P,sc.names.lookup x=some .local\/sc.names.lookup x=some .cell
 nofree:∀ y∈sc.names,y.2≠.free
theorem a8d{kindOf:Str->Option NameKind}{x:Str}:∀ {binds:List (Str × Value)} {m:Str->Option Value},(∀ v,(x,v) ∉ binds)->bindL kindOf binds m x=m x
 | [],_,_=>rfl
 | (n,v)::r,m,h=>by
  unfold bindL;rw [a8d λw hw=>h w (List.mem_cons_of_mem _ hw)]
  split
  ·have:x≠n:=by rintro rfl;exact h v List.mem_cons_self
   simp [this]
  ·rfl
theorem a8e{kindOf:Str->Option NameKind}{x:Str}:∀ {binds:List (Str × Value)} {m:Str->Option Value},(∀ v,(x,v) ∉ binds)->bindC kindOf binds m x=m x
 | [],_,_=>rfl
 | (n,v)::r,m,h=>by
  unfold bindC;rw [a8e λw hw=>h w (List.mem_cons_of_mem _ hw)]
  split
  ·rfl
  ·have:x≠n:=by rintro rfl;exact h v List.mem_cons_self
   simp [this]
theorem a8f{kindOf:Str->Option NameKind}{x:Str}{v:Value}:∀ {P:List Str} {vs:List Value} {i:Nat} {m:Str->Option Value},P.Nodup->P[i]? = some x->vs[i]? = some v->kindOf x=some .local->
  bindL kindOf (P.zip vs) m x=some v
 | [],_,_,_,_,h,_,_=>by simp at h
 | _::_,[],_,_,_,_,h,_=>by simp at h
 | p::P,w::vs,0,m,nd,h1,h2,hk=>by
  simp at h1 h2;subst h1;subst h2
  show bindL kindOf ((p,w)::P.zip vs) m p=_;unfold bindL;rw [a8d λv hv=>(List.nodup_cons.mp nd).1 (List.of_mem_zip hv).1,if_pos hk];simp
 | p::P,w::vs,i+1,m,nd,h1,h2,hk=>by
  show bindL kindOf ((p,w)::P.zip vs) m x=_;unfold bindL;exact a8f (i:=i) (List.nodup_cons.mp nd).2 (by simpa using h1) (by simpa using h2) hk
theorem a8g{kindOf:Str->Option NameKind}{x:Str}{v:Value}:∀ {P:List Str} {vs:List Value} {i:Nat} {m:Str->Option Value},P.Nodup->P[i]? = some x->vs[i]? = some v->kindOf x≠some .local->
  bindC kindOf (P.zip vs) m x=some v
 | [],_,_,_,_,h,_,_=>by simp at h
 | _::_,[],_,_,_,_,h,_=>by simp at h
 | p::P,w::vs,0,m,nd,h1,h2,hk=>by
  simp at h1 h2;subst h1;subst h2
  show bindC kindOf ((p,w)::P.zip vs) m p=_;unfold bindC;rw [a8e λv hv=>(List.nodup_cons.mp nd).1 (List.of_mem_zip hv).1,if_neg hk];simp
 | p::P,w::vs,i+1,m,nd,h1,h2,hk=>by
  show bindC kindOf ((p,w)::P.zip vs) m x=_;unfold bindC;exact a8g (i:=i) (List.nodup_cons.mp nd).2 (by simpa using h1) (by simpa using h2) hk
def start(N:List Str)(vs:List V):St:=vs.map some++List.replicate (N.length - vs.length) none
def a0w(CX:CXT)(P:Program)(w:World)(K:PySem.W.Frag)(mg:Str->Option Value)(base:Heap)(N:List Str)(qual:Str)(scope:Scope)(f:Addr)(cd:Value)(A:Around)(outer:List Env)(s:Shared)(H:Hp)(E:XK):Cx where
 prog:=P
 w:=w
 K:=K
 mg:=mg
 base:=base
 A:=A.deeper (envOfC qual scope s.heap.objs.size f cd)
 N:=N
 s₀:=s
 H₀:=H
 env:=envOfC qual scope s.heap.objs.size f cd
 outer:=outer
 stack:=envOfC qual scope s.heap.objs.size f cd::outer
 ex:=[]
 calm:=true
 fn:=λ_=>true
 pn:=[]
 xe:=λe s'=>wpAny (model P w) (A.deeper (envOfC qual scope s.heap.objs.size f cd)) (leaving (envOfC qual scope s.heap.objs.size f cd) e) (λ_ s''=>CX outer H s E e s'') (λe' s''=>CX outer H s E e' s'') s'
theorem aat{sc:Scope}{n:Nat}{x:Str}(h:sc.names.lookup x=some .cell):∃ c,(cellsFrom n sc.names []).lookup x=some c:=by
 have q:=PySem.W.cellsFrom_some sc.names n [] (.inl h);exact Option.isSome_iff_exists.mp q
theorem aeb{CX:CXT}{P:Program}{w:World}{K:PySem.W.Frag}{mg:Str->Option Value}{base:Heap}{N ps:List Str}{qual:Str}{scope:Scope}{f:Addr}{cd:Value}{A:Around}{outer:List Env}{s s1:Shared}{H:Hp}{E:XK}{us:List Value}{vs:List V}
  (S:FnScope N ps scope) (hd:A.handled=none) (e0:Env0 P w K mg base A outer s H) (hl:vs.length=ps.length) (r:Vals vs us)
  (x:InCallC s s.heap.objs.size (bindL (envOfC qual scope s.heap.objs.size f cd).kindOf (ps.zip us) λ_=>none) (cellsFrom (s.heap.objs.size+1) scope.names []) (bindC (envOfC qual scope s.heap.objs.size f cd).kindOf (ps.zip us) λ_=>none) s1) :
  Inv (a0w CX P w K mg base N qual scope f cd A outer s H E) [] (start N vs) H s1:=by
 have hpl:ps.length<=N.length:=by have:=congrArg List.length S.pre;rw [List.length_take] at this;omega
 obtain ⟨h1,tk,rfl,hk⟩:=x.done;have noA:∀ b:Addr,b ∉ (a0w CX P w K mg base N qual scope f cd A outer s H E).ex:=λb z=>absurd (show b∈([]:List Addr) from z) (by simp)
 refine ⟨⟨e0.mod,S.kind,rfl,rfl,Nat.le_refl _,λy z c h1 h2=>?_,λy hy=>?_,λy c _ h=>?_,λ_=>hd,Around.frames_deeper e0.frames, .inr ⟨rfl,rfl⟩,λb z=>absurd z (noA b),e0.bs,e0.bsz,λb _ _=>noA b,λb z=>absurd z (noA b),e0.funs,e0.frf⟩,
  rfl,e0.bare,Un.kept hk,⟨_,x.toInCall.ns,λi y v h1 h2 h3=>?_⟩,λy c h=>⟨_,x.cell y c h⟩,e0.hok.fresh (Nat.le_refl _),λy c h=>?_,λp hp=>absurd (show p∈([]:List (Addr × Obj)) from hp) (by simp),e0.hok.kept hk,?_⟩
 ·exact name_of_addr x.apart (PySem.mem_of_lookup h1) (PySem.mem_of_lookup h2)
 ·have hy:scope.names.lookup y=some .cell\/scope.names.lookup y=some .free:=hy
  rcases hy with hy | hy
  ·exact aat hy
  ·exact absurd rfl (S.nofree _ (PySem.mem_of_lookup hy))
 ·exact Nat.le_of_lt (x.above y c (PySem.mem_of_lookup h))
 ·have hi:i<vs.length:=by
   unfold start at h2
   by_cases hi:i<vs.length
   ·exact hi
   ·rw [List.getElem?_append_right (by simpa using hi)] at h2
    rw [List.getElem?_replicate] at h2
    split at h2<;>cases h2
  have ha:vs[i]? = some v:=by
   unfold start at h2;rw [List.getElem?_append_left (by simpa using hi),List.getElem?_map] at h2
   cases e:vs[i]? with
   | none=>rw [e] at h2;cases h2
   | some a=>rw [e] at h2;cases h2;rfl
  obtain ⟨u,hu,rv⟩:=r.get ha;have hp:ps[i]? = some y:=by
   rw [<-S.pre,List.getElem?_take_of_lt (by omega)];exact h1
  have ndP:ps.Nodup:=by rw [<-S.pre];exact S.nd.sublist (List.take_sublist _ _)
  refine ⟨u,rv,?_⟩
  rcases S.par y (List.mem_of_getElem? hp) with k | k
  ·exact .inl ⟨k,a8f ndP hp hu k⟩
  ·obtain ⟨c,e⟩:=aat (n:=s.heap.objs.size+1) k;refine .inr ⟨.inl k,c,e,?_⟩;have q:=x.cell y c e;rw [a8g ndP hp hu (by show scope.names.lookup y≠_;rw [k];decide)] at q
   exact q
 ·exact e0.hok.fresh (Nat.le_of_lt (x.above y c (PySem.mem_of_lookup h)))
 ·unfold start;show _=N.length;rw [List.length_append,List.length_map,List.length_replicate];omega
theorem au8{CX:CXT}{P:Program}{w:World}{K:PySem.W.Frag}{mg:Str->Option Value}{base:Heap}{k:Nat}{f:Addr}{name qual:Str}{params:Arguments}{body:List Stmt}{scope:Scope}{dV kV doc pm cdv ct oc:Value}{an od:Option Addr}
  {osl:Array (Option Value)} {N ps:List Str} {sp:Sp} (lk:K.lookup f=some ⟨oc,od, .func (PySem.W.fnOf name qual params body scope dV kV doc pm an cdv ct),osl⟩) (hcd:PySem.W.codeIn K cdv qual=true) (S:FnScope N ps scope)
  (len:∀ vs H Q E,sp vs H Q E->vs.length=ps.length)
  (hbody:∀ (A:Around) (outer:List Env) (s:Shared) (H:Hp) (vs:List V) (Q:VK) (E:XK),Room k (A.deeper (envOfC qual scope s.heap.objs.size f cdv))->sp vs H Q E->
   ∃ t,PSs (a0w CX P w K mg base N qual scope f cdv A outer s H E) body t/\t { nx:=λ_ H'=>Q .non H',rt:=Q } (start N vs) H) :
  FnOk P w K mg base CX (k+1) f (PySem.W.fnOf name qual params body scope dV kV doc pm an cdv ct) ps sp:=by
 refine ⟨len,λA outer s H args us vs Q E hr e0 hb r hsp=>?_⟩;have hl:=len _ _ _ _ hsp;have KX:K.In s.heap:=e0.mod.kin.keeps λb o e=>(e0.bs b o e).1;have lim:s.heap.NoLimit:=e0.mod.nolimit.keeps λb o e=>(e0.bs b o e).1;have hkind:∀ y∈ps.zip us,scope.names.lookup y.1=some .local\/(scope.names.lookup y.1=some .cell/\((cellsFrom (s.heap.objs.size+1) scope.names []).lookup y.1).isSome=true):=λ⟨n,v⟩ hy=>by
  rcases S.par n (List.of_mem_zip hy).1 with q | q
  ·exact .inl q
  ·exact .inr ⟨q,PySem.W.cellsFrom_some _ _ _ (.inl q)⟩
 refine codeAny_call_function hr.depth (KX _ _ lk) rfl S.co S.gen rfl (PySem.W.codeRec_of KX hcd) (hb _ _ _ _ ?_);refine wpAny_newFunctionEnv_cells S.kind hkind λenv he s1 x=>?_;subst he;refine ⟨lim.keeps x.toInCall.keep,codeAny_func ?_⟩;obtain ⟨t,ht,hq⟩:=hbody A outer s H vs Q E (hr.deeper _) hsp;have I:Inv (a0w CX P w K mg base N qual scope f cdv A outer s H E) [] (start N vs) H s1:=aeb S hr.hd e0 hl r x;refine wpAny_mono (ht [] s1 (start N vs) H _ I hq) (λfl s' hs=>?_) λe s' hs=>hs;have fin:∀ {σ':St} {H':Hp} {v:V} {u:Value},Inv (a0w CX P w K mg base N qual scope f cdv A outer s H E) [] σ' H' s'->RelV v u->Q v H'->CE outer P w H s Q u s' :=
  λ{σ' H' v u} J rv q=>⟨v,H',J.os,J.bare,J.base,J.hok,rv,q⟩
 cases fl with
 | ret u =>
  obtain ⟨v,σ',H',J,rv,q⟩:=hs;exact fin J rv q
 | next =>
  obtain ⟨σ',H',J,q⟩:=hs;exact fin (v:=V.non) (u:=Value.none) J rfl q
 | brk =>
  obtain ⟨_,_,_,q⟩:=hs;exact False.elim q
 | cont =>
  obtain ⟨_,_,_,q⟩:=hs;exact False.elim q
section
variable{X:Cx}{x:Str}{p pos:Pos}{e:Expr}{es:List Expr}{t:TA}{id T:String}{r:List V->Hp->VK->Prop}
def tCB(r:List V->Hp->VK->Prop)(t:TA):TE:=λσ H Q=>t σ H λvs H1=>r vs H1 Q
theorem a3p(hc:CallR X (.builtin id) r)(hg:Gl X x)(hm:X.mg x=none)(hv:bootBuiltins x=some (.builtin id))(ha:PA X (e::es) t)(hn:x ≠ "__name__":=by decide)(hdb:(x == ("__debug__" : Str))=false:=by decide)
  (he:starEach (e::es) X.env=(false,eval e X.env)::starEach es X.env:=by rfl) (hpl:(backTo pos (starEach es X.env)).any (·.1)=false:=by rfl):PE X (.Call (.Name x p) (e::es) [] pos) (tCB r t):=by
 intro pins s σ H Q I h
 refine wpAny_Call_Name_kw (a4a I hg hm hv ?_ hn hdb);exact PyProof.Rows.callWith_builtin1 (thn (ha pos pins s σ H _ I h) λus s1 ⟨vs,H1,I1,r1,q1⟩=>hc pins s1 σ H1 vs us Q I1 r1 q1) he hpl
theorem a1s(hc:CallR X (.type T) r)(hg:Gl X x)(hm:X.mg x=none)(hv:bootBuiltins x=some (.type T))(ha:PA X (e::es) t)(hn:x ≠ "__name__":=by decide)(hdb:(x == ("__debug__" : Str))=false:=by decide)
  (he:starEach (e::es) X.env=(false,eval e X.env)::starEach es X.env:=by rfl) (hpl:(backTo pos (starEach es X.env)).any (·.1)=false:=by rfl):PE X (.Call (.Name x p) (e::es) [] pos) (tCB r t):=by
 intro pins s σ H Q I h
 refine wpAny_Call_Name_kw (a4a I hg hm hv ?_ hn hdb);exact PyProof.Rows.callWith_type1 (thn (ha pos pins s σ H _ I h) λus s1 ⟨vs,H1,I1,r1,q1⟩=>hc pins s1 σ H1 vs us Q I1 r1 q1) he hpl
end
end L2
namespace HT
open PySem PyProof.Rows
section
variable{prog:Program}{w:World}{A:Around}{E:Value->Shared->Prop}{s:Shared}
theorem alw{t b:Addr}{vs ws:List Value}{Q:Value->Shared->Prop}(ht:IsTup s.heap t vs.toArray)(hb:IsTup s.heap b ws.toArray)(hv:vs≠[])
  (h1:ws=[]->Q (.ref t) s) (h2:ws≠[]->Q (.ref s.heap.objs.size) { s with heap:=s.heap.push { cls:=.type "tuple",data:=.seq (vs++ws).toArray } })
  (hsz:vs.length+ws.length<=sizeLine):wpAny (model prog w) A (binaryOp .Add (.ref t) (.ref b)) Q E s:=by
 obtain ⟨⟨cls,dd,data,sl⟩,ho,hc,n,hd⟩:=id ht;obtain ⟨⟨cls2,dd2,data2,sl2⟩,ho2,hc2,n2,hd2⟩:=id hb;simp only at hc hd hc2 hd2;subst hc hd hc2 hd2;have e:vs.toArray++ws.toArray=(vs++ws).toArray:=by simp
 by_cases hw:ws=[]
 ·exact concat_meets ⟨_,ho,rfl⟩ ⟨_,ho2,rfl⟩ noFill_tuple_add seq_tuple_add PySem.F.slot_tuple_add PySem.F.entry_tuple_add (PySem.F.args_tuple_add_2 _ _)
   (tuple_addW1 t b vs.toArray ws.toArray n n2 dd dd2 sl sl2 (by simpa using hv) (by simp [hw])) ⟨ho,ho2,h1 hw⟩
 ·refine concat_meets ⟨_,ho,rfl⟩ ⟨_,ho2,rfl⟩ noFill_tuple_add seq_tuple_add PySem.F.slot_tuple_add PySem.F.entry_tuple_add (PySem.F.args_tuple_add_2 _ _)
   (tuple_addW2 t b vs.toArray ws.toArray n n2 dd dd2 sl sl2 (by simpa using hv) (by simpa using hw) (by rw [List.size_toArray,List.size_toArray];exact hsz)) ⟨ho,ho2,?_⟩
  rw [e];exact h2 hw
def sIx(n d:Nat):Option Int->Nat
 | none=>d
 | some v=>if v<0 then (v+(n:Int)).toNat else min v.toNat n
theorem a6l(n d:Nat):sIx n d none=d:=rfl
theorem a6m(n d k:Nat):sIx n d (some (k:Int))=min k n:=by
 show (if (k:Int)<0 then ((k:Int)+(n:Int)).toNat else min (k:Int).toNat n)=min k n
 rw [if_neg (by omega),Int.toNat_natCast]
theorem aec(n d:Nat)(hd:d<=n)(o:Option Int):sIx n d o<=n:=by
 cases o with
 | none=>exact hd
 | some v =>
  show (if v<0 then (v+(n:Int)).toNat else min v.toNat n)<=n
  by_cases hv:v<0
  ·rw [if_pos hv];omega
  ·rw [if_neg hv];exact Nat.min_le_right _ _
theorem aed(v:Int)(n d:Nat):(if v<0 then max (v+(n:Int)) 0 else min v (n:Int))=((sIx n d (some v):Nat):Int):=by
 show (if v<0 then max (v+(n:Int)) 0 else min v (n:Int))=(((if v<0 then (v+(n:Int)).toNat else min v.toNat n):Nat):Int)
 by_cases hv:v<0
 ·simp only [if_pos hv];omega
 ·simp only [if_neg hv];omega
theorem aci(lo hi:Option Int)(n:Nat):Builtin.Slice.sliceAdjust lo hi 1 (n:Int)=(((sIx n 0 lo:Nat):Int),((sIx n n hi:Nat):Int)):=by
 have h1:¬ ((1:Int)<0):=by omega
 unfold Builtin.Slice.sliceAdjust;simp only [h1,if_false];refine Prod.ext ?_ ?_
 ·cases lo with
  | none=>rfl
  | some v=>exact aed v n 0
 ·cases hi with
  | none=>rfl
  | some v=>exact aed v n n
theorem acj(i j:Nat):Builtin.Slice.slicePlaces (i:Int) (j:Int) 1=j - i:=by
 unfold Builtin.Slice.slicePlaces;have h1:(1:Int) > 0:=by omega
 simp only [h1,if_true,Int.ediv_one]
 split<;>omega
theorem a5y{v:Value}{o:Option Int}{Q:Option Int->Shared->Prop}(p:IsPart v o)(h:Q o s):wpAny (model prog w) A (Builtin.Slice.slicePartIndex v) Q E s:=by
 cases p with
 | none=>exact slicePart_none h
 | int i t=>exact slicePart_int h
theorem a0d{sl:Addr}{vl vu:Value}{lo hi:Option Int}{n:Nat}{Q:Int × Int × Nat->Shared->Prop}(hs:s.heap.IsSliceOf sl vl vu .none)(pl:IsPart vl lo)(pu:IsPart vu hi)
  (h:Q (((sIx n 0 lo:Nat):Int),1,sIx n n hi - sIx n 0 lo) s):wpAny (model prog w) A (Builtin.Slice.sliceApplied (.ref sl) (pure (n:Int))) Q E s:=by
 obtain ⟨os,hos,hcs,hds⟩:=id hs;unfold Builtin.Slice.sliceApplied Builtin.Slice.sliceFields;refine wpAny_bind (wpAny_bind (wpAny_field hos hds (x:=vl) rfl (wpAny_bind (wpAny_field hos hds (x:=vu) rfl (wpAny_bind (wpAny_field hos hds (x:=.none) rfl (wpAny_pure ?_)))))));refine wpAny_bind (slicePart_none ?_);show wpAny _ _ (if ((1:Int) == 0)=true then _ else _) _ _ s
 rw [if_neg (by decide)]
 refine wpAny_bind (a5y pl (wpAny_bind (a5y pu (wpAny_bind (wpAny_pure ?_)))));show wpAny _ _ (match Builtin.Slice.sliceAdjust lo hi 1 (n:Int) with | (lo,hi)=>pure (lo,(1:Int),Builtin.Slice.slicePlaces lo hi 1)) _ _ s
 rw [aci lo hi n];show wpAny _ _ (pure (((sIx n 0 lo:Nat):Int),(1:Int),Builtin.Slice.slicePlaces ((sIx n 0 lo:Nat):Int) ((sIx n n hi:Nat):Int) 1)) _ _ s;rw [acj];exact wpAny_pure h
theorem ahz(xs:Array Value)(i k:Nat):((List.range k).filterMap λ(m:Nat)=>xs[((i:Int)+(m:Int)*1).toNat]?).toArray=((xs.toList.drop i).take k).toArray:=by
 have e:(λ(m:Nat)=>xs[((i:Int)+(m:Int)*1).toNat]?)=λm=>xs[i+m]?:=by
  funext m
  have:((i:Int)+(m:Int)*1).toNat=i+m:=by omega
  rw [this]
 rw [e];have:=pick_run xs i k;rw [List.filterMap_map] at this;have e2:((λx=>xs[x]?) ∘ λx=>i+x)=λm=>xs[i+m]?:=rfl;rw [e2] at this;rw [this]
theorem a2m{t sl:Addr}{items:Array Value}{vl vu:Value}{lo hi:Option Int}{Q:Value->Shared->Prop}(ht:IsTup s.heap t items)(hs:s.heap.IsSliceOf sl vl vu .none)(pl:IsPart vl lo)(pu:IsPart vu hi)
  (hw:¬ (sIx items.size 0 lo=0/\sIx items.size items.size hi=items.size))
  (h:Q (.ref s.heap.objs.size) { s with heap:=s.heap.push { cls:=.type "tuple",data:=.seq ((items.toList.drop (sIx items.size 0 lo)).take (sIx items.size items.size hi - sIx items.size 0 lo)).toArray } })
  (hsz:items.size<=sizeLine):wpAny (model prog w) A (getItem (.ref t) (.ref sl)) Q E s:=by
 have htake:sizeOk (.seq ((items.toList.drop (sIx items.size 0 lo)).take (sIx items.size items.size hi - sIx items.size 0 lo)).toArray):=by
  show ((items.toList.drop (sIx items.size 0 lo)).take (sIx items.size items.size hi - sIx items.size 0 lo)).toArray.size<=sizeLine;rw [List.size_toArray,List.length_take,List.length_drop,Array.length_toList];omega
 have hj:sIx items.size items.size hi<=items.size:=aec _ _ (Nat.le_refl _) hi;obtain ⟨os,hos,hcs,hds⟩:=id hs;have hTs:s.TypeIs (.ref sl) "slice":=⟨os,hos,hcs⟩;unfold getItem
 try with_reducible refine wpAny_holding ?_
 first | refine wpAny_bind (wpAny_pure ?_) | skip
 refine wpAny_bind (wpAny_sequenceKey ht.typeIs (by decide) ?_)
 refine wpAny_bind (wpAny_callSpecial?_slot (name:=Str.ofString "__getitem__") ht.typeIs PyProof.Rows.slot_tuple_getitem
  (wpAny_call_entry PyProof.Rows.slot_tuple_getitem ht.typeIs entry_tuple_getitem ?_ (args_tuple_getitem _ _)))
 show wpAny _ _ (Builtin.Tuple.tupleItemsOf (.ref t)>>=_) _ _ s;refine wpAny_bind (tupleItemsOf_ ht ?_);refine wpAny_bind (wpAny_typeOf hTs ?_);rw [if_pos (by decide)]
 refine wpAny_bind (a0d hs pl pu ?_);have hno:¬ ((((sIx items.size 0 lo:Nat):Int) == 0 && (1:Int) == 1 && (sIx items.size items.size hi - sIx items.size 0 lo) == items.size)=true):=by
  intro q
  rw [Bool.and_eq_true,Bool.and_eq_true] at q;have q1:((sIx items.size 0 lo:Nat):Int)=0:=eq_of_beq q.1.1;have q2:sIx items.size items.size hi - sIx items.size 0 lo=items.size:=eq_of_beq q.2;exact hw ⟨by omega,by omega⟩
 show wpAny _ _ (if (((sIx items.size 0 lo:Nat):Int) == 0 && (1:Int) == 1 && (sIx items.size items.size hi - sIx items.size 0 lo) == items.size)=true then _ else _) _ _ s
 rw [if_neg hno,ahz]
 first
  | exact wpAny_bind (m:=Builtin.Tuple.tupleExact _) (wpAny_newObj_type (wpAny_pure ⟨_,rfl,wpAny_pure h⟩) htake)
  | exact wpAny_bind (m:=Builtin.Tuple.tupleExact _) (wpAny_newObj_type (wpAny_bind (wpAny_pure (wpAny_pure ⟨_,rfl,wpAny_pure h⟩))) htake)
  | exact wpAny_bind (wpAny_bind (m:=Builtin.Tuple.tupleExact _) (wpAny_newObj_type (wpAny_pure (wpAny_pure ⟨_,rfl,wpAny_pure h⟩)) htake))
  | exact wpAny_bind (wpAny_bind (m:=Builtin.Tuple.tupleExact _) (wpAny_newObj_type (wpAny_pure ⟨_,rfl,wpAny_pure h⟩) htake))
end
end HT
namespace L2
open PySem PySem.Spec PyProof.Rows
abbrev TO:=St->Hp->(Option Int->Hp->Prop)->Prop
def PO(X:Cx)(e:Option Expr)(t:TO):Prop :=
 ∀ (pins:List (Addr × Obj)) (s:Shared) (σ:St) (H:Hp) (Q:Option Int->Hp->Prop),Inv X pins σ H s->t σ H Q->
  wpAny (model X.prog X.w) X.A (evalPart e X.env) (λu s'=>∃ o H',Inv X pins σ H' s'/\IsPart u o/\Q o H') X.xe s
def alx:TO:=λ_ H Q=>Q none H
def au9(t:TE):TO:=λσ H Q=>t σ H λx H1=>∃ i,x = .int i/\Q (some i) H1
theorem intsAre_of{ns:List Int}:∀ {us:List Value},Vals (ns.map V.int) us->IntsAre us ns:=by
 induction ns with
 | nil=>intro us r;rw [List.map_nil] at r;cases r;exact .nil
 | cons n ns ih =>
  intro us r
  rw [List.map_cons] at r
  cases r with
  | cons r1 r2 =>
   obtain ⟨t,e⟩:=r1;subst e;exact .cons n t (ih r2)
section
variable{X:Cx}{e:Expr}{te:TE}{lo hi:Option Expr}{tl th:TO}{pos p2:Pos}
theorem aly:PO X none alx:=by
 intro pins s σ H Q I h
 rw [evalPart_none];exact wpAny_pure ⟨none,H,I, .none,h⟩
theorem alz(h:PE X e te):PO X (some e) (au9 te):=by
 intro pins s σ H Q I hw
 rw [evalPart_some];refine thn (h pins s σ H _ I hw) λu s1 ⟨x,H1,I1,r1,q1⟩=>?_;obtain ⟨i,rfl,q⟩:=q1;obtain ⟨t,rfl⟩:=r1;exact ⟨some i,H1,I1, .int i t,q⟩
def SlR(X:Cx)(r:V->Option Int->Option Int->Hp->VK->Prop):Prop :=
 ∀ (pins:List (Addr × Obj)) (s:Shared) (σ:St) (H:Hp) (x:V) (v vl vu:Value) (lo hi:Option Int) (sl:Addr) (Q:VK),Inv X pins σ H s->RelV x v->s.heap.IsSliceOf sl vl vu .none->IsPart vl lo->IsPart vu hi->r x lo hi H Q->
  ∃ T id,typeLookup (.type T) "__getitem__" = pure (some (.builtin id))/\s.TypeIs v T/\wpAny (model X.prog X.w) X.A (getItem v (.ref sl)) (EP X pins σ Q) X.xe s
theorem SlR.or{r r':V->Option Int->Option Int->Hp->VK->Prop}(h:SlR X r)(h':SlR X r'):SlR X (λx lo hi H Q=>r x lo hi H Q\/r' x lo hi H Q):=by
 intro pins s σ H x v vl vu lo hi sl Q I rx hs pl pu q
 rcases q with q | q
 ·exact h pins s σ H x v vl vu lo hi sl Q I rx hs pl pu q
 ·exact h' pins s σ H x v vl vu lo hi sl Q I rx hs pl pu q
def tSl(r:V->Option Int->Option Int->Hp->VK->Prop)(te:TE)(tl th:TO):TE:=λσ H Q=>te σ H λx H1=>tl σ H1 λl H2=>th σ H2 λu H3=>r x l u H3 Q
theorem ai0{r:V->Option Int->Option Int->Hp->VK->Prop}(hr:SlR X r)(he:PE X e te)(hl:PO X lo tl)(hu:PO X hi th):PE X (.Subscript e (.Slice lo hi none p2) pos) (tSl r te tl th):=by
 intro pins s σ H Q I h
 refine Subscript_ (thn (he pins s σ H _ I h) λv s1 ⟨x,H1,I1,r1,q1⟩=>?_);refine wpAny_Slice (thn (hl pins s1 σ H1 _ I1 q1) λvl s2 ⟨l,H2,I2,pl,q2⟩=>thn (hu pins s2 σ H2 _ I2 q2) λvu s3 ⟨u,H3,I3,pu,q3⟩=>?_);rw [evalPart_none];refine wpAny_pure ?_;have I4:Inv X pins σ H3 { s3 with heap:=s3.heap.push { cls:=.type "slice",data:=.fields #[vl,vu, .none] } }:=I3.kept (t':=s3.toks) λb ob q=>Heap.get?_push_of_some _ q
 obtain ⟨T,id,hT,ht,hg⟩:=hr pins { s3 with heap:=s3.heap.push { cls:=.type "slice",data:=.fields #[vl,vu, .none] } } σ H3 x v vl vu l u s3.heap.objs.size Q I4 r1 (Heap.IsSliceOf.new ..) pl pu q3
 show wpAny (model X.prog X.w) X.A (subscriptTail e (.Slice lo hi none p2) v (.ref s3.heap.objs.size)) (EP X pins σ Q) X.xe { s3 with heap:=s3.heap.push { cls:=.type "slice",data:=.fields #[vl,vu, .none] } }
 exact tail_any (ops:=[.ref s3.heap.objs.size,v]) ht hT hg (by with_unfolding_all rfl)
def akf(xs:List V)(lo hi:Option Int):List V:=(xs.drop (HT.sIx xs.length 0 lo)).take (HT.sIx xs.length xs.length hi - HT.sIx xs.length 0 lo)
theorem a4d(xs:List V)(lo hi:Option Int):(akf xs lo hi).length<=xs.length:=by
 unfold akf;rw [List.length_take,List.length_drop];omega
def aua(K:PySem.W.Frag):V->Option Int->Option Int->Hp->VK->Prop:=λx lo hi H Q=>∃ a xs,x = .ref a/\SqT K H a xs /\
 ¬ (HT.sIx xs.length 0 lo=0/\HT.sIx xs.length xs.length hi=xs.length)/\∀ p,H p=none->Q (.ref p) (upd H p (.tup (akf xs lo hi)))
theorem apn:SlR X (aua X.K):=by
 intro pins s σ H x v vl vu lo hi sl Q I rx hs pl pu h
 obtain ⟨a,xs,rfl,hx,hw,q⟩:=h;cases rx
 obtain ⟨its,r,ht,hz⟩:=I.tuple hx;have hlen:its.toArray.size=xs.length:=by rw [List.size_toArray];exact r.length.symm
 refine ⟨"tuple",_,PyProof.Rows.slot_tuple_getitem.lookup,ht.typeIs,?_⟩;refine HT.a2m ht hs pl pu (by rw [hlen];exact hw) ?_ (by rw [hlen];exact hz)
 rw [hlen];refine ⟨.ref s.heap.objs.size,_,I.laid (t':=s.toks) (o:=.tup (akf xs lo hi)) (λb ob q=>Heap.get?_push_of_some _ q) (Nat.le_refl _) ?_,rfl,q _ (I.hok.fresh (Nat.le_refl _))⟩;exact ⟨Nat.le_trans (a4d xs lo hi) hz,_,(r.drop (HT.sIx xs.length 0 lo)).take (HT.sIx xs.length xs.length hi - HT.sIx xs.length 0 lo),IsTup.new _ _⟩
def apo(K:PySem.W.Frag):R2:=λx y H Q=>∃ a b xs ys,x = .ref a/\y = .ref b/\SqT K H a xs/\SqT K H b ys/\xs≠[]/\xs.length+ys.length<=sizeLine /\
 (ys=[]->Q (.ref a) H)/\(ys≠[]->∀ p,H p=none->Q (.ref p) (upd H p (.tup (xs++ys))))
theorem Vals.nil_iff{xs:List V}{us:List Value}(r:Vals xs us):us=[]↔xs=[]:=by
 cases r with
 | nil=>simp
 | cons _ _=>simp
theorem am0:OpR X (binaryOp .Add) (apo X.K):=by
 intro pins s σ H x y v u Q I rx ry h
 obtain ⟨a,b,xs,ys,rfl,rfl,ha,hb,hx,hz,q1,q2⟩:=h;cases rx
 cases ry
 obtain ⟨its,r1,p1,_⟩:=I.tuple ha;obtain ⟨its2,r2,p2,_⟩:=I.tuple hb;refine HT.alw p1 p2 (λz=>hx (r1.nil_iff.mp z)) (λz=>⟨.ref a,H,I,rfl,q1 (r2.nil_iff.mp z)⟩) (λz=>?_) (by rw [<-r1.length,<-r2.length];exact hz)
 refine ⟨.ref s.heap.objs.size,_,I.laid (t':=s.toks) (o:=.tup (xs++ys)) (λb ob q=>Heap.get?_push_of_some _ q) (Nat.le_refl _) ?_,rfl,q2 (λw=>z (r2.nil_iff.mpr w)) _ (I.hok.fresh (Nat.le_refl _))⟩;exact ⟨by rw [List.length_append];exact hz,_,r1.append r2,IsTup.new _ _⟩
end
def ixN(n:Nat)(i:Int):Option Nat:=if 0<=i then (if i<n then some i.toNat else none) else if -(n:Int)<=i then some (i+n).toNat else none
def atI{α:Type}(xs:List α)(i:Int):Option α:=(ixN xs.length i).bind λj=>xs[j]?
theorem aee{n:Nat}{i:Int}{j:Nat}(h:ixN n i=some j):seqIndex? i n=some j/\j<n /\ -(n:Int)<=i/\i<n:=by
 unfold ixN at h
 by_cases h0:0<=i
 ·rw [if_pos h0] at h
  by_cases h1:i<n
  ·rw [if_pos h1] at h;have e:i.toNat=j:=Option.some.inj h;exact ⟨by rw [seqIndex_of h0 h1,e],by omega,by omega,h1⟩
  ·rw [if_neg h1] at h;cases h
 ·rw [if_neg h0] at h
  by_cases h1 : -(n:Int)<=i
  ·rw [if_pos h1] at h;have e:(i+n).toNat=j:=Option.some.inj h;exact ⟨by rw [seqIndex_neg (by omega) h1,e],by omega,h1,by omega⟩
  ·rw [if_neg h1] at h;cases h
theorem a9i{α:Type}{xs:List α}{i:Int}{v:α}(h:atI xs i=some v):∃ j,seqIndex? i xs.length=some j/\xs[j]? = some v/\j<xs.length /\ -(xs.length:Int)<=i/\i<xs.length:=by
 unfold atI at h
 cases e:ixN xs.length i with
 | none=>rw [e] at h;cases h
 | some j =>
  rw [e] at h;obtain ⟨h1,h2,h3,h4⟩:=aee e;exact ⟨j,h1,h,h2,h3,h4⟩
theorem ul{α:Type}{xs:List α}{j:Nat}{v:α}(h:xs[j]? = some v):atI xs (j:Int)=some v:=by
 have hj:j<xs.length:=(List.getElem?_eq_some_iff.mp h).1;have e:ixN xs.length (j:Int)=some j:=by
  unfold ixN;rw [if_pos (by omega),if_pos (by omega)];simp
 unfold atI;rw [e];exact h
def a9j(b:Expr):Prop:=∀ o i,subscripted b false o i=operate [o,i] (getItem o i)
def IxR(X:Cx)(r:R2):Prop :=
 ∀ (value slice:Expr) (pins:List (Addr × Obj)) (s:Shared) (σ:St) (H:Hp) (x y:V) (v u:Value) (Q:VK),Inv X pins σ H s->RelV x v->RelV y u->r x y H Q->
  subscripted slice false v u=operate [v,u] (getItem v u)->wpAny (model X.prog X.w) X.A (subscriptTail value slice v u) (EP X pins σ Q) X.xe s
def MtR(X:Cx)(id:String)(r:V->List V->Hp->VK->Prop):Prop :=
 ∀ (pins:List (Addr × Obj)) (s:Shared) (σ:St) (H:Hp) (x:V) (xs:List V) (v:Value) (us:List Value) (Q:VK),Inv X pins σ H s->RelV x v->Vals xs us->r x xs H Q->
  wpAny (model X.prog X.w) X.A (call (.builtin id) (v::us)) (EP X pins σ Q) X.xe s
section
variable{X:Cx}{a b:Expr}{ta tb:TE}{pos:Pos}
theorem IxR.or{r r':R2}(h:IxR X r)(h':IxR X r'):IxR X (λx y H Q=>r x y H Q\/r' x y H Q):=by
 intro value slice pins s σ H x y v u Q I rx ry q hs
 rcases q with q | q
 ·exact h value slice pins s σ H x y v u Q I rx ry q hs
 ·exact h' value slice pins s σ H x y v u Q I rx ry q hs
theorem MtR.or{id:String}{r r':V->List V->Hp->VK->Prop}(h:MtR X id r)(h':MtR X id r'):MtR X id (λx xs H Q=>r x xs H Q\/r' x xs H Q):=by
 intro pins s σ H x xs v us Q I rx rs q
 rcases q with q | q
 ·exact h pins s σ H x xs v us Q I rx rs q
 ·exact h' pins s σ H x xs v us Q I rx rs q
theorem aub{r:R2}(hr:IxR X r)(ha:PE X a ta)(hb:PE X b tb)(hs:a9j b):PE X (.Subscript a b pos) (tOp r ta tb):=by
 intro pins s σ H Q I h
 exact Subscript_ (au4 ha hb I h λv u s2 x y H2 I2 rx ry q=>hr a b pins s2 σ H2 x y v u Q I2 rx ry q (hs _ _))
def avp(K:PySem.W.Frag):R2:=λx y H Q=>∃ p xs i v,x = .ref p/\y = .int i/\SqL K H p xs/\atI xs i=some v/\Q v H
def avq(K:PySem.W.Frag):R2:=λx y H Q=>∃ p xs i v,x = .ref p/\y = .int i/\SqT K H p xs/\atI xs i=some v/\Q v H
def avr:R2:=λx y H Q=>∃ z i c,x = .str z/\y = .int i/\z.length<=sizeLine/\atI z.cps.toList i=some c/\Q (.str ⟨#[c]⟩) H
theorem am1:IxR X (avp X.K):=by
 intro value slice pins s σ H x y v u Q I rx ry h hs
 obtain ⟨p,xs,i,z,rfl,rfl,hq,he,q⟩:=h;cases rx
 obtain ⟨t,rfl⟩:=ry;obtain ⟨its,r,pl,hz⟩:=I.list hq;obtain ⟨j,h1,h2,h3,h4,h5⟩:=a9i he;obtain ⟨w,ew,rw'⟩:=r.get h2;have hl:=r.length;have hn:=a4b;have fin:EP X pins σ Q w s:=⟨z,H,I,rw',q⟩
 by_cases h0:0<=i
 ·have hj:i.toNat=j:=by
   rw [seqIndex_of h0 h5] at h1;exact Option.some.inj h1
  exact item_listR pl.isList h0 (by omega) (by rw [hj];simpa using ew) fin hs
 ·have hj:(i+(its.toArray.size:Int)).toNat=j:=by
   rw [seqIndex_neg (by omega) h4] at h1
   rw [List.size_toArray,<-hl];exact Option.some.inj h1
  exact subscriptTail_builtinR (x:=w) pl.isList.typeIs slot_list_getitem.lookup
   (wpAny_getItem_list_neg (Q:=λr s'=>r=w/\EP X pins σ Q r s') pl.isList (by omega) (by rw [List.size_toArray]<;>omega) (by omega) (by rw [hj];simpa using ew) ⟨rfl,fin⟩) hs
theorem a4e:IxR X (avq X.K):=by
 intro value slice pins s σ H x y v u Q I rx ry h hs
 obtain ⟨p,xs,i,z,rfl,rfl,hq,he,q⟩:=h;cases rx
 obtain ⟨t,rfl⟩:=ry;obtain ⟨its,r,pl,hz⟩:=I.tuple hq;obtain ⟨j,h1,h2,h3,h4,h5⟩:=a9i he;obtain ⟨w,ew,rw'⟩:=r.get h2;have hl:=r.length;have hn:=a4b;have fin:EP X pins σ Q w s:=⟨z,H,I,rw',q⟩;exact subscriptTail_builtinR (x:=w) pl.typeIs slot_tuple_getitem.lookup
  (getItem_tuple (j:=j) (Q:=λr s'=>r=w/\EP X pins σ Q r s') pl (by omega) (by omega) (by rw [List.size_toArray,<-hl];exact h1) (by simpa using ew) ⟨rfl,fin⟩) hs
theorem apq:IxR X avr:=by
 intro value slice pins s σ H x y v u Q I rx ry h hs
 obtain ⟨z,i,c,rfl,rfl,hz,he,q⟩:=h;obtain ⟨t,rfl⟩:=rx;obtain ⟨t',rfl⟩:=ry;obtain ⟨j,h1,h2,h3,h4,h5⟩:=a9i he;have hl:z.cps.toList.length=z.length:=by simp [Str.length]
 rw [hl] at h1 h4 h5;have hn:=a4b;exact tail_any (typeIs_str s z t) slot_str_getitem.lookup (getItem_str (c:=c) (by
  have e1:decide (i < -(2 ^ 63:Int))=false:=decide_eq_false (by omega)
  have e2:decide (i≥2 ^ 63)=false:=decide_eq_false (by omega)
  rw [e1,e2,Bool.or_false]) (by rw [h1];simpa using h2) ⟨.str ⟨#[c]⟩,H,I.tok _,⟨_,rfl⟩,q⟩) hs
def rIx(K:PySem.W.Frag):R2:=λx y H Q=>avp K x y H Q\/avq K x y H Q\/avr x y H Q
theorem apr:IxR X (rIx X.K):=am1.or (a4e.or apq)
theorem ack(its:List Value)(n j:Nat)(u:Value):Obj.mapSeq (·.setIfInBounds j u) { cls:=.type "list",data:=.seq its.toArray n }={ cls:=.type "list",data:=.seq (its.set j u).toArray n }:=by
 simp [Obj.mapSeq]
theorem Inv.lst{pins:List (Addr × Obj)}{σ:St}{H:Hp}{s:Shared}{p:Addr}{xs:List V}(I:Inv X pins σ H s)(h:H p=some (.lst xs)) :
  ∃ (its:List Value) (n:Nat),Vals xs its/\s.heap.get? p=some { cls:=.type "list",data:=.seq its.toArray n }/\xs.length<=sizeLine:=by
 obtain ⟨z,its,n,r,e⟩:=I.hok p _ h;exact ⟨its,n,r,e,z⟩
theorem Inv.lstUpd{pins:List (Addr × Obj)}{σ:St}{H:Hp}{s:Shared}{p:Addr}{xs ys:List V}{its its':List Value}{n n':Nat}{f:Obj->Obj}(I:Inv X pins σ H s)(h:H p=some (.lst xs))
  (ho:s.heap.get? p=some { cls:=.type "list",data:=.seq its.toArray n }) (hf:f { cls:=.type "list",data:=.seq its.toArray n }={ cls:=.type "list",data:=.seq its'.toArray n' }) (r:Vals ys its') (hz:ys.length<=sizeLine) (t:Nat) :
  Inv X pins σ (upd H p (.lst ys)) { s with heap:=s.heap.update p f,toks:=t }:=by
 have e:(s.heap.update p f).get? p=some { cls:=.type "list",data:=.seq its'.toArray n' }:=by
  rw [Heap.get?_update_self f ho (by rw [hf]<;>rfl),hf]
 refine I.write (x:=p) (e:=p) (by rw [h];trivial) (.inl rfl) (λb u hb q=>(Heap.get?_update_other _ _ (Ne.symm hb)).trans q) ⟨_,e⟩ ?_
 exact ⟨hz,its',n',r,e⟩
def aps:V->V->V->Hp->(Hp->Prop)->Prop:=λo i v H Q=>∃ p xs k j,o = .ref p/\i = .int k/\H p=some (.lst xs)/\ixN xs.length k=some j/\Q (upd H p (.lst (xs.set j v)))
theorem set_list:avj X aps:=by
 intro pins s σ H o i v ov iv u Q I ro ri rv h
 obtain ⟨p,xs,k,j,rfl,rfl,hp,hj,q⟩:=h;cases ro
 obtain ⟨t,rfl⟩:=ri;obtain ⟨its,n,r,ho,hz⟩:=I.lst hp;obtain ⟨h1,h2,h3,h4⟩:=aee hj;have hl:=r.length;have hn:=a4b;have I':Inv X pins σ (upd H p (.lst (xs.set j v))) { s with heap:=s.heap.update p (Obj.mapSeq (·.setIfInBounds j u)) } :=
  I.lstUpd hp ho (ack its n j u) (r.set rv j) (by rw [List.length_set];exact hz) s.toks
 by_cases h0:0<=k
 ·have hk:k.toNat=j:=by
   rw [seqIndex_of h0 h4] at h1;exact Option.some.inj h1
  exact PySem.W.ki_setAt ho h0 (by omega) (by rw [List.size_toArray,<-hl];exact h4) (by rw [hk];exact ⟨_,I',q⟩)
 ·have hk:(k+(its.toArray.size:Int)).toNat=j:=by
   rw [seqIndex_neg (by omega) h3] at h1
   rw [List.size_toArray,<-hl];exact Option.some.inj h1
  exact PySem.W.ki_setBack ho (by omega) (by rw [List.size_toArray,<-hl];exact h3) (by omega) (by rw [hk];exact ⟨_,I',q⟩)
theorem a8h(lo hi:Option Int)(n:Nat):(sliceBounds lo hi none n).1=((HT.sIx n 0 lo:Nat):Int)/\(sliceBounds lo hi none n).2.1=((HT.sIx n n hi:Nat):Int)/\(sliceBounds lo hi none n).2.2=1:=by
 refine ⟨?_,?_,rfl⟩
 ·cases lo with
  | none=>simp [sliceBounds,HT.sIx]
  | some i =>
   simp only [sliceBounds,HT.sIx,Option.getD_none,show (1:Int) > 0 by decide,if_true]
   by_cases h:i<0
   ·simp only [h,if_true]<;>omega
   ·simp only [h,if_false]<;>omega
 ·cases hi with
  | none=>simp [sliceBounds,HT.sIx]
  | some i =>
   simp only [sliceBounds,HT.sIx,Option.getD_none,show (1:Int) > 0 by decide,if_true]
   by_cases h:i<0
   ·simp only [h,if_true]<;>omega
   ·simp only [h,if_false]<;>omega
theorem a6n(its:List Value)(lo hi:Option Int):slicePick its.toArray lo hi none=((its.drop (HT.sIx its.length 0 lo)).take (HT.sIx its.length its.length hi - HT.sIx its.length 0 lo)).toArray:=by
 obtain ⟨h1,h2,h3⟩:=a8h lo hi its.toArray.size;unfold slicePick;rw [h1,h2,h3];simp only [sliceRange_one,pick_run,List.size_toArray]<;>rfl
def auc(K:PySem.W.Frag):V->Option Int->Option Int->Hp->VK->Prop:=λx lo hi H Q=>∃ a xs,x = .ref a/\SqL K H a xs/\∀ p,H p=none->Q (.ref p) (upd H p (.lst (akf xs lo hi)))
theorem am2:SlR X (auc X.K):=by
 intro pins s σ H x v vl vu lo hi sl Q I rx hs pl pu h
 obtain ⟨a,xs,rfl,hx,q⟩:=h;cases rx
 obtain ⟨its,r,ht,hz⟩:=I.list hx;have hlen:=r.length;refine ⟨"list",_,slot_list_getitem.lookup,ht.isList.typeIs,?_⟩;refine wpAny_getItem_list_slice ht.isList hs pl pu .none (by simp) ?_ (by rw [List.size_toArray]<;>omega)
 rw [a6n,<-hlen];refine ⟨.ref s.heap.objs.size,_,I.laid (t':=s.toks) (o:=.lst (akf xs lo hi)) (λb ob q=>Heap.get?_push_of_some _ q) (Nat.le_refl _) ?_,rfl,q _ (I.hok.fresh (Nat.le_refl _))⟩;exact ⟨Nat.le_trans (a4d xs lo hi) hz,_,0,(r.drop (HT.sIx xs.length 0 lo)).take (HT.sIx xs.length xs.length hi - HT.sIx xs.length 0 lo),Heap.get?_push_size _ rfl⟩
def a1o:V->Bool
 | .non=>true
 | .bl _=>true
 | .int _=>true
 | .str _=>true
 | _=>false
def eqV:V->V->Bool
 | .non, .non=>true
 | .bl a, .bl b=>a == b
 | .bl a, .int b=>(if a then 1 else 0) == b
 | .int a, .bl b=>a == (if b then 1 else 0)
 | .int a, .int b=>a == b
 | .str a, .str b=>a == b
 | _,_=>false
theorem aef{A:Around}{s:Shared}{y x:V}{u v:Value}(ry:RelV y u)(rx:RelV x v)(fy:a1o y=true)(fx:a1o x=true):SeqAt.EqAt A s u v (eqV y x):=by
 cases y with
 | non =>
  cases ry
  cases x with
  | non=>cases rx;exact SeqAt.EqAt.same _
  | bl b=>cases rx;exact SeqAt.EqAt.none_bool b
  | int b=>obtain ⟨t,rfl⟩:=rx;exact SeqAt.EqAt.none_int b t
  | str b=>obtain ⟨t,rfl⟩:=rx;exact SeqAt.EqAt.none_str b t
  | _=>exact absurd (show false=true from fx) Bool.false_ne_true
 | bl a =>
  cases ry
  cases x with
  | non=>cases rx;exact SeqAt.EqAt.bool_none a
  | bl b=>cases rx;exact SeqAt.EqAt.bool_bool a b
  | int b=>obtain ⟨t,rfl⟩:=rx;exact SeqAt.EqAt.bool_int a b t
  | str b=>obtain ⟨t,rfl⟩:=rx;exact SeqAt.EqAt.bool_str a b t
  | _=>exact absurd (show false=true from fx) Bool.false_ne_true
 | int a =>
  obtain ⟨t',rfl⟩:=ry
  cases x with
  | non=>cases rx;exact SeqAt.EqAt.int_none a t'
  | bl b=>cases rx;exact SeqAt.EqAt.int_bool a t' b
  | int b=>obtain ⟨t,rfl⟩:=rx;exact SeqAt.EqAt.int_int a t' b t
  | str b=>obtain ⟨t,rfl⟩:=rx;exact SeqAt.EqAt.int_str a t' b t
  | _=>exact absurd (show false=true from fx) Bool.false_ne_true
 | str a =>
  obtain ⟨t',rfl⟩:=ry
  cases x with
  | non=>cases rx;exact SeqAt.EqAt.str_none a t'
  | bl b=>cases rx;exact SeqAt.EqAt.str_bool a t' b
  | int b=>obtain ⟨t,rfl⟩:=rx;exact SeqAt.EqAt.str_int a t' b t
  | str b=>obtain ⟨t,rfl⟩:=rx;exact SeqAt.EqAt.str_str a t' b t
  | _=>exact absurd (show false=true from fx) Bool.false_ne_true
 | _=>exact absurd (show false=true from fy) Bool.false_ne_true
def eqU(x:V)(u:Value):Bool:=match u with
 | .none=>eqV .non x
 | .bool b=>eqV (.bl b) x
 | .int i _=>eqV (.int i) x
 | .str z _=>eqV (.str z) x
 | _=>false
theorem akg{x y:V}{u:Value}(r:RelV y u)(f:a1o y=true):eqU x u=eqV y x:=by
 cases y with
 | non=>cases r;rfl
 | bl b=>cases r;rfl
 | int i=>obtain ⟨t,rfl⟩:=r;rfl
 | str z=>obtain ⟨t,rfl⟩:=r;rfl
 | _=>exact absurd (show false=true from f) Bool.false_ne_true
theorem a9k{x:V}:∀ {xs:List V} {us:List Value},Vals xs us->xs.all a1o=true->us.any (eqU x)=xs.any λy=>eqV y x
 | _,_, .nil,_=>rfl
 | y::xs,u::us, .cons r t,f=>by
  rw [List.all_cons,Bool.and_eq_true] at f;rw [List.any_cons,List.any_cons,akg r f.1,a9k t f.2]
theorem a6o{A:Around}{s:Shared}{x:V}{v:Value}(rx:RelV x v)(fx:a1o x=true):∀ {xs:List V} {us:List Value},Vals xs us->xs.all a1o=true->∀ u∈us,SeqAt.EqAt A s u v (eqU x u)
 | _,_, .nil,_=>λu hu=>by cases hu
 | y::xs,u::us, .cons r t,f=>λu' hu=>by
  rw [List.all_cons,Bool.and_eq_true] at f
  rcases List.mem_cons.mp hu with rfl | hu
  ·rw [akg r f.1];exact aef r rx f.1 fx
  ·exact a6o rx fx t f.2 u' hu
def inV(x:V)(xs:List V):Bool:=xs.any λy=>eqV y x
def rIn(K:PySem.W.Frag)(neg:Bool):R2:=λx y H Q=>∃ p xs,y = .ref p/\(SqL K H p xs\/SqT K H p xs)/\a1o x=true/\xs.all a1o=true/\Q (.bl (if neg then !inV x xs else inV x xs)) H
theorem yx:OpR X (compareOp .In) (rIn X.K false):=by
 intro pins s σ H x y v u Q I rx ry h
 obtain ⟨p,xs,rfl,hq,fx,fs,q⟩:=h;cases ry
 rcases hq with hq | hq
 ·obtain ⟨its,r,pl,hz⟩:=I.list hq;refine SeqAt.in_listAt (eqU x) pl.isList (λw hw=>a6o rx fx r fs w (by simpa using hw)) ⟨.bl _,H,I,rfl,?_⟩
  rw [show its.toArray.any (eqU x)=its.any (eqU x) by simp,a9k r fs]
  exact q
 ·obtain ⟨its,r,pl,hz⟩:=I.tuple hq;refine SeqAt.in_tupleAt (eqU x) pl (λw hw=>a6o rx fx r fs w (by simpa using hw)) ⟨.bl _,H,I,rfl,?_⟩
  rw [show its.toArray.any (eqU x)=its.any (eqU x) by simp,a9k r fs]
  exact q
theorem dj:CallR X (.builtin "len") (λxs H Q=>∃ p ys,xs=[.ref p]/\(SqL X.K H p ys\/SqT X.K H p ys)/\Q (.int ys.length) H):=by
 intro pins s σ H xs us Q I r h
 obtain ⟨p,ys,rfl,hq,q⟩:=h;obtain ⟨u,rfl,rx⟩:=vals1 r;cases rx
 have hn:=a4b
 rcases hq with hq | hq
 ·obtain ⟨its,r',pl,hz⟩:=I.list hq;have hlen:=r'.length;exact Calls.call_len_list pl.isList (by simp only [List.size_toArray]<;>omega) ⟨.int ys.length,H,I.tok _,⟨s.toks+1,by rw [List.size_toArray,hlen]⟩,q⟩
 ·obtain ⟨its,r',pl,hz⟩:=I.tuple hq;have hlen:=r'.length;exact len_tuple pl (by simp only [List.size_toArray]<;>omega) ⟨.int ys.length,H,I.tok _,⟨s.toks+1,by rw [List.size_toArray,hlen]⟩,q⟩
theorem dq:CallR X (.builtin "len") (λxs H Q=>∃ z,xs=[.str z]/\z.length<=sizeLine/\Q (.int z.length) H):=by
 intro pins s σ H xs us Q I r h
 obtain ⟨z,rfl,hz,q⟩:=h;obtain ⟨u,rfl,t,rfl⟩:=vals1 r;have hn:=a4b;exact len_str (by omega) ⟨.int z.length,H,I.tok _,⟨_,rfl⟩,q⟩
theorem CallR.or{f:Value}{r r':List V->Hp->VK->Prop}(h:CallR X f r)(h':CallR X f r'):CallR X f (λxs H Q=>r xs H Q\/r' xs H Q):=by
 intro pins s σ H xs us Q I rs q
 rcases q with q | q
 ·exact h pins s σ H xs us Q I rs q
 ·exact h' pins s σ H xs us Q I rs q
theorem rn:CallR X (.type "tuple") (λxs H Q=>∃ p ys,xs=[.ref p]/\((SqL X.K H p ys/\∀ l,H l=none->Q (.ref l) (upd H l (.tup ys)))\/(SqT X.K H p ys/\Q (.ref p) H))):=by
 intro pins s σ H xs us Q I r h
 obtain ⟨p,ys,rfl,h⟩:=h;obtain ⟨u,rfl,rx⟩:=vals1 r;cases rx
 rcases h with ⟨hq,q⟩ | ⟨hq,q⟩
 ·obtain ⟨its,r',pl,hz⟩:=I.list hq;have hlen:=r'.length;refine call_tuple_list pl.isList (λh' kp=>?_) (by simp only [List.size_toArray]<;>omega)
  have I1:Inv X pins σ H { s with heap:=h' }:=I.kept (t':=s.toks) kp
  have I2:Inv X pins σ (upd H h'.objs.size (.tup ys)) { s with heap:=h'.push { cls:=.type "tuple",data:=.seq its.toArray } } :=
   I1.laid (t':=s.toks) (λb o e=>Heap.get?_push_of_some _ e) (Nat.le_refl _) (show ObjOk X.prog X.w _ _ _ (.tup ys) from ⟨hz,its,r',IsTup.new _ _⟩)
  exact ⟨.ref h'.objs.size,_,I2,rfl,q _ (I1.hok.fresh (Nat.le_refl _))⟩
 ·obtain ⟨its,r',pl,hz⟩:=I.tuple hq;exact call_tuple_same pl ⟨.ref p,H,I,rfl,q⟩
def tyV(K:PySem.W.Frag)(T:String)(x:V)(H:Hp):Prop:=match x with
 | .str _=>T = "str"
 | .int _=>T = "int"
 | .ref p=>(T = "list"/\∃ xs,SqL K H p xs)\/(T = "tuple"/\∃ o,K.lookup p=some o/\o.cls = .type "tuple"/\o.dict=none) \/
   (T = "dict"/\((∃ kvs,H p=some (.dK kvs))\/∃ kvs,H p=some (.dT kvs)))\/(T = "set"/\∃ S n,H p=some (.set S n))
 | _=>False
theorem akh{pins:List (Addr × Obj)}{σ:St}{H:Hp}{s:Shared}{T:String}{x:V}{v:Value}(I:Inv X pins σ H s)(r:RelV x v)(ty:tyV X.K T x H) :
  s.TypeIs v T/\∀ a,v = .ref a->∃ ob,s.heap.get? a=some ob/\ob.dict=none:=by
 cases x with
 | str z =>
  obtain ⟨t,rfl⟩:=r
  cases (show T = "str" from ty)
  exact ⟨typeIs_str s z t,λ_ e=>nomatch e⟩
 | int i =>
  obtain ⟨t,rfl⟩:=r
  cases (show T = "int" from ty)
  exact ⟨typeIs_int s i t,λ_ e=>nomatch e⟩
 | ref p =>
  cases r
  rcases ty with ⟨rfl,xs,hq⟩ | ⟨rfl,o,hk,hc,hd⟩ | ⟨rfl,hk⟩ | ⟨rfl,S,n,hk⟩
  ·obtain ⟨its,_,pl,_⟩:=I.list hq;refine ⟨pl.isList.typeIs,λa e=>?_⟩;cases e
   obtain ⟨o,n,e,c,hd,_⟩:=pl;exact ⟨o,e,hd⟩
  ·refine ⟨⟨o,I.kIn p o hk,hc⟩,λa e=>?_⟩;cases e
   exact ⟨o,I.kIn _ o hk,hd⟩
  ·have z:∃ o,s.heap.get? p=some o/\o.ExactDict:=by
    rcases hk with ⟨kvs,hk⟩ | ⟨kvs,hk⟩
    ·obtain ⟨_,_,_,_,o,_,_,e,ex,_⟩:=I.hok p _ hk;exact ⟨o,e,ex⟩
    ·obtain ⟨_,_,_,_,o,_,_,e,ex,_⟩:=I.hok p _ hk;exact ⟨o,e,ex⟩
   obtain ⟨o,e,ex⟩:=z;refine ⟨⟨o,e,ex.1⟩,λa e2=>?_⟩;cases e2
   exact ⟨o,e,ex.2.1⟩
  ·obtain ⟨o,_,_,_,e,ex,_⟩:=I.hok p _ hk;refine ⟨⟨o,e,ex.1⟩,λa e2=>?_⟩;cases e2
   exact ⟨o,e,ex.2.1⟩
 | _=>exact False.elim ty
def tBM(K:PySem.W.Frag)(T:String)(r:V->List V->Hp->VK->Prop)(to:TE)(t:TA):TE:=λσ H Q=>to σ H λx H1=>tyV K T x H1/\t σ H1 λxs H2=>r x xs H2 Q
variable{o e:Expr}{es:List Expr}{to:TE}{t:TA}{name:Str}{apos cpos:Pos}{T id:String}{r:V->List V->Hp->VK->Prop}
theorem aud(pa:PlainAttrs T)(slot:Slot T name id)(hty:typeOf (.builtin id)=pure (.type "method_descriptor"))(hm:MtR X id r)(ho:PE X o to)(ha:PA X (e::es) t)
  (hbase:attributeBase o name X.env (eval o X.env)=eval o X.env:=by rfl)
  (hfew:((backTo cpos (starEach (e::es) X.env)).all (λx => !x.1) && (backToKw cpos (keywordEach [] X.env)).all (λx=>x.1.isSome)
   && decide ((e::es).length+([]:List Keyword).length+(if ([]:List Keyword).isEmpty then 0 else 1)<30))=true:=by rfl)
  (hline:(apos.endLine == cpos.line)=true:=by rfl) (hs:starEach (e::es) X.env=(false,eval e X.env)::starEach es X.env:=by rfl) (hplain:(backTo cpos (starEach es X.env)).any (·.1)=false:=by rfl) :
  PE X (.Call (.Attribute o name apos) (e::es) [] cpos) (tBM X.K T r to t):=by
 intro pins s σ H Q I h
 refine wpAny_Call_method_late hbase hfew hline rfl (thn (ho pins s σ H _ I h) λv s1 ⟨x,H1,I1,r1,ty,q1⟩=>?_);obtain ⟨h1,h2⟩:=akh I1 r1 ty;refine ⟨T,id,pa,slot,hty,h1,h2,?_⟩;have hA:=ha cpos pins s1 σ H1 _ I1 q1;rw [hs] at hA ⊢;refine Calls.callWith_builtin (by show (false || (backTo cpos (starEach es X.env)).any (·.1))=false;rw [hplain]<;>rfl) (Calls.evalArgs_plain ?_)
 exact thn hA λus s2 ⟨vs,H2,I2,r2,q2⟩=>hm pins s2 σ H2 x vs v us Q I2 r1 r2 q2
end
def MtM(X:Cx)(id:String)(r:V->List V->Hp->VK->Prop):Prop :=
 ∀ (pins:List (Addr × Obj)) (s:Shared) (σ:St) (H:Hp) (x:V) (xs:List V) (v:Value) (us:List Value) (Q:VK),Inv X pins σ H s->RelV x v->Vals xs us->r x xs H Q->
  wpAny (model X.prog X.w) X.A (call (.builtin id) (v::us)) (EP X pins σ Q) X.xe s
theorem Vals.one:∀ {x:V} {us:List Value},Vals [x] us->∃ u,us=[u]/\RelV x u
 | _,_, .cons r .nil=>⟨_,rfl,r⟩
theorem Vals.rep{xs:List V}{us:List Value}(h:Vals xs us):∀ k:Nat,Vals (List.replicate k xs).flatten (List.replicate k us).flatten
 | 0=>.nil
 | k+1=>by
  rw [List.replicate_succ,List.replicate_succ,List.flatten_cons,List.flatten_cons];exact Vals.append h (Vals.rep h k)
theorem foldl_rep(its:List Value):∀ (k:Nat) (acc:List Value),
  List.foldl (λx1 x2=>x1++x2) acc.toArray (List.replicate k its.toArray)=(acc++(List.replicate k its).flatten).toArray
 | 0,acc=>by simp
 | k+1,acc=>by
  have e:acc.toArray++its.toArray=(acc++its).toArray:=by simp
  have e2:(acc++its)++(List.replicate k its).flatten=acc++(List.replicate (k+1) its).flatten:=by
   rw [List.replicate_succ,List.flatten_cons,List.append_assoc]
  rw [<-e2,<-foldl_rep its k (acc++its),<-e,List.replicate_succ,List.foldl_cons]
section
variable{X:Cx}{pins:List (Addr × Obj)}{σ:St}{H:Hp}{s:Shared}{l b:Addr}{xs ys zs:List V}
theorem Inv.lset{its its':List Value}{n:Nat}{f:Array Value->Array Value}{t':Nat}(I:Inv X pins σ H s)(hH:H l=some (.lst xs))
  (e:s.heap.get? l=some { cls:=.type "list",data:=.seq its.toArray n }) (hf:f its.toArray=its'.toArray) (hv:Vals ys its') (hz:ys.length<=sizeLine) :
  Inv X pins σ (upd H l (.lst ys)) { s with heap:=s.heap.update l (Obj.mapSeq f),toks:=t' }:=by
 have q:=PySem.IsL.update e f;rw [hf] at q;refine I.write (x:=l) (e:=l) (by rw [hH];exact trivial) (.inl rfl) (λb' u hb hu=>(Heap.get?_update_other s.heap (Obj.mapSeq f) (Ne.symm hb)).trans hu) ⟨_,q⟩ ?_
 exact ⟨hz,its',_,hv,q⟩
theorem Inv.lnew{its:List Value}{t':Nat}(I:Inv X pins σ H s)(hv:Vals ys its)(hz:ys.length<=sizeLine) :
  Inv X pins σ (upd H s.heap.objs.size (.lst ys)) { s with heap:=s.heap.push { cls:=.type "list",data:=.seq its.toArray },toks:=t' } :=
 I.laid (λ_ _ q=>Heap.get?_push_of_some _ q) (Nat.le_refl _) ⟨hz,its,0,hv,Heap.get?_push_size _ rfl⟩
theorem Inv.fresh(I:Inv X pins σ H s):H s.heap.objs.size=none:=I.hok.fresh (Nat.le_refl _)
theorem Inv.lstM(I:Inv X pins σ H s)(hH:H l=some (.lst xs)):xs.length<=sizeLine/\∃ (its:List Value) (n:Nat),Vals xs its/\xs.length=its.length/\s.heap.get? l=some { cls:=.type "list",data:=.seq its.toArray n }:=by
 obtain ⟨z,its,n,r,e⟩:=I.hok l _ hH;exact ⟨z,its,n,r,r.length,e⟩
theorem a6p{n:Nat}(h:n<=sizeLine):Builtin.List.listTooLong n=false:=by
 unfold Builtin.List.listTooLong;exact decide_eq_false (by omega)
end
section
variable{X:Cx}
theorem len_rep{α:Type}(xs:List α)(k:Nat):(List.replicate k xs).flatten.length=k*xs.length:=by
 induction k with
 | zero=>simp
 | succ k ih=>rw [List.replicate_succ,List.flatten_cons,List.length_append,ih,Nat.succ_mul,Nat.add_comm]
end
end L2
namespace Att
open PySem PySem.W PySem.Calls PyProof.Rows
theorem a4f{P:Params}{h:Heap}:∀ (ns:List Int) (vs:List Value),WellAll P h vs (ns.map WData.int)->IntsAre vs ns:=by
 intro ns
 induction ns with
 | nil =>
  intro vs w
  rw [List.map_nil] at w;cases w
  exact .nil
 | cons n ns ih =>
  intro vs w
  rw [List.map_cons] at w
  cases w with
  | cons a b =>
   cases a
   exact .cons _ _ (ih _ b)
theorem aeg{l:OpenLaw}{n:Nat}(hn:l.most=some n){P:Params}{h:Heap}{args:List WData}{vals:List Value}
  (hpre:l.row.toRowW.claim.pre args=true) (hwl:WellAll P h vals args) :
  ∃ a vs ns,vals=[Value.ref a]/\args=[WData.list (ns.map WData.int)]/\h.get? a=some { cls:=.type "list",data:=.seq vs.toArray }/\IntsAre vs ns/\ns.length<=n:=by
 have hsh:WShape.hasAll [] args [.list .int]=true:=(pre_splitW hpre).1;have hc:l.pre.holds [] { args:=args }=true:=(pre_splitW hpre).2;obtain ⟨d,r,rfl,h1,h2⟩:=hasAllW_cons hsh;obtain rfl:=hasAllW_nil h2;obtain ⟨xs,rfl,h3⟩:=hasW_list h1;obtain ⟨ns,rfl⟩:=items_int h3;have hlen:ns.length<=n:=by
  unfold OpenLaw.pre at hc;have h4:(WTm.not (.lt (.lit (.int (n:Int))) (.len (.arg 0)))).holds [] { args:=[.list (ns.map .int)] }=true:=by
   have h4:=(holds_andW hc).1;rw [hn] at h4;exact h4
  have h5:=condW_of h4 (w_not (w_lt w_lit (w_len_list (w_arg rfl))));rw [List.length_map] at h5;refine Nat.le_of_not_lt λq=>?_;have q':(n:Int)<((ns.length:Nat):Int):=by omega
  first
   | (rw [decide_eq_true q'] at h5;exact absurd h5 (by decide))
   | (simp at h5;omega)
 cases hwl with
 | cons w1 w2 =>
  cases w2
  cases w1 with
  | list ho hall=>exact ⟨_,_,ns,rfl,rfl,ho,a4f ns _ hall,hlen⟩
theorem aeh(l:OpenLaw)(args:List WData):l.row.toRowW.claim.post args (.bool true) args=true :=
 postW_of (r:=l.row.toRowW) (X:=(true == true))
  (show WShape.has [] (.bool true) .bool=true by first | rfl | decide | simp [WShape.has,WShape.arms,WShape.armsAll])
  (show (WTm.eq .res (.lit (.bool true))).value [] { args:=args,res:=some (.bool true),after:=args }=some (.bool (true == true)) from w_eq_bool (w_res rfl) w_lit) rfl
theorem a9l{l:OpenLaw}{n:Nat}{q:Program}{loose:List Str}{XP:(Str->Option Value)->Heap->Prop}{YP:World->Heap->Prop}{d:DefRec}
  (hn:l.most=some n) (hdf:d.params.defaults=[])
  (call:∀ (w:World) (s₀ s₁:Shared) (mg mb:Str->Option Value) (fa:Addr) (o:Obj) (pm cd doc:Value) (a:Addr) (vs:List Value) (ns:List Int),
   Ground q loose [] XP w s₀ mg mb s₁.heap->YP w s₁.heap->
   s₁.heap.get? fa=some o->o.data = .func (docDef d.name d.params d.body d.scope pm cd doc)->s₁.heap.CodeRec cd d.name->mg d.name=some (.ref fa)->
   s₁.heap.get? a=some { cls:=.type "list",data:=.seq vs.toArray }->IntsAre vs ns->ns.length<=n->s₁.gens = #[]->
   codeAny (model l.prog w) callerA (.call (.ref fa) ⟨[.ref a],[]⟩) (λr s'=>r = .ok (.ret (.bool true))/\OldK s₁.heap s'.heap/\s'.os=s₁.os/\AllBare s'.gens) s₁) :
  WalkO q loose XP YP l.row.toRowW d [] (λf vs=>PySem.call f vs):=by
 intro w s₀ s₁ mg mb G Y fa o pm cd doc dV kV ho hd hcd hD hmg hg args vals as hpre hlay hrd hwl hlo
 obtain rfl:dV = .none:=Dflts.none hD hdf
 obtain rfl:kV = .none:=Dflts.noKw hD
 obtain ⟨a,vs,ns,rfl,rfl,hobj,hints,hlen⟩:=aeg hn hpre hwl;refine enter_call (codeAny_mono (call w s₀ s₁ mg mb fa o pm cd doc a vs ns G Y ho (fd_plain hd) hcd hmg hobj hints hlen hg) λr s' hq=>?_);obtain ⟨rfl,h2,h3,h4⟩:=hq;exact ⟨.inl ⟨.bool true, .bool true,[],rfl,λ_=>rfl, .bool true,aeh l _,λ_=>⟨List.Pairwise.nil,λ_ hm=>(nomatch hm)⟩⟩,h2,h3,h4⟩
end Att
namespace L2
open PySem PySem.Spec PyProof.Rows
theorem a4g:∀ {vs:List Value} {ns:List Int},IntsAre vs ns->Vals (ns.map V.int) vs
 | _,_, .nil=>.nil
 | _,_, .cons n t h=>.cons ⟨t,rfl⟩ (a4g h)
def Only(H:Hp):Prop:=∀ b,H b=none\/∃ o xs,H b=some (.frz o (.lst xs))
theorem ai1{P:Program}{w:World}{K:PySem.W.Frag}{mg mb:Str->Option Value}{CX:CXT}{k:Nat}{fa a:Addr}{fd:FuncData}{x:Str}{sp:Sp}{s₁:Shared}{vs:List Value}{ns:List Int}
  (KX:K.In s₁.heap) (hns:s₁.heap.Ns mainGlobals mg) (hb:s₁.heap.Ns builtinsNs mb) (hbb:∀ x:Str,x ≠ "__name__"->mb x=bootBuiltins x) (hlim:s₁.heap.NoLimit) (hg:s₁.gens = #[])
  (ha:s₁.heap.get? a=some { cls:=.type "list",data:=.seq vs.toArray }) (hi:IntsAre vs ns) (hl:ns.length<=sizeLine) (hr:Room k callerA)
  (F:∀ base:Heap,K.In base->base.Ns mainGlobals mg->FnOk P w K mg base CX k fa fd [x] sp) (hbind:∀ (s:Shared) (u:Value),BindsTo s fd ⟨[u],[]⟩ [(x,u)])
  (hsp:∀ H:Hp,Only H->SqL K H a (ns.map V.int)->sp [.ref a] H (λv _=>v = .bl true) λ_ _ _=>False)
  (hCX:∀ H e s',CX [] H s₁ (λ_ _ _=>False) e s'->False) :
  codeAny (model P w) callerA (.call (.ref fa) ⟨[.ref a],[]⟩) (λr s'=>r = .ok (.ret (.bool true))/\OldK s₁.heap s'.heap/\s'.os=s₁.os/\AllBare s'.gens) s₁:=by
 have rv:=a4g hi;have lenV:=hi.length;have core:∀ H:Hp,Only H->SqL K H a (ns.map V.int)->HOk P w H s₁.heap->(∀ b,H b≠none->b=a)->(H a≠none->K.lookup a=none)->
   codeAny (model P w) callerA (.call (.ref fa) ⟨[.ref a],[]⟩) (λr s'=>r = .ok (.ret (.bool true))/\OldK s₁.heap s'.heap/\s'.os=s₁.os/\AllBare s'.gens) s₁:=by
  intro H hO hS hok hA hK
  have base_of:∀ {b:Addr} {o:Obj},s₁.heap.get? b=some o->H b=none->(ahq s₁.heap H).get? b=some o:=λe n=>ahr e n;have noA:∀ {b:Addr} {o:Obj} {es:Array DictEntry} {ep:Nat},s₁.heap.get? b=some o->o.data = .dict es ep->H b=none:=λ{b o es ep} e d=>by
   cases q:H b with
   | none=>rfl
   | some u =>
    have e':b=a:=hA b (by rw [q];simp)
    subst e';rw [ha] at e;cases e
    have d':Data.seq vs.toArray _=Data.dict es ep:=d
    cases d'
  have nsK:∀ {b:Addr} {m:Str->Option Value},s₁.heap.Ns b m->(ahq s₁.heap H).Ns b m:=λ{b m} ⟨o,es,ep,e,d,r⟩=>⟨o,es,ep,base_of e (noA e d),d,r⟩;have hKb:K.In (ahq s₁.heap H):=λb o e=>base_of (KX b o e) (by
   cases q:H b with
   | none=>rfl
   | some u =>
    have e':b=a:=hA b (by rw [q];simp)
    subst e';rw [hK (by rw [q];simp)] at e;cases e)
  have hM:Mod K mg (ahq s₁.heap H):=⟨hKb,nsK hns,⟨mb,nsK hb,hbb⟩,let ⟨mc,h1,h2⟩:=hlim; ⟨mc,nsK h1,h2⟩⟩;have e0:Env0 P w K mg (ahq s₁.heap H) callerA [] s₁ H:=⟨rfl,hM,λb o e=>alh e,Nat.le_of_eq (adz _ _),trivial,λb hb=>absurd (show b∈([]:List Addr) from hb) (by simp),hok, .of_eq hg⟩
  refine codeAny_mono ((F _ hKb (nsK hns)).run callerA [] s₁ H ⟨[.ref a],[]⟩ [.ref a] [.ref a] _ _ hr e0 (hbind s₁ (.ref a)) (.cons rfl .nil) (hsp H hO hS)) λr s' h=>?_
  cases r with
  | error e=>exact (hCX H e s' h).elim
  | ok fl =>
   cases fl with
   | next=>exact False.elim h
   | brk=>exact False.elim h
   | cont=>exact False.elim h
   | ret u =>
    obtain ⟨v,H',os,bare,un,hok',r',q⟩:=h;have q':v = .bl true:=q;subst q';obtain rfl:u=Value.bool true:=r';refine ⟨rfl,OldK.of_keep λb o e=>?_,os,bare⟩
    cases q:H b with
    | none=>exact un.keep b o e q (by intro z;exact absurd (show b∈([]:List Addr) from z) (by simp)) (by simp)
    | some u =>
     rcases hO b with z | ⟨ob,xs,z⟩
     ·rw [q] at z;cases z
     ·have z2:=un.frzs b ob _ z;obtain ⟨e1,_⟩:=hok b _ z;obtain ⟨e2,_⟩:=hok' b _ z2;rw [e] at e1;cases e1
      exact e2
 cases hk:K.lookup a with
 | some o =>
  have e:=KX a o hk;rw [ha] at e;cases e
  refine core (λ_=>none) (λ_=>.inl rfl) (.inr ⟨_,vs.toArray,_,hk,rfl,rfl,rfl,by rw [List.size_toArray,lenV];exact hl,by simpa using rv⟩) (λb u z=>by have z':(none:Option HO)=some u:=z;cases z') (λb z=>absurd rfl z) λz=>absurd rfl z
 | none =>
  refine core (λb=>if b=a then some (.frz { cls:=.type "list",data:=.seq vs.toArray } (.lst (ns.map V.int))) else none) (λb=>?_) (.inl (.inr ⟨{ cls:=.type "list",data:=.seq vs.toArray },if_pos rfl⟩)) (λb u z=>?_) (λb z=>?_) λ_=>hk
  ·by_cases hb:b=a
   ·exact .inr ⟨_,_,if_pos hb⟩
   ·exact .inl (if_neg hb)
  ·by_cases hb:b=a
   ·have z':=(if_pos hb).symm.trans z
    cases z'
    subst hb;exact ⟨ha,by rw [List.length_map];exact hl,vs,_,rv,ha⟩
   ·have z':=(if_neg hb).symm.trans z
    cases z'
  ·by_cases hb:b=a
   ·exact hb
   ·exact absurd (if_neg hb) z
theorem am3{l:PySem.W.OpenLaw}{n k:Nat}{q:Program}{loose:List Str}{XP:(Str->Option Value)->Heap->Prop}{YP:World->Heap->Prop}{d:DefRec}{K:Params->PySem.W.Frag}{CX:World->CXT}{sp:World->Sp}{x:Str}
  (hn:l.most=some n) (hn2:n<=sizeLine) (hdf:d.params.defaults=[]) (hr:Room k callerA)
  (hY:∀ (w:World) (h:Heap),YP w h->(K w.params).In h)
  (F:∀ (w:World) (mg:Str->Option Value) (fa:Addr) (h:Heap),(K w.params).In h->h.Ns mainGlobals mg->mg d.name=some (.ref fa)->
   ∃ fd:FuncData,(∀ (s:Shared) (u:Value),BindsTo s fd ⟨[u],[]⟩ [(x,u)]) /\
    ∀ base:Heap,(K w.params).In base->base.Ns mainGlobals mg->FnOk l.prog w (K w.params) mg base (CX w) k fa fd [x] (sp w))
  (hsp:∀ (w:World) (H:Hp) (a:Addr) (ns:List Int),ns.length<=n->Only H->SqL (K w.params) H a (ns.map V.int)->sp w [.ref a] H (λv _=>v = .bl true) λ_ _ _=>False)
  (hCX:∀ (w:World) (H:Hp) (s:Shared) (e:Value) (s':Shared),CX w [] H s (λ_ _ _=>False) e s'->False) :
  PySem.W.WalkO q loose XP YP l.row.toRowW d [] (λf vs=>PySem.call f vs):=by
 refine Att.a9l hn hdf λw s₀ s₁ mg mb fa o pm cd doc a vs ns G Y ho hd hcd hmg hobj hints hlen hg=>?_;have KX:=hY w _ Y;obtain ⟨fd,hb,hF⟩:=F w mg fa _ KX G.T.g hmg;exact ai1 KX G.T.g G.T.b G.T.builtins G.T.nolimit hg hobj hints (Nat.le_trans hlen hn2) hr hF hb (λH hO hS=>hsp w H a ns hlen hO hS) λH e s'=>hCX w H s₁ e s'
def a2n(s:Stmt):Arguments:=match s with
 | .FunctionDef _ a _ _ _ _ _ _ _ _=>a
 | _=>{ posonlyargs:=[],args:=[],vararg:=none,kwonlyargs:=[],kw_defaults:=[],kwarg:=none,defaults:=[] }
def jh(s:Stmt):List Stmt:=match s with
 | .FunctionDef _ _ b _ _ _ _ _ _ _=>b
 | _=>[]
def bf(s:Stmt):Scope:=match s with
 | .FunctionDef _ _ _ _ _ _ sc _ _ _=>sc
 | _=>{ kind:=.function,names:=[],isGenerator:=false,isCoroutine:=false }
abbrev CX0:CXT:=λ_ _ _ _ _ _=>False
abbrev E0:XK:=λ_ _ _=>False
theorem apt{X:Cx}:aas CX0 X E0:=λ_ _ _ _ _ _ _ h=>h.elim
structure Fun (K:PySem.W.Frag) (x qual:Str) (st:Stmt) (f:Addr) (fd:FuncData):Prop where
 ex:∃ (oc:Value) (od:Option Addr) (kV doc pm:Value) (an:Option Addr) (cdv ct:Value) (osl:Array (Option Value)),
  fd=PySem.W.fnOf x qual (a2n st) (jh st) (bf st) .none kV doc pm an cdv ct/\K.lookup f=some ⟨oc,od, .func fd,osl⟩/\PySem.W.codeIn K cdv qual=true
 kp:PySem.W.keepIn K (.ref f)=true
section
variable{P:Program}{w:World}{K:PySem.W.Frag}{mg:Str->Option Value}{base:Heap}
theorem Fun.ok{x qual:Str}{st:Stmt}{f:Addr}{fd:FuncData}{N ps:List Str}{k:Nat}{sp:Sp}(F:Fun K x qual st f fd)(S:FnScope N ps (bf st))(len:∀ vs H Q E,sp vs H Q E->vs.length=ps.length)
  (hbody:∀ (cdv:Value) (A:Around) (outer:List Env) (s:Shared) (H:Hp) (vs:List V) (Q:VK) (E:XK),Room k (A.deeper (envOfC qual (bf st) s.heap.objs.size f cdv))->sp vs H Q E->
   ∃ t,PSs (a0w CX0 P w K mg base N qual (bf st) f cdv A outer s H E).nox (jh st) t/\t { nx:=λ_ H'=>Q .non H',rt:=Q } (start N vs) H):FnOk P w K mg base CX0 (k+1) f fd ps sp:=by
 obtain ⟨oc,od,kV,doc,pm,an,cdv,ct,osl,rfl,lk,hcd⟩:=F.ex;refine au8 lk hcd S len λA outer s H vs Q E hr hsp=>?_;obtain ⟨t,h,q⟩:=hbody cdv A outer s H vs Q E hr hsp;exact ⟨t,h.nox,q⟩
theorem Fun.binds{x qual:Str}{st:Stmt}{f:Addr}{fd:FuncData}{ps:List Str}(F:Fun K x qual st f fd)
  (h:∀ (kV doc pm:Value) (an:Option Addr) (cdv ct:Value) (us:List Value),us.length=ps.length->bindArgs (PySem.W.fnOf x qual (a2n st) (jh st) (bf st) .none kV doc pm an cdv ct) ⟨us,[]⟩=pure (ps.zip us)):Binds K fd ps []:=by
 obtain ⟨oc,od,kV,doc,pm,an,cdv,ct,osl,rfl,lk,hcd⟩:=F.ex;exact .all (h kV doc pm an cdv ct)
theorem apu{x qual:Str}{st:Stmt}{f:Addr}{oc:Value}{od an:Option Addr}{osl:Array (Option Value)}{kV doc pm cdv ct:Value}(l:K.lookup f=some ⟨oc,od, .func (PySem.W.fnOf x qual (a2n st) (jh st) (bf st) .none kV doc pm an cdv ct),osl⟩)
  (c:PySem.W.codeIn K cdv qual=true) (k:PySem.W.keepIn K (.ref f)=true):Fun K x qual st f (PySem.W.fnOf x qual (a2n st) (jh st) (bf st) .none kV doc pm an cdv ct):=⟨⟨oc,od,kV,doc,pm,an,cdv,ct,osl,rfl,l,c⟩,k⟩
end
def Same(H H':Hp):Prop:=∀ b o,H b=some o->H' b=some o
theorem Same.seq{K:PySem.W.Frag}{H H':Hp}{a:Addr}{xs:List V}(e:Same H H')(h:SqL K H a xs):SqL K H' a xs:=by
 rcases h with (h | ⟨o,h⟩) | h
 ·exact .inl (.inl (e _ _ h))
 ·exact .inl (.inr ⟨o,e _ _ h⟩)
 ·exact .inr h
section
variable{κ:Type}[DecidableEq κ]
theorem RelO.getD{o:Option V}{u:Option Value}{d:V}{d':Value}(r:RelO o u)(rd:RelV d d'):RelV (o.getD d) (u.getD d'):=by
 cases o with
 | none=>cases u with
  | none=>exact rd
  | some _=>exact (show False from r).elim
 | some _=>cases u with
  | none=>exact (show False from r).elim
  | some _=>exact r
end
end L2
set_option maxHeartbeats 4000000
namespace L2
open PySem PySem.Spec PyProof.Rows
section
variable{X:Cx}
theorem ai2:OpR X (compareOp .Is) (λx y H Q=>∃ i j,x = .bl i/\y = .bl j/\Q (.bl (i == j)) H):=by
 intro pins s σ H x y v u Q I rx ry h
 obtain ⟨i,j,rfl,rfl,q⟩:=h;cases rx
 cases ry
 exact is_bool (a5w I q rfl)
theorem qm:OpR X (compareOp .IsNot) (λx y H Q=>∃ i j,x = .bl i/\y = .bl j/\Q (.bl (i != j)) H):=by
 intro pins s σ H x y v u Q I rx ry h
 obtain ⟨i,j,rfl,rfl,q⟩:=h;cases rx
 cases ry
 exact isnot_bool (a5w I q rfl)
def a3e{α:Type}(xs:List α)(lo hi:Option Int):List α:=(xs.drop (HT.sIx xs.length 0 lo)).take (HT.sIx xs.length xs.length hi - HT.sIx xs.length 0 lo)
def aue:V->Option Int->Option Int->Hp->VK->Prop:=λx lo hi H Q=>∃ z,x = .str z/\z.length<=sizeLine/\Q (.str ⟨(a3e z.cps.toList lo hi).toArray⟩) H
theorem apv(lo hi:Option Int)(n:Nat):Builtin.Str.strSliceIndices lo hi 1 n=(List.range (HT.sIx n n hi - HT.sIx n 0 lo)).map λk=>HT.sIx n 0 lo+k:=by
 have e1:Builtin.Str.strSliceIndices lo hi 1 n=sliceRange ((HT.sIx n 0 lo:Nat):Int) ((HT.sIx n n hi:Nat):Int) 1:=by
  unfold Builtin.Str.strSliceIndices;dsimp only
  congr 1
  ·cases lo with
   | none=>simp [HT.sIx]
   | some i=>simp only [HT.sIx,show (1:Int) > 0 by decide,if_true];split<;>omega
  ·cases hi with
   | none=>simp [HT.sIx]
   | some i=>simp only [HT.sIx,show (1:Int) > 0 by decide,if_true];split<;>omega
 rw [e1];exact sliceRange_one _ _
theorem apw{α:Type}(xs:List α)(a:Nat):∀ k,a+k<=xs.length->((List.range k).map λj=>a+j).filterMap (xs[·]?)=(xs.drop a).take k
 | 0,_=>by simp
 | k+1,h=>by
  rw [List.range_succ,List.map_append,List.filterMap_append,apw xs a k (by omega)]
  have hk:a+k<xs.length:=by omega
  rw [List.take_succ]
  congr 1
  simp [List.getElem?_drop,hk]
theorem apx:SlR X aue:=by
 intro pins s σ H x v vl vu lo hi sl Q I rx hs pl pu h
 obtain ⟨z,rfl,hz,q⟩:=h;obtain ⟨t,rfl⟩:=rx;refine ⟨"str",_,PyProof.Rows.slot_str_getitem.lookup,typeIs_str s z t,?_⟩;have hl:z.cps.toList.length=z.length:=by simp [Str.length]
 have fin:∀ (l u:Option (Int × Tok)),vl=partValue l->vu=partValue u->l.map (·.1)=lo->u.map (·.1)=hi->wpAny (model X.prog X.w) X.A (getItem (.str z t) (.ref sl)) (EP X pins σ Q) X.xe s:=by
  intro l u e1 e2 e3 e4
  subst e1 e2;refine wpAny_getItem_str_slice (l:=l) (u:=u) (st:=none) hs rfl ?_;have hp:slicePicked z l u none=(List.range (HT.sIx z.length z.length hi - HT.sIx z.length 0 lo)).map λk=>HT.sIx z.length 0 lo+k:=by
   unfold slicePicked;rw [e3,e4];exact apv lo hi z.length
  have hb1:HT.sIx z.length z.length hi<=z.length:=HT.aec _ _ (Nat.le_refl _) _;have hb2:HT.sIx z.length 0 lo<=z.length:=HT.aec _ _ (Nat.zero_le _) _;unfold sliceMade
  split
  ·rename_i c;simp only [Bool.and_eq_true,beq_iff_eq] at c;obtain ⟨_,c⟩:=c;rw [hp,List.length_map,List.length_range] at c;have e:(⟨(a3e z.cps.toList lo hi).toArray⟩:Str)=z:=by
    unfold a3e;rw [hl];have z1:HT.sIx z.length 0 lo=0:=by omega
    have z2:HT.sIx z.length z.length hi=z.length:=by omega
    rw [z1,z2,List.drop_zero,Nat.sub_zero,List.take_of_length_le (by omega)]
   rw [e] at q;exact ⟨.str z,H,I,⟨_,rfl⟩,q⟩
  ·have e:(⟨(a3e z.cps.toList lo hi).toArray⟩:Str)=⟨((slicePicked z l u none).filterMap (z.cps[·]?)).toArray⟩:=by
    rw [hp];unfold a3e;rw [hl]
    by_cases hc:HT.sIx z.length 0 lo<=HT.sIx z.length z.length hi
    ·rw [<-apw z.cps.toList _ _ (by omega)]
     simp only [Array.getElem?_toList]
    ·rw [show HT.sIx z.length z.length hi - HT.sIx z.length 0 lo=0 by omega]
     simp
   rw [e] at q;refine ⟨?_, .str _,H,I.tok _,⟨_,rfl⟩,q⟩;rw [<-e];show (a3e z.cps.toList lo hi).toArray.size<=sizeLine;rw [List.size_toArray];unfold a3e;rw [List.length_take,List.length_drop,hl];omega
 cases pl with
 | none=>cases pu with
  | none=>exact fin none none rfl rfl rfl rfl
  | int j t'=>exact fin none (some (j,t')) rfl rfl rfl rfl
 | int i t'=>cases pu with
  | none=>exact fin (some (i,t')) none rfl rfl rfl rfl
  | int j t''=>exact fin (some (i,t')) (some (j,t'')) rfl rfl rfl rfl
theorem a9m:CallR X (.builtin "isinstance") (λxs H Q=>∃ x T t b,xs=[x, .ty T]/\TyOf X.K H x t/\PySem.W.kitOne X.K t (.type T)=some b/\Q (.bl b) H):=by
 intro pins s σ H xs us Q I r h
 obtain ⟨x,T,t,b,rfl,ty,e,q⟩:=h;obtain ⟨u,w',rfl,rx,rt⟩:=vals2 r;cases rt
 exact aea I rx ty e λtk=>⟨.bl b,H,I.tok tk,rfl,q⟩
def a0e(x:Str):List V:=x.cps.toList.map λc=>V.str ⟨#[c]⟩
theorem acl{x:Str}{acc:Array Value}(h:ItemsOf (SignAt x) acc x.cps.size):Vals (a0e x) acc.toList:=by
 obtain ⟨hs,ha⟩:=h;have key:∀ (cs:List Nat) (us:List Value),us.length=cs.length->(∀ (j:Nat) (v:Value),us[j]? = some v->∃ c u,cs[j]? = some c/\v = .str ⟨#[c]⟩ u)->Vals (cs.map λc=>V.str ⟨#[c]⟩) us:=by
  intro cs
  induction cs with
  | nil=>intro us hl _;cases us with | nil=>exact .nil | cons _ _=>simp at hl
  | cons c cs ih =>
   intro us hl hp
   cases us with
   | nil=>simp at hl
   | cons u us =>
    refine .cons ?_ (ih us (by simpa using hl) λj v e=>hp (j+1) v (by simpa using e))
    obtain ⟨c',t,e1,e2⟩:=hp 0 u rfl;simp at e1;subst e1;exact ⟨t,e2⟩
 refine key _ _ (by simp [hs]) λj v e=>?_
 obtain ⟨c,u,e1,e2⟩:=ha j v (by simpa using e)
 exact ⟨c,u,by simpa using e1,e2⟩
theorem v6(hc:X.calm=true):CallR X (.type "tuple") (λxs H Q=>∃ z,xs=[.str z]/\z.length<=sizeLine/\∀ l,H l=none->Q (.ref l) (upd H l (.tup (a0e z)))):=by
 intro pins s σ H xs us Q I r h
 obtain ⟨z,rfl,hz,q⟩:=h;obtain ⟨u,rfl,t,rfl⟩:=vals1 r;refine PySem.call_tuple_str (I.ok.hd hc) z t (λh' tk acc kp hi=>?_) (by simpa [Str.length] using hz)
 have I1:Inv X pins σ H { s with heap:=h',toks:=tk }:=I.kept kp
 have I2:Inv X pins σ (upd H h'.objs.size (.tup (a0e z))) { s with heap:=h'.push { cls:=.type "tuple",data:=.seq acc },toks:=tk } :=
  I1.laid (t':=tk) (λb o e=>Heap.get?_push_of_some _ e) (Nat.le_refl _) (show ObjOk X.prog X.w _ _ _ (.tup (a0e z)) from ⟨by simpa [a0e,Str.length] using hz,acc.toList,acl hi,by simpa using IsTup.new h' acc⟩)
 exact ⟨.ref h'.objs.size,_,I2,rfl,q _ (I1.hok.fresh (Nat.le_refl _))⟩
end
def Its(x:Str):It:=⟨λi _=>i<x.cps.size,λi H v H'=>H'=H/\∃ c,x.cps.toList[i]? = some c/\v = .str ⟨#[c]⟩,λi _=>i=x.cps.size⟩
theorem aau{P:Program}{w:World}{K:PySem.W.Frag}{tg:Expr}(it:Addr)(x:Str)(t:Tok)(ty:String)
  (hty:["enumerate", "zip", "dict_itemiterator", "dict_reverseitemiterator", "odict_iterator", "itertools.zip_longest", "itertools.pairwise"].contains ty=false)
  (W:∀ A':Around,A'.handled=none->Walks P w A' it [it] [it] x.cps.size (SignAt x) (λi h=>h.IsStrIter it ty x t i))
  (slf:∀ (A:Around) (i:Nat) (s:Shared) (Q:Value->Shared->Prop) (E:Value->Shared->Prop),s.heap.IsStrIter it ty x t i->Q (.ref it) s->wpAny (model P w) A (pyIter (.ref it)) Q E s) :
  Turn P w K tg (Its x) [it] it (λi h=>h.IsStrIter it ty x t i) where
 mem:=by simp
 obj:=λi h st b hb=>by
  have e:b=it:=by simpa using hb
  subst e;obtain ⟨o,e,c,d⟩:=st;exact ⟨o,e,λv z=>by rw [d] at z;cases z⟩
 keep:=λi h h' st k=>by
  obtain ⟨o,e,c,d⟩:=st;exact ⟨o,k it (by simp) o e,c,d⟩
 item:=by
  intro X hP hw hK hc i pins s σ H E I hf st hg
  subst hP hw hK;obtain ⟨f0,f1,f2,f3,f4,f5⟩:=hf it (by simp)
  refine (W X.A (I.ok.hd hc)).item i s _ _ hg st λv h' tk hv st' kk=>?_;obtain ⟨c,u,hx,rfl⟩:=hv;have I1:Inv X pins σ H { s with heap:=h',toks:=tk }:=I.turned (λb o hb e=>kk b o (by simpa using hb) e) f0 f1 f3 f4 f5
  obtain ⟨o,e,oc,d⟩:=id st';exact ⟨_,rfl,ae1 (s:={ s with heap:=h',toks:=tk }) e oc d hty ⟨.str ⟨#[c]⟩,H,I1,⟨_,rfl⟩,⟨rfl,c,by simpa using hx,rfl⟩,st',λb hb=>(hf b hb).1⟩⟩
 done:=by
  intro X hP hw hK hc i pins s σ H E I hf st hg
  subst hP hw hK;obtain ⟨f0,f1,f2,f3,f4,f5⟩:=hf it (by simp)
  have hg':i=x.cps.size:=hg;subst hg';exact (W X.A (I.ok.hd hc)).done s _ _ st λh' tk eb=>⟨rfl,I.turned (λb o hb e=>eb b o (by simpa using hb) e) f0 f1 f3 f4 f5⟩
 self:=slf
section
variable{X:Cx}{tg:Expr}
def aww(tl:TE):TI:=λσ H R=>tl σ H λx H1=>∃ z,x = .str z/\R (Its z) H1
theorem aki{l:Expr}{tl:TE}(hl:PE X l tl):PI X tg l (aww tl):=by
 intro pins s σ H R I h
 refine thn (hl pins s σ H _ I h) λv s1 ⟨x,H1,I1,r1,q1⟩=>?_;obtain ⟨z,e,q⟩:=q1;subst e;obtain ⟨t,rfl⟩:=r1;have fp:∀ b∈[s1.heap.objs.size],FpOk X pins H1 b:=λb hb=>by
  have e:b=s1.heap.objs.size:=by simpa using hb
  subst e;exact I1.fpOk (Nat.le_refl _) (I1.hok.fresh (Nat.le_refl _))
 cases ha:z.cps.all (· < 128)
 ·exact wpAny_pyIter_wide ha ⟨s1.heap.objs.size,[s1.heap.objs.size],_,_,H1,rfl,I1.kept (t':=s1.toks) λb o e=>Heap.get?_push_of_some _ e,
   aau _ z t "str_iterator" (by decide) (λA' hA=>Walks.strWide hA _ z t) (λ_ _ _ _ _ st h=>wpAny_pyIter_striter_wide st h),⟨_,Heap.get?_push_size _ rfl,rfl,rfl⟩,fp,q⟩
 ·exact wpAny_pyIter_ascii ha ⟨s1.heap.objs.size,[s1.heap.objs.size],_,_,H1,rfl,I1.kept (t':=s1.toks) λb o e=>Heap.get?_push_of_some _ e,
   aau _ z t "str_ascii_iterator" (by decide) (λA' hA=>Walks.strAscii hA _ z t) (λ_ _ _ _ _ st h=>wpAny_pyIter_striter_ascii st h),⟨_,Heap.get?_push_size _ rfl,rfl,rfl⟩,fp,q⟩
end
def cxC(X:Cx)(N:List Str)(scope:Scope)(cl:List (Str × Addr))(C:Addr)(fp:List Addr)(s:Shared)(H:Hp):Cx where
 prog:=X.prog
 w:=X.w
 K:=X.K
 mg:=X.mg
 base:=X.base
 A:=X.A
 N:=N
 s₀:=s
 H₀:=H
 env:=compEnvC scope cl C X.env
 outer:=X.stack
 stack:=X.stack
 ex:=fp
 fn:=λ_=>false
 calm:=X.calm
 pn:=[]
 xe:=λ_ _=>False
structure CSc (X:Cx) (scope:Scope) (cl:List (Str × Addr)) (ts fr:List Str) (ix:List Nat):Prop where
 clos:closureFor scope X.env=pure cl
 kind:scope.kind = .function
 nocell:∀ y∈scope.names,y.2≠.cell
 names:∀ y∈scope.names,y.2 = .local->scope.names.lookup y.1=some .local
 sub:∀ y c,cl.lookup y=some c->X.env.cells.lookup y=some c
 has:∀ y,((relabel scope X.env).names.lookup y=some .cell\/(relabel scope X.env).names.lookup y=some .free)->∃ c,cl.lookup y=some c
 nofn:∀ y∈ts,(relabel scope X.env).names.lookup y=some .local
 len:ix.length=fr.length
 vis:∀ (j:Nat) (y:Str),fr[j]? = some y->∃ i:Nat,ix[j]? = some i/\X.N[i]? = some y/\(X.env.kindOf y=some .cell\/X.env.kindOf y=some .free)/\((relabel scope X.env).names.lookup y=some .cell\/(relabel scope X.env).names.lookup y=some .free)
def Ext(a b:St):Prop:=b.length=a.length/\∀ (i:Nat) v,a[i]? = some (some v)->b[i]? = some (some v)
def jz(nt:Nat)(ix:List Nat)(σ:St):St:=List.replicate nt none++ix.map λi=>(σ[i]?).join
def apy(J:It)(s0:St)(g:TG)(te:TE)(Q:VK)(H1:Hp):Prop:=∃ W:Nat->Nat->List V->Hp->Prop,(∃ m,W 0 m [] H1)/\∀ i m ys H,W i m ys H->
 (J.stop i H/\∀ p,H p=none->Q (.ref p) (upd H p (.lst ys))) \/
 (J.go i H/\ys.length<sizeLine/\∀ x H',J.yld i H x H'->g x s0 H' λσ2 H2=>Ext s0 σ2/\te σ2 H2 λy H3=>∃ m',m'<m/\W (i+1) m' (ys++[y]) H3)
def acn(wi:TI)(s0:St->St)(g:TG)(te:TE):TE:=λσ H Q=>wi σ H λJ H1=>apy J (s0 σ) g te Q H1
theorem a8i{prog:Program}{w:World}{A:Around}{R:Result->Shared->Prop}{s:Shared}{elt target iter:Expr}{scope:Scope}{pos:Pos}{it acc:Value}{env:Env}(J:Nat->Shared->Prop)
  (step:∀ m z,J m z->wpAny (model prog w) A (pyNext it) (λgot z1=>match got with
   | none=>R (.ok .next) z1
   | some v=>wpAny (model prog w) A (letOwnedTupleGo target it v) (λ_ z2=>wpAny (model prog w) A (assign target env v) (λ_ z3=>wpAny (model prog w) A (eval elt env) (λx z4 =>
     wpAny (model prog w) A (call (.builtin "list.append") [acc,x]) (λ_ z5=>∃ m',m'<m/\J m' z5) (λ_ _=>False) z4)
     (λ_ _=>False) z3) (λ_ _=>False) z2) (λ_ _=>False) z1) (λ_ _=>False) z)
  (m:Nat) (j0:J m s):codeAny (model prog w) A (.compLoop (.ListComp elt [⟨target,iter,[],0⟩] scope pos) 0 it acc env) R s:=by
 refine codeAny_loop rfl J (λm z hj=>(wpAny_noted ?_:wpAny _ _ ((compTurn (.ListComp elt [⟨target,iter,[],0⟩] scope pos) 0 it acc env).onRaise _) _ _ z)) m j0;rw [compTurn_list1];refine wpAny_bind (wpAny_standAt (wpAny_bind (wpAny_mono (step m z hj) (λgot z1 h1=>?_) λ_ _ no=>no.elim)))
 match got,h1 with
 | none,h1=>exact wpAny_pure h1
 | some v,h1 =>
  refine wpAny_bind (wpAny_mono h1 (λ_ z2 h2=>wpAny_bind (wpAny_mono h2 (λ_ z3 h3=>?_) λ_ _ no=>no.elim)) λ_ _ no=>no.elim);refine wpAny_bind (wpAny_bind (wpAny_mono h3 (λx z4 h4=>?_) λ_ _ no=>no.elim));exact wpAny_bind (wpAny_mono h4 (λ_ z5 h5=>wpAny_pure (wpAny_pure ⟨rfl,h5⟩)) λ_ _ no=>no.elim)
section
variable{X:Cx}
theorem a4h{pins:List (Addr × Obj)}{σ:St}{H:Hp}{s:Shared}{scope:Scope}{cl:List (Str × Addr)}{ts fr:List Str}{ix:List Nat}{C:Addr}{fp:List Addr}(S:CSc X scope cl ts fr ix)(I:Inv X pins σ H s)
  (hf:∀ b∈fp,FpOk X pins H b) (hb:∀ b∈fp,b<s.heap.objs.size) (hC:s.heap.objs.size<=C):(cxC X (ts++fr) scope cl C fp s H).Ok where
 mod:=I.ok.mod
 kind:=S.kind
 glob:=I.ok.glob
 blt:=I.ok.blt
 above:=hC
 inj:=λx y c h1 h2=>I.ok.inj x y c (S.sub x c h1) (S.sub y c h2)
 has:=S.has
 cab:=λ_ _ z=>nomatch z
 hd:=I.ok.hd
 frames:=I.ok.frames
 stk:=.inl rfl
 exf:=λb hb'=>⟨Nat.ne_of_lt (Nat.lt_of_lt_of_le (hb b hb') hC),λx c e=>(hf b hb').2.2.2.2.1 x c (S.sub x c e)⟩
 bs:=λb o e=>I.bs b o e
 bsz:=Nat.le_trans I.ok.bsz I.sz
 noex:=λb o e hb'=>by
  rcases (hf b hb').2.2.2.1 with z | z
  ·exact I.ok.noex b o e z
  ·exact absurd (Nat.lt_of_lt_of_le (Heap.lt_size e) (Nat.le_trans I.ok.bsz z)) (Nat.lt_irrefl _)
 exfs:=λb hb' z=>by
  rcases List.mem_cons.mp (I.stkSub b z) with e | e
  ·exact (hf b hb').2.1 e
  ·exact (hf b hb').2.2.1 e
 funs:=I.stack
 frf:=λb hb'=>I.stkFree b hb'
theorem a5z{nt:Nat}{ix:List Nat}{σ:St}:(jz nt ix σ).length=nt+ix.length:=by
 unfold jz;rw [List.length_append,List.length_replicate,List.length_map]
theorem a9n{pins:List (Addr × Obj)}{σ:St}{H:Hp}{s s4:Shared}{scope:Scope}{cl:List (Str × Addr)}{ts fr:List Str}{ix:List Nat}{C:Addr}{fp:List Addr}{m:Str->Option Value}(S:CSc X scope cl ts fr ix)(I:Inv X pins σ H s)
  (hf:∀ b∈fp,FpOk X pins H b) (hb:∀ b∈fp,b<s.heap.objs.size) (hC:s.heap.objs.size<=C)
  (k:∀ b o,s.heap.get? b=some o->s4.heap.get? b=some o) (hn:s4.heap.Ns C m) (ho:s4.os=s.os) (hg:s4.gens=s.gens) :
  Inv (cxC X (ts++fr) scope cl C fp s H) [] (jz ts.length ix σ) H s4 where
 ok:=a4h S I hf hb hC
 os:=ho
 bare:=by rw [hg];exact I.bare
 base:=Un.kept k
 loc:=by
  refine ⟨m,hn,λi x v e1 e2 e3=>?_⟩;have e1:(ts++fr)[i]? = some x:=e1
  by_cases hi:i<ts.length
  ·unfold jz at e2;rw [List.getElem?_append_left (by simpa using hi),List.getElem?_replicate,if_pos hi] at e2
   cases e2
  ·rw [List.getElem?_append_right (by omega)] at e1
   unfold jz at e2;rw [List.getElem?_append_right (by simpa using hi),List.length_replicate,List.getElem?_map] at e2
   obtain ⟨j,h1,h2,h3,h4⟩:=S.vis _ x e1;rw [h1] at e2;have e2':(σ[j]?).join=some v:=Option.some.inj e2;have e5:σ[j]? = some (some v):=by
    cases q:σ[j]? with
    | none=>rw [q] at e2';cases e2'
    | some o=>rw [q] at e2';simp at e2';rw [e2']
   obtain ⟨m0,_,hl⟩:=I.loc;have vis:Vis X.env.scope x:=h3.elim (λz=>.inr (.inl z)) λz=>.inr (.inr z);obtain ⟨u,ru,l⟩:=hl j x v h2 e5 vis;refine ⟨u,ru,?_⟩
   rcases l with ⟨z,_⟩ | ⟨_,c,hc,hcell⟩
   ·rcases h3 with h3 | h3<;>rw [h3] at z<;>cases z
   ·obtain ⟨c',hc'⟩:=S.has x h4;have e6:c'=c:=Option.some.inj ((S.sub x c' hc').symm.trans hc);subst e6;obtain ⟨o,ho,hd⟩:=hcell;exact .inr ⟨h4,c',hc',o,k _ _ ho,hd⟩
 cell:=λx c e=>by
  obtain ⟨v,o,ho,hd⟩:=I.cell x c (S.sub x c e);exact ⟨v,o,k _ _ ho,hd⟩
 free:=I.hok.fresh hC
 freeC:=λx c e=>I.freeC x c (S.sub x c e)
 pin:=λp hp=>absurd (show p∈([]:List (Addr × Obj)) from hp) (by simp)
 hok:=I.hok.kept k
 len:=by
  rw [a5z];show _=(ts++fr).length;rw [List.length_append,S.len]
theorem Inv.unpinned'{pins:List (Addr × Obj)}{σ:St}{H:Hp}{s:Shared}(I:Inv X pins σ H s):Inv X [] σ H s:=I.pins_of λ_ hp=>nomatch hp
theorem comp_back{pins:List (Addr × Obj)}{σ σ':St}{H H':Hp}{s s':Shared}{scope:Scope}{cl:List (Str × Addr)}{N:List Str}{C acc:Addr}{fp:List Addr}{h':Heap}{ys:List V}{its:List Value}{n:Nat}(I:Inv X pins σ H s)
  (hf:∀ b∈fp,FpOk X pins H b) (hC:s.heap.objs.size<=C) (hacc:s.heap.objs.size<=acc) (hCa:C≠acc)
  (J:Inv (cxC X N scope cl C fp s H) [] σ' H' s') (hn:H' acc=none) (ha:s'.heap.get? acc=some { cls:=.type "list",data:=.seq its.toArray n }) (rv:Vals ys its) (hz:ys.length<=sizeLine) (sb:Heap.SameBut C s'.heap h') :
  Inv X pins σ (upd H' acc (.lst ys)) { s' with heap:=h' }:=by
 have k:∀ b o,b≠C->s'.heap.get? b=some o->h'.get? b=some o:=λb o hb e=>sb.extBut b o hb e;have old:∀ b o,s.heap.get? b=some o->b≠C/\b≠acc:=λb o e=>⟨Nat.ne_of_lt (Nat.lt_of_lt_of_le (Heap.lt_size e) hC),Nat.ne_of_lt (Nat.lt_of_lt_of_le (Heap.lt_size e) hacc)⟩;have u0:Un (frs X.stack) fp H H' s.heap s'.heap:=J.base;have fC:H' C=none:=J.free;have u:Un (frs X.stack) fp H (upd H' acc (.lst ys)) s.heap h':=by
  refine ⟨λb o e n' hb hx=>k b o (old b o e).1 (u0.keep b o e n' hb hx),λb o e n' hb hx=>?_,λb o e n' hx=>?_,λb o e hx=>?_,λb xs e=>?_,λb o v e=>?_,λb ps e=>?_⟩
  ·obtain ⟨sl,e1⟩:=u0.slot b o e n' hb hx;exact ⟨sl,k b _ (old b o e).1 e1⟩
  ·rw [j9 (old b o e).2];exact u0.free b o e n' hx
  ·obtain ⟨o',e1⟩:=u0.there b o e hx;exact ⟨o',k b _ (old b o e).1 e1⟩
  ·rw [j9 (gf (u0.tups b xs e) hn)];exact u0.tups b xs e
  ·rw [j9 (gf (u0.frzs b o v e) hn)];exact u0.frzs b o v e
  ·obtain ⟨more,e1⟩:=u0.tbls b ps e;exact ⟨more,by rw [j9 (gf e1 hn)];exact e1⟩
 have hok:HOk X.prog X.w (upd H' acc (.lst ys)) h':=λb o e=>by
  by_cases hb:b=acc
  ·subst hb;rw [nj] at e;cases e
   exact ⟨hz,its,n,rv,k _ _ (Ne.symm hCa) ha⟩
  ·rw [j9 hb] at e;refine (J.hok b o e).stay (λc v hc q=>k c v ?_ q) (λc q=>by rw [j9 (gf q hn)];exact q) λc xs q=>by rw [j9 (gf q hn)];exact q
   rcases hc with z | z
   ·rw [z];exact gf e fC
   ·exact gf z fC
 have J':=I.call (g':=s'.gens) (t':=s'.toks) (d':=s'.drawn) (ch:=fp) u hok J.bare λb hb=>⟨(hf b hb).2.2.2.1,(hf b hb).2.1,(hf b hb).2.2.2.2.1,(hf b hb).2.2.2.2.2⟩;have eo:s'.os=s.os:=J.os;obtain ⟨hp,g,d,t,o⟩:=s';have eo':o=s.os:=eo;subst eo';exact J'
def a4i(X:Cx)(pins:List (Addr × Obj))(σ:St)(use:Option (Value->Sem Unit))(Q:VK)(Qf:Value->Shared->Prop):Prop :=
 ∀ (acc C:Addr) (s6:Shared) (H6:Hp) (m6:Str->Option Value),s6.heap.Ns C m6->FpOk X pins H6 C->(∀ h',Heap.SameBut C s6.heap h'->Inv X pins σ H6 { s6 with heap:=h' })->Q (.ref acc) H6->
  compPost (model X.prog X.w) X.A X.xe use Qf (.ref acc) C (.ok .next) s6
theorem aav{pins:List (Addr × Obj)}{σ:St}{Q:VK}:a4i X pins σ none Q (EP X pins σ Q):=λacc C s6 H6 m6 hn _ k q=>⟨m6,hn,λh' sb=>⟨.ref acc,H6,k h' sb,rfl,q⟩⟩
theorem a6q{pins:List (Addr × Obj)}{σ:St}{D:Ends}{i:Nat}{x:Str}{pos':Pos}(hN:X.N.Nodup)(hi:X.N[i]? = some x)(hx:Loc X.env.scope x)(hf:X.fn x=true\/X.env.scope.names.lookup x=some .local) :
  a4i X pins σ (some (assign (.Name x pos') X.env)) (λv H1=>a1r i v σ H1 D.nx) (λ_ s'=>SP X pins D .next s'):=by
 intro acc C s6 H6 m6 hn fp k q
 obtain ⟨f1,f2,f3,f4,f5,f6⟩:=fp;have I6:Inv X pins σ H6 s6:=k s6.heap (Heap.SameBut.refl _ _);refine wpAny_assign_Name (a8a (v:=.ref acc) I6 hN hi hx rfl (λs' I' ⟨a,sb,ha⟩=>⟨m6,hn.sameBut sb ?_,λh' sb'=>⟨_,H6,I'.turned (t':=s'.toks) (it:=C) (λb o hb e=>sb'.extBut b o hb e) f1 f2 f4 f5 f6,q⟩⟩) hf)
 rcases ha with ha | ha
 ·rw [ha];exact f2
 ·exact λz=>f5 x a ha z.symm
theorem a8j{elt tg iter:Expr}{scope:Scope}{pos ppos:Pos}{cl:List (Str × Addr)}{ts fr:List Str}{ix:List Nat}{wi:TI}{g:TG}{te:TE}(hc:X.calm=true)(S:CSc X scope cl ts fr ix)(hi:PI X tg iter wi)
  (hg:∀ C fp s H,PG (cxC X (ts++fr) scope cl C fp s H) tg g) (he:∀ C fp s H,PE (cxC X (ts++fr) scope cl C fp s H) elt te) (hs:∀ x,foldedSetIterable iter X.env x=pure x)
  (use:Option (Value->Sem Unit)) {pins:List (Addr × Obj)} {s:Shared} {σ:St} {H:Hp} {Q:VK} {Qf:Value->Shared->Prop} (I:Inv X pins σ H s) (h:acn wi (jz ts.length ix) g te σ H Q) (fin:a4i X pins σ use Q Qf) :
  wpAny (model X.prog X.w) X.A (comprehension (.ListComp elt [⟨tg,iter,[],0⟩] scope pos) scope X.env ppos (newList []) false (eval iter X.env) use) Qf X.xe s:=by
 refine wpAny_comprehension_free (use:=use) rfl hs S.clos S.kind S.names (thn (hi pins s σ H _ I h) λv s1 h1=>thn h1 λitv s2 h2=>?_);obtain ⟨it,fp,tn,J,H2,e,I2,T,st2,f2,W,⟨m0,w0⟩,turn⟩:=h2;subst e;have hob:∀ b∈fp,b<s2.heap.objs.size:=λb hb=>let ⟨o,e,_⟩:=T.obj _ _ st2 b hb;Heap.lt_size e;refine wpAny_newObj_type (wpAny_newFunctionEnv S.nocell (by intro y hy;simp at hy) (λh4 hns4 hsb4=>?_) S.kind)
 dsimp only at hns4 hsb4 ⊢
 generalize hH2:s2.heap.push { cls:=.type "list",dict:=none,data:=.seq ([]:List Value).toArray }=G at hns4 hsb4 ⊢
 have hCs:G.objs.size=s2.heap.objs.size+1:=by rw [<-hH2,Heap.size_push]
 have hCle:s2.heap.objs.size<=G.objs.size:=by omega
 have hne:G.objs.size≠s2.heap.objs.size:=by omega
 have old:∀ b o,s2.heap.get? b=some o->h4.get? b=some o:=λb o e=>by
  have hlt:=Heap.lt_size e;exact hsb4.extBut b o (Nat.ne_of_lt (Nat.lt_of_lt_of_le hlt hCle)) (Heap.get?_push_of_some _ (hH2 ▸ Heap.get?_push_of_some _ e))
 have hacc:h4.get? s2.heap.objs.size=some { cls:=.type "list",data:=.seq ([]:List Value).toArray 0 } :=
  hsb4.extBut _ _ (Ne.symm hne) (Heap.get?_push_of_some _ (hH2 ▸ Heap.get?_push_size _ rfl))
 have K0:Inv (cxC X (ts++fr) scope cl G.objs.size fp s2 H2) [] (jz ts.length ix σ) H2 { s2 with heap:=h4,toks:=s2.toks+([]:List (Str × Value)).length } :=
  a9n S I2 f2 hob hCle old hns4 rfl rfl
 have st4:tn 0 h4:=T.keep _ _ _ st2 λb _ o e=>old b o e;have accF:s2.heap.objs.size ∉ fp:=λz=>Nat.lt_irrefl _ (hob _ z);have stat:∀ {H':Hp},(∀ b∈fp,H' b=none)->∀ b∈fp,FpOk (cxC X (ts++fr) scope cl G.objs.size fp s2 H2) [] H' b:=λhn b hb =>
  ⟨hn b hb,λz=>by have h1:=hob b hb;have z':b=G.objs.size:=z;exact Nat.ne_of_lt (Nat.lt_of_lt_of_le h1 hCle) z',λz=>(a4h S I2 f2 hob hCle).exfs b hb z, .inl hb,λx c e=>(f2 b hb).2.2.2.2.1 x c (S.sub x c e),λp hp=>absurd (show p∈([]:List (Addr × Obj)) from hp) (by simp)⟩
 have statA:∀ {H':Hp},H' s2.heap.objs.size=none->FpOk (cxC X (ts++fr) scope cl G.objs.size fp s2 H2) [] H' s2.heap.objs.size:=λhn =>
  ⟨hn,λz=>hne (show G.objs.size=s2.heap.objs.size from z.symm),λz=>by
   obtain ⟨_,o,ho,_⟩:=(a4h S I2 f2 hob hCle).funs.mem z;exact Nat.lt_irrefl _ (Heap.lt_size ho), .inr (Nat.le_refl _),λx c e z=>by
   obtain ⟨v,o,ho,_⟩:=I2.cell x c (S.sub x c e);rw [z] at ho;exact Nat.lt_irrefl _ (Heap.lt_size ho),λp hp=>absurd (show p∈([]:List (Addr × Obj)) from hp) (by simp)⟩
 have loop:∀ s4:Shared,s4={ s2 with heap:=h4,toks:=s2.toks+([]:List (Str × Value)).length }->
   codeAny (model X.prog X.w) X.A (.compLoop (.ListComp elt [⟨tg,iter,[],0⟩] scope pos) 0 (.ref it) (.ref s2.heap.objs.size) (compEnvC scope cl G.objs.size X.env))
    (compPost (model X.prog X.w) X.A X.xe use Qf (.ref s2.heap.objs.size) G.objs.size) s4:=by
  rintro s4 rfl
  refine a8i (λn s'=>∃ i σ' H' ys its k,Inv (cxC X (ts++fr) scope cl G.objs.size fp s2 H2) [] σ' H' s'/\Ext (jz ts.length ix σ) σ'/\tn i s'.heap/\(∀ b∈fp,H' b=none)/\H' s2.heap.objs.size=none /\
   s'.heap.get? s2.heap.objs.size=some { cls:=.type "list",data:=.seq its.toArray k }/\Vals ys its/\ys.length<=sizeLine/\W i n ys H') ?_ m0
   ⟨0,_,H2,[],[],0,K0,⟨rfl,λ_ _ z=>z⟩,st4,λb hb=>(f2 b hb).1,I2.hok.fresh (Nat.le_refl _),hacc, .nil,Nat.zero_le _,w0⟩
  rintro n s5 ⟨i,σ5,H5,ys,its,k5,I5,x5,st5,fr5,fa5,ac5,rv5,hz5,w5⟩
  have I5':Inv (cxC X (ts++fr) scope cl G.objs.size fp s2 H2) [] (jz ts.length ix σ) H5 s5:=I5.weak x5.1.symm x5.2
  rcases turn i n ys H5 w5 with ⟨stop,qn⟩ | ⟨go,hlt,step⟩
  ·refine thn (T.done (cxC X (ts++fr) scope cl G.objs.size fp s2 H2) rfl rfl rfl hc i [(s2.heap.objs.size,{ cls:=.type "list",data:=.seq its.toArray k5 })] s5 _ H5 _ (I5'.pins_of λp hp=>?_) (λb hb=>?_) st5 stop) λr s6 ⟨hr,I6⟩=>?_
   ·have e:p=(s2.heap.objs.size,{ cls:=.type "list",data:=.seq its.toArray k5 }):=by simpa using hp
    subst e;obtain ⟨a0,a1,a2,_⟩:=statA fa5;exact ⟨ac5,a0,a1,a2,λv z=>by cases z⟩
   ·obtain ⟨b0,b1,b2,b3,b4,b5⟩:=stat fr5 b hb;refine ⟨b0,b1,b2,b3,b4,λp hp=>?_⟩;have e:p=(s2.heap.objs.size,{ cls:=.type "list",data:=.seq its.toArray k5 }):=by
     have hp':p∈[(s2.heap.objs.size,_)]:=hp;simpa using hp'
    subst e;exact λz=>accF (by have z':s2.heap.objs.size=b:=z;rw [z'];exact hb)
   ·subst hr;have e6:=(I6.pin (s2.heap.objs.size,{ cls:=.type "list",data:=.seq its.toArray k5 }) (by show _∈[]++[_];simp)).1
    obtain ⟨m6,hn6,_⟩:=I6.loc;exact fin _ _ s6 _ m6 hn6 (I2.fpOk hCle (by rw [j9 hne];exact I6.free)) (λh' sb=>comp_back I2 f2 hCle (Nat.le_refl _) hne I6.unpinned' fa5 e6 rv5 hz5 sb) (qn _ fa5)
  ·refine thn (T.item (cxC X (ts++fr) scope cl G.objs.size fp s2 H2) rfl rfl rfl hc i [(s2.heap.objs.size,{ cls:=.type "list",data:=.seq its.toArray k5 })] s5 _ H5 _ (I5'.pins_of λp hp=>?_) (λb hb=>?_) st5 go) λr s6 ⟨u,hr,h6⟩=>?_
   ·have e:p=(s2.heap.objs.size,{ cls:=.type "list",data:=.seq its.toArray k5 }):=by simpa using hp
    subst e;obtain ⟨a0,a1,a2,_⟩:=statA fa5;exact ⟨ac5,a0,a1,a2,λv z=>by cases z⟩
   ·obtain ⟨b0,b1,b2,b3,b4,b5⟩:=stat fr5 b hb;refine ⟨b0,b1,b2,b3,b4,λp hp=>?_⟩;have e:p=(s2.heap.objs.size,{ cls:=.type "list",data:=.seq its.toArray k5 }):=by
     have hp':p∈[(s2.heap.objs.size,_)]:=hp;simpa using hp'
    subst e;exact λz=>accF (by have z':s2.heap.objs.size=b:=z;rw [z'];exact hb)
   ·subst hr;refine thn h6 λ_ s7 ⟨x,H7,I7,r7,y7,st7,fr7⟩=>?_;have fa7:H7 s2.heap.objs.size=none:=(I7.pin (s2.heap.objs.size,{ cls:=.type "list",data:=.seq its.toArray k5 }) (by show _∈[]++[_];simp)).2.1
    have ac7:=(I7.pin (s2.heap.objs.size,{ cls:=.type "list",data:=.seq its.toArray k5 }) (by show _∈[]++[_];simp)).1
    have I7':Inv (cxC X (ts++fr) scope cl G.objs.size fp s2 H2) ([]++uf (s2.heap.objs.size::fp) s7.heap) (jz ts.length ix σ) H7 s7:=by
     refine Inv.pinned I7.unpinned' (λb hb=>?_) λb hb=>?_
     ·rcases List.mem_cons.mp hb with e | e
      ·subst e;exact statA fa7
      ·exact stat fr7 b e
     ·rcases List.mem_cons.mp hb with e | e
      ·subst e;exact ⟨_,ac7,λv z=>by cases z⟩
      ·exact T.obj _ _ st7 b e
    refine thn (hg G.objs.size fp s2 H2 _ s7 _ H7 x u _ I7' r7 (step x H7 y7)) λ_ s8 ⟨σ8,H8,I8,x8,q8⟩=>?_;refine thn (he G.objs.size fp s2 H2 _ s8 _ H8 _ I8 q8) λyv s9 ⟨y,H9,I9,r9,m',hm',w9⟩=>?_;obtain ⟨ac9,fa9,_⟩:=I9.pin (s2.heap.objs.size,{ cls:=.type "list",data:=.seq its.toArray k5 }) (by show _∈[]++([]++_);simp;exact jo List.mem_cons_self ac7)
    have keep9:∀ b∈fp,∀ o,s7.heap.get? b=some o->s9.heap.get? b=some o/\H9 b=none:=λb hb o e=>by
     obtain ⟨z1,z2,_⟩:=I9.pin (b,o) (by show _∈[]++([]++_);simp;exact jo (List.mem_cons_of_mem _ hb) e)
     exact ⟨z1,z2⟩
    have hl:=rv5.length;refine call_meets F.slot_list_append ⟨_,ac9,rfl⟩ F.entry_list_append (F.args_list_append_2 _ _) (PySem.list_append s2.heap.objs.size its.toArray k5 yv (by rw [List.size_toArray];omega)) ⟨ac9,?_⟩
    have q:=PySem.IsL.update ac9 (λa=>a.push yv);have qo:∀ b o,b≠s2.heap.objs.size->s9.heap.get? b=some o->(s9.heap.update s2.heap.objs.size (Obj.mapSeq (λa=>a.push yv))).get? b=some o:=λb o hb e=>(Heap.get?_update_other s9.heap _ (Ne.symm hb)).trans e;have q':∃ k,(s9.heap.update s2.heap.objs.size (Obj.mapSeq (λa=>a.push yv))).get? s2.heap.objs.size=some { cls:=.type "list",data:=.seq (its++[yv]).toArray k }:=⟨_,by rw [q];simp;rfl⟩
    obtain ⟨k9,q9⟩:=q';obtain ⟨a0,a1,a2,a3,a4,a5⟩:=statA (show H9 s2.heap.objs.size=none from fa9)
    refine ⟨m',hm',i+1,σ8,H9,ys++[y],its++[yv],k9,(I9.unpinned').turned qo a0 a1 a3 a4 a5,x8,?_,?_,fa9,q9,rv5.append (.cons r9 .nil),?_,w9⟩
    ·refine T.keep _ _ _ st7 λb hb o e=>qo b o (λz=>accF (z ▸ hb)) (keep9 b hb o e).1
    ·intro b hb
     obtain ⟨o,e,_⟩:=T.obj _ _ st7 b hb;exact (keep9 b hb o e).2
    ·rw [List.length_append,List.length_singleton];omega
 exact codeAny_compStart_list (loop _ rfl) (T.self _ 0 _ _ _ st4 (loop _ rfl))
theorem ai3{elt tg iter:Expr}{scope:Scope}{pos:Pos}{cl:List (Str × Addr)}{ts fr:List Str}{ix:List Nat}{wi:TI}{g:TG}{te:TE}(hc:X.calm=true)(S:CSc X scope cl ts fr ix)(hi:PI X tg iter wi)
  (hg:∀ C fp s H,PG (cxC X (ts++fr) scope cl C fp s H) tg g) (he:∀ C fp s H,PE (cxC X (ts++fr) scope cl C fp s H) elt te)
  (hs:∀ x,foldedSetIterable iter X.env x=pure x:=by intro _;rfl) :
  PE X (.ListComp elt [⟨tg,iter,[],0⟩] scope pos) (acn wi (jz ts.length ix) g te):=by
 intro pins s σ H Q I h
 rw [eval_ListComp];exact a8j hc S hi hg he hs none I h aav
theorem aaw{elt tg iter:Expr}{scope:Scope}{pos:Pos}{cl:List (Str × Addr)}{ts fr:List Str}{ix:List Nat}{wi:TI}{g:TG}{te:TE}{i:Nat}{x:Str}{pos' spos:Pos}(hN:X.N.Nodup)(hi':X.N[i]? = some x)(hx:Loc X.env.scope x)(hc:X.calm=true)(S:CSc X scope cl ts fr ix)(hi:PI X tg iter wi)
  (hg:∀ C fp s H,PG (cxC X (ts++fr) scope cl C fp s H) tg g) (he:∀ C fp s H,PE (cxC X (ts++fr) scope cl C fp s H) elt te)
  (hs:∀ x,foldedSetIterable iter X.env x=pure x:=by intro _;rfl) (hsw:swapsWith (.ListComp elt [⟨tg,iter,[],0⟩] scope pos) (some (.Name x pos')) spos.line X.env=pure true:=by rfl) (hf:X.fn x=true\/X.env.scope.names.lookup x=some .local:=by first | exact .inl rfl | exact .inr rfl | assumption) :
  PS X (.Assign [.Name x pos'] (.ListComp elt [⟨tg,iter,[],0⟩] scope pos) spos) (ap6 (acn wi (jz ts.length ix) g te) (a1r i)):=by
 intro pins s σ H D I h
 rw [exec_Assign_Name_used _ _ _ _ hsw];refine wpAny_bind (wpAny_standAt (wpAny_bind ?_));refine wpAny_bind (wpAny_mono (a8j hc S hi hg he hs (some (assign (.Name x pos') X.env)) I h (a6q hN hi' hx hf)) (λ_ s' hq=>wpAny_pure (wpAny_pure hq)) λ_ _ e=>e)
end
section
variable{K:Type}[DecidableEq K]
def stepK(l:List K)(v:K):List K:=if v∈l then l else l++[v]
end
end L2
namespace L2
open PySem PySem.Spec
theorem n8:bootBuiltins "len" = some (.builtin "len"):=PySem.boot_len
theorem a6r:bootBuiltins "isinstance" = some (.builtin "isinstance"):=by first | exact PySem.boot_isinstance | exact PyProof.Rows.boot_isinstance
theorem akj:bootBuiltins "abs" = some (.builtin "abs"):=by first | exact PySem.boot_abs | exact PyProof.Rows.boot_abs
theorem aei:bootBuiltins "int" = some (.type "int"):=by first | exact PySem.boot_int | exact PyProof.Rows.boot_int
theorem a1t:bootBuiltins "tuple" = some (.type "tuple"):=by first | exact PySem.boot_tuple | exact PyProof.Rows.boot_tuple
structure Dn (P:Program) (w:World) (K:PySem.W.Frag) (mg:Str->Option Value) (base:Heap) (k:Nat) (x:Str) (ps:List Str) (sp:Sp) (f:Addr) (fd:FuncData):Prop where
 ok:FnOk P w K mg base CX0 k f fd ps sp
 m:mg x=some (.ref f)
 kp:PySem.W.keepIn K (.ref f)=true
 b:Binds K fd ps []
theorem am4{n:Nat}(h:n<=16777216):n<=sizeLine:=by rw [sizeLine_eq];exact h
theorem CSc.noFree{X:Cx}{scope:Scope}{ts:List Str}(kind:scope.kind = .function)(h:∀ y∈scope.names,y.2≠.cell/\y.2≠.free)(names:∀ y∈scope.names,y.2 = .local->scope.names.lookup y.1=some .local)
  (ht:∀ y∈ts,scope.names.lookup y=some .local):CSc X scope [] ts [] []:=by
 have e:(relabel scope X.env).names=scope.names:=by
  show scope.names.map _=_;refine map_eq_self λy hy=>?_;obtain ⟨n,k⟩:=y;have:(k == NameKind.free)=false:=by simpa using (h _ hy).2
  simp [this]
 refine ⟨closureFor_none λy hy=>(h y hy).2,kind,λy hy=>(h y hy).1,names,(λ_ _ z=>nomatch z),λy z=>?_,λy hy=>by rw [e];exact ht y hy,rfl,(λ_ _ z=>by simp at z)⟩
 rw [e] at z
 rcases z with z | z
 ·exact absurd rfl (h _ (PySem.mem_of_lookup z)).1
 ·exact absurd rfl (h _ (PySem.mem_of_lookup z)).2
theorem auf(x y:Str):(x++y).cps.toList=x.cps.toList++y.cps.toList:=by
 show (x.cps++y.cps).toList=_;simp
theorem a6s{α:Type}(xs:List α)(k:Nat):a3e xs none (some (k:Int))=xs.take k:=by
 unfold a3e;rw [HT.a6l,HT.a6m,List.drop_zero,Nat.sub_zero]
 by_cases h:k<=xs.length
 ·rw [Nat.min_eq_left h]
 ·rw [Nat.min_eq_right (by omega),List.take_of_length_le (Nat.le_refl _),List.take_of_length_le (by omega)]
theorem a8k{α:Type}(xs:List α)(k:Nat):a3e xs (some (k:Int)) none=xs.drop k:=by
 unfold a3e;rw [HT.a6l,HT.a6m]
 by_cases h:k<=xs.length
 ·rw [Nat.min_eq_left h,List.take_of_length_le (by rw [List.length_drop];omega)]
 ·rw [Nat.min_eq_right (by omega),List.drop_eq_nil_of_le (Nat.le_refl _),List.drop_eq_nil_of_le (by omega),List.take_nil]
theorem am5{α:Type}(xs:List α)(j k:Nat):a3e xs (some (j:Int)) (some (k:Int))=(xs.drop j).take (k - j):=by
 unfold a3e;rw [HT.a6m,HT.a6m]
 by_cases h:j<=xs.length
 ·rw [Nat.min_eq_left h]
  by_cases h2:k<=xs.length
  ·rw [Nat.min_eq_left h2]
  ·rw [Nat.min_eq_right (by omega),List.take_of_length_le (by rw [List.length_drop];omega),List.take_of_length_le (by rw [List.length_drop];omega)]
 ·rw [Nat.min_eq_right (show xs.length<=j by omega),List.drop_eq_nil_of_le (Nat.le_refl _),List.drop_eq_nil_of_le (by omega),List.take_nil,List.take_nil]
end L2
namespace L2
open PySem PySem.Spec PyProof.Rows
def aej(J:It)(s0:St)(g:TG)(tc:TT)(te:TE)(Q:VK)(H1:Hp):Prop:=∃ W:Nat->Nat->List V->Hp->Prop,(∃ m,W 0 m [] H1)/\∀ i m ys H,W i m ys H->
 (J.stop i H/\∀ p,H p=none->Q (.ref p) (upd H p (.lst ys))) \/
 (J.go i H/\ys.length<sizeLine/\∀ x H',J.yld i H x H'->g x s0 H' λσ2 H2=>Ext s0 σ2/\tc σ2 H2 λok H2'=>if ok=true then te σ2 H2' (λy H3=>∃ m',m'<m/\W (i+1) m' (ys++[y]) H3) else ∃ m',m'<m/\W (i+1) m' ys H2')
def a9o(wi:TI)(s0:St->St)(g:TG)(tc:TT)(te:TE):TE:=λσ H Q=>wi σ H λJ H1=>aej J (s0 σ) g tc te Q H1
theorem a4j(elt target iter cnd:Expr)(scope:Scope)(pos:Pos)(it acc:Value)(env:Env) :
  compTurn (.ListComp elt [⟨target,iter,[cnd],0⟩] scope pos) 0 it acc env=(standAt iter.pos>>=λ_=>pyNext it>>=λr=>match r with
   | none=>pure (.done .next)
   | some v=>letOwnedTupleGo target it v>>=λ_=>assign target env v>>=λ_=>isTrue cnd env (eval cnd env)>>=λok =>
    (if ok=true then (eval elt env>>=λx=>call (.builtin "list.append") [acc,x]>>=λ_=>pure ()) else pure ())>>=λ_ =>
     again (.compLoop (.ListComp elt [⟨target,iter,[cnd],0⟩] scope pos) 0 it acc env)):=by
 first
  | rfl
  | (unfold compTurn;simp only [List.getElem?_cons_zero];rfl)
  | (show (standAt iter.pos>>=λ_=>pyNext it>>=λr=>_)=_
     congr 1;funext _;congr 1;funext r
     cases r with
     | none=>rfl
     | some v =>
      show (letOwnedTupleGo target it v>>=λ_=>assign target env v>>=λ_=>_)=(letOwnedTupleGo target it v>>=λ_=>assign target env v>>=λ_=>_)
      congr 1;funext _;congr 1;funext _
      simp
      congr 1;funext ok
      cases ok with
      | false=>rw [if_neg Bool.false_ne_true,if_neg Bool.false_ne_true,pure_bind]
      | true =>
       rw [if_pos rfl,if_pos rfl,bind_assoc]
       congr 1;funext x
       rw [map_eq_pure_bind,bind_assoc]
       congr 1)
theorem aco{prog:Program}{w:World}{A:Around}{R:Result->Shared->Prop}{s:Shared}{elt target iter cnd:Expr}{scope:Scope}{pos:Pos}{it acc:Value}{env:Env}(J:Nat->Shared->Prop)
  (step:∀ m z,J m z->wpAny (model prog w) A (pyNext it) (λgot z1=>match got with
   | none=>R (.ok .next) z1
   | some v=>wpAny (model prog w) A (letOwnedTupleGo target it v) (λ_ z2=>wpAny (model prog w) A (assign target env v) (λ_ z3=>wpAny (model prog w) A (isTrue cnd env (eval cnd env)) (λok z3'=>if ok=true then wpAny (model prog w) A (eval elt env) (λx z4 =>
     wpAny (model prog w) A (call (.builtin "list.append") [acc,x]) (λ_ z5=>∃ m',m'<m/\J m' z5) (λ_ _=>False) z4)
     (λ_ _=>False) z3' else ∃ m',m'<m/\J m' z3') (λ_ _=>False) z3) (λ_ _=>False) z2) (λ_ _=>False) z1) (λ_ _=>False) z)
  (m:Nat) (j0:J m s):codeAny (model prog w) A (.compLoop (.ListComp elt [⟨target,iter,[cnd],0⟩] scope pos) 0 it acc env) R s:=by
 refine codeAny_loop rfl J (λm z hj=>(wpAny_noted ?_:wpAny _ _ ((compTurn (.ListComp elt [⟨target,iter,[cnd],0⟩] scope pos) 0 it acc env).onRaise _) _ _ z)) m j0;rw [a4j];refine wpAny_bind (wpAny_standAt (wpAny_bind (wpAny_mono (step m z hj) (λgot z1 h1=>?_) λ_ _ no=>no.elim)))
 match got,h1 with
 | none,h1=>exact wpAny_pure h1
 | some v,h1 =>
  refine wpAny_bind (wpAny_mono h1 (λ_ z2 h2=>wpAny_bind (wpAny_mono h2 (λ_ z3 h3=>wpAny_bind (wpAny_mono h3 (λok z3' h3'=>?_) λ_ _ no=>no.elim)) λ_ _ no=>no.elim)) λ_ _ no=>no.elim)
  match ok,h3' with
  | true,h3' =>
   rw [if_pos rfl] at h3';refine wpAny_bind (wpAny_bind (wpAny_mono h3' (λx z4 h4=>?_) λ_ _ no=>no.elim));exact wpAny_bind (wpAny_mono h4 (λ_ z5 h5=>wpAny_pure (wpAny_pure ⟨rfl,h5⟩)) λ_ _ no=>no.elim)
  | false,h3' =>
   rw [if_neg Bool.false_ne_true] at h3';exact wpAny_bind (wpAny_pure (wpAny_pure ⟨rfl,h3'⟩))
section
variable{X:Cx}
theorem a9p{elt tg iter cnd:Expr}{scope:Scope}{pos ppos:Pos}{cl:List (Str × Addr)}{ts fr:List Str}{ix:List Nat}{wi:TI}{g:TG}{tc:TT}{te:TE}(hc:X.calm=true)(S:CSc X scope cl ts fr ix)(hi:PI X tg iter wi)
  (hg:∀ C fp s H,PG (cxC X (ts++fr) scope cl C fp s H) tg g) (he:∀ C fp s H,PE (cxC X (ts++fr) scope cl C fp s H) elt te) (ht:∀ C fp s H,PT (cxC X (ts++fr) scope cl C fp s H) cnd tc) (hs:∀ x,foldedSetIterable iter X.env x=pure x)
  (use:Option (Value->Sem Unit)) {pins:List (Addr × Obj)} {s:Shared} {σ:St} {H:Hp} {Q:VK} {Qf:Value->Shared->Prop} (I:Inv X pins σ H s) (h:a9o wi (jz ts.length ix) g tc te σ H Q) (fin:a4i X pins σ use Q Qf) :
  wpAny (model X.prog X.w) X.A (comprehension (.ListComp elt [⟨tg,iter,[cnd],0⟩] scope pos) scope X.env ppos (newList []) false (eval iter X.env) use) Qf X.xe s:=by
 refine wpAny_comprehension_free (use:=use) rfl hs S.clos S.kind S.names (thn (hi pins s σ H _ I h) λv s1 h1=>thn h1 λitv s2 h2=>?_);obtain ⟨it,fp,tn,J,H2,e,I2,T,st2,f2,W,⟨m0,w0⟩,turn⟩:=h2;subst e;have hob:∀ b∈fp,b<s2.heap.objs.size:=λb hb=>let ⟨o,e,_⟩:=T.obj _ _ st2 b hb;Heap.lt_size e;refine wpAny_newObj_type (wpAny_newFunctionEnv S.nocell (by intro y hy;simp at hy) (λh4 hns4 hsb4=>?_) S.kind)
 dsimp only at hns4 hsb4 ⊢
 generalize hH2:s2.heap.push { cls:=.type "list",dict:=none,data:=.seq ([]:List Value).toArray }=G at hns4 hsb4 ⊢
 have hCs:G.objs.size=s2.heap.objs.size+1:=by rw [<-hH2,Heap.size_push]
 have hCle:s2.heap.objs.size<=G.objs.size:=by omega
 have hne:G.objs.size≠s2.heap.objs.size:=by omega
 have old:∀ b o,s2.heap.get? b=some o->h4.get? b=some o:=λb o e=>by
  have hlt:=Heap.lt_size e;exact hsb4.extBut b o (Nat.ne_of_lt (Nat.lt_of_lt_of_le hlt hCle)) (Heap.get?_push_of_some _ (hH2 ▸ Heap.get?_push_of_some _ e))
 have hacc:h4.get? s2.heap.objs.size=some { cls:=.type "list",data:=.seq ([]:List Value).toArray 0 } :=
  hsb4.extBut _ _ (Ne.symm hne) (Heap.get?_push_of_some _ (hH2 ▸ Heap.get?_push_size _ rfl))
 have K0:Inv (cxC X (ts++fr) scope cl G.objs.size fp s2 H2) [] (jz ts.length ix σ) H2 { s2 with heap:=h4,toks:=s2.toks+([]:List (Str × Value)).length } :=
  a9n S I2 f2 hob hCle old hns4 rfl rfl
 have st4:tn 0 h4:=T.keep _ _ _ st2 λb _ o e=>old b o e;have accF:s2.heap.objs.size ∉ fp:=λz=>Nat.lt_irrefl _ (hob _ z);have stat:∀ {H':Hp},(∀ b∈fp,H' b=none)->∀ b∈fp,FpOk (cxC X (ts++fr) scope cl G.objs.size fp s2 H2) [] H' b:=λhn b hb =>
  ⟨hn b hb,λz=>by have h1:=hob b hb;have z':b=G.objs.size:=z;exact Nat.ne_of_lt (Nat.lt_of_lt_of_le h1 hCle) z',λz=>(a4h S I2 f2 hob hCle).exfs b hb z, .inl hb,λx c e=>(f2 b hb).2.2.2.2.1 x c (S.sub x c e),λp hp=>absurd (show p∈([]:List (Addr × Obj)) from hp) (by simp)⟩
 have statA:∀ {H':Hp},H' s2.heap.objs.size=none->FpOk (cxC X (ts++fr) scope cl G.objs.size fp s2 H2) [] H' s2.heap.objs.size:=λhn =>
  ⟨hn,λz=>hne (show G.objs.size=s2.heap.objs.size from z.symm),λz=>by
   obtain ⟨_,o,ho,_⟩:=(a4h S I2 f2 hob hCle).funs.mem z;exact Nat.lt_irrefl _ (Heap.lt_size ho), .inr (Nat.le_refl _),λx c e z=>by
   obtain ⟨v,o,ho,_⟩:=I2.cell x c (S.sub x c e);rw [z] at ho;exact Nat.lt_irrefl _ (Heap.lt_size ho),λp hp=>absurd (show p∈([]:List (Addr × Obj)) from hp) (by simp)⟩
 have loop:∀ s4:Shared,s4={ s2 with heap:=h4,toks:=s2.toks+([]:List (Str × Value)).length }->
   codeAny (model X.prog X.w) X.A (.compLoop (.ListComp elt [⟨tg,iter,[cnd],0⟩] scope pos) 0 (.ref it) (.ref s2.heap.objs.size) (compEnvC scope cl G.objs.size X.env))
    (compPost (model X.prog X.w) X.A X.xe use Qf (.ref s2.heap.objs.size) G.objs.size) s4:=by
  rintro s4 rfl
  refine aco (λn s'=>∃ i σ' H' ys its k,Inv (cxC X (ts++fr) scope cl G.objs.size fp s2 H2) [] σ' H' s'/\Ext (jz ts.length ix σ) σ'/\tn i s'.heap/\(∀ b∈fp,H' b=none)/\H' s2.heap.objs.size=none /\
   s'.heap.get? s2.heap.objs.size=some { cls:=.type "list",data:=.seq its.toArray k }/\Vals ys its/\ys.length<=sizeLine/\W i n ys H') ?_ m0
   ⟨0,_,H2,[],[],0,K0,⟨rfl,λ_ _ z=>z⟩,st4,λb hb=>(f2 b hb).1,I2.hok.fresh (Nat.le_refl _),hacc, .nil,Nat.zero_le _,w0⟩
  rintro n s5 ⟨i,σ5,H5,ys,its,k5,I5,x5,st5,fr5,fa5,ac5,rv5,hz5,w5⟩
  have I5':Inv (cxC X (ts++fr) scope cl G.objs.size fp s2 H2) [] (jz ts.length ix σ) H5 s5:=I5.weak x5.1.symm x5.2
  rcases turn i n ys H5 w5 with ⟨stop,qn⟩ | ⟨go,hlt,step⟩
  ·refine thn (T.done (cxC X (ts++fr) scope cl G.objs.size fp s2 H2) rfl rfl rfl hc i [(s2.heap.objs.size,{ cls:=.type "list",data:=.seq its.toArray k5 })] s5 _ H5 _ (I5'.pins_of λp hp=>?_) (λb hb=>?_) st5 stop) λr s6 ⟨hr,I6⟩=>?_
   ·have e:p=(s2.heap.objs.size,{ cls:=.type "list",data:=.seq its.toArray k5 }):=by simpa using hp
    subst e;obtain ⟨a0,a1,a2,_⟩:=statA fa5;exact ⟨ac5,a0,a1,a2,λv z=>by cases z⟩
   ·obtain ⟨b0,b1,b2,b3,b4,b5⟩:=stat fr5 b hb;refine ⟨b0,b1,b2,b3,b4,λp hp=>?_⟩;have e:p=(s2.heap.objs.size,{ cls:=.type "list",data:=.seq its.toArray k5 }):=by
     have hp':p∈[(s2.heap.objs.size,_)]:=hp;simpa using hp'
    subst e;exact λz=>accF (by have z':s2.heap.objs.size=b:=z;rw [z'];exact hb)
   ·subst hr;have e6:=(I6.pin (s2.heap.objs.size,{ cls:=.type "list",data:=.seq its.toArray k5 }) (by show _∈[]++[_];simp)).1
    obtain ⟨m6,hn6,_⟩:=I6.loc;exact fin _ _ s6 _ m6 hn6 (I2.fpOk hCle (by rw [j9 hne];exact I6.free)) (λh' sb=>comp_back I2 f2 hCle (Nat.le_refl _) hne I6.unpinned' fa5 e6 rv5 hz5 sb) (qn _ fa5)
  ·refine thn (T.item (cxC X (ts++fr) scope cl G.objs.size fp s2 H2) rfl rfl rfl hc i [(s2.heap.objs.size,{ cls:=.type "list",data:=.seq its.toArray k5 })] s5 _ H5 _ (I5'.pins_of λp hp=>?_) (λb hb=>?_) st5 go) λr s6 ⟨u,hr,h6⟩=>?_
   ·have e:p=(s2.heap.objs.size,{ cls:=.type "list",data:=.seq its.toArray k5 }):=by simpa using hp
    subst e;obtain ⟨a0,a1,a2,_⟩:=statA fa5;exact ⟨ac5,a0,a1,a2,λv z=>by cases z⟩
   ·obtain ⟨b0,b1,b2,b3,b4,b5⟩:=stat fr5 b hb;refine ⟨b0,b1,b2,b3,b4,λp hp=>?_⟩;have e:p=(s2.heap.objs.size,{ cls:=.type "list",data:=.seq its.toArray k5 }):=by
     have hp':p∈[(s2.heap.objs.size,_)]:=hp;simpa using hp'
    subst e;exact λz=>accF (by have z':s2.heap.objs.size=b:=z;rw [z'];exact hb)
   ·subst hr;refine thn h6 λ_ s7 ⟨x,H7,I7,r7,y7,st7,fr7⟩=>?_;have fa7:H7 s2.heap.objs.size=none:=(I7.pin (s2.heap.objs.size,{ cls:=.type "list",data:=.seq its.toArray k5 }) (by show _∈[]++[_];simp)).2.1
    have ac7:=(I7.pin (s2.heap.objs.size,{ cls:=.type "list",data:=.seq its.toArray k5 }) (by show _∈[]++[_];simp)).1
    have I7':Inv (cxC X (ts++fr) scope cl G.objs.size fp s2 H2) ([]++uf (s2.heap.objs.size::fp) s7.heap) (jz ts.length ix σ) H7 s7:=by
     refine Inv.pinned I7.unpinned' (λb hb=>?_) λb hb=>?_
     ·rcases List.mem_cons.mp hb with e | e
      ·subst e;exact statA fa7
      ·exact stat fr7 b e
     ·rcases List.mem_cons.mp hb with e | e
      ·subst e;exact ⟨_,ac7,λv z=>by cases z⟩
      ·exact T.obj _ _ st7 b e
    refine thn (hg G.objs.size fp s2 H2 _ s7 _ H7 x u _ I7' r7 (step x H7 y7)) λ_ s8 ⟨σ8,H8,I8,x8,q8⟩=>?_;refine thn (ht G.objs.size fp s2 H2 _ s8 _ H8 _ I8 q8) λok s8' ⟨H8',I8',q8'⟩=>?_
    cases ok with
    | false =>
     rw [if_neg Bool.false_ne_true] at q8' ⊢;obtain ⟨m',hm',w9⟩:=q8';obtain ⟨ac9,fa9,_⟩:=I8'.pin (s2.heap.objs.size,{ cls:=.type "list",data:=.seq its.toArray k5 }) (by show _∈[]++([]++_);simp;exact jo List.mem_cons_self ac7)
     have keep9:∀ b∈fp,∀ o,s7.heap.get? b=some o->s8'.heap.get? b=some o/\H8' b=none:=λb hb o e=>by
      obtain ⟨z1,z2,_⟩:=I8'.pin (b,o) (by show _∈[]++([]++_);simp;exact jo (List.mem_cons_of_mem _ hb) e)
      exact ⟨z1,z2⟩
     refine ⟨m',hm',i+1,σ8,H8',ys,its,k5,I8'.unpinned',x8,?_,?_,fa9,ac9,rv5,hz5,w9⟩
     ·exact T.keep _ _ _ st7 λb hb o e=>(keep9 b hb o e).1
     ·intro b hb
      obtain ⟨o,e,_⟩:=T.obj _ _ st7 b hb;exact (keep9 b hb o e).2
    | true =>
     rw [if_pos rfl] at q8' ⊢;refine thn (he G.objs.size fp s2 H2 _ s8' _ H8' _ I8' q8') λyv s9 ⟨y,H9,I9,r9,m',hm',w9⟩=>?_;obtain ⟨ac9,fa9,_⟩:=I9.pin (s2.heap.objs.size,{ cls:=.type "list",data:=.seq its.toArray k5 }) (by show _∈[]++([]++_);simp;exact jo List.mem_cons_self ac7)
     have keep9:∀ b∈fp,∀ o,s7.heap.get? b=some o->s9.heap.get? b=some o/\H9 b=none:=λb hb o e=>by
      obtain ⟨z1,z2,_⟩:=I9.pin (b,o) (by show _∈[]++([]++_);simp;exact jo (List.mem_cons_of_mem _ hb) e)
      exact ⟨z1,z2⟩
     have hl:=rv5.length;refine call_meets F.slot_list_append ⟨_,ac9,rfl⟩ F.entry_list_append (F.args_list_append_2 _ _) (PySem.list_append s2.heap.objs.size its.toArray k5 yv (by rw [List.size_toArray];omega)) ⟨ac9,?_⟩
     have q:=PySem.IsL.update ac9 (λa=>a.push yv);have qo:∀ b o,b≠s2.heap.objs.size->s9.heap.get? b=some o->(s9.heap.update s2.heap.objs.size (Obj.mapSeq (λa=>a.push yv))).get? b=some o:=λb o hb e=>(Heap.get?_update_other s9.heap _ (Ne.symm hb)).trans e;have q':∃ k,(s9.heap.update s2.heap.objs.size (Obj.mapSeq (λa=>a.push yv))).get? s2.heap.objs.size=some { cls:=.type "list",data:=.seq (its++[yv]).toArray k }:=⟨_,by rw [q];simp;rfl⟩
     obtain ⟨k9,q9⟩:=q';obtain ⟨a0,a1,a2,a3,a4,a5⟩:=statA (show H9 s2.heap.objs.size=none from fa9)
     refine ⟨m',hm',i+1,σ8,H9,ys++[y],its++[yv],k9,(I9.unpinned').turned qo a0 a1 a3 a4 a5,x8,?_,?_,fa9,q9,rv5.append (.cons r9 .nil),?_,w9⟩
     ·refine T.keep _ _ _ st7 λb hb o e=>qo b o (λz=>accF (z ▸ hb)) (keep9 b hb o e).1
     ·intro b hb
      obtain ⟨o,e,_⟩:=T.obj _ _ st7 b hb;exact (keep9 b hb o e).2
     ·rw [List.length_append,List.length_singleton];omega
 exact codeAny_compStart_list (loop _ rfl) (T.self _ 0 _ _ _ st4 (loop _ rfl))
theorem acp{elt tg iter cnd:Expr}{scope:Scope}{pos:Pos}{cl:List (Str × Addr)}{ts fr:List Str}{ix:List Nat}{wi:TI}{g:TG}{tc:TT}{te:TE}{i:Nat}{x:Str}{pos' spos:Pos}(hN:X.N.Nodup)(hi':X.N[i]? = some x)(hx:Loc X.env.scope x)(hc:X.calm=true)(S:CSc X scope cl ts fr ix)(hi:PI X tg iter wi)
  (hg:∀ C fp s H,PG (cxC X (ts++fr) scope cl C fp s H) tg g) (he:∀ C fp s H,PE (cxC X (ts++fr) scope cl C fp s H) elt te) (ht:∀ C fp s H,PT (cxC X (ts++fr) scope cl C fp s H) cnd tc)
  (hs:∀ x,foldedSetIterable iter X.env x=pure x:=by intro _;rfl) (hsw:swapsWith (.ListComp elt [⟨tg,iter,[cnd],0⟩] scope pos) (some (.Name x pos')) spos.line X.env=pure true:=by rfl) (hf:X.fn x=true\/X.env.scope.names.lookup x=some .local:=by first | exact .inl rfl | exact .inr rfl | assumption) :
  PS X (.Assign [.Name x pos'] (.ListComp elt [⟨tg,iter,[cnd],0⟩] scope pos) spos) (ap6 (a9o wi (jz ts.length ix) g tc te) (a1r i)):=by
 intro pins s σ H D I h
 rw [exec_Assign_Name_used _ _ _ _ hsw];refine wpAny_bind (wpAny_standAt (wpAny_bind ?_));refine wpAny_bind (wpAny_mono (a9p hc S hi hg he ht hs (some (assign (.Name x pos') X.env)) I h (a6q hN hi' hx hf)) (λ_ s' hq=>wpAny_pure (wpAny_pure hq)) λ_ _ e=>e)
end
section
variable{X:Cx}
theorem a2o:OpR X (compareOp .In) (λx y H Q=>∃ c T,x = .str ⟨#[c]⟩/\y = .str T/\Q (.bl (decide (c∈T.cps.toList))) H):=by
 intro pins s σ H x y v u Q I rx ry h
 obtain ⟨c,T,rfl,rfl,q⟩:=h;exact ae6 pins s σ H _ _ v u Q I rx ry ⟨_,_,rfl,rfl,by rw [StrLaws.found_one];exact q⟩
theorem am6{zs:List Str}:∀ {us:List Value},Vals (zs.map V.str) us->StrsAre us zs:=by
 induction zs with
 | nil=>intro us r;rw [List.map_nil] at r;cases r;exact .nil
 | cons z zs ih =>
  intro us r
  rw [List.map_cons] at r
  cases r with
  | cons r1 r2 =>
   obtain ⟨t,e⟩:=r1;subst e;exact .cons z t (ih r2)
theorem aek:MtR X "str.join" (λx xs H Q=>∃ sep p zs,x = .str sep/\xs=[.ref p]/\SqL X.K H p (zs.map V.str)/\(zs.map (·.length)).sum+zs.length*sep.length<=16777216/\Q (.str (Txt.join sep zs)) H):=by
 intro pins s σ H x xs v us Q I rx rs h
 obtain ⟨sep,p,zs,rfl,rfl,hp,hz,q⟩:=h;obtain ⟨t,rfl⟩:=rx;obtain ⟨u,rfl,ru⟩:=vals1 rs;cases ru
 obtain ⟨its,r,pl,_⟩:=I.list hp;exact join_list pl.isList (by simpa using am6 r) hz λt' k=>⟨.str _,H,I.tok _,⟨_,rfl⟩,q⟩
end
theorem CSc.of{X:Cx}{scope:Scope}{cl:List (Str × Addr)}{ts fr:List Str}{ix:List Nat}(clos:closureFor scope X.env=pure cl)(kind:scope.kind = .function)
  (nocell:(scope.names.all λp=>p.2 != .cell)=true) (names:(scope.names.all λp=>p.2 != .local || scope.names.lookup p.1 == some .local)=true) (sub:∀ p∈cl,X.env.cells.lookup p.1=some p.2)
  (has:((relabel scope X.env).names.all λp => !(p.2 == .cell || p.2 == .free) || (cl.lookup p.1).isSome)=true) (nofn:(ts.all λy=>(relabel scope X.env).names.lookup y == some .local)=true)
  (len:ix.length=fr.length) (vis:((fr.zip ix).all λp=>X.N[p.2]? == some p.1 && (X.env.kindOf p.1 == some .cell || X.env.kindOf p.1 == some .free) && ((relabel scope X.env).names.lookup p.1 == some .cell || (relabel scope X.env).names.lookup p.1 == some .free))=true) :
  CSc X scope cl ts fr ix:=by
 refine ⟨clos,kind,λy hy=>?_,λy hy e=>?_,λy c e=>sub _ (PySem.mem_of_lookup e),λy z=>?_,λy hy=>?_,len,λj y e=>?_⟩
 ·have:=List.all_eq_true.mp nocell y hy
  simpa using this
 ·have:=List.all_eq_true.mp names y hy
  rw [e] at this;simpa using this
 ·have key:∀ k,(relabel scope X.env).names.lookup y=some k->(k == .cell || k == .free)=true->∃ c,cl.lookup y=some c:=λk e hk=>by
   have:=List.all_eq_true.mp has _ (PySem.mem_of_lookup e)
   rw [hk] at this;exact Option.isSome_iff_exists.mp (by simpa using this)
  rcases z with z | z
  ·exact key _ z rfl
  ·exact key _ z rfl
 ·have:=List.all_eq_true.mp nofn y hy
  simpa using this
 ·obtain ⟨hj,_⟩:=List.getElem?_eq_some_iff.mp e;have hj2:j<ix.length:=by omega
  have hm:(y,ix[j])∈fr.zip ix:=by
   rw [List.mem_iff_getElem?];exact ⟨j,by rw [List.getElem?_zip_eq_some];exact ⟨e,List.getElem?_eq_getElem hj2⟩⟩
  have:=List.all_eq_true.mp vis _ hm
  simp only [Bool.and_eq_true,Bool.or_eq_true,beq_iff_eq] at this;exact ⟨ix[j],List.getElem?_eq_getElem hj2,this.1.1,this.1.2,this.2⟩
end L2
namespace HT
open PySem PySem.Spec PyProof.Rows
end HT
namespace L2
open PySem PySem.Spec PyProof.Rows
def tSM(r:V->List V->Hp->VK->Prop)(to:TE)(t:TA):TE:=λσ H Q=>to σ H λx H1=>(∃ z,x = .str z)/\t σ H1 λxs H2=>r x xs H2 Q
theorem auh{X:Cx}{o e:Expr}{es:List Expr}{to:TE}{t:TA}{name:Str}{apos cpos:Pos}{id:String}{r:V->List V->Hp->VK->Prop}(slot:Slot "str" name id)(hty:typeOf (.builtin id)=pure (.type "method_descriptor"))(hm:MtR X id r)(ho:PE X o to)(ha:PA X (e::es) t)
  (hbase:attributeBase o name X.env (eval o X.env)=eval o X.env:=by rfl)
  (hfew:((backTo cpos (starEach (e::es) X.env)).all (λx => !x.1) && (backToKw cpos (keywordEach [] X.env)).all (λx=>x.1.isSome)
   && decide ((e::es).length+([]:List Keyword).length+(if ([]:List Keyword).isEmpty then 0 else 1)<30))=true:=by rfl)
  (hline:(apos.endLine == cpos.line)=true:=by rfl) (hs:starEach (e::es) X.env=(false,eval e X.env)::starEach es X.env:=by rfl) (hplain:(backTo cpos (starEach es X.env)).any (·.1)=false:=by rfl) :
  PE X (.Call (.Attribute o name apos) (e::es) [] cpos) (tSM r to t):=by
 intro pins s σ H Q I h
 refine wpAny_Call_method_late hbase hfew hline rfl (thn (ho pins s σ H _ I h) λv s1 ⟨x,H1,I1,r1,⟨z,hz⟩,q1⟩=>?_);subst hz;obtain ⟨h1,h2⟩:=akh (T := "str") I1 r1 rfl;refine ⟨"str",id,PySem.F.plainAttrs_str,slot,hty,h1,h2,?_⟩;have hA:=ha cpos pins s1 σ H1 _ I1 q1;rw [hs] at hA ⊢;refine Calls.callWith_builtin (by show (false || (backTo cpos (starEach es X.env)).any (·.1))=false;rw [hplain]<;>rfl) (Calls.evalArgs_plain ?_)
 exact thn hA λus s2 ⟨vs,H2,I2,r2,q2⟩=>hm pins s2 σ H2 _ vs v us Q I2 r1 r2 q2
end L2
namespace SHP
open PySem L2
end SHP
namespace L2
open PySem PySem.Spec PyProof.Rows
open PySem.AutoSeq1 in
theorem a4k(l b:Addr)(xs ys:Array Value)(n m:Nat)(dd:Option Addr)(sl:Array (Option Value))(long:¬(!xs.isEmpty && Builtin.List.listTooLong (xs.size+ys.size))=true)(fit1:xs.size<=sizeLine)(fit2:xs.size+ys.size<=sizeLine+1) :
  Meets (Builtin.«list.extend» ⟨[.ref l, .ref b],[]⟩) (λ_ R s=>(s.heap.get? l=some { cls:=.type "list",dict:=none,data:=.seq xs n,slots := #[] }/\s.heap.get? b=some { cls:=.type "tuple",dict:=dd,data:=.seq ys m,slots:=sl })/\R (.ok (.ret Value.none)) { s with heap:=s.heap.update l (Obj.mapSeq (·++ys)) }) :=
 .of_wp λprog w A R ⟨hp,gn,dr,tk,os⟩ ⟨⟨hl,hb⟩,q⟩=>by
  have a1:=idx_int;have a2:=AutoSeq1.sub_tuple_tuple;have a3:=AutoSeq1.sub_list_list;have a4:=AutoSeq1.sub_tuple_list;have a5:=AutoSeq1.sub_list_tuple;have both:(xs++ys).size<=sizeLine+1:=by simpa using fit2
  wp_walk using wpAny_updateSeq hl rfl (hz:=fit1) (_hz':=both),wpAny_loadPart' hl,wpAny_loadPart' hb
  exact ⟨_,rfl,q⟩
section
variable{X:Cx}
def aax(K:PySem.W.Frag):V->List V->Hp->VK->Prop:=λx vs H Q=>∃ l b xs zs,x = .ref l/\vs=[.ref b]/\H l=some (.lst xs)/\SqT K H b zs/\xs.length+zs.length<=sizeLine/\Q .non (upd H l (.lst (xs++zs)))
theorem acq:MtM X "list.extend" (aax X.K):=by
 intro pins s σ H x vs v us Q I rx rv h
 obtain ⟨l,b,xs,zs,rfl,rfl,hH,hB,hz,q⟩:=h;cases rx
 obtain ⟨u,rfl,ru⟩:=rv.one;cases ru
 obtain ⟨z,its,n,r,hl,e⟩:=I.lstM hH;obtain ⟨its2,r2,p2,_⟩:=I.tuple hB;have hl2:=r2.length;obtain ⟨⟨cls,dd,data,sl⟩,e2,hc,hrest⟩:=id p2;have hsz:its.toArray.size+its2.toArray.size<=sizeLine:=by rw [List.size_toArray,List.size_toArray];omega
 have hlong:¬ (!its.toArray.isEmpty && Builtin.List.listTooLong (its.toArray.size+its2.toArray.size))=true:=by
  rw [a6p hsz,Bool.and_false];exact Bool.false_ne_true
 obtain ⟨n2,hd⟩:=(show ∃ n2,data = .seq its2.toArray n2 from by first | exact hrest | exact ⟨_,hrest.2⟩ | (obtain ⟨_,n,hd⟩:=hrest;exact ⟨n,hd⟩))
 have hc':cls = .type "tuple":=hc;subst hc' hd;refine call_meets F.slot_list_extend ⟨_,e,rfl⟩ F.entry_list_extend (F.args_list_extend_2 _ _)
  (a4k l b its.toArray its2.toArray n n2 dd sl hlong (by rw [List.size_toArray];omega) (by omega)) ⟨⟨e,e2⟩,?_⟩
 refine ⟨.non,_,I.lset (its':=its++its2) hH e (by simp) (r.append r2) ?_,rfl,q⟩
 rw [List.length_append];omega
end
end L2
namespace SHP
open PySem L2
end SHP
namespace MI
open PySem L2
inductive D where
 | non | bl (b:Bool) | int (i:Int) | str (x:Str) | ty (n:String) | tup (xs:List D) | rol (xs:List D) | ref (i:Nat) | scr (xs:List D) | rod (ks:List Key) (xs:List D) | rdT (ks:List (List Key)) (xs:List D) | exc (c:Str)
inductive O where
 | lst (xs:List D) | dK (kvs:List (Key × D)) | dT (kvs:List (List Key × D))
abbrev Hd:=List O
abbrev Sd:=List (Option D)
inductive R (α:Type) where
 | ok (a:α) (h:Hd) | ex (c:Str) (h:Hd) | no
def R.bind{α β:Type}:R α->(α->Hd->R β)->R β
 | .ok a h,k=>k a h
 | .ex c h,_=>.ex c h
 | .no,_=>.no
inductive Fl where
 | nx (σ:Sd) (h:Hd) | rt (d:D) (h:Hd) | bk (σ:Sd) (h:Hd) | ct (σ:Sd) (h:Hd) | ex (c:Str) (h:Hd) | no
def R.fl{α:Type}:R α->(α->Hd->Fl)->Fl
 | .ok a h,k=>k a h
 | .ex c h,_=>.ex c h
 | .no,_=>.no
abbrev SE:=Sd->Hd->R D
abbrev ST:=Sd->Hd->R Bool
abbrev SA:=Sd->Hd->R (List D)
abbrev SS:=Sd->Hd->Fl
def SqF(K:PySem.W.Frag)(H:Hp)(a:Addr)(vs:List V):Prop:=(∃ o,H a=some (.frz o (.lst vs)))\/SqL K (λ_=>none) a vs
theorem SqF.l{K:PySem.W.Frag}{H:Hp}{a:Addr}{vs:List V}(h:SqF K H a vs):SqL K H a vs:=by
 rcases h with ⟨o,h⟩ | h
 ·exact .inl (.inr ⟨o,h⟩)
 ·rcases h with (h | ⟨o,h⟩) | h
  ·cases h
  ·cases h
  ·exact .inr h
def SqZ(H:Hp)(a:Addr)(vs:List V):Prop:=∃ o,H a=some (.frz o (.lst vs))
theorem SqZ.l{K:PySem.W.Frag}{H:Hp}{a:Addr}{vs:List V}(h:SqZ H a vs):SqL K H a vs:=let ⟨o,e⟩:=h; .inl (.inr ⟨o,e⟩)
def exO(a:Addr):HO:=.ext λh=>∃ o,h.get? a=some o
mutual
inductive Rep (K:PySem.W.Frag) (ι:List Addr) (H:Hp):V->D->Prop
 | non:Rep K ι H .non .non
 | bl (b:Bool):Rep K ι H (.bl b) (.bl b)
 | int (i:Int):Rep K ι H (.int i) (.int i)
 | str (x:Str):Rep K ι H (.str x) (.str x)
 | ty (n:String):Rep K ι H (.ty n) (.ty n)
 | tup {a:Addr} {vs:List V} {xs:List D} (h:H a=some (.tup vs)) (r:Reps K ι H vs xs):Rep K ι H (.ref a) (.tup xs)
 | rol {a:Addr} {vs:List V} {xs:List D} (h:SqZ H a vs) (r:Reps K ι H vs xs):Rep K ι H (.ref a) (.rol xs)
 | scr {a:Addr} {vs:List V} {xs:List D} (h:SqF K H a vs) (r:Reps K ι H vs xs):Rep K ι H (.ref a) (.scr xs)
 | ref {a:Addr} {i:Nat} (h:ι[i]? = some a):Rep K ι H (.ref a) (.ref i)
 | rod {a:Addr} {o:Obj} {us:List (Key × V)} {ks:List Key} {xs:List D} (h:H a=some (.frz o (.dK us))) (e:us.map (·.1)=ks) (r:Reps K ι H (us.map (·.2)) xs):Rep K ι H (.ref a) (.rod ks xs)
 | rdT {a:Addr} {o:Obj} {us:List (List Key × V)} {ks:List (List Key)} {xs:List D} (h:H a=some (.frz o (.dT us))) (e:us.map (·.1)=ks) (r:Reps K ι H (us.map (·.2)) xs):Rep K ι H (.ref a) (.rdT ks xs)
 | exc {a C:Addr} {o:Obj} {c:Str} (h:H a=some (.frz o (exO a))) (hc:o.cls = .ref C) (hn:PySem.W.nsIn K mainGlobals c=some (some (.ref C))):Rep K ι H (.ref a) (.exc c)
inductive Reps (K:PySem.W.Frag) (ι:List Addr) (H:Hp):List V->List D->Prop
 | nil:Reps K ι H [] []
 | cons {v:V} {d:D} {vs:List V} {ds:List D} (r:Rep K ι H v d) (rs:Reps K ι H vs ds):Reps K ι H (v::vs) (d::ds)
end
structure Gw (ι:List Addr) (H:Hp) (ι':List Addr) (H':Hp):Prop where
 pre:∃ m,ι'=ι++m
 tup:∀ a vs,H a=some (.tup vs)->H' a=some (.tup vs)
 frz:∀ a o u,H a=some (.frz o u)->H' a=some (.frz o u)
structure Gr (ι:List Addr) (H:Hp) (ι':List Addr) (H':Hp):Prop where
 pre:∃ m,ι'=ι++m/\∀ a∈m,H a=none
 tup:∀ a vs,H a=some (.tup vs)->H' a=some (.tup vs)
 frz:∀ a o u,H a=some (.frz o u)->H' a=some (.frz o u)
 oth:∀ a u,H a=some u->a ∉ ι->H' a=some u
 kp:∀ a u,H a=some u->∃ u',H' a=some u'
theorem Gr.w{ι ι':List Addr}{H H':Hp}(g:Gr ι H ι' H'):Gw ι H ι' H':=⟨let ⟨m,e,_⟩:=g.pre; ⟨m,e⟩,g.tup,g.frz⟩
theorem Gr.refl(ι:List Addr)(H:Hp):Gr ι H ι H:=⟨⟨[],by simp,by simp⟩,λ_ _ h=>h,λ_ _ _ h=>h,λ_ _ h _=>h,λ_ u h=>⟨u,h⟩⟩
theorem Gr.trans{ι ι1 ι2:List Addr}{H H1 H2:Hp}(a:Gr ι H ι1 H1)(b:Gr ι1 H1 ι2 H2):Gr ι H ι2 H2:=by
 obtain ⟨m,rfl,hm⟩:=a.pre;obtain ⟨n,rfl,hn⟩:=b.pre;refine ⟨⟨m++n,by simp,λx hx=>?_⟩,λx vs h=>b.tup x vs (a.tup x vs h),λx o u h=>b.frz x o u (a.frz x o u h),λx u h hx=>?_,λx u h=>?_⟩
 ·rcases List.mem_append.mp hx with hx | hx
  ·exact hm x hx
  ·cases e:H x with
   | none=>rfl
   | some u =>
    obtain ⟨u',e'⟩:=a.kp x u e;rw [hn x hx] at e';cases e'
 ·refine b.oth x u (a.oth x u h hx) λz=>?_
  rcases List.mem_append.mp z with z | z
  ·exact hx z
  ·rw [hm x z] at h;cases h
 ·obtain ⟨u',e⟩:=a.kp x u h;exact b.kp x u' e
theorem Gw.at{ι ι':List Addr}{H H':Hp}(g:Gw ι H ι' H'){i:Nat}{a:Addr}(h:ι[i]? = some a):ι'[i]? = some a:=by
 obtain ⟨m,rfl⟩:=g.pre;rw [List.getElem?_append_left (List.getElem?_eq_some_iff.mp h).1];exact h
theorem Gr.at{ι ι':List Addr}{H H':Hp}(g:Gr ι H ι' H'){i:Nat}{a:Addr}(h:ι[i]? = some a):ι'[i]? = some a:=g.w.at h
theorem SqF.monoW{K:PySem.W.Frag}{ι ι':List Addr}{H H':Hp}(g:Gw ι H ι' H'){a:Addr}{vs:List V}(h:SqF K H a vs):SqF K H' a vs:=by
 rcases h with ⟨o,h⟩ | h
 ·exact .inl ⟨o,g.frz _ _ _ h⟩
 ·exact .inr h
theorem SqZ.monoW{ι ι':List Addr}{H H':Hp}(g:Gw ι H ι' H'){a:Addr}{vs:List V}(h:SqZ H a vs):SqZ H' a vs:=let ⟨o,e⟩:=h; ⟨o,g.frz _ _ _ e⟩
theorem SqZ.mono{ι ι':List Addr}{H H':Hp}(g:Gr ι H ι' H'){a:Addr}{vs:List V}(h:SqZ H a vs):SqZ H' a vs:=h.monoW g.w
mutual
theorem Rep.monoW{K:PySem.W.Frag}{ι ι':List Addr}{H H':Hp}(g:Gw ι H ι' H'):∀ {v:V} {d:D},Rep K ι H v d->Rep K ι' H' v d
 | _,_, .non=>.non
 | _,_, .bl b=>.bl b
 | _,_, .int i=>.int i
 | _,_, .str x=>.str x
 | _,_, .ty n=>.ty n
 | _,_, .tup h r=>.tup (g.tup _ _ h) (Reps.monoW g r)
 | _,_, .rol h r=>.rol (h.monoW g) (Reps.monoW g r)
 | _,_, .scr h r=>.scr (h.monoW g) (Reps.monoW g r)
 | _,_, .ref h=>.ref (g.at h)
 | _,_, .rod h e r=>.rod (g.frz _ _ _ h) e (Reps.monoW g r)
 | _,_, .rdT h e r=>.rdT (g.frz _ _ _ h) e (Reps.monoW g r)
 | _,_, .exc h hc hn=>.exc (g.frz _ _ _ h) hc hn
theorem Reps.monoW{K:PySem.W.Frag}{ι ι':List Addr}{H H':Hp}(g:Gw ι H ι' H'):∀ {vs:List V} {ds:List D},Reps K ι H vs ds->Reps K ι' H' vs ds
 | _,_, .nil=>.nil
 | _,_, .cons r rs=>.cons (Rep.monoW g r) (Reps.monoW g rs)
end
theorem Rep.mono{K:PySem.W.Frag}{ι ι':List Addr}{H H':Hp}(g:Gr ι H ι' H'){v:V}{d:D}(r:Rep K ι H v d):Rep K ι' H' v d:=r.monoW g.w
theorem Reps.mono{K:PySem.W.Frag}{ι ι':List Addr}{H H':Hp}(g:Gr ι H ι' H'){vs:List V}{ds:List D}(r:Reps K ι H vs ds):Reps K ι' H' vs ds:=r.monoW g.w
section
variable{K:PySem.W.Frag}{ι:List Addr}{H:Hp}
theorem Reps.len{vs:List V}{ds:List D}:Reps K ι H vs ds->vs.length=ds.length
 | .nil=>rfl
 | .cons _ rs=>by rw [List.length_cons,List.length_cons,rs.len]
theorem Reps.get:∀ {vs:List V} {ds:List D} {i:Nat} {d:D},Reps K ι H vs ds->ds[i]? = some d->∃ v,vs[i]? = some v/\Rep K ι H v d
 | _,_,_,_, .nil,e=>by simp at e
 | _,_,0,_, .cons r _,e=>by simp at e;subst e;exact ⟨_,rfl,r⟩
 | _,_,i+1,d, .cons _ rs,e=>by
  obtain ⟨u,h1,h2⟩:=Reps.get (i:=i) (d:=d) rs (by simpa using e)
  exact ⟨u,by simpa using h1,h2⟩
theorem Reps.app:∀ {vs us:List V} {ds es:List D},Reps K ι H vs ds->Reps K ι H us es->Reps K ι H (vs++us) (ds++es)
 | _,_,_,_, .nil,s=>s
 | _,_,_,_, .cons r rs,s=>.cons r (Reps.app rs s)
theorem Reps.set{v:V}{d:D}(q:Rep K ι H v d):∀ {vs:List V} {ds:List D} (i:Nat),Reps K ι H vs ds->Reps K ι H (vs.set i v) (ds.set i d)
 | _,_,_, .nil=>.nil
 | _,_,0, .cons _ rs=>.cons q rs
 | _,_,i+1, .cons r rs=>.cons r (Reps.set q i rs)
theorem Reps.take:∀ {vs:List V} {ds:List D} (n:Nat),Reps K ι H vs ds->Reps K ι H (vs.take n) (ds.take n)
 | _,_,0,_=>.nil
 | _,_,_+1, .nil=>.nil
 | _,_,n+1, .cons r rs=>.cons r (Reps.take n rs)
theorem Reps.drop:∀ {vs:List V} {ds:List D} (n:Nat),Reps K ι H vs ds->Reps K ι H (vs.drop n) (ds.drop n)
 | _,_,0,r=>r
 | _,_,_+1, .nil=>.nil
 | _,_,n+1, .cons _ rs=>Reps.drop n rs
theorem Reps.snoc{vs:List V}{ds:List D}{v:V}{d:D}(r:Reps K ι H vs ds)(q:Rep K ι H v d):Reps K ι H (vs++[v]) (ds++[d]):=r.app (.cons q .nil)
theorem Reps.flat:∀ {vs:List V} {ds:List D} (k:Nat),Reps K ι H vs ds->Reps K ι H (List.replicate k vs).flatten (List.replicate k ds).flatten
 | _,_,0,_=>.nil
 | vs,ds,k+1,r=>by
  rw [List.replicate_succ,List.replicate_succ,List.flatten_cons,List.flatten_cons];exact r.app (Reps.flat k r)
end
def KRep{κ:Type}(K:PySem.W.Frag)(ι:List Addr)(H:Hp)(us:List (κ × V))(kvs:List (κ × D)):Prop:=us.map (·.1)=kvs.map (·.1)/\Reps K ι H (us.map (·.2)) (kvs.map (·.2))
def ORep(K:PySem.W.Frag)(ι:List Addr)(H:Hp)(a:Addr):O->Prop
 | .lst xs=>∃ vs,H a=some (.lst vs)/\Reps K ι H vs xs
 | .dK kvs=>∃ us,H a=some (.dK us)/\KRep K ι H us kvs
 | .dT kvs=>∃ us,H a=some (.dT us)/\KRep K ι H us kvs
structure HRep (K:PySem.W.Frag) (ι:List Addr) (H:Hp) (h:Hd):Prop where
 nd:ι.Nodup
 len:ι.length=h.length
 obj:∀ (i:Nat) (a:Addr) (o:O),ι[i]? = some a->h[i]? = some o->ORep K ι H a o
section
variable{K:PySem.W.Frag}{ι:List Addr}{H:Hp}{h:Hd}
theorem ORep.some{a:Addr}{o:O}(r:ORep K ι H a o):∃ u,H a=some u/\(∀ vs,u≠.tup vs)/\(∀ o' u',u≠.frz o' u'):=by
 cases o with
 | lst xs=>obtain ⟨vs,e,_⟩:=r;exact ⟨_,e,λ_ z=>(by cases z),λ_ _ z=>(by cases z)⟩
 | dK kvs=>obtain ⟨us,e,_⟩:=r;exact ⟨_,e,λ_ z=>(by cases z),λ_ _ z=>(by cases z)⟩
 | dT kvs=>obtain ⟨us,e,_⟩:=r;exact ⟨_,e,λ_ z=>(by cases z),λ_ _ z=>(by cases z)⟩
theorem HRep.at(r:HRep K ι H h){i:Nat}{a:Addr}(e:ι[i]? = some a):∃ o,h[i]? = some o/\ORep K ι H a o:=by
 have hi:i<h.length:=by rw [<-r.len];exact (List.getElem?_eq_some_iff.mp e).1
 exact ⟨h[i],List.getElem?_eq_getElem hi,r.obj i a _ e (List.getElem?_eq_getElem hi)⟩
theorem HRep.addr(r:HRep K ι H h){i:Nat}{o:O}(e:h[i]? = some o):∃ a,ι[i]? = some a/\ORep K ι H a o:=by
 have hi:i<ι.length:=by rw [r.len];exact (List.getElem?_eq_some_iff.mp e).1
 exact ⟨ι[i],List.getElem?_eq_getElem hi,r.obj i _ o (List.getElem?_eq_getElem hi) e⟩
theorem HRep.notin(r:HRep K ι H h){p:Addr}(e:H p=none):p ∉ ι:=λz=>by
 obtain ⟨i,hi⟩:=List.getElem?_of_mem z;obtain ⟨o,_,q⟩:=r.at hi;obtain ⟨u,q,_⟩:=q.some;rw [e] at q;cases q
theorem ORep.monoW{ι':List Addr}{H':Hp}{a:Addr}{o:O}(g:Gw ι H ι' H')(e:H' a=H a)(r:ORep K ι H a o):ORep K ι' H' a o:=by
 cases o with
 | lst xs=>obtain ⟨vs,h1,h2⟩:=r;exact ⟨vs,by rw [e];exact h1,h2.monoW g⟩
 | dK kvs=>obtain ⟨us,h1,h2,h3⟩:=r;exact ⟨us,by rw [e];exact h1,h2,h3.monoW g⟩
 | dT kvs=>obtain ⟨us,h1,h2,h3⟩:=r;exact ⟨us,by rw [e];exact h1,h2,h3.monoW g⟩
theorem ORep.mono{ι':List Addr}{H':Hp}{a:Addr}{o:O}(g:Gr ι H ι' H')(e:H' a=H a)(r:ORep K ι H a o):ORep K ι' H' a o:=r.monoW g.w e
theorem wy{p:Addr}(e:H p=none)(o:HO):Gr ι H ι (upd H p o) :=
 ⟨⟨[],by simp,by simp⟩,λa vs h=>by rw [j9 (gf h e)];exact h,λa o u h=>by rw [j9 (gf h e)];exact h,λa u h _=>by rw [j9 (gf h e)];exact h,λa u h=>⟨u,by rw [j9 (gf h e)];exact h⟩⟩
theorem HRep.aside(r:HRep K ι H h){p:Addr}(e:H p=none)(o:HO):HRep K ι (upd H p o) h:=by
 refine ⟨r.nd,r.len,λi a o' e1 e2=>?_⟩;have q:=r.obj i a o' e1 e2;obtain ⟨u,hu,_⟩:=q.some;exact q.mono (wy e o) (j9 (gf hu e))
theorem ael{p:Addr}(e:H p=none)(o:HO):Gr ι H (ι++[p]) (upd H p o) :=
 ⟨⟨[p],rfl,by simpa using e⟩,(wy (ι:=ι) e o).tup,(wy (ι:=ι) e o).frz,(wy (ι:=ι) e o).oth,(wy (ι:=ι) e o).kp⟩
theorem HRep.add(r:HRep K ι H h){p:Addr}(e:H p=none){o:HO}{ob:O}(q:ORep K (ι++[p]) (upd H p o) p ob):HRep K (ι++[p]) (upd H p o) (h++[ob]):=by
 refine ⟨?_,by simp [r.len],λi a o' e1 e2=>?_⟩
 ·rw [List.nodup_append];exact ⟨r.nd,by simp,λa ha b hb z=>r.notin e (by rw [List.mem_singleton.mp hb] at z;rw [<-z];exact ha)⟩
 ·by_cases hi:i<ι.length
  ·rw [List.getElem?_append_left hi] at e1;rw [List.getElem?_append_left (by rw [<-r.len];exact hi)] at e2
   have q:=r.obj i a o' e1 e2;obtain ⟨u,hu,_⟩:=q.some;exact q.mono (ael e o) (j9 (gf hu e))
  ·have hi2:i<(ι++[p]).length:=(List.getElem?_eq_some_iff.mp e1).1;have:i=ι.length:=by simp at hi2;omega
   subst this;rw [List.getElem?_append_right (Nat.le_refl _)] at e1;rw [r.len,List.getElem?_append_right (Nat.le_refl _)] at e2;simp at e1 e2;subst e1 e2;exact q
theorem a65{a:Addr}{i:Nat}(r:HRep K ι H h)(e:ι[i]? = some a)(o:HO):Gr ι H ι (upd H a o):=by
 obtain ⟨_,_,q⟩:=r.at e;obtain ⟨u,hu,n1,n2⟩:=q.some;refine ⟨⟨[],by simp,by simp⟩,λb vs hb=>?_,λb o' u' hb=>?_,λb u' hb hn=>?_,λb u' hb=>?_⟩
 ·rw [j9 (λz=>by subst z;rw [hu] at hb;exact n1 _ (Option.some.inj hb))];exact hb
 ·rw [j9 (λz=>by subst z;rw [hu] at hb;exact n2 _ _ (Option.some.inj hb))];exact hb
 ·rw [j9 (λz=>hn (by subst z;exact List.mem_of_getElem? e))];exact hb
 ·by_cases z:b=a
  ·subst z;exact ⟨o,nj⟩
  ·exact ⟨u',by rw [j9 z];exact hb⟩
theorem HRep.put(r:HRep K ι H h){a:Addr}{i:Nat}(e:ι[i]? = some a){o:HO}{ob:O}(q:ORep K ι (upd H a o) a ob):HRep K ι (upd H a o) (h.set i ob):=by
 refine ⟨r.nd,by rw [List.length_set];exact r.len,λj b o' e1 e2=>?_⟩
 by_cases hj:i=j
 ·subst hj;rw [e] at e1;cases e1
  have hi:i<h.length:=by rw [<-r.len];exact (List.getElem?_eq_some_iff.mp e).1
  rw [List.getElem?_set_self hi] at e2;cases e2
  exact q
 ·rw [List.getElem?_set_ne hj] at e2;have hne:b≠a:=λz=>by
   subst z;obtain ⟨h1,g1⟩:=List.getElem?_eq_some_iff.mp e;obtain ⟨h2,g2⟩:=List.getElem?_eq_some_iff.mp e1;have np:=List.pairwise_iff_getElem.mp r.nd
   rcases Nat.lt_or_gt_of_ne hj with l | l
   ·exact np i j h1 h2 l (g1.trans g2.symm)
   ·exact np j i h2 h1 l (g2.trans g1.symm)
  exact (r.obj j b o' e1 e2).mono (a65 r e o) (j9 hne)
end
structure SRep (K:PySem.W.Frag) (ι:List Addr) (H:Hp) (σ:St) (τ:Sd):Prop where
 len:σ.length=τ.length
 val:∀ (i:Nat) (d:D),τ[i]? = some (some d)->∃ v,σ[i]? = some (some v)/\Rep K ι H v d
theorem SRep.mono{K:PySem.W.Frag}{ι ι':List Addr}{H H':Hp}{σ:St}{τ:Sd}(g:Gr ι H ι' H')(s:SRep K ι H σ τ):SRep K ι' H' σ τ :=
 ⟨s.len,λi d e=>let ⟨v,h1,h2⟩:=s.val i d e; ⟨v,h1,h2.mono g⟩⟩
theorem SRep.set{K:PySem.W.Frag}{ι:List Addr}{H:Hp}{σ:St}{τ:Sd}(s:SRep K ι H σ τ){v:V}{d:D}(r:Rep K ι H v d)(i:Nat):SRep K ι H (σ.set i (some v)) (τ.set i (some d)):=by
 refine ⟨by simp [s.len],λj d' e=>?_⟩
 by_cases hj:i=j
 ·subst hj;have hi:i<τ.length:=by
   have:=(List.getElem?_eq_some_iff.mp e).1
   simpa using this
  rw [List.getElem?_set_self hi] at e;cases e
  exact ⟨v,by rw [List.getElem?_set_self (by rw [s.len];exact hi)],r⟩
 ·rw [List.getElem?_set_ne hj] at e ⊢;exact s.val j d' e
abbrev XD:=Str->List Addr->Hp->Hd->Prop
def out{α β:Type}(K:PySem.W.Frag)(E:XD)(Rp:List Addr->Hp->β->α->Prop)(ι:List Addr)(H:Hp)(r:R α)(Q:β->Hp->Prop):Prop :=
 match r with
 | .ok a h=>∀ ι' H' b,Gr ι H ι' H'->Rp ι' H' b a->HRep K ι' H' h->Q b H'
 | .ex c h=>∀ ι' H',Gr ι H ι' H'->HRep K ι' H' h->E c ι' H' h
 | .no=>False
theorem vz{α β:Type}{K:PySem.W.Frag}{E:XD}{Rp:List Addr->Hp->β->α->Prop}{ι ι1:List Addr}{H H1:Hp}{r:R α}{Q:β->Hp->Prop}(o:out K E Rp ι H r Q)(g:Gr ι H ι1 H1):out K E Rp ι1 H1 r Q:=by
 cases r with
 | ok a h=>exact λι' H' b g'=>o ι' H' b (g.trans g')
 | ex c h=>exact λι' H' g'=>o ι' H' (g.trans g')
 | no=>exact o
theorem gm{α β γ δ:Type}{K:PySem.W.Frag}{E:XD}{Rp:List Addr->Hp->β->α->Prop}{Sp:List Addr->Hp->δ->γ->Prop}{ι:List Addr}{H:Hp}{r:R α}{k:α->Hd->R γ}{Q:δ->Hp->Prop}{P:β->Hp->Prop}
  (o:out K E Sp ι H (r.bind k) Q) (hP:∀ a h ι1 H1 b,Gr ι H ι1 H1->Rp ι1 H1 b a->HRep K ι1 H1 h->out K E Sp ι1 H1 (k a h) Q->P b H1):out K E Rp ι H r P:=by
 cases r with
 | ok a h=>exact λι' H' b g r' hr=>hP a h ι' H' b g r' hr (vz o g)
 | ex c h=>exact o
 | no=>exact o
abbrev xx(K:PySem.W.Frag):List Addr->Hp->V->D->Prop:=λι H v d=>Rep K ι H v d
abbrev awx(K:PySem.W.Frag):List Addr->Hp->List V->List D->Prop:=λι H v d=>Reps K ι H v d
abbrev am7:List Addr->Hp->Bool->Bool->Prop:=λ_ _ a b=>a=b
abbrev awy:List Addr->Hp->Option Int->Option Int->Prop:=λ_ _ a b=>a=b
def ahh(K:PySem.W.Frag)(E:XD)(ι:List Addr)(H:Hp)(r:Fl)(N:Ends):Prop :=
 match r with
 | .nx τ h=>∀ ι' H' σ,Gr ι H ι' H'->SRep K ι' H' σ τ->HRep K ι' H' h->N.nx σ H'
 | .bk τ h=>∀ ι' H' σ,Gr ι H ι' H'->SRep K ι' H' σ τ->HRep K ι' H' h->N.bk σ H'
 | .ct τ h=>∀ ι' H' σ,Gr ι H ι' H'->SRep K ι' H' σ τ->HRep K ι' H' h->N.ct σ H'
 | .rt d h=>∀ ι' H' v,Gr ι H ι' H'->Rep K ι' H' v d->HRep K ι' H' h->N.rt v H'
 | .ex c h=>∀ ι' H',Gr ι H ι' H'->HRep K ι' H' h->E c ι' H' h
 | .no=>False
theorem sr{K:PySem.W.Frag}{E:XD}{ι ι1:List Addr}{H H1:Hp}{r:Fl}{N:Ends}(o:ahh K E ι H r N)(g:Gr ι H ι1 H1):ahh K E ι1 H1 r N:=by
 cases r with
 | nx τ h=>exact λι' H' b g'=>o ι' H' b (g.trans g')
 | bk τ h=>exact λι' H' b g'=>o ι' H' b (g.trans g')
 | ct τ h=>exact λι' H' b g'=>o ι' H' b (g.trans g')
 | rt d h=>exact λι' H' b g'=>o ι' H' b (g.trans g')
 | ex c h=>exact λι' H' g'=>o ι' H' (g.trans g')
 | no=>exact o
theorem a0j{α β:Type}{K:PySem.W.Frag}{E:XD}{Rp:List Addr->Hp->β->α->Prop}{ι:List Addr}{H:Hp}{r:R α}{k:α->Hd->Fl}{N:Ends}{P:β->Hp->Prop}
  (o:ahh K E ι H (r.fl k) N) (hP:∀ a h ι1 H1 b,Gr ι H ι1 H1->Rp ι1 H1 b a->HRep K ι1 H1 h->ahh K E ι1 H1 (k a h) N->P b H1):out K E Rp ι H r P:=by
 cases r with
 | ok a h=>exact λι' H' b g r' hr=>hP a h ι' H' b g r' hr (sr o g)
 | ex c h=>exact o
 | no=>exact o
def lift{α β:Type}(K:PySem.W.Frag)(E:XD)(Rp:List Addr->Hp->β->α->Prop)(f:Sd->Hd->R α):St->Hp->(β->Hp->Prop)->Prop:=λσ H Q =>
 ∃ ι τ h,SRep K ι H σ τ/\HRep K ι H h/\out K E Rp ι H (f τ h) Q
def a6t(K:PySem.W.Frag)(E:XD)(f:SS):TS:=λN σ H=>∃ ι τ h,SRep K ι H σ τ/\HRep K ι H h/\ahh K E ι H (f τ h) N
abbrev ME(X:Cx)(E:XD)(e:Expr)(f:SE):Prop:=PE X e (lift X.K E (xx X.K) f)
abbrev MT(X:Cx)(E:XD)(e:Expr)(f:ST):Prop:=PT X e (lift X.K E am7 f)
abbrev MW(X:Cx)(E:XD)(e:Expr)(f:ST):Prop:=PW X e (lift X.K E am7 f)
abbrev MA(X:Cx)(E:XD)(es:List Expr)(f:SA):Prop:=PA X es (lift X.K E (awx X.K) f)
abbrev MS(X:Cx)(E:XD)(st:Stmt)(f:SS):Prop:=PS X st (a6t X.K E f)
abbrev MSs(X:Cx)(E:XD)(st:List Stmt)(f:SS):Prop:=PSs X st (a6t X.K E f)
theorem PE.weak{X:Cx}{e:Expr}{t t':TE}(h:PE X e t)(i:∀ σ H Q,t' σ H Q->t σ H Q):PE X e t':=λpins s σ H Q I q=>h pins s σ H Q I (i _ _ _ q)
theorem PT.weak{X:Cx}{e:Expr}{t t':TT}(h:PT X e t)(i:∀ σ H Q,t' σ H Q->t σ H Q):PT X e t':=λpins s σ H Q I q=>h pins s σ H Q I (i _ _ _ q)
theorem PW.weak{X:Cx}{e:Expr}{t t':TT}(h:PW X e t)(i:∀ σ H Q,t' σ H Q->t σ H Q):PW X e t':=λwh pins s σ H Q I q=>h wh pins s σ H Q I (i _ _ _ q)
theorem PA.weak{X:Cx}{e:List Expr}{t t':TA}(h:PA X e t)(i:∀ σ H Q,t' σ H Q->t σ H Q):PA X e t':=λpos pins s σ H Q I q=>h pos pins s σ H Q I (i _ _ _ q)
theorem PS.weak{X:Cx}{e:Stmt}{t t':TS}(h:PS X e t)(i:∀ N σ H,t' N σ H->t N σ H):PS X e t':=λpins s σ H N I q=>h pins s σ H N I (i _ _ _ q)
theorem PSs.weak{X:Cx}{e:List Stmt}{t t':TS}(h:PSs X e t)(i:∀ N σ H,t' N σ H->t N σ H):PSs X e t':=λpins s σ H N I q=>h pins s σ H N I (i _ _ _ q)
abbrev LINE:Nat:=16777216
theorem ll{n:Nat}(h:n<=LINE):n<=sizeLine:=am4 h
def sV(i:Nat):SE:=λτ h=>match τ[i]? with | some (some d)=>.ok d h | _=>.no
def sC(d:D):SE:=λ_ h=>.ok d h
section
variable{X:Cx}{E:XD}{a b c e:Expr}{fa fb fc:SE}{pos:Pos}
theorem bh(i:Nat){x:Str}{pos:Pos}(hN:X.N[i]? = some x:=by rfl)(hv:Vis X.env.scope x:=by first | exact Or.inl rfl | exact Or.inr (Or.inl rfl) | exact Or.inr (Or.inr rfl))(hd:(x == ("__debug__" : Str))=false:=by decide)
  (hcd:(x == ("__classdict__" : Str))=false:=by decide):ME X E (.Name x pos) (sV i):=by
 refine PE.weak (aow hN hv hd hcd) λσ H Q ⟨ι,τ,h,S,Rh,o⟩=>?_;unfold sV at o
 split at o
 ·rename_i d e;obtain ⟨v,h1,h2⟩:=S.val i d e;exact ⟨v,h1,o ι H v (.refl _ _) h2 Rh⟩
 ·exact o.elim
theorem atc{v:V}{d:D}(h:PE X e (tC v))(r:∀ ι H,Rep X.K ι H v d):ME X E e (sC d) :=
 PE.weak h λσ H Q ⟨ι,τ,h,S,Rh,o⟩=>o ι H v (.refl _ _) (r ι H) Rh
theorem bc{i j pos}:ME X E (.Constant (.int i) j pos) (sC (.int i)):=atc aox λ_ _=>.int i
theorem a8l{i j pos}:ME X E (.Constant (.bool i) j pos) (sC (.bl i)):=atc atu λ_ _=>.bl i
theorem jk{i j pos}:ME X E (.Constant (.str i) j pos) (sC (.str i)):=atc aoy λ_ _=>.str i
theorem aui{x:Str}{n:String}{pos:Pos}(hg:Gl X x)(hm:X.mg x=none)(hv:bootBuiltins x=some (.type n))(hn:x ≠ "__name__":=by decide)(hd:(x == ("__debug__" : Str))=false:=by decide):ME X E (.Name x pos) (sC (.ty n)) :=
 atc (alj (v:=.ty n) hg hm hv rfl hn hd) λ_ _=>.ty n
def s2(g:D->D->Hd->R D)(fa fb:SE):SE:=λτ h=>(fa τ h).bind λx h1=>(fb τ h1).bind λy h2=>g x y h2
def s1(g:D->Hd->R D)(fa:SE):SE:=λτ h=>(fa τ h).bind g
def a5q(K:PySem.W.Frag)(g:D->D->Hd->R D)(r:R2):Prop:=∀ (E:XD) ι H h x y dx dy Q,Rep K ι H x dx->Rep K ι H y dy->HRep K ι H h->out K E (xx K) ι H (g dx dy h) Q->r x y H Q
def aem(K:PySem.W.Frag)(g:List D->Hd->R D)(r:List V->Hp->VK->Prop):Prop:=∀ (E:XD) ι H h xs ds Q,Reps K ι H xs ds->HRep K ι H h->out K E (xx K) ι H (g ds h) Q->r xs H Q
theorem atd{g:D->D->Hd->R D}{r:R2}{K:PySem.W.Frag}(hs:a5q K g r){σ:St}{H:Hp}{Q:VK}(q:lift K E (xx K) (s2 g fa fb) σ H Q):tOp r (lift K E (xx K) fa) (lift K E (xx K) fb) σ H Q:=by
 obtain ⟨ι,τ,h,S,Rh,o⟩:=q;refine ⟨ι,τ,h,S,Rh,gm o λd h1 ι1 H1 v g1 r1 hr1 o1=>?_⟩;refine ⟨ι1,τ,h1,S.mono g1,hr1,gm o1 λd2 h2 ι2 H2 u g2 r2 hr2 o2=>?_⟩;exact hs E ι2 H2 h2 v u d d2 Q (r1.mono g2) r2 hr2 o2
theorem acr{op:Operator}{r:R2}{g:D->D->Hd->R D}(ho:OpR X (binaryOp op) r)(hs:a5q X.K g r)(ha:ME X E a fa)(hb:ME X E b fb):ME X E (.BinOp a op b pos) (s2 g fa fb) :=
 PE.weak (apb ho ha hb) λσ H Q q=>atd hs q
theorem yo{op:CmpOp}{r:R2}{g:D->D->Hd->R D}(ho:OpR X (compareOp op) r)(hs:a5q X.K g r)(ha:ME X E a fa)(hb:ME X E b fb)(hm:behindInMarks op b=false):ME X E (.Compare a [op] [b] pos) (s2 g fa fb) :=
 PE.weak (alr ho ha hb hm) λσ H Q q=>atd hs q
theorem auj{r:R2}{g:D->D->Hd->R D}(ho:IxR X r)(hs:a5q X.K g r)(ha:ME X E a fa)(hb:ME X E b fb)(hp:a9j b):ME X E (.Subscript a b pos) (s2 g fa fb) :=
 PE.weak (aub ho ha hb hp) λσ H Q q=>atd hs q
def asB(d:D)(h:Hd):R Bool:=match d with | .bl b=>.ok b h | _=>.no
def sT(f:SE):ST:=λτ h=>(f τ h).bind asB
theorem am8{K:PySem.W.Frag}{t:TE}{f:SE}(hi:∀ σ H Q,lift K E (xx K) f σ H Q->t σ H Q){σ:St}{H:Hp}{Q:Bool->Hp->Prop}(q:lift K E am7 (sT f) σ H Q):api t σ H Q:=by
 refine hi σ H _ ?_;obtain ⟨ι,τ,h,S,Rh,o⟩:=q;refine ⟨ι,τ,h,S,Rh,gm o λd h1 ι1 H1 v g1 r1 hr1 o1=>?_⟩
 cases r1 with
 | bl b=>exact ⟨b,rfl,o1 ι1 H1 b (.refl _ _) rfl hr1⟩
 | _=>exact o1.elim
theorem gk{op:CmpOp}{r:R2}{g:D->D->Hd->R D}(ho:OpR X (compareOp op) r)(hs:a5q X.K g r)(ha:ME X E a fa)(hb:ME X E b fb)(hm:behindInMarks op b=false):MT X E (.Compare a [op] [b] pos) (sT (s2 g fa fb)) :=
 PT.weak (als ho ha hb hm) λσ H Q q=>am8 (λ_ _ _=>atd hs) q
def sCh(g g':D->D->Hd->R D)(fa fb fc:SE):SE:=λτ h=>(fa τ h).bind λx h1=>(fb τ h1).bind λy h2=>(g x y h2).bind λz h3=>match z with
 | .bl true=>(fc τ h3).bind λw h4=>g' y w h4
 | .bl false=>.ok (.bl false) h3
 | _=>.no
def tru(d:D)(h:Hd):R Bool:=match d with
 | .non=>.ok false h
 | .bl b=>.ok b h
 | .int i=>.ok (i != 0) h
 | .str x=>if x.length<=LINE then .ok ((x.length:Int) != 0) h else .no
 | .tup xs=>.ok (!xs.isEmpty) h
 | .rol xs=>.ok (!xs.isEmpty) h
 | .ref i=>match h[i]? with
  | some (.lst xs)=>.ok (!xs.isEmpty) h
  | some (.dK kvs)=>.ok (!kvs.isEmpty) h
  | _=>.no
 | _=>.no
theorem Reps.emp{K:PySem.W.Frag}{ι:List Addr}{H:Hp}{vs:List V}{ds:List D}(r:Reps K ι H vs ds):vs.isEmpty=ds.isEmpty:=by cases r<;>rfl
theorem KRep.emp{κ:Type}{K:PySem.W.Frag}{ι:List Addr}{H:Hp}{us:List (κ × V)}{kvs:List (κ × D)}(r:KRep K ι H us kvs):us.isEmpty=kvs.isEmpty:=by
 have:=congrArg List.length r.1
 cases us<;>cases kvs<;>simp at this ⊢
theorem am9{K:PySem.W.Frag}{ι:List Addr}{H:Hp}{h:Hd}{x:V}{d:D}{Q:Bool->Hp->Prop}(r:Rep K ι H x d)(hr:HRep K ι H h)(o:out K E am7 ι H (tru d h) Q):∃ k,au6 K x H k/\Q k H:=by
 cases r with
 | non=>exact ⟨false,rfl,o ι H _ (.refl _ _) rfl hr⟩
 | bl b=>exact ⟨b,rfl,o ι H _ (.refl _ _) rfl hr⟩
 | int i=>exact ⟨_,rfl,o ι H _ (.refl _ _) rfl hr⟩
 | str x =>
  by_cases hl:x.length<=LINE
  ·simp only [tru,if_pos hl] at o;exact ⟨_,⟨ll hl,rfl⟩,o ι H _ (.refl _ _) rfl hr⟩
  ·simp only [tru,if_neg hl] at o;exact o.elim
 | ty n=>exact o.elim
 | rod _ _ _=>exact o.elim
 | scr _ _=>exact o.elim
 | rdT _ _ _=>exact o.elim
 | exc _ _ _=>exact o.elim
 | tup e rs=>exact ⟨_, .inr (.inl ⟨_,SqT.of e,rfl⟩),by rw [rs.emp];exact o ι H _ (.refl _ _) rfl hr⟩
 | rol e rs=>exact ⟨_, .inl ⟨_,e.l,rfl⟩,by rw [rs.emp];exact o ι H _ (.refl _ _) rfl hr⟩
 | @ref a i e =>
  obtain ⟨ob,h1,h2⟩:=hr.at e;simp only [tru,h1] at o
  cases ob with
  | lst xs =>
   obtain ⟨vs,h3,h4⟩:=h2;exact ⟨_, .inl ⟨_,SqL.of h3,rfl⟩,by rw [h4.emp];exact o ι H _ (.refl _ _) rfl hr⟩
  | dK kvs =>
   obtain ⟨us,h3,h4⟩:=h2;exact ⟨_, .inr (.inr ⟨_,h3,rfl⟩),by rw [h4.emp];exact o ι H _ (.refl _ _) rfl hr⟩
  | dT kvs=>exact o.elim
def ai4(f:SE):ST:=λτ h=>(f τ h).bind tru
theorem akk(ha:ME X E a fa)(he:∀ whole,isTrue a X.env whole=(do let v <-whole;standAt a.pos;holding [v] (truthy v)):=by intro _;rfl):MT X E a (ai4 fa):=by
 refine PT.weak (ahx ha he) λσ H Q ⟨ι,τ,h,S,Rh,o⟩=>?_;exact ⟨ι,τ,h,S,Rh,gm o λd h1 ι1 H1 v g1 r1 hr1 o1=>am9 r1 hr1 o1⟩
def a5o(f g:ST):ST:=λτ h=>(f τ h).bind λb h1=>if b=true then g τ h1 else .ok false h1
def sOr(f g:ST):ST:=λτ h=>(f τ h).bind λb h1=>if b=true then .ok true h1 else g τ h1
def aen(f:ST):ST:=λτ h=>(f τ h).bind λb h1=>.ok (!b) h1
variable{ga gb:ST}
theorem a01(ha:MT X E a ga):MW X E (.BoolOp .And [a] pos) ga:=alk ha
theorem a8m(ha:MT X E a ga):MW X E (.BoolOp .Or [a] pos) ga:=aoz ha
theorem a1u{rest:List Expr}(ha:MT X E a ga)(hb:MW X E (.BoolOp .And (b::rest) pos) gb):MW X E (.BoolOp .And (a::b::rest) pos) (a5o ga gb):=by
 refine PW.weak (ap0 ha hb) λσ H Q ⟨ι,τ,h,S,Rh,o⟩=>?_;refine ⟨ι,τ,h,S,Rh,gm o λd h1 ι1 H1 v g1 r1 hr1 o1=>?_⟩;cases r1
 cases d with
 | true=>exact ⟨ι1,τ,h1,S.mono g1,hr1,o1⟩
 | false=>exact o1 ι1 H1 false (.refl _ _) rfl hr1
theorem acs{rest:List Expr}(ha:MT X E a ga)(hb:MW X E (.BoolOp .Or (b::rest) pos) gb):MW X E (.BoolOp .Or (a::b::rest) pos) (sOr ga gb):=by
 refine PW.weak (atv ha hb) λσ H Q ⟨ι,τ,h,S,Rh,o⟩=>?_;refine ⟨ι,τ,h,S,Rh,gm o λd h1 ι1 H1 v g1 r1 hr1 o1=>?_⟩;cases r1
 cases d with
 | true=>exact o1 ι1 H1 true (.refl _ _) rfl hr1
 | false=>exact ⟨ι1,τ,h1,S.mono g1,hr1,o1⟩
theorem akl(ha:MT X E a ga):MT X E (.UnaryOp .Not a pos) (aen ga):=by
 refine PT.weak (ap1 ha) λσ H Q ⟨ι,τ,h,S,Rh,o⟩=>?_;refine ⟨ι,τ,h,S,Rh,gm o λd h1 ι1 H1 v g1 r1 hr1 o1=>?_⟩;cases r1
 exact o1 ι1 H1 _ (.refl _ _) rfl hr1
def a2p(f g:SE):SE:=λτ h=>(f τ h).bind λd h1=>match d with | .bl true=>g τ h1 | .bl false=>.ok (.bl false) h1 | _=>.no
def ahi(f g:SE):SE:=λτ h=>(f τ h).bind λd h1=>match d with | .bl true=>.ok (.bl true) h1 | .bl false=>g τ h1 | _=>.no
def ai5(f:SE):SE:=λτ h=>(f τ h).bind λd h1=>match d with | .bl b=>.ok (.bl (!b)) h1 | _=>.no
theorem aeo{op}(ha:ME X E a fa):ME X E (.BoolOp op [a] pos) fa:=ap2 ha
theorem akm{rest:List Expr}(ha:ME X E a fa)(hb:ME X E (.BoolOp .And (b::rest) pos) fb):ME X E (.BoolOp .And (a::b::rest) pos) (a2p fa fb):=by
 refine PE.weak (ap3 ha hb) λσ H Q ⟨ι,τ,h,S,Rh,o⟩=>?_;refine ⟨ι,τ,h,S,Rh,gm o λd h1 ι1 H1 v g1 r1 hr1 o1=>?_⟩
 cases r1 with
 | bl k =>
  refine ⟨k,rfl,?_⟩
  cases k with
  | true=>exact ⟨ι1,τ,h1,S.mono g1,hr1,o1⟩
  | false=>exact o1 ι1 H1 _ (.refl _ _) (.bl _) hr1
 | _=>exact o1.elim
theorem auk{rest:List Expr}(ha:ME X E a fa)(hb:ME X E (.BoolOp .Or (b::rest) pos) fb):ME X E (.BoolOp .Or (a::b::rest) pos) (ahi fa fb):=by
 refine PE.weak (atx ha hb) λσ H Q ⟨ι,τ,h,S,Rh,o⟩=>?_;refine ⟨ι,τ,h,S,Rh,gm o λd h1 ι1 H1 v g1 r1 hr1 o1=>?_⟩
 cases r1 with
 | bl k =>
  refine ⟨k,rfl,?_⟩
  cases k with
  | false=>exact ⟨ι1,τ,h1,S.mono g1,hr1,o1⟩
  | true=>exact o1 ι1 H1 _ (.refl _ _) (.bl _) hr1
 | _=>exact o1.elim
def ahj(c:ST)(f g:SE):SE:=λτ h=>(c τ h).bind λb h1=>if b=true then f τ h1 else g τ h1
theorem apz(hc:MT X E c ga)(ha:ME X E a fa)(hb:ME X E b fb):ME X E (.IfExp c a b pos) (ahj ga fa fb):=by
 refine PE.weak (ahs hc ha hb) λσ H Q ⟨ι,τ,h,S,Rh,o⟩=>?_;refine ⟨ι,τ,h,S,Rh,gm o λd h1 ι1 H1 v g1 r1 hr1 o1=>?_⟩;cases r1
 cases d with
 | true=>exact ⟨ι1,τ,h1,S.mono g1,hr1,o1⟩
 | false=>exact ⟨ι1,τ,h1,S.mono g1,hr1,o1⟩
def dh:SA:=λ_ h=>.ok [] h
def aj(f:SE)(g:SA):SA:=λτ h=>(f τ h).bind λd h1=>(g τ h1).bind λds h2=>.ok (d::ds) h2
variable{es:List Expr}{ka:SA}
theorem au:MA X E [] dh:=PA.weak a3d λσ H Q ⟨ι,τ,h,S,Rh,o⟩=>o ι H [] (.refl _ _) .nil Rh
theorem aa(ha:ME X E e fa)(hr:MA X E es ka)(hs:starEach (e::es) X.env=(false,eval e X.env)::starEach es X.env:=by rfl):MA X E (e::es) (aj fa ka):=by
 refine PA.weak (a00 ha hr hs) λσ H Q ⟨ι,τ,h,S,Rh,o⟩=>?_;refine ⟨ι,τ,h,S,Rh,gm o λd h1 ι1 H1 v g1 r1 hr1 o1=>?_⟩;refine ⟨ι1,τ,h1,S.mono g1,hr1,gm o1 λd2 h2 ι2 H2 u g2 r2 hr2 o2=>?_⟩;exact o2 ι2 H2 _ (.refl _ _) (.cons (r1.mono g2) r2) hr2
def yc(ds:List D)(h:Hd):R D:=if ds.length<=LINE then .ok (.tup ds) h else .no
def ue(ds:List D)(h:Hd):R D:=if ds.length<=LINE then .ok (.ref h.length) (h++[.lst ds]) else .no
def sA(g:List D->Hd->R D)(k:SA):SE:=λτ h=>(k τ h).bind g
theorem a1p{K:PySem.W.Frag}{ι:List Addr}{H:Hp}{h:Hd}{vs:List V}{ds:List D}{Q:VK}(r:Reps K ι H vs ds)(hr:HRep K ι H h)(o:out K E (xx K) ι H (.ok (.tup ds) h) Q):∀ p,H p=none->Q (.ref p) (upd H p (.tup vs)):=λp hp =>
 o ι _ _ (wy hp _) (.tup nj (r.mono (wy hp _))) (hr.aside hp _)
theorem vg{K:PySem.W.Frag}{ι:List Addr}{H:Hp}{h:Hd}{vs:List V}{ds:List D}{Q:VK}(r:Reps K ι H vs ds)(hr:HRep K ι H h)(o:out K E (xx K) ι H (.ok (.ref h.length) (h++[.lst ds])) Q):∀ p,H p=none->Q (.ref p) (upd H p (.lst vs)):=λp hp =>
 o (ι++[p]) _ _ (ael hp _) (.ref (by rw [List.getElem?_append_right (by rw [hr.len];exact Nat.le_refl _),hr.len];simp)) (hr.add hp ⟨_,nj,r.mono (ael hp _)⟩)
theorem aep{K:PySem.W.Frag}{ι:List Addr}{H:Hp}{h:Hd}{i:Nat}{a:Addr}{vs:List V}{ds:List D}{d:D}{v:V}{Q:VK}(r:Reps K ι H vs ds)(hr:HRep K ι H h)(hi:ι[i]? = some a)(rd:Rep K ι H v d)(o:out K E (xx K) ι H (.ok d (h.set i (.lst ds))) Q):Q v (upd H a (.lst vs)) :=
 o ι _ _ (a65 hr hi _) (rd.mono (a65 hr hi _)) (hr.put hi ⟨_,nj,r.mono (a65 hr hi _)⟩)
theorem qi{x1}(h:MA X E es ka):ME X E (.Tuple es x1 pos) (sA yc ka):=by
 refine PE.weak (apk h) λσ H Q ⟨ι,τ,h,S,Rh,o⟩=>?_;refine ⟨ι,τ,h,S,Rh,gm o λd h1 ι1 H1 v g1 r1 hr1 o1=>?_⟩;unfold yc at o1
 split at o1
 ·rename_i hl;exact ⟨ll (by rw [r1.len];exact hl),a1p r1 hr1 o1⟩
 ·exact o1.elim
theorem nu(h:MA X E es ka):ME X E (.List es pos) (sA ue ka):=by
 refine PE.weak (apl h) λσ H Q ⟨ι,τ,h,S,Rh,o⟩=>?_;refine ⟨ι,τ,h,S,Rh,gm o λd h1 ι1 H1 v g1 r1 hr1 o1=>?_⟩;unfold ue at o1
 split at o1
 ·rename_i hl;exact ⟨ll (by rw [r1.len];exact hl),vg r1 hr1 o1⟩
 ·exact o1.elim
theorem pq{x:Str}{p:Pos}{id:String}{r:List V->Hp->VK->Prop}{g:List D->Hd->R D}(hc:CallR X (.builtin id) r)(hs:aem X.K g r)(hg:Gl X x)(hm:X.mg x=none)(hv:bootBuiltins x=some (.builtin id))(ha:MA X E (e::es) ka)(hn:x ≠ "__name__":=by decide)(hdb:(x == ("__debug__" : Str))=false:=by decide)
  (he:starEach (e::es) X.env=(false,eval e X.env)::starEach es X.env:=by rfl) (hpl:(backTo pos (starEach es X.env)).any (·.1)=false:=by rfl):ME X E (.Call (.Name x p) (e::es) [] pos) (sA g ka):=by
 refine PE.weak (a3p hc hg hm hv ha hn hdb he hpl) λσ H Q ⟨ι,τ,h,S,Rh,o⟩=>?_;exact ⟨ι,τ,h,S,Rh,gm o λd h1 ι1 H1 v g1 r1 hr1 o1=>hs E ι1 H1 h1 v d Q r1 hr1 o1⟩
theorem a0k{x:Str}{p:Pos}{id:String}{r:List V->Hp->VK->Prop}{g:List D->Hd->R D}(hc:CallR X (.type id) r)(hs:aem X.K g r)(hg:Gl X x)(hm:X.mg x=none)(hv:bootBuiltins x=some (.type id))(ha:MA X E (e::es) ka)(hn:x ≠ "__name__":=by decide)(hdb:(x == ("__debug__" : Str))=false:=by decide)
  (he:starEach (e::es) X.env=(false,eval e X.env)::starEach es X.env:=by rfl) (hpl:(backTo pos (starEach es X.env)).any (·.1)=false:=by rfl):ME X E (.Call (.Name x p) (e::es) [] pos) (sA g ka):=by
 refine PE.weak (a1s hc hg hm hv ha hn hdb he hpl) λσ H Q ⟨ι,τ,h,S,Rh,o⟩=>?_;exact ⟨ι,τ,h,S,Rh,gm o λd h1 ι1 H1 v g1 r1 hr1 o1=>hs E ι1 H1 h1 v d Q r1 hr1 o1⟩
end
def ju(f g:SS):SS:=λτ h=>match f τ h with | .nx τ1 h1=>g τ1 h1 | r=>r
def sNx:SS:=λτ h=>.nx τ h
def ug(f:SE):SS:=λτ h=>(f τ h).fl λd h1=>.rt d h1
def a8n(f:SE):SS:=λτ h=>(f τ h).fl λ_ h1=>.nx τ h1
def sIf(c:ST)(f g:SS):SS:=λτ h=>(c τ h).fl λb h1=>if b=true then f τ h1 else g τ h1
def mq(i:Nat)(f:SE):SS:=λτ h=>(f τ h).fl λd h1=>.nx (τ.set i (some d)) h1
def ate(i:Nat)(g:D->D->Hd->R D)(f:SE):SS:=λτ h=>match τ[i]? with
 | some (some x)=>(f τ h).fl λy h1=>(g x y h1).fl λz h2=>.nx (τ.set i (some z)) h2
 | _=>.no
section
variable{X:Cx}{E:XD}{e o:Expr}{es:List Expr}{fa fb fc:SE}{ga:ST}{st:Stmt}{sts a b:List Stmt}{f g:SS}{pos:Pos}
theorem jm:MSs X E [] sNx:=PSs.weak alm λN σ H ⟨ι,τ,h,S,Rh,o⟩=>o ι H σ (.refl _ _) S Rh
theorem aq0{K:PySem.W.Frag}{N:Ends}{σ:St}{H:Hp}(q:a6t K E (ju f g) N σ H):a6t K E f { N with nx:=a6t K E g N } σ H:=by
 obtain ⟨ι,τ,h,S,Rh,o⟩:=q;refine ⟨ι,τ,h,S,Rh,?_⟩;unfold ju at o
 cases hf:f τ h with
 | nx τ1 h1 =>
  rw [hf] at o;exact λι1 H1 σ1 g1 S1 R1=>⟨ι1,τ1,h1,S1,R1,sr o g1⟩
 | _=>rw [hf] at o;exact o
theorem az(h1:MS X E st f)(h2:MSs X E sts g):MSs X E (st::sts) (ju f g):=PSs.weak (aht h1 h2) λN σ H q=>aq0 q
theorem dg(h1:MS X E st f):MSs X E [st] f:=aln h1
theorem jj(he:ME X E e fa):MS X E (.Return (some e) pos) (ug fa):=by
 refine PS.weak (ap4 he) λN σ H ⟨ι,τ,h,S,Rh,o⟩=>?_;exact ⟨ι,τ,h,S,Rh,a0j o λd h1 ι1 H1 v g1 r1 hr1 o1=>o1 ι1 H1 v (.refl _ _) r1 hr1⟩
theorem ama(he:ME X E e fa)(hs:swapsWith e none pos.line X.env=pure false:=by rfl):MS X E (.Expr e pos) (a8n fa):=by
 refine PS.weak (alo he hs) λN σ H ⟨ι,τ,h,S,Rh,o⟩=>?_;exact ⟨ι,τ,h,S,Rh,a0j o λd h1 ι1 H1 v g1 r1 hr1 o1=>o1 ι1 H1 σ (.refl _ _) (S.mono g1) hr1⟩
theorem ph{c:Expr}(hc:MT X E c ga)(ha:MSs X E a f)(hb:MSs X E b g):MS X E (.If c a b pos) (sIf ga f g):=by
 refine PS.weak (au0 hc ha hb) λN σ H ⟨ι,τ,h,S,Rh,o⟩=>?_;refine ⟨ι,τ,h,S,Rh,a0j o λd h1 ι1 H1 v g1 r1 hr1 o1=>?_⟩;cases r1
 cases d with
 | true=>exact ⟨ι1,τ,h1,S.mono g1,hr1,o1⟩
 | false=>exact ⟨ι1,τ,h1,S.mono g1,hr1,o1⟩
theorem jc{i:Nat}{x:Str}{pos':Pos}(hN:X.N.Nodup)(hi:X.N[i]? = some x)(hx:Loc X.env.scope x)(he:ME X E e fa)(hs:swapsWith e (some (.Name x pos')) pos.line X.env=pure false:=by rfl)(hf:X.fn x=true\/X.env.scope.names.lookup x=some .local:=by first | exact .inl rfl | exact .inr rfl | assumption) :
  MS X E (.Assign [.Name x pos'] e pos) (mq i fa):=by
 refine PS.weak (ap7 hN hi hx he hs hf) λN σ H ⟨ι,τ,h,S,Rh,o⟩=>?_;exact ⟨ι,τ,h,S,Rh,a0j o λd h1 ι1 H1 v g1 r1 hr1 o1=>o1 ι1 H1 _ (.refl _ _) ((S.mono g1).set r1 i) hr1⟩
def put(o k v:D)(h:Hd):Option Hd:=match o,k with
 | .ref i, .int j=>match h[i]? with
  | some (.lst xs)=>match ixN xs.length j with
   | some m=>some (h.set i (.lst (xs.set m v)))
   | none=>none
  | _=>none
 | _,_=>none
theorem amb{K:PySem.W.Frag}{ι:List Addr}{H:Hp}{h h':Hd}{o k v:V}{od kd vd:D}{Q:Hp->Prop}(r1:Rep K ι H o od)(r2:Rep K ι H k kd)(r3:Rep K ι H v vd)(hr:HRep K ι H h)(e:put od kd vd h=some h')
  (q:∀ H',Gr ι H ι H'->HRep K ι H' h'->Q H'):aps o k v H Q:=by
 cases r1 with
 | @ref a i ha =>
  cases r2 with
  | int j =>
   obtain ⟨ob,h1,h2⟩:=hr.at ha
   cases ob with
   | lst xs =>
    obtain ⟨vs,h3,h4⟩:=h2;simp only [put,h1] at e
    cases hm:ixN xs.length j with
    | none=>rw [hm] at e;cases e
    | some m =>
     rw [hm] at e;cases e
     exact ⟨a,vs,j,m,rfl,rfl,h3,by rw [h4.len];exact hm,q _ (a65 hr ha _) (hr.put ha ⟨_,nj,(h4.set r3 m).mono (a65 hr ha _)⟩)⟩
   | dK _=>simp only [put,h1] at e;cases e
   | dT _=>simp only [put,h1] at e;cases e
  | _=>cases e
 | _=>cases e
def aay(fe fo fi:SE):SS:=λτ h=>(fe τ h).fl λv h1=>(fo τ h1).fl λo h2=>(fi τ h2).fl λk h3=>match put o k v h3 with | some h4=>.nx τ h4 | none=>.no
theorem a4l{i:Expr}{pos':Pos}(he:ME X E e fa)(ho:ME X E o fb)(hi:ME X E i fc)
  (hs:swapsWithSole [.Subscript o i pos'] e pos.line X.env=pure false:=by rfl) (hw:swappedStores [.Subscript o i pos'] e X.env=pure none:=by rfl)
  (h1:(assignEach [.Subscript o i pos'] X.env).map (·.2)=[assign (.Subscript o i pos') X.env]:=by rfl)
  (ha:∀ v,assign (.Subscript o i pos') X.env v=(do
   let ov <-holding [v] (eval o X.env)
   let iv <-holding [v,ov] (eval i X.env)
   standAt pos'
   holding [v,ov,iv] (setItem ov iv v)
   release [v,ov,iv] []):=by intro _;rfl):MS X E (.Assign [.Subscript o i pos'] e pos) (aay fa fb fc):=by
 refine PS.weak (akd he (ap5 ho hi set_list ha) hs hw h1) λN σ H ⟨ι,τ,h,S,Rh,oo⟩=>?_;refine ⟨ι,τ,h,S,Rh,a0j oo λd h1 ι1 H1 v g1 r1 hr1 o1=>?_⟩;refine ⟨ι1,τ,h1,S.mono g1,hr1,a0j o1 λd2 h2 ι2 H2 u g2 r2 hr2 o2=>?_⟩;refine ⟨ι2,τ,h2,(S.mono g1).mono g2,hr2,a0j o2 λd3 h3 ι3 H3 w g3 r3 hr3 o3=>?_⟩
 cases hp:put d2 d3 d h3 with
 | none=>rw [hp] at o3;exact o3.elim
 | some h4 =>
  rw [hp] at o3;exact amb (r2.mono g3) r3 ((r1.mono g2).mono g3) hr3 hp λH' g4 hr4=>o3 ι3 H' σ g4 ((((S.mono g1).mono g2).mono g3).mono g4) hr4
def sWh(c:ST)(f:SS):Nat->SS
 | 0,_,_=>.no
 | n+1,τ,h=>(c τ h).fl λb h1=>if b=true then (match f τ h1 with | .nx τ2 h2=>sWh c f n τ2 h2 | .ct τ2 h2=>sWh c f n τ2 h2 | .bk τ2 h2=>.nx τ2 h2 | r=>r) else .nx τ h1
theorem ai6(n:Nat){c:Expr}(hp:PassesOwn (model X.prog X.w) X.A X.env X.xe)(hc:MT X E c ga)(hb:MSs X E a f):MS X E (.While c a [] pos) (sWh ga f n):=by
 refine PS.weak (ahv hp hc hb) λN σ H q=>?_;refine ⟨λm σ H=>a6t X.K E (sWh ga f m) N σ H,⟨n,q⟩,?_⟩
 rintro m σ1 H1 ⟨ι,τ,h,S,Rh,o⟩
 cases m with
 | zero=>exact o.elim
 | succ m =>
  refine ⟨ι,τ,h,S,Rh,a0j o λd h1 ι1 H1 v g1 r1 hr1 o1=>?_⟩;cases r1
  cases d with
  | false=>exact o1 ι1 H1 _ (.refl _ _) (S.mono g1) hr1
  | true =>
   refine ⟨λσ' H'=>a6t X.K E (sWh ga f m) N σ' H',λσ' H' q=>⟨m,Nat.lt_succ_self m,q⟩,ι1,τ,h1,S.mono g1,hr1,?_⟩;rw [if_pos rfl] at o1
   cases hf:f τ h1 with
   | nx τ2 h2=>rw [hf] at o1;exact λι2 H2 σ2 g2 S2 R2=>⟨ι2,τ2,h2,S2,R2,sr o1 g2⟩
   | ct τ2 h2=>rw [hf] at o1;exact λι2 H2 σ2 g2 S2 R2=>⟨ι2,τ2,h2,S2,R2,sr o1 g2⟩
   | bk τ2 h2=>rw [hf] at o1;exact o1
   | rt d h2=>rw [hf] at o1;exact o1
   | ex c h2=>rw [hf] at o1;exact o1
   | no=>rw [hf] at o1;exact o1.elim
end
abbrev SG:=D->Sd->Hd->Fl
def amc(K:PySem.W.Frag)(E:XD)(g:SG):TG:=λv σ H Q=>∃ ι τ h d,Rep K ι H v d/\SRep K ι H σ τ/\HRep K ι H h/\ahh K E ι H (g d τ h) { nx:=Q,rt:=λ_ _=>False }
abbrev MG(X:Cx)(E:XD)(tg:Expr)(g:SG):Prop:=PG X tg (amc X.K E g)
abbrev SGs:=List D->Sd->Hd->Fl
def aeq(K:PySem.W.Frag)(E:XD)(g:SGs):TGs:=λvs σ H Q=>∃ ι τ h ds,Reps K ι H vs ds/\SRep K ι H σ τ/\HRep K ι H h/\ahh K E ι H (g ds τ h) { nx:=Q,rt:=λ_ _=>False }
abbrev MGs(X:Cx)(E:XD)(tg:List Expr)(g:SGs):Prop:=PGs X tg (aeq X.K E g)
theorem PG.weak{X:Cx}{e:Expr}{t t':TG}(h:PG X e t)(i:∀ v σ H Q,t' v σ H Q->t v σ H Q):PG X e t':=λpins s σ H v u Q I r q=>h pins s σ H v u Q I r (i _ _ _ _ q)
theorem PGs.weak{X:Cx}{e:List Expr}{t t':TGs}(h:PGs X e t)(i:∀ v σ H Q,t' v σ H Q->t v σ H Q):PGs X e t':=λpins s σ H v u Q I r q=>h pins s σ H v u Q I r (i _ _ _ _ q)
def kN(i:Nat):SG:=λd τ h=>.nx (τ.set i (some d)) h
def aer:SGs:=λds τ h=>match ds with | []=>.nx τ h | _=>.no
def a02(g:SG)(k:SGs):SGs:=λds τ h=>match ds with | d::r=>(match g d τ h with | .nx τ1 h1=>k r τ1 h1 | _=>.no) | []=>.no
def ahk(n:Nat)(k:SGs):SG:=λd τ h=>match d with | .tup ds=>if ds.length=n then k ds τ h else .no | _=>.no
section
variable{X:Cx}{E:XD}{e:Expr}{es:List Expr}{fa:SE}{pos:Pos}{g:SG}{ks:SGs}
theorem qp{i:Nat}{x:Str}(hN:X.N.Nodup)(hi:X.N[i]? = some x)(hx:Loc X.env.scope x)(hf:X.fn x=true\/X.env.scope.names.lookup x=some .local:=by first | exact .inl rfl | exact .inr rfl | assumption):MG X E (.Name x pos) (kN i) :=
 PG.weak (jq hN hi hx hf) λv σ H Q ⟨ι,τ,h,d,r,S,Rh,o⟩=>o ι H _ (.refl _ _) (S.set r i) Rh
theorem a9q:MGs X E [] aer:=by
 refine PGs.weak a6k λvs σ H Q ⟨ι,τ,h,ds,r,S,Rh,o⟩=>?_
 cases r with
 | nil=>exact ⟨rfl,o ι H σ (.refl _ _) S Rh⟩
 | cons _ _=>exact o.elim
theorem ai7{K:PySem.W.Frag}{vs:List V}{σ:St}{H:Hp}{Q:St->Hp->Prop}(q:aeq K E (a02 g ks) vs σ H Q):ahu (amc K E g) (aeq K E ks) vs σ H Q:=by
 obtain ⟨ι,τ,h,ds,r,S,Rh,o⟩:=q
 cases r with
 | nil=>exact o.elim
 | @cons v d vs ds r rs =>
  refine ⟨v,vs,rfl,ι,τ,h,d,r,S,Rh,?_⟩;simp only [a02] at o
  cases hg:g d τ h with
  | nx τ1 h1 =>
   rw [hg] at o;exact λι1 H1 σ1 g1 S1 R1=>⟨ι1,τ1,h1,ds,rs.mono g1,S1,R1,sr o g1⟩
  | _=>rw [hg] at o;exact o.elim
theorem aes{k n:Nat}(hc:X.calm=true)(h:MGs X E es ks)(hn:(assignEach es X.env).length=n:=by rfl)(hst:(assignEach es X.env).findIdx? (·.1)=none:=by rfl):MG X E (.Tuple es k pos) (ahk n ks):=by
 refine PG.weak (aaq hc h hn hst) λv σ H Q ⟨ι,τ,h,d,r,S,Rh,o⟩=>?_
 cases r with
 | @tup a vs xs e rs =>
  simp only [ahk] at o
  by_cases hl:xs.length=n
  ·rw [if_pos hl] at o;exact ⟨a,vs,rfl,SqT.of e,by rw [rs.len];exact hl,ι,τ,h,xs,rs,S,Rh,o⟩
  ·rw [if_neg hl] at o;exact o.elim
 | _=>exact o.elim
def ai8(f:SE)(g:SG):SS:=λτ h=>(f τ h).fl λd h1=>match g d τ h1 with | .nx τ2 h2=>.nx τ2 h2 | _=>.no
theorem akn{tg:Expr}(he:ME X E e fa)(hg:MG X E tg g)(hs:swapsWithSole [tg] e pos.line X.env=pure false:=by rfl)(hw:swappedStores [tg] e X.env=pure none:=by rfl)
  (h1:(assignEach [tg] X.env).map (·.2)=[assign tg X.env]:=by rfl):MS X E (.Assign [tg] e pos) (ai8 fa g):=by
 refine PS.weak (akd he hg hs hw h1) λN σ H ⟨ι,τ,h,S,Rh,o⟩=>?_;refine ⟨ι,τ,h,S,Rh,a0j o λd h1 ι1 H1 v g1 r1 hr1 o1=>⟨ι1,τ,h1,d,r1,S.mono g1,hr1,?_⟩⟩
 cases hg:g d τ h1 with
 | nx τ1 h1=>rw [hg] at o1;exact o1
 | _=>rw [hg] at o1;exact o1.elim
end
structure Itm where
 xs:List D
 ck:Hd->Prop
def ai9(K:PySem.W.Frag)(ι0:List Addr)(H0:Hp)(J:It)(it:Itm):Prop:=∀ ι H h,Gr ι0 H0 ι H->HRep K ι H h->it.ck h->
 (∀ (i:Nat) (d:D),it.xs[i]? = some d->J.go i H/\∀ x H',J.yld i H x H'->Gr ι H ι H'/\Rep K ι H' x d/\HRep K ι H' h)/\J.stop it.xs.length H
abbrev aq1(K:PySem.W.Frag):List Addr->Hp->It->Itm->Prop:=λι H J it=>ai9 K ι H J it
abbrev SI:=Sd->Hd->R Itm
abbrev MI(X:Cx)(E:XD)(tg iter:Expr)(f:SI):Prop:=PI X tg iter (lift X.K E (aq1 X.K) f)
def a0l(x:Str):List D:=x.cps.toList.map λc=>D.str ⟨#[c]⟩
def amd(d:D)(h:Hd):R Itm:=match d with
 | .tup xs=>.ok ⟨xs,λ_=>True⟩ h
 | .rol xs=>.ok ⟨xs,λ_=>True⟩ h
 | .str x=>.ok ⟨a0l x,λ_=>True⟩ h
 | .ref i=>match h[i]? with
  | some (.lst xs)=>.ok ⟨xs,λh=>h[i]? = some (.lst xs)⟩ h
  | _=>.no
 | _=>.no
def sIt(f:SE):SI:=λτ h=>(f τ h).bind amd
theorem ako{K:PySem.W.Frag}{ι0:List Addr}{H0:Hp}{a:Addr}{xs:List D}{ck:Hd->Prop}(hl:∀ ι H h,Gr ι0 H0 ι H->HRep K ι H h->ck h->∃ vs,SqL K H a vs/\Reps K ι H vs xs):ai9 K ι0 H0 (Itl K a) ⟨xs,ck⟩:=by
 intro ι H h g hr c
 obtain ⟨vs,h1,h2⟩:=hl ι H h g hr c;refine ⟨λi d e=>?_,⟨vs,h1,by rw [h2.len];exact Nat.le_refl _⟩⟩
 obtain ⟨v,e1,r⟩:=h2.get e;refine ⟨⟨vs,v,h1,e1⟩,λx H' y=>?_⟩;obtain ⟨rfl,y⟩:=y;have:=y vs h1;rw [e1] at this;cases this
 exact ⟨.refl _ _,r,hr⟩
theorem uh{X:Cx}{E:XD}{tg l:Expr}{f:SE}(hl:ME X E l f):MI X E tg l (sIt f):=by
 intro pins s σ H Rr I ⟨ι,τ,h,S,Rh,o⟩
 unfold sIt at o
 cases hf:f τ h with
 | no=>rw [hf] at o;exact o.elim
 | ex c h1 =>
  rw [hf] at o;exact aki hl pins s σ H Rr I ⟨ι,τ,h,S,Rh,by rw [hf];exact o⟩
 | ok d h1 =>
  rw [hf] at o
  cases d with
  | tup xs =>
   refine ap9 hl pins s σ H Rr I ⟨ι,τ,h,S,Rh,?_⟩;rw [hf]
   intro ι1 H1 v g1 r1 hr1
   cases r1 with
   | @tup a vs _ e rs =>
    refine ⟨a,rfl,⟨vs,SqT.of e⟩,o ι1 H1 _ g1 ?_ hr1⟩
    intro ι2 H2 h2 g2 hr2 _
    have e2:=g2.tup _ _ e;have rs2:=rs.mono g2;refine ⟨λi d ed=>?_,⟨vs,SqT.of e2,by rw [rs2.len];exact Nat.le_refl _⟩⟩
    obtain ⟨v,e1,r⟩:=rs2.get ed;refine ⟨⟨vs,v,SqT.of e2,e1⟩,λx H' y=>?_⟩;obtain ⟨rfl,y⟩:=y;have:=y vs (SqT.of e2);rw [e1] at this;cases this
    exact ⟨.refl _ _,r,hr2⟩
  | rol xs =>
   refine ae3 hl pins s σ H Rr I ⟨ι,τ,h,S,Rh,?_⟩;rw [hf]
   intro ι1 H1 v g1 r1 hr1
   cases r1 with
   | @rol a vs _ e rs =>
    refine ⟨a,rfl,⟨vs,e.l⟩,o ι1 H1 _ g1 ?_ hr1⟩;exact ako (λι2 H2 h2 g2 hr2 _=>⟨vs,(e.mono g2).l,rs.mono g2⟩)
  | str x =>
   refine aki hl pins s σ H Rr I ⟨ι,τ,h,S,Rh,?_⟩;rw [hf]
   intro ι1 H1 v g1 r1 hr1
   cases r1
   refine ⟨x,rfl,o ι1 H1 _ g1 ?_ hr1⟩
   intro ι2 H2 h2 g2 hr2 _
   refine ⟨λi d ed=>?_,by show (a0l x).length=_;simp [a0l]⟩
   simp only [a0l,List.getElem?_map,Option.map_eq_some_iff] at ed;obtain ⟨c,ec,rfl⟩:=ed;refine ⟨by show i<x.cps.size;have:=(List.getElem?_eq_some_iff.mp ec).1;simpa using this,λy H' q=>?_⟩
   obtain ⟨rfl,c',ec',rfl⟩:=q;rw [ec] at ec';cases ec'
   exact ⟨.refl _ _, .str _,hr2⟩
  | ref i =>
   simp only [R.bind,amd] at o
   cases ho:h1[i]? with
   | none=>rw [ho] at o;exact o.elim
   | some ob =>
    rw [ho] at o
    cases ob with
    | dK _=>exact o.elim
    | dT _=>exact o.elim
    | lst xs =>
     refine ae3 hl pins s σ H Rr I ⟨ι,τ,h,S,Rh,?_⟩;rw [hf]
     intro ι1 H1 v g1 r1 hr1
     cases r1 with
     | @ref a _ e =>
      obtain ⟨vs,e1,rs⟩:=hr1.obj i a _ e ho;refine ⟨a,rfl,⟨vs,SqL.of e1⟩,o ι1 H1 _ g1 ?_ hr1⟩;refine ako (λι2 H2 h2 g2 hr2 c=>?_);obtain ⟨us,e3,rs3⟩:=hr2.obj i a _ (g2.at e) c;exact ⟨us,SqL.of e3,rs3⟩
  | _=>exact o.elim
def rng(lo:Int)(n:Nat):List D:=(List.range n).map λi=>D.int (lo+(i:Nat))
def B62(j:Int):Prop := -(2 ^ 62)<=j/\j<2 ^ 62
instance (j:Int):Decidable (B62 j):=by unfold B62;exact inferInstance
def rm(ds:List D)(h:Hd):R Itm:=match ds with
 | [.int j]=>if B62 j then .ok ⟨rng 0 j.toNat,λ_=>True⟩ h else .no
 | _=>.no
def aq2(ds:List D)(h:Hd):R Itm:=match ds with
 | [.int i, .int j]=>if B62 i/\B62 j then .ok ⟨rng i (j - i).toNat,λ_=>True⟩ h else .no
 | _=>.no
def sRg(g:List D->Hd->R Itm)(k:SA):SI:=λτ h=>(k τ h).bind g
theorem aq3{K:PySem.W.Frag}{ι0:List Addr}{H0:Hp}(lo:Int)(n:Nat):ai9 K ι0 H0 (Itr lo n) ⟨rng lo n,λ_=>True⟩:=by
 intro ι H h g hr _
 refine ⟨λi d ed=>?_,by show n<=(rng lo n).length;simp [rng]⟩
 simp only [rng,List.getElem?_map,Option.map_eq_some_iff] at ed;obtain ⟨j,ej,rfl⟩:=ed;obtain ⟨hj,e⟩:=List.getElem?_eq_some_iff.mp ej;simp at e hj;subst e;refine ⟨hj,λy H' q=>?_⟩;obtain ⟨rfl,rfl⟩:=q;exact ⟨.refl _ _, .int _,hr⟩
theorem sy{X:Cx}{E:XD}{tg a:Expr}{k:SA}{p pos:Pos}(hg:Gl X "range")(hm:X.mg "range" = none)(ha:MA X E [a] k)(hs:starEach [a] X.env=[(false,eval a X.env)]:=by rfl):MI X E tg (.Call (.Name "range" p) [a] [] pos) (sRg rm k):=by
 intro pins s σ H Rr I ⟨ι,τ,h,S,Rh,o⟩
 refine ae4 hg hm ha hs pins s σ H Rr I ⟨ι,τ,h,S,Rh,gm o λds h1 ι1 H1 vs g1 r1 hr1 o1=>?_⟩;unfold rm at o1
 split at o1
 ·rename_i j
  cases r1 with
  | cons r rs =>
   cases r;cases rs
   by_cases hb:B62 j
   ·rw [if_pos hb] at o1;exact ⟨j,rfl,hb.1,hb.2,o1 ι1 H1 _ (.refl _ _) (aq3 0 j.toNat) hr1⟩
   ·rw [if_neg hb] at o1;exact o1.elim
 ·exact o1.elim
open Classical in
noncomputable def forL(ck:Hd->Prop)(g:SG)(b:SS):List D->Sd->Hd->Fl
 | [],τ,h=>if ck h then .nx τ h else .no
 | x::xs,τ,h=>if ck h then (match g x τ h with
   | .nx τ1 h1=>(match b τ1 h1 with
    | .nx τ2 h2=>forL ck g b xs τ2 h2
    | .ct τ2 h2=>forL ck g b xs τ2 h2
    | .bk τ2 h2=>.nx τ2 h2
    | r=>r)
   | _=>.no) else .no
noncomputable def a9r(f:SI)(g:SG)(b:SS):SS:=λτ h=>(f τ h).fl λit h1=>forL it.ck g b it.xs τ h1
theorem ame{K:PySem.W.Frag}{E:XD}{ι0:List Addr}{H0:Hp}{J:It}{it:Itm}{g:SG}{b:SS}{N:Ends}{σ0:St}{τ0:Sd}{h0:Hd}(ir:ai9 K ι0 H0 J it)(S:SRep K ι0 H0 σ0 τ0)(Rh:HRep K ι0 H0 h0)(o:ahh K E ι0 H0 (forL it.ck g b it.xs τ0 h0) N) :
  ∃ W:Nat->Nat->St->Hp->Prop,(∃ m,W 0 m σ0 H0)/\∀ i m σ H,W i m σ H->
   (J.stop i H/\N.nx σ H)\/(J.go i H/\∃ M:St->Hp->Prop,(∀ σ' H',M σ' H'->∃ m',m'<m/\W (i+1) m' σ' H')/\∀ x H',J.yld i H x H'->amc K E g x σ H' λσ2 H2=>a6t K E b { N with nx:=M,ct:=M,bk:=N.nx } σ2 H2):=by
 refine ⟨λi m σ H=>m=it.xs.length - i/\i<=it.xs.length/\∃ ι τ h,Gr ι0 H0 ι H/\SRep K ι H σ τ/\HRep K ι H h/\ahh K E ι H (forL it.ck g b (it.xs.drop i) τ h) N,⟨_,rfl,Nat.zero_le _,ι0,τ0,h0, .refl _ _,S,Rh,o⟩,?_⟩
 rintro i m σ H ⟨rfl,hi,ι,τ,h,g0,S,Rh,o⟩
 by_cases hlt:i<it.xs.length
 ·rw [List.drop_eq_getElem_cons hlt,forL] at o
  by_cases hc:it.ck h
  ·rw [if_pos hc] at o;obtain ⟨go,yl⟩:=(ir ι H h g0 Rh hc).1 i _ (List.getElem?_eq_getElem hlt);refine .inr ⟨go,λσ' H'=>it.xs.length - (i+1)<it.xs.length - i/\∃ ι τ h,Gr ι0 H0 ι H'/\SRep K ι H' σ' τ/\HRep K ι H' h/\ahh K E ι H' (forL it.ck g b (it.xs.drop (i+1)) τ h) N,λσ' H' q=>⟨_,q.1,rfl,hlt,q.2⟩,λx H' y=>?_⟩;obtain ⟨g1,r1,hr1⟩:=yl x H' y;refine ⟨ι,τ,h,_,r1,S.mono g1,hr1,?_⟩;have o':=sr o g1
   cases hg:g it.xs[i] τ h with
   | nx τ1 h1 =>
    rw [hg] at o';dsimp only at o'
    intro ι2 H2 σ2 g2 S2 R2
    refine ⟨ι2,τ1,h1,S2,R2,?_⟩;have o2:=sr o' g2;have gg:=(g0.trans g1).trans g2
    cases hb:b τ1 h1 with
    | nx τ2 h2=>rw [hb] at o2;exact λι3 H3 σ3 g3 S3 R3=>⟨by omega,ι3,τ2,h2,gg.trans g3,S3,R3,sr o2 g3⟩
    | ct τ2 h2=>rw [hb] at o2;exact λι3 H3 σ3 g3 S3 R3=>⟨by omega,ι3,τ2,h2,gg.trans g3,S3,R3,sr o2 g3⟩
    | bk τ2 h2=>rw [hb] at o2;exact o2
    | rt d h2=>rw [hb] at o2;exact o2
    | ex c h2=>rw [hb] at o2;exact o2
    | no=>rw [hb] at o2;exact o2.elim
   | _=>rw [hg] at o';exact o'.elim
  ·rw [if_neg hc] at o;exact o.elim
 ·have e:i=it.xs.length:=by omega
  subst e;rw [List.drop_eq_nil_of_le (Nat.le_refl _),forL] at o
  by_cases hc:it.ck h
  ·rw [if_pos hc] at o;exact .inl ⟨(ir ι H h g0 Rh hc).2,o ι H σ (.refl _ _) S Rh⟩
  ·rw [if_neg hc] at o;exact o.elim
theorem a1g{X:Cx}{E:XD}{tg iter:Expr}{body:List Stmt}{f:SI}{g:SG}{b:SS}{pos:Pos}(hp:PassesOwn (model X.prog X.w) X.A X.env X.xe)(hc:X.calm=true)(hi:MI X E tg iter f)(hg:MG X E tg g)(hb:MSs X E body b)(hs:∀ x,foldedSetIterable iter X.env x=pure x:=by intro _;rfl):MS X E (.For tg iter body [] pos) (a9r f g b):=by
 refine PS.weak (apa hp hc hi hg hb hs) λN σ H ⟨ι,τ,h,S,Rh,o⟩=>?_;exact ⟨ι,τ,h,S,Rh,a0j o λit h1 ι1 H1 J g1 r1 hr1 o1=>ame r1 (S.mono g1) hr1 o1⟩
end MI
namespace MI
open PySem PySem.Spec L2
theorem R.bind_assoc{α β γ:Type}(r:R α)(f:α->Hd->R β)(g:β->Hd->R γ):(r.bind f).bind g=r.bind λa h=>(f a h).bind g:=by cases r<;>rfl
open Classical in
noncomputable def mapR(ck:Hd->Prop)(f:D->Hd->R D):List D->Hd->R (List D)
 | [],h=>if ck h then .ok [] h else .no
 | x::xs,h=>if ck h then (f x h).bind λy h1=>(mapR ck f xs h1).bind λys h2=>.ok (y::ys) h2 else .no
open Classical in
noncomputable def ahl(ck:Hd->Prop)(f:D->Hd->R (Option D)):List D->Hd->R (List D)
 | [],h=>if ck h then .ok [] h else .no
 | x::xs,h=>if ck h then (f x h).bind λy h1=>(ahl ck f xs h1).bind λys h2=>.ok (y.toList++ys) h2 else .no
def frs'(ix:List Nat)(τ:Sd):Sd:=ix.map λi=>(τ[i]?).join
def t1(d:D):Option Sd:=some [some d]
def tN(n:Nat)(d:D):Option Sd:=match d with | .tup ds=>if ds.length=n then some (ds.map some) else none | _=>none
def a4m(t:D->Option Sd)(fe:SE)(rest:Sd)(x:D)(h:Hd):R D:=match t x with | some ts=>fe (ts++rest) h | none=>.no
def acu(t:D->Option Sd)(c:ST)(fe:SE)(rest:Sd)(x:D)(h:Hd):R (Option D):=match t x with
 | some ts=>(c (ts++rest) h).bind λb h1=>if b=true then (fe (ts++rest) h1).bind λy h2=>.ok (some y) h2 else .ok none h1
 | none=>.no
def aaz(yd zs:List D)(h:Hd):R D:=.ok (.ref h.length) (h++[.lst (yd++zs)])
theorem aq4(r:R D)(m:Hd->R (List D))(yd:List D):(r.bind λy h1=>(m h1).bind λys h2=>.ok (y::ys) h2).bind (aaz yd)=r.bind λy h1=>(m h1).bind (aaz (yd++[y])):=by
 cases r with
 | ok y h1 =>
  show ((m h1).bind _).bind _=(m h1).bind _
  cases m h1 with
  | ok ys h2=>simp [R.bind,aaz]
  | _=>rfl
 | _=>rfl
theorem aul(r:R (Option D))(m:Hd->R (List D))(yd:List D):(r.bind λy h1=>(m h1).bind λys h2=>.ok (y.toList++ys) h2).bind (aaz yd)=r.bind λy h1=>(m h1).bind (aaz (yd++y.toList)):=by
 cases r with
 | ok y h1 =>
  show ((m h1).bind _).bind _=(m h1).bind _
  cases m h1 with
  | ok ys h2=>simp [R.bind,aaz]
  | _=>rfl
 | _=>rfl
noncomputable def m8(fi:SI)(t:D->Option Sd)(fe:SE)(ix:List Nat):SE:=λτ h=>(fi τ h).bind λit h1=>if it.xs.length<=LINE then (mapR it.ck (a4m t fe (frs' ix τ)) it.xs h1).bind (aaz []) else .no
noncomputable def a66(fi:SI)(t:D->Option Sd)(c:ST)(fe:SE)(ix:List Nat):SE:=λτ h=>(fi τ h).bind λit h1=>if it.xs.length<=LINE then (ahl it.ck (acu t c fe (frs' ix τ)) it.xs h1).bind (aaz []) else .no
def aet(K:PySem.W.Frag)(n:Nat)(g:TG)(t:D->Option Sd):Prop:=∀ ι H v d ts (r:St) (Q:St->Hp->Prop),Rep K ι H v d->t d=some ts->(∀ us:St,us.length=n->SRep K ι H us ts->Q (us++r) H)->g v (List.replicate n none++r) H Q
theorem a6u{K:PySem.W.Frag}{ι:List Addr}{H:Hp}:SRep K ι H [] []:=⟨rfl,λi d e=>by simp at e⟩
theorem wz{K:PySem.W.Frag}{ι:List Addr}{H:Hp}{v:V}{d:D}{σ:St}{τ:Sd}(r:Rep K ι H v d)(s:SRep K ι H σ τ):SRep K ι H (some v::σ) (some d::τ):=by
 refine ⟨by simp [s.len],λi d' e=>?_⟩
 cases i with
 | zero=>simp at e;subst e;exact ⟨v,rfl,r⟩
 | succ i=>simpa using s.val i d' (by simpa using e)
theorem a3q{K:PySem.W.Frag}{ι:List Addr}{H:Hp}{σ σ':St}{τ τ':Sd}(s:SRep K ι H σ τ)(s':SRep K ι H σ' τ'):SRep K ι H (σ++σ') (τ++τ'):=by
 refine ⟨by simp [s.len,s'.len],λi d e=>?_⟩
 by_cases hi:i<τ.length
 ·rw [List.getElem?_append_left hi] at e;rw [List.getElem?_append_left (by rw [s.len];exact hi)]
  exact s.val i d e
 ·rw [List.getElem?_append_right (by omega)] at e
  rw [List.getElem?_append_right (by rw [s.len];omega),s.len]
  exact s'.val _ d e
theorem a3r{K:PySem.W.Frag}{ι:List Addr}{H:Hp}{σ:St}{τ:Sd}(s:SRep K ι H σ τ)(ix:List Nat):SRep K ι H (ix.map λi=>(σ[i]?).join) (frs' ix τ):=by
 refine ⟨by simp [frs'],λj d e=>?_⟩
 simp only [frs',List.getElem?_map,Option.map_eq_some_iff] at e;obtain ⟨i,hi,e⟩:=e;have:τ[i]? = some (some d):=by
  cases q:τ[i]? with
  | none=>rw [q] at e;cases e
  | some o=>rw [q] at e;simp at e;rw [e]
 obtain ⟨v,h1,h2⟩:=s.val i d this;exact ⟨v,by simp [hi,h1],h2⟩
theorem tu{K:PySem.W.Frag}:aet K 1 (a1r 0) t1:=λι H v d ts r Q hr e q=>by
 cases e
 exact q [some v] rfl (wz hr a6u)
theorem aeu{K:PySem.W.Frag}:aet K 2 (L2.yc K 2 (ahu (a1r 0) (ahu (a1r 1) avk))) (tN 2):=λι H v d ts r Q hr e q=>by
 unfold tN at e
 cases hr with
 | @tup a vs xs h rs =>
  simp only at e
  split at e
  ·rename_i hl;cases e
   match xs,hl,rs with
   | [_,_],_, .cons r1 (.cons r2 .nil)=>exact ⟨a,_,rfl,SqT.of h,rfl,_,_,rfl,_,_,rfl,rfl,q [some _,some _] rfl (wz r1 (wz r2 a6u))⟩
  ·cases e
 | _=>cases e
theorem aev{n:Nat}{us r:St}(h:us.length=n):L2.Ext (List.replicate n none++r) (us++r):=by
 refine ⟨by simp [h],λi v e=>?_⟩
 by_cases hi:i<n
 ·rw [List.getElem?_append_left (by simpa using hi),List.getElem?_replicate,if_pos hi] at e
  cases e
 ·rw [List.getElem?_append_right (by simpa using hi),List.length_replicate] at e
  rw [List.getElem?_append_right (by omega),h]
  exact e
theorem ab0{K:PySem.W.Frag}{E:XD}{ι0:List Addr}{H0:Hp}{J:It}{it:Itm}{g:TG}{t:D->Option Sd}{fe:SE}{n:Nat}{r:St}{rd:Sd}{h0:Hd}{Q:VK}(ir:ai9 K ι0 H0 J it)(tg:aet K n g t)(S:SRep K ι0 H0 r rd)(Rh:HRep K ι0 H0 h0)(hl:it.xs.length<=LINE)
  (o:out K E (xx K) ι0 H0 ((mapR it.ck (a4m t fe rd) it.xs h0).bind (aaz [])) Q):apy J (List.replicate n none++r) g (lift K E (xx K) fe) Q H0:=by
 refine ⟨λi m ys H=>m=it.xs.length - i/\i<=it.xs.length/\ys.length<=i/\∃ ι h yd,Gr ι0 H0 ι H/\HRep K ι H h/\Reps K ι H ys yd/\out K E (xx K) ι H ((mapR it.ck (a4m t fe rd) (it.xs.drop i) h).bind (aaz yd)) Q,
  ⟨_,rfl,Nat.zero_le _,Nat.zero_le _,ι0,h0,[], .refl _ _,Rh, .nil,o⟩,?_⟩
 rintro i m ys H ⟨rfl,hi,hy,ι,h,yd,g0,Rh,ry,o⟩
 by_cases hlt:i<it.xs.length
 ·rw [List.drop_eq_getElem_cons hlt,mapR] at o
  by_cases hc:it.ck h
  ·rw [if_pos hc,aq4] at o;obtain ⟨go,yl⟩:=(ir ι H h g0 Rh hc).1 i _ (List.getElem?_eq_getElem hlt);refine .inr ⟨go,Nat.lt_of_le_of_lt hy (Nat.lt_of_lt_of_le hlt (ll hl)),λx H' y=>?_⟩;obtain ⟨g1,r1,hr1⟩:=yl x H' y;have o':=vz o g1
   cases ht:t it.xs[i] with
   | none=>simp only [a4m,ht] at o';exact o'.elim
   | some ts =>
    simp only [a4m,ht] at o';refine tg ι H' x _ ts r _ r1 ht λus hus su=>⟨aev hus,ι,ts++rd,h,a3q su (S.mono (g0.trans g1)),hr1,gm o' λd2 h2 ι2 H2 u g2 r2 hr2 o2=>?_⟩;refine ⟨it.xs.length - (i+1),by omega,rfl,hlt,by simp;omega,ι2,h2,yd++[d2],(g0.trans g1).trans g2,hr2,((ry.mono g1).mono g2).snoc r2,o2⟩
  ·rw [if_neg hc] at o;exact o.elim
 ·have e:i=it.xs.length:=by omega
  subst e;rw [List.drop_eq_nil_of_le (Nat.le_refl _),mapR] at o
  by_cases hc:it.ck h
  ·rw [if_pos hc] at o;refine .inl ⟨(ir ι H h g0 Rh hc).2,vg (E:=E) ry Rh ?_⟩;simpa [R.bind,aaz] using o
  ·rw [if_neg hc] at o;exact o.elim
theorem aew{K:PySem.W.Frag}{E:XD}{ι0:List Addr}{H0:Hp}{J:It}{it:Itm}{g:TG}{t:D->Option Sd}{c:ST}{fe:SE}{n:Nat}{r:St}{rd:Sd}{h0:Hd}{Q:VK}(ir:ai9 K ι0 H0 J it)(tg:aet K n g t)(S:SRep K ι0 H0 r rd)(Rh:HRep K ι0 H0 h0)(hl:it.xs.length<=LINE)
  (o:out K E (xx K) ι0 H0 ((ahl it.ck (acu t c fe rd) it.xs h0).bind (aaz [])) Q):aej J (List.replicate n none++r) g (lift K E am7 c) (lift K E (xx K) fe) Q H0:=by
 refine ⟨λi m ys H=>m=it.xs.length - i/\i<=it.xs.length/\ys.length<=i/\∃ ι h yd,Gr ι0 H0 ι H/\HRep K ι H h/\Reps K ι H ys yd/\out K E (xx K) ι H ((ahl it.ck (acu t c fe rd) (it.xs.drop i) h).bind (aaz yd)) Q,
  ⟨_,rfl,Nat.zero_le _,Nat.zero_le _,ι0,h0,[], .refl _ _,Rh, .nil,o⟩,?_⟩
 rintro i m ys H ⟨rfl,hi,hy,ι,h,yd,g0,Rh,ry,o⟩
 by_cases hlt:i<it.xs.length
 ·rw [List.drop_eq_getElem_cons hlt,ahl] at o
  by_cases hc:it.ck h
  ·rw [if_pos hc,aul] at o;obtain ⟨go,yl⟩:=(ir ι H h g0 Rh hc).1 i _ (List.getElem?_eq_getElem hlt);refine .inr ⟨go,Nat.lt_of_le_of_lt hy (Nat.lt_of_lt_of_le hlt (ll hl)),λx H' y=>?_⟩;obtain ⟨g1,r1,hr1⟩:=yl x H' y;have o':=vz o g1
   cases ht:t it.xs[i] with
   | none=>simp only [acu,ht] at o';exact o'.elim
   | some ts =>
    simp only [acu,ht] at o';rw [R.bind_assoc] at o';refine tg ι H' x _ ts r _ r1 ht λus hus su=>⟨aev hus,ι,ts++rd,h,a3q su (S.mono (g0.trans g1)),hr1,gm o' λb h1 ι1 H1 b' g2 rb hrb ob=>?_⟩;have su1:SRep K ι1 H1 (us++r) (ts++rd):=(a3q su (S.mono (g0.trans g1))).mono g2;cases rb
    cases b with
    | true =>
     rw [if_pos rfl] at ob ⊢;rw [R.bind_assoc] at ob;refine ⟨ι1,ts++rd,h1,su1,hrb,gm ob λd2 h2 ι2 H2 u g3 r2 hr2 o2=>?_⟩;refine ⟨it.xs.length - (i+1),by omega,rfl,hlt,by simp;omega,ι2,h2,yd++[d2],((g0.trans g1).trans g2).trans g3,hr2,(((ry.mono g1).mono g2).mono g3).snoc r2,?_⟩
     simpa [R.bind] using o2
    | false =>
     rw [if_neg Bool.false_ne_true] at ob ⊢;refine ⟨it.xs.length - (i+1),by omega,rfl,hlt,by omega,ι1,h1,yd,(g0.trans g1).trans g2,hrb,(ry.mono g1).mono g2,?_⟩
     simpa [R.bind] using ob
  ·rw [if_neg hc] at o;exact o.elim
 ·have e:i=it.xs.length:=by omega
  subst e;rw [List.drop_eq_nil_of_le (Nat.le_refl _),ahl] at o
  by_cases hc:it.ck h
  ·rw [if_pos hc] at o;refine .inl ⟨(ir ι H h g0 Rh hc).2,vg (E:=E) ry Rh ?_⟩;simpa [R.bind,aaz] using o
  ·rw [if_neg hc] at o;exact o.elim
section
variable{X:Cx}{E:XD}{elt tg iter cnd:Expr}{scope:Scope}{pos:Pos}{cl:List (Str × Addr)}{ts fr:List Str}{ix:List Nat}{fi:SI}{g:TG}{t:D->Option Sd}{fe:SE}{fc:ST}
theorem a03(hc:X.calm=true)(S:CSc X scope cl ts fr ix)(hi:MI X E tg iter fi)(hg:∀ C fp s H,PG (cxC X (ts++fr) scope cl C fp s H) tg g)(ht:aet X.K ts.length g t)(he:∀ C fp s H,ME (cxC X (ts++fr) scope cl C fp s H) E elt fe)
  (hs:∀ x,foldedSetIterable iter X.env x=pure x:=by intro _;rfl):ME X E (.ListComp elt [⟨tg,iter,[],0⟩] scope pos) (m8 fi t fe ix):=by
 refine PE.weak (ai3 (te:=lift X.K E (xx X.K) fe) hc S hi hg he hs) λσ H Q ⟨ι,τ,h,Sr,Rh,o⟩=>?_;refine ⟨ι,τ,h,Sr,Rh,gm o λit h1 ι1 H1 J g1 r1 hr1 o1=>?_⟩
 by_cases hl:it.xs.length<=LINE
 ·rw [if_pos hl] at o1;exact ab0 r1 ht (a3r (Sr.mono g1) ix) hr1 hl o1
 ·rw [if_neg hl] at o1;exact o1.elim
end
mutual
def clo(n:Nat):D->Prop
 | .tup xs=>clos n xs
 | .rol xs=>clos n xs
 | .rod _ xs=>clos n xs
 | .scr xs=>clos n xs
 | .rdT _ xs=>clos n xs
 | .ref i=>i<n
 | _=>True
def clos(n:Nat):List D->Prop
 | []=>True
 | x::xs=>clo n x/\clos n xs
end
mutual
theorem Rep.clo{K:PySem.W.Frag}{ι:List Addr}{H:Hp}:∀ {v:V} {d:D},Rep K ι H v d->clo ι.length d
 | _,_, .non=>by simp [MI.clo]
 | _,_, .bl b=>by simp [MI.clo]
 | _,_, .int i=>by simp [MI.clo]
 | _,_, .str x=>by simp [MI.clo]
 | _,_, .ty n=>by simp [MI.clo]
 | _,_, .tup h r=>by simp only [MI.clo];exact Reps.clo r
 | _,_, .rol h r=>by simp only [MI.clo];exact Reps.clo r
 | _,_, .ref h=>by simp only [MI.clo];exact (List.getElem?_eq_some_iff.mp h).1
 | _,_, .rod h e r=>by simp only [MI.clo];exact Reps.clo r
 | _,_, .scr h r=>by simp only [MI.clo];exact Reps.clo r
 | _,_, .rdT h e r=>by simp only [MI.clo];exact Reps.clo r
 | _,_, .exc h hc hn=>by simp [MI.clo]
theorem Reps.clo{K:PySem.W.Frag}{ι:List Addr}{H:Hp}:∀ {vs:List V} {ds:List D},Reps K ι H vs ds->clos ι.length ds
 | _,_, .nil=>by simp [MI.clos]
 | _,_, .cons r rs=>by simp only [MI.clos];exact ⟨Rep.clo r,Reps.clo rs⟩
end
mutual
theorem Rep.cut{K:PySem.W.Frag}{ι:List Addr}{H:Hp}{n:Nat}:∀ {v:V} {d:D},Rep K ι H v d->clo n d->Rep K (ι.take n) H v d
 | _,_, .non,_=>.non
 | _,_, .bl b,_=>.bl b
 | _,_, .int i,_=>.int i
 | _,_, .str x,_=>.str x
 | _,_, .ty n,_=>.ty n
 | _,_, .tup h r,c=>.tup h (Reps.cut r (by simpa only [MI.clo] using c))
 | _,_, .rol h r,c=>.rol h (Reps.cut r (by simpa only [MI.clo] using c))
 | _,_, .ref h,c=>.ref (by simp only [MI.clo] at c;rw [List.getElem?_take,if_pos c];exact h)
 | _,_, .rod h e r,c=>.rod h e (Reps.cut r (by simpa only [MI.clo] using c))
 | _,_, .scr h r,c=>.scr h (Reps.cut r (by simpa only [MI.clo] using c))
 | _,_, .rdT h e r,c=>.rdT h e (Reps.cut r (by simpa only [MI.clo] using c))
 | _,_, .exc h hc hn,_=>.exc h hc hn
theorem Reps.cut{K:PySem.W.Frag}{ι:List Addr}{H:Hp}{n:Nat}:∀ {vs:List V} {ds:List D},Reps K ι H vs ds->clos n ds->Reps K (ι.take n) H vs ds
 | _,_, .nil,_=>.nil
 | _,_, .cons r rs,c=>by simp only [MI.clos] at c;exact .cons (Rep.cut r c.1) (Reps.cut rs c.2)
end
def qt(n:Nat):O->Prop
 | .lst xs=>clos n xs
 | .dK kvs=>clos n (kvs.map (·.2))
 | .dT kvs=>clos n (kvs.map (·.2))
def aq5(n:Nat)(h:Hd):Prop:=∀ o∈h,qt n o
theorem ORep.clo{K:PySem.W.Frag}{ι:List Addr}{H:Hp}{a:Addr}{o:O}(r:ORep K ι H a o):qt ι.length o:=by
 cases o with
 | lst xs=>obtain ⟨vs,_,r⟩:=r;exact r.clo
 | dK kvs=>obtain ⟨us,_,_,r⟩:=r;exact r.clo
 | dT kvs=>obtain ⟨us,_,_,r⟩:=r;exact r.clo
theorem ORep.cut{K:PySem.W.Frag}{ι:List Addr}{H:Hp}{a:Addr}{o:O}{n:Nat}(r:ORep K ι H a o)(c:qt n o):ORep K (ι.take n) H a o:=by
 cases o with
 | lst xs=>obtain ⟨vs,h,r⟩:=r;exact ⟨vs,h,r.cut c⟩
 | dK kvs=>obtain ⟨us,h,e,r⟩:=r;exact ⟨us,h,e,r.cut c⟩
 | dT kvs=>obtain ⟨us,h,e,r⟩:=r;exact ⟨us,h,e,r.cut c⟩
theorem HRep.clo{K:PySem.W.Frag}{ι:List Addr}{H:Hp}{h:Hd}(r:HRep K ι H h):aq5 h.length h:=λo ho=>by
 obtain ⟨i,hi⟩:=List.getElem?_of_mem ho;obtain ⟨a,_,q⟩:=r.addr hi;rw [<-r.len];exact q.clo
theorem HRep.cut{K:PySem.W.Frag}{ι:List Addr}{H:Hp}{h g:Hd}(r:HRep K ι H (h++g))(c:aq5 h.length h):HRep K (ι.take h.length) H h:=by
 refine ⟨r.nd.sublist (List.take_sublist _ _),?_,λi a o e1 e2=>?_⟩
 ·have:=r.len
  rw [List.length_append] at this;rw [List.length_take];omega
 ·have hi:i<h.length:=(List.getElem?_eq_some_iff.mp e2).1;rw [List.getElem?_take,if_pos hi] at e1;exact (r.obj i a o e1 (by rw [List.getElem?_append_left hi];exact e2)).cut (c o (List.mem_of_getElem? e2))
def X0:XD:=λ_ _ _ _=>False
abbrev SF:=List D->Hd->R D
def o6(K:PySem.W.Frag)(n:Nat)(F:SF):Sp:=λvs H Q _=>vs.length=n/\∃ ι ds h,Reps K ι H vs ds/\HRep K ι H h/\out K X0 (xx K) ι H (F ds h) Q
def a1v(n:Nat)(ds:List D):Sd:=ds.map some++List.replicate (n - ds.length) none
def qb(b:SS)(n:Nat)(ds:List D)(h:Hd):R D:=match b (a1v n ds) h with
 | .rt d h1=>.ok d h1
 | .nx _ h1=>.ok .non h1
 | .ex c h1=>.ex c h1
 | _=>.no
def Rf(n:Nat)(r' r:R D):Prop:=match r with
 | .no=>True
 | .ok d h1=>∃ g,r' = .ok d (h1++g)/\(g=[]\/(n<=h1.length/\clo h1.length d/\aq5 h1.length h1))
 | .ex c h1=>∃ g,r' = .ex c (h1++g)/\(g=[]\/(n<=h1.length/\aq5 h1.length h1))
theorem Rf.same{n:Nat}{r' r:R D}(h:r'=r):Rf n r' r:=by
 subst h
 cases r' with
 | ok d h1=>exact ⟨[],by simp, .inl rfl⟩
 | ex c h1=>exact ⟨[],by simp, .inl rfl⟩
 | no=>exact True.intro
theorem acv{K:PySem.W.Frag}{ι:List Addr}{H:Hp}{vs:List V}{ds:List D}{N:List Str}(r:Reps K ι H vs ds):SRep K ι H (start N vs) (a1v N.length ds):=by
 refine a3q ?_ ?_
 ·clear N
  induction r using Reps.rec (motive_1:=λ_ _ _=>True) with
  | nil=>exact a6u
  | cons r rs _ ih=>exact wz r ih
  | _=>trivial
 ·rw [r.len];exact ⟨by simp,λi d e=>by rw [List.getElem?_replicate] at e;split at e<;>cases e⟩
theorem akp{ι ι':List Addr}{H H':Hp}{n:Nat}(g:Gr ι H ι' H')(hn:ι.length<=n):Gr ι H (ι'.take n) H':=by
 obtain ⟨m,rfl,hm⟩:=g.pre;exact ⟨⟨m.take (n - ι.length),by rw [List.take_append,List.take_of_length_le hn],λa ha=>hm a (List.mem_of_mem_take ha)⟩,g.tup,g.frz,g.oth,g.kp⟩
section
variable{P:Program}{w:World}{K:PySem.W.Frag}{mg:Str->Option Value}{base:Heap}
theorem aq6{x qual:Str}{st:Stmt}{f:Addr}{fd:FuncData}{N ps:List Str}{k:Nat}{b:SS}{F:SF}(Fu:Fun K x qual st f fd)(S:FnScope N ps (bf st))
  (hb:∀ (cdv:Value) (A:Around) (outer:List Env) (s:Shared) (H:Hp) (E:XK),Room k (A.deeper (PyProof.Rows.envOfC qual (bf st) s.heap.objs.size f cdv))->MSs (a0w CX0 P w K mg base N qual (bf st) f cdv A outer s H E).nox X0 (jh st) b)
  (hF:∀ ds h,ds.length=ps.length->clos h.length ds->aq5 h.length h->Rf h.length (qb b N.length ds h) (F ds h)):FnOk P w K mg base CX0 (k+1) f fd ps (o6 K ps.length F):=by
 refine Fu.ok S (λvs H Q E h=>h.1) λcdv A outer s H vs Q E hr h=>⟨_,hb cdv A outer s H E hr,?_⟩;obtain ⟨hl,ι,ds,h,r,hr',o⟩:=h;refine ⟨ι,a1v N.length ds,h,acv r,hr',?_⟩;have q:=hF ds h (by rw [<-r.len];exact hl) (by rw [<-hr'.len];exact r.clo) hr'.clo
 unfold qb at q
 cases hFd:F ds h with
 | no=>rw [hFd] at o;exact o.elim
 | ex c h1 =>
  rw [hFd] at q o;obtain ⟨g,e,cl⟩:=q;have fin:∀ ι' H',Gr ι H ι' H'->HRep K ι' H' (h1++g)->X0 c ι' H' (h1++g):=λι' H' g1 hr1=>by
   rcases cl with rfl | ⟨hn,c2⟩
   ·rw [List.append_nil] at hr1;exact o ι' H' g1 hr1
   ·exact o (ι'.take h1.length) H' (akp g1 (by rw [hr'.len];exact hn)) (hr1.cut c2)
  cases hbd:b (a1v N.length ds) h with
  | ex c' h' =>
   rw [hbd] at e
   injection e with e1 e2
   subst e1 e2;exact fin
  | _=>rw [hbd] at e;cases e
 | ok d h1 =>
  rw [hFd] at q o;obtain ⟨g,e,cl⟩:=q;have fin:∀ ι' H' v,Gr ι H ι' H'->Rep K ι' H' v d->HRep K ι' H' (h1++g)->Q v H':=λι' H' v g1 r1 hr1=>by
   rcases cl with rfl | ⟨hn,c1,c2⟩
   ·rw [List.append_nil] at hr1;exact o ι' H' v g1 r1 hr1
   ·exact o (ι'.take h1.length) H' v (akp g1 (by rw [hr'.len];exact hn)) (r1.cut c1) (hr1.cut c2)
  cases hbd:b (a1v N.length ds) h with
  | rt d' h' =>
   rw [hbd] at e
   injection e with e1 e2
   subst e1 e2;exact fin
  | nx τ' h' =>
   rw [hbd] at e
   injection e with e1 e2
   subst e1 e2;exact λι' H' σ' g1 S1 hr1=>fin ι' H' .non g1 .non hr1
  | _=>rw [hbd] at e;cases e
end
section
variable{K:PySem.W.Frag}{E:XD}{ι:List Addr}{H:Hp}{h:Hd}{Q:VK}
theorem ans{d:D}{v:V}(o:out K E (xx K) ι H (.ok d h) Q)(r:Rep K ι H v d)(hr:HRep K ι H h):Q v H:=o ι H v (.refl _ _) r hr
theorem HRep.lst(hr:HRep K ι H h){i:Nat}{a:Addr}{xs:List D}(e:ι[i]? = some a)(hi:h[i]? = some (.lst xs)):∃ vs,H a=some (.lst vs)/\Reps K ι H vs xs:=hr.obj i a _ e hi
end
def a8b:D->D->Hd->R D
 | .int i, .int j,h=>.ok (.int (i - j)) h
 | _,_,_=>.no
def a9s:D->D->Hd->R D
 | .int i, .int j,h=>if 0<j then .ok (.int (i % j)) h else .no
 | _,_,_=>.no
def aex:D->D->Hd->R D
 | .int i, .int j,h=>if 0<j/\j<1073741824 then .ok (.int (i / j)) h else .no
 | _,_,_=>.no
def aey:D->D->Hd->R D
 | .int i, .int j,h=>if 0<=j/\j<=1000000/\i.natAbs<2 ^ 64 then .ok (.int (i ^ j.toNat)) h else .no
 | _,_,_=>.no
section
variable{X:Cx}{K:PySem.W.Frag}
theorem amf:a5q K a8b (rI0 λi j=>.int (i - j)):=by
 intro E ι H h x y dx dy Q rx ry hr o
 cases rx with
 | int i =>
  cases ry with
  | int j=>exact ⟨i,j,rfl,rfl,ans o (.int _) hr⟩
  | _=>exact o.elim
 | _=>exact o.elim
theorem amg:a5q K a9s (rI (λ_ j=>0<j) λi j=>.int (i % j)):=by
 intro E ι H h x y dx dy Q rx ry hr o
 cases rx with
 | int i =>
  cases ry with
  | int j =>
   by_cases hc:0<j
   ·simp only [a9s,if_pos hc] at o;exact ⟨i,j,rfl,rfl,hc,ans o (.int _) hr⟩
   ·simp only [a9s,if_neg hc] at o;exact o.elim
  | _=>exact o.elim
 | _=>exact o.elim
theorem amh:a5q K aex (rI avm λi j=>.int (i / j)):=by
 intro E ι H h x y dx dy Q rx ry hr o
 cases rx with
 | int i =>
  cases ry with
  | int j =>
   by_cases hc:0<j/\j<1073741824
   ·simp only [aex,if_pos hc] at o;exact ⟨i,j,rfl,rfl,hc,ans o (.int _) hr⟩
   ·simp only [aex,if_neg hc] at o;exact o.elim
  | _=>exact o.elim
 | _=>exact o.elim
theorem ami:a5q K aey (rI avn λi j=>.int (i ^ j.toNat)):=by
 intro E ι H h x y dx dy Q rx ry hr o
 cases rx with
 | int i =>
  cases ry with
  | int j =>
   by_cases hc:0<=j/\j<=1000000/\i.natAbs<2 ^ 64
   ·simp only [aey,if_pos hc] at o;exact ⟨i,j,rfl,rfl,hc,ans o (.int _) hr⟩
   ·simp only [aey,if_neg hc] at o;exact o.elim
  | _=>exact o.elim
 | _=>exact o.elim
variable{E:XD}{a b e:Expr}{es:List Expr}{fa fb:SE}{ka:SA}{pos:Pos}
theorem a67(ha:ME X E a fa)(hb:ME X E b fb):ME X E (.BinOp a .Sub b pos) (s2 a8b fa fb):=acr apd amf ha hb
theorem a4n(ha:ME X E a fa)(hb:ME X E b fb):ME X E (.BinOp a .Mod b pos) (s2 a9s fa fb):=acr apf amg ha hb
theorem aez(ha:ME X E a fa)(hb:ME X E b fb):ME X E (.BinOp a .FloorDiv b pos) (s2 aex fa fb):=acr alp amh ha hb
theorem akq(ha:ME X E a fa)(hb:ME X E b fb):ME X E (.BinOp a .Pow b pos) (s2 aey fa fb):=acr apg ami ha hb
def aq7:D->Hd->R D
 | .int i,h=>.ok (.int (-i)) h
 | _,_=>.no
def gLt:D->D->Hd->R D
 | .int i, .int j,h=>.ok (.bl (decide (i<j))) h
 | .str i, .str j,h=>.ok (.bl (decide (i.cps.toList<j.cps.toList))) h
 | _,_,_=>.no
def gLe:D->D->Hd->R D
 | .int i, .int j,h=>.ok (.bl (decide (i<=j))) h
 | .str i, .str j,h=>.ok (.bl (!decide (j.cps.toList<i.cps.toList))) h
 | _,_,_=>.no
def gGt:D->D->Hd->R D
 | .int i, .int j,h=>.ok (.bl (decide (j<i))) h
 | _,_,_=>.no
def gGe:D->D->Hd->R D
 | .int i, .int j,h=>.ok (.bl (decide (j<=i))) h
 | _,_,_=>.no
theorem yz:a5q K gLt (λx y H Q=>rI0 (λi j=>.bl (decide (i<j))) x y H Q\/∃ i j,x = .str i/\y = .str j/\Q (.bl (decide (i.cps.toList<j.cps.toList))) H):=by
 intro E ι H h x y dx dy Q rx ry hr o
 cases rx with
 | int i =>
  cases ry with
  | int j=>exact .inl ⟨i,j,rfl,rfl,ans o (.bl _) hr⟩
  | _=>exact o.elim
 | str i =>
  cases ry with
  | str j=>exact .inr ⟨i,j,rfl,rfl,ans o (.bl _) hr⟩
  | _=>exact o.elim
 | _=>exact o.elim
theorem a8o:a5q K gGt (rI0 λi j=>.bl (decide (j<i))):=by
 intro E ι H h x y dx dy Q rx ry hr o
 cases rx with
 | int i =>
  cases ry with
  | int j=>exact ⟨i,j,rfl,rfl,ans o (.bl _) hr⟩
  | _=>exact o.elim
 | _=>exact o.elim
theorem af0:a5q K gGe (rI0 λi j=>.bl (decide (j<=i))):=by
 intro E ι H h x y dx dy Q rx ry hr o
 cases rx with
 | int i =>
  cases ry with
  | int j=>exact ⟨i,j,rfl,rfl,ans o (.bl _) hr⟩
  | _=>exact o.elim
 | _=>exact o.elim
def a5r:D->Bool
 | .non=>true
 | _=>false
theorem ab1{ι:List Addr}{H:Hp}{x:V}{d:D}(r:Rep K ι H x d):decide (x = .non)=a5r d:=by cases r<;>simp [a5r]
def gIs:D->D->Hd->R D
 | x, .non,h=>.ok (.bl (a5r x)) h
 | .bl i, .bl j,h=>.ok (.bl (i == j)) h
 | _,_,_=>.no
def yf:D->D->Hd->R D
 | x, .non,h=>.ok (.bl (!a5r x)) h
 | .bl i, .bl j,h=>.ok (.bl (i != j)) h
 | _,_,_=>.no
theorem aq8:a5q K gIs (λx y H Q=>(y = .non/\Q (.bl (decide (x = .non))) H)\/∃ i j,x = .bl i/\y = .bl j/\Q (.bl (i == j)) H):=by
 intro E ι H h x y dx dy Q rx ry hr o
 cases ry with
 | non=>exact .inl ⟨rfl,by rw [ab1 rx];simp only [gIs] at o;exact ans o (.bl _) hr⟩
 | bl j =>
  cases rx with
  | bl i=>exact .inr ⟨i,j,rfl,rfl,ans o (.bl _) hr⟩
  | _=>exact o.elim
 | _=>cases rx<;>exact o.elim
theorem xf:a5q K yf (λx y H Q=>(y = .non/\Q (.bl (!decide (x = .non))) H)\/∃ i j,x = .bl i/\y = .bl j/\Q (.bl (i != j)) H):=by
 intro E ι H h x y dx dy Q rx ry hr o
 cases ry with
 | non=>exact .inl ⟨rfl,by rw [ab1 rx];simp only [yf] at o;exact ans o (.bl _) hr⟩
 | bl j =>
  cases rx with
  | bl i=>exact .inr ⟨i,j,rfl,rfl,ans o (.bl _) hr⟩
  | _=>exact o.elim
 | _=>cases rx<;>exact o.elim
def a0g:D->Bool
 | .non=>true | .bl _=>true | .int _=>true | .str _=>true
 | _=>false
def eqF:D->D->Bool
 | .non, .non=>true
 | .bl i, .bl j=>i == j
 | .int i, .int j=>i == j
 | .str i, .str j=>i == j
 | .int i, .bl j=>i == (if j then 1 else 0)
 | .bl i, .int j=>(if i then 1 else 0) == j
 | _,_=>false
end
section
variable{X:Cx}{K:PySem.W.Frag}{E:XD}{a b e o:Expr}{es:List Expr}{fa fb:SE}{ka:SA}{pos:Pos}
def a1h(d:D)(h:Hd):Option (List D):=match d with
 | .tup xs=>some xs
 | .rol xs=>some xs
 | .ref i=>match h[i]? with | some (.lst xs)=>some xs | _=>none
 | _=>none
def gIx(x y:D)(h:Hd):R D:=match y with
 | .int i=>(match x with
  | .str z=>if z.length<=LINE then (match atI z.cps.toList i with | some c=>.ok (.str ⟨#[c]⟩) h | none=>.no) else .no
  | x=>match a1h x h with
   | some xs=>(match atI xs i with | some d=>.ok d h | none=>.no)
   | none=>.no)
 | _=>.no
theorem aia{ι:List Addr}{H:Hp}{vs:List V}{xs:List D}{i:Int}{d:D}(r:Reps K ι H vs xs)(e:atI xs i=some d):∃ v,atI vs i=some v/\Rep K ι H v d:=by
 unfold atI at e ⊢;rw [r.len]
 cases hx:ixN xs.length i with
 | none=>rw [hx] at e;cases e
 | some j=>rw [hx] at e;exact r.get e
theorem aq9:a5q K gIx (rIx K):=by
 intro E ι H h x y dx dy Q rx ry hr o
 cases ry with
 | int i =>
  have go:∀ {p:Addr} {vs:List V} {xs:List D},Reps K ι H vs xs->out K E (xx K) ι H (match atI xs i with | some d=>.ok d h | none=>.no) Q->∃ v,atI vs i=some v/\Q v H:=λ{p vs xs} r o=>by
   cases he:atI xs i with
   | none=>rw [he] at o;exact o.elim
   | some d =>
    rw [he] at o;obtain ⟨v,h1,h2⟩:=aia r he;exact ⟨v,h1,ans o h2 hr⟩
  cases rx with
  | str z =>
   by_cases hc:z.length<=LINE
   ·simp only [gIx,if_pos hc] at o
    cases he:atI z.cps.toList i with
    | none=>rw [he] at o;exact o.elim
    | some c=>rw [he] at o;exact .inr (.inr ⟨z,i,c,rfl,rfl,ll hc,he,ans o (.str _) hr⟩)
   ·simp only [gIx,if_neg hc] at o;exact o.elim
  | @tup p vs xs hp r =>
   simp only [gIx,a1h] at o;obtain ⟨v,h1,h2⟩:=go (p:=p) r o;exact .inr (.inl ⟨p,vs,i,v,rfl,rfl,SqT.of hp,h1,h2⟩)
  | @rol p vs xs hp r =>
   simp only [gIx,a1h] at o;obtain ⟨v,h1,h2⟩:=go (p:=p) r o;exact .inl ⟨p,vs,i,v,rfl,rfl,hp.l,h1,h2⟩
  | @ref p j hp =>
   obtain ⟨ob,e1,e2⟩:=hr.at hp
   cases ob with
   | lst xs =>
    simp only [gIx,a1h,e1] at o;obtain ⟨vs,h3,h4⟩:=e2;obtain ⟨v,h1,h2⟩:=go (p:=p) h4 o;exact .inl ⟨p,vs,i,v,rfl,rfl,SqL.of h3,h1,h2⟩
   | dK _=>simp only [gIx,a1h,e1] at o;exact o.elim
   | dT _=>simp only [gIx,a1h,e1] at o;exact o.elim
  | _=>exact o.elim
 | _=>exact o.elim
theorem bw(ha:ME X E a fa)(hb:ME X E b fb)(hp:a9j b):ME X E (.Subscript a b pos) (s2 gIx fa fb):=auj apr aq9 ha hb hp
abbrev SO:=Sd->Hd->R (Option Int)
abbrev MO(X:Cx)(E:XD)(e:Option Expr)(f:SO):Prop:=PO X e (lift X.K E awy f)
def oN:SO:=λ_ h=>.ok none h
def oS(f:SE):SO:=λτ h=>(f τ h).bind λd h1=>match d with | .int i=>.ok (some i) h1 | _=>.no
theorem PO.weak{e:Option Expr}{t t':St->Hp->(Option Int->Hp->Prop)->Prop}(h:PO X e t)(i:∀ σ H Q,t' σ H Q->t σ H Q):PO X e t':=λpins s σ H Q I q=>h pins s σ H Q I (i _ _ _ q)
theorem qu:MO X E none oN:=PO.weak aly λσ H Q ⟨ι,τ,h,S,Rh,o⟩=>o ι H none (.refl _ _) rfl Rh
theorem oh(he:ME X E e fa):MO X E (some e) (oS fa):=by
 refine PO.weak (alz he) λσ H Q ⟨ι,τ,h,S,Rh,o⟩=>?_;refine ⟨ι,τ,h,S,Rh,gm o λd h1 ι1 H1 v g1 r1 hr1 o1=>?_⟩
 cases r1 with
 | int i=>exact ⟨i,rfl,o1 ι1 H1 _ (.refl _ _) rfl hr1⟩
 | _=>exact o1.elim
def whole(n:Nat)(lo hi:Option Int):Prop:=HT.sIx n 0 lo=0/\HT.sIx n n hi=n
instance (n:Nat) (lo hi:Option Int):Decidable (whole n lo hi):=by unfold whole;exact inferInstance
def gSl(d:D)(lo hi:Option Int)(h:Hd):R D:=match d with
 | .str z=>if z.length<=LINE then .ok (.str ⟨(a3e z.cps.toList lo hi).toArray⟩) h else .no
 | .tup xs=>if ¬ whole xs.length lo hi then .ok (.tup (a3e xs lo hi)) h else .no
 | .rol xs=>.ok (.ref h.length) (h++[.lst (a3e xs lo hi)])
 | .scr xs=>.ok (.ref h.length) (h++[.lst (a3e xs lo hi)])
 | .ref i=>match h[i]? with | some (.lst xs)=>.ok (.ref h.length) (h++[.lst (a3e xs lo hi)]) | _=>.no
 | _=>.no
theorem a1w{ι:List Addr}{H:Hp}{vs:List V}{xs:List D}(r:Reps K ι H vs xs)(lo hi:Option Int):Reps K ι H (akf vs lo hi) (a3e xs lo hi):=by
 unfold akf a3e;rw [r.len];exact (r.drop _).take _
theorem ab2{ι:List Addr}{H:Hp}{h:Hd}{x:V}{d:D}{lo hi:Option Int}{Q:VK}(rx:Rep K ι H x d)(hr:HRep K ι H h)(o:out K E (xx K) ι H (gSl d lo hi h) Q):aue x lo hi H Q\/aua K x lo hi H Q\/auc K x lo hi H Q:=by
 cases rx with
 | str z =>
  by_cases hc:z.length<=LINE
  ·simp only [gSl,if_pos hc] at o;exact .inl ⟨z,rfl,ll hc,ans o (.str _) hr⟩
  ·simp only [gSl,if_neg hc] at o;exact o.elim
 | @tup p vs xs hp r =>
  by_cases hc:¬ whole xs.length lo hi
  ·simp only [gSl,if_pos hc] at o;exact .inr (.inl ⟨p,vs,rfl,SqT.of hp,by rw [r.len];exact hc,a1p (a1w r lo hi) hr o⟩)
  ·simp only [gSl,if_neg hc] at o;exact o.elim
 | @rol p vs xs hp r=>exact .inr (.inr ⟨p,vs,rfl,hp.l,vg (a1w r lo hi) hr o⟩)
 | @scr p vs xs hp r=>exact .inr (.inr ⟨p,vs,rfl,hp.l,vg (a1w r lo hi) hr o⟩)
 | @ref p j hp =>
  obtain ⟨ob,e1,e2⟩:=hr.at hp
  cases ob with
  | lst xs =>
   simp only [gSl,e1] at o;obtain ⟨vs,h3,h4⟩:=e2;exact .inr (.inr ⟨p,vs,rfl,SqL.of h3,vg (a1w h4 lo hi) hr o⟩)
  | dK _=>simp only [gSl,e1] at o;exact o.elim
  | dT _=>simp only [gSl,e1] at o;exact o.elim
 | _=>exact o.elim
theorem af1{ι:List Addr}{H:Hp}{x:V}{d:D}(r:Rep K ι H x d)(f:a0g d=true):a1o x=true:=by cases r<;>first | rfl | cases f
theorem aqa{ι:List Addr}{H:Hp}{x y:V}{d c:D}(r:Rep K ι H x d)(q:Rep K ι H y c):a0g d=true->a0g c=true->eqV x y=eqF d c:=λf g=>by
 cases r<;>cases q<;>first | rfl | (cases f;done) | (cases g;done)
def inD(x:D)(xs:List D):Bool:=xs.any λy=>eqF y x
theorem aib{ι:List Addr}{H:Hp}{vs:List V}{xs:List D}(r:Reps K ι H vs xs)(f:xs.all a0g=true):vs.all a1o=true:=by
 induction r using Reps.rec (motive_1:=λ_ _ _=>True) with
 | nil=>rfl
 | cons r rs _ ih =>
  rw [List.all_cons,Bool.and_eq_true] at f ⊢;exact ⟨af1 r f.1,ih f.2⟩
 | _=>trivial
theorem aqb{ι:List Addr}{H:Hp}{x:V}{d:D}{vs:List V}{xs:List D}(rx:Rep K ι H x d)(fx:a0g d=true)(r:Reps K ι H vs xs)(f:xs.all a0g=true):inV x vs=inD d xs:=by
 unfold inV inD
 induction r using Reps.rec (motive_1:=λ_ _ _=>True) with
 | nil=>rfl
 | cons r rs _ ih =>
  rw [List.all_cons,Bool.and_eq_true] at f;rw [List.any_cons,List.any_cons,ih f.2,aqa r rx f.1 fx]
 | _=>trivial
def gIn(neg:Bool)(x y:D)(h:Hd):R D:=match y with
 | .str T=>(match x with
  | .str z=>(match z.cps.toList with | [c]=>.ok (.bl (if neg then !decide (c∈T.cps.toList) else decide (c∈T.cps.toList))) h | _=>.no)
  | _=>.no)
 | y=>match a1h y h with
  | some xs=>if a0g x=true/\xs.all a0g=true then .ok (.bl (if neg then !inD x xs else inD x xs)) h else .no
  | none=>.no
theorem one_sign{z:Str}{c:Nat}(h:z.cps.toList=[c]):z=⟨#[c]⟩:=by
 obtain ⟨cps⟩:=z
 congr
 exact Array.ext' (by simpa using h)
theorem aqc(neg:Bool){r1:R2}(h1:∀ c T H (Q:VK),Q (.bl (if neg then !decide (c∈T.cps.toList) else decide (c∈T.cps.toList))) H->r1 (.str ⟨#[c]⟩) (.str T) H Q):a5q K (gIn neg) (λx y H Q=>r1 x y H Q\/rIn K neg x y H Q):=by
 intro E ι H h x y dx dy Q rx ry hr o
 have go:∀ {p:Addr} {vs:List V} {xs:List D},(SqL K H p vs\/SqT K H p vs)->Reps K ι H vs xs->out K E (xx K) ι H (if a0g dx=true/\xs.all a0g=true then .ok (.bl (if neg then !inD dx xs else inD dx xs)) h else .no) Q->rIn K neg x (.ref p) H Q:=λ{p vs xs} sq r o=>by
  split at o
  ·rename_i hc;exact ⟨p,vs,rfl,sq,af1 rx hc.1,aib r hc.2,by rw [aqb rx hc.1 r hc.2];exact ans o (.bl _) hr⟩
  ·exact o.elim
 cases ry with
 | str T =>
  cases rx with
  | str z =>
   simp only [gIn] at o
   split at o
   ·rename_i c hz;rw [one_sign hz];exact .inl (h1 c T H Q (ans o (.bl _) hr))
   ·exact o.elim
  | _=>exact o.elim
 | @tup p vs xs hp r=>simp only [gIn,a1h] at o;exact .inr (go (.inr (SqT.of hp)) r o)
 | @rol p vs xs hp r=>simp only [gIn,a1h] at o;exact .inr (go (.inl hp.l) r o)
 | @ref p j hp =>
  obtain ⟨ob,e1,e2⟩:=hr.at hp
  cases ob with
  | lst xs =>
   simp only [gIn,a1h,e1] at o;obtain ⟨vs,h3,h4⟩:=e2;exact .inr (go (.inl (SqL.of h3)) h4 o)
  | dK _=>simp only [gIn,a1h,e1] at o;exact o.elim
  | dT _=>simp only [gIn,a1h,e1] at o;exact o.elim
 | _=>exact o.elim
theorem a2q:a5q K (gIn false) (λx y H Q=>(∃ c T,x = .str ⟨#[c]⟩/\y = .str T/\Q (.bl (decide (c∈T.cps.toList))) H)\/rIn K false x y H Q):=aqc false λc T H Q q=>⟨c,T,rfl,rfl,q⟩
def qg:List D->Hd->R D
 | [.str z],h=>if z.length<=LINE then .ok (.int z.length) h else .no
 | [x],h=>(match a1h x h with | some xs=>.ok (.int xs.length) h | none=>.no)
 | _,_=>.no
theorem jw:aem K qg (λxs H Q=>(∃ p ys,xs=[.ref p]/\(SqL K H p ys\/SqT K H p ys)/\Q (.int ys.length) H)\/∃ z,xs=[.str z]/\z.length<=sizeLine/\Q (.int z.length) H):=by
 intro E ι H h xs ds Q r hr o
 cases r with
 | nil=>exact o.elim
 | cons r rs =>
  cases rs with
  | cons _ _=>exact (show False by cases r<;>exact o).elim
  | nil =>
   cases r with
   | str z =>
    by_cases hc:z.length<=LINE
    ·simp only [qg,if_pos hc] at o;exact .inr ⟨z,rfl,ll hc,ans o (.int _) hr⟩
    ·simp only [qg,if_neg hc] at o;exact o.elim
   | @tup p vs xs hp r=>simp only [qg,a1h] at o;exact .inl ⟨p,vs,rfl, .inr (SqT.of hp),by rw [r.len];exact ans o (.int _) hr⟩
   | @rol p vs xs hp r=>simp only [qg,a1h] at o;exact .inl ⟨p,vs,rfl, .inl hp.l,by rw [r.len];exact ans o (.int _) hr⟩
   | @ref p j hp =>
    obtain ⟨ob,e1,e2⟩:=hr.at hp
    cases ob with
    | lst xs =>
     simp only [qg,a1h,e1] at o;obtain ⟨vs,h3,h4⟩:=e2;exact .inl ⟨p,vs,rfl, .inl (SqL.of h3),by rw [h4.len];exact ans o (.int _) hr⟩
    | dK _=>simp only [qg,a1h,e1] at o;exact o.elim
    | dT _=>simp only [qg,a1h,e1] at o;exact o.elim
   | _=>exact o.elim
def aqd:List D->Hd->R D
 | [.int i],h=>.ok (.int (if i<0 then -i else i)) h
 | _,_=>.no
theorem af2:aem K aqd (λxs H Q=>∃ i,xs=[.int i]/\Q (.int (if i<0 then -i else i)) H):=by
 intro E ι H h xs ds Q r hr o
 unfold aqd at o
 split at o
 ·cases r with | cons r rs=>cases r;cases rs;exact ⟨_,rfl,ans o (.int _) hr⟩
 ·exact o.elim
def a8p:List D->Hd->R D
 | [.int i, .int j],h=>.ok (.int (if j > i then j else i)) h
 | _,_=>.no
def a8q:List D->Hd->R D
 | [.int i, .int j],h=>.ok (.int (if j<i then j else i)) h
 | _,_=>.no
theorem aic:aem K a8p (λxs H Q=>∃ i j,xs=[.int i, .int j]/\Q (.int (if j > i then j else i)) H):=by
 intro E ι H h xs ds Q r hr o
 unfold a8p at o
 split at o
 ·cases r with | cons r rs=>cases rs with | cons q rs=>cases r;cases q;cases rs;exact ⟨_,_,rfl,ans o (.int _) hr⟩
 ·exact o.elim
theorem aid:aem K a8q (λxs H Q=>∃ i j,xs=[.int i, .int j]/\Q (.int (if j<i then j else i)) H):=by
 intro E ι H h xs ds Q r hr o
 unfold a8q at o
 split at o
 ·cases r with | cons r rs=>cases rs with | cons q rs=>cases r;cases q;cases rs;exact ⟨_,_,rfl,ans o (.int _) hr⟩
 ·exact o.elim
def acw:List D->Hd->R D
 | [.int i],h=>.ok (.int i) h
 | [.bl k],h=>.ok (.int (if k then 1 else 0)) h
 | _,_=>.no
theorem a9t:aem K acw (λxs H Q=>(∃ i,xs=[.int i]/\Q (.int i) H)\/∃ k,xs=[.bl k]/\Q (.int (if k then 1 else 0)) H):=by
 intro E ι H h xs ds Q r hr o
 unfold acw at o
 split at o
 ·cases r with | cons r rs=>cases r;cases rs;exact .inl ⟨_,rfl,ans o (.int _) hr⟩
 ·cases r with | cons r rs=>cases r;cases rs;exact .inr ⟨_,rfl,ans o (.int _) hr⟩
 ·exact o.elim
def tyD(d:D)(h:Hd):Option String:=match d with
 | .non=>some "NoneType" | .bl _=>some "bool" | .int _=>some "int" | .str _=>some "str" | .tup _=>some "tuple" | .rol _=>some "list"
 | .ref i=>(match h[i]? with | some (.lst _)=>some "list" | some (.dK _)=>some "dict" | _=>none)
 | _=>none
def aoj(t T:String):Option Bool :=
 if t∈["NoneType", "bool", "int", "str", "tuple", "list", "dict"]/\T∈["bool", "int", "str", "tuple", "list", "dict"] then some (t == T || (t == "bool" && T == "int")) else none
theorem af3{t T:String}{b:Bool}(e:aoj t T=some b):PySem.W.kitOne K (.type t) (.type T)=some b:=by
 unfold aoj at e
 split at e
 ·rename_i h;obtain ⟨h1,h2⟩:=h;simp only [List.mem_cons,List.not_mem_nil,or_false] at h1 h2
  rcases h1 with rfl | rfl | rfl | rfl | rfl | rfl | rfl<;>rcases h2 with rfl | rfl | rfl | rfl | rfl | rfl<;>(cases e;rfl)
 ·cases e
def atf:List D->Hd->R D
 | [x, .ty T],h=>(match tyD x h with | some t=>(match aoj t T with | some b=>.ok (.bl b) h | none=>.no) | none=>.no)
 | _,_=>.no
theorem aqe{ι:List Addr}{H:Hp}{h:Hd}{x:V}{d:D}{t:String}(r:Rep K ι H x d)(hr:HRep K ι H h)(e:tyD d h=some t):TyOf K H x (.type t):=by
 cases r with
 | non=>cases e;exact .non
 | bl b=>cases e;exact .bl b
 | int b=>cases e;exact .int b
 | str b=>cases e;exact .str b
 | ty _=>cases e
 | tup hp r=>cases e;exact .tup hp
 | rol hp r=>cases e;obtain ⟨o,hp⟩:=hp;exact .frz hp
 | scr _ _=>cases e
 | rod _ _ _=>cases e
 | rdT _ _ _=>cases e
 | exc _ _ _=>cases e
 | ref hp =>
  obtain ⟨ob,e1,e2⟩:=hr.at hp
  cases ob with
  | lst xs=>simp only [tyD,e1] at e;cases e;obtain ⟨vs,h3,h4⟩:=e2;exact .lst h3
  | dK _=>simp only [tyD,e1] at e;cases e;obtain ⟨vs,h3,h4⟩:=e2;exact .dK h3
  | dT _=>simp only [tyD,e1] at e;cases e
theorem amj:aem K atf (λxs H Q=>∃ x T t b,xs=[x, .ty T]/\TyOf K H x t/\PySem.W.kitOne K t (.type T)=some b/\Q (.bl b) H):=by
 intro E ι H h xs ds Q r hr o
 unfold atf at o
 split at o
 ·rename_i d T
  cases r with
  | cons r rs =>
   cases rs with
   | cons q rs =>
    cases q;cases rs
    cases ht:tyD d h with
    | none=>rw [ht] at o;exact o.elim
    | some t =>
     rw [ht] at o
     cases hb:aoj t T with
     | none=>simp only [hb] at o;exact o.elim
     | some b =>
      simp only [hb] at o;exact ⟨_,T, .type t,b,rfl,aqe r hr ht,af3 hb,ans o (.bl _) hr⟩
 ·exact o.elim
end
section
variable{X:Cx}{K:PySem.W.Frag}{E:XD}{a b e o:Expr}{es:List Expr}{fa fb fo:SE}{ka:SA}{pos apos cpos:Pos}{name:Str}{idn:String}
def atg(K:PySem.W.Frag)(g:D->List D->Hd->R D)(r:V->List V->Hp->VK->Prop):Prop:=∀ (E:XD) ι H h x dx xs ds Q,Rep K ι H x dx->Reps K ι H xs ds->HRep K ι H h->out K E (xx K) ι H (g dx ds h) Q->r x xs H Q
def isL(d:D)(h:Hd):Bool:=match d with | .ref i=>(match h[i]? with | some (.lst _)=>true | _=>false) | .rol _=>true | _=>false
def sML(g:D->List D->Hd->R D)(f:SE)(k:SA):SE:=λτ h=>(f τ h).bind λd h1=>if isL d h1=true then (k τ h1).bind λds h2=>g d ds h2 else .no
theorem aqf{ι:List Addr}{H:Hp}{h:Hd}{x:V}{d:D}(r:Rep K ι H x d)(hr:HRep K ι H h)(e:isL d h=true):tyV K "list" x H:=by
 cases r with
 | rol hp _=>exact .inl ⟨rfl,_,hp.l⟩
 | ref hp =>
  obtain ⟨ob,e1,e2⟩:=hr.at hp
  cases ob with
  | lst xs=>obtain ⟨vs,h3,_⟩:=e2;exact .inl ⟨rfl,_,SqL.of h3⟩
  | dK _=>simp [isL,e1] at e
  | dT _=>simp [isL,e1] at e
 | _=>cases e
theorem aum{r:V->List V->Hp->VK->Prop}{g:D->List D->Hd->R D}(slot:Slot "list" name idn)(hty:typeOf (.builtin idn)=pure (.type "method_descriptor"))(hm:MtR X idn r)(hs:atg X.K g r)(ho:ME X E o fo)(ha:MA X E (e::es) ka)
  (hbase:attributeBase o name X.env (eval o X.env)=eval o X.env:=by rfl)
  (hfew:((backTo cpos (starEach (e::es) X.env)).all (λx => !x.1) && (backToKw cpos (keywordEach [] X.env)).all (λx=>x.1.isSome)
   && decide ((e::es).length+([]:List Keyword).length+(if ([]:List Keyword).isEmpty then 0 else 1)<30))=true:=by rfl)
  (hline:(apos.endLine == cpos.line)=true:=by rfl) (hst:starEach (e::es) X.env=(false,eval e X.env)::starEach es X.env:=by rfl) (hplain:(backTo cpos (starEach es X.env)).any (·.1)=false:=by rfl) :
  ME X E (.Call (.Attribute o name apos) (e::es) [] cpos) (sML g fo ka):=by
 refine PE.weak (aud PySem.F.plainAttrs_list slot hty hm ho ha hbase hfew hline hst hplain) λσ H Q ⟨ι,τ,h,S,Rh,o⟩=>?_;refine ⟨ι,τ,h,S,Rh,gm o λd h1 ι1 H1 v g1 r1 hr1 o1=>?_⟩
 by_cases hc:isL d h1=true
 ·rw [if_pos hc] at o1;refine ⟨aqf r1 hr1 hc,ι1,τ,h1,S.mono g1,hr1,gm o1 λds h2 ι2 H2 vs g2 r2 hr2 o2=>?_⟩;exact hs E ι2 H2 h2 v d vs ds Q (r1.mono g2) r2 hr2 o2
 ·rw [if_neg hc] at o1;exact o1.elim
def ath:D->List D->Hd->R D
 | .ref i,[y],h=>(match h[i]? with | some (.lst xs)=>if xs.length<LINE then .ok .non (h.set i (.lst (xs++[y]))) else .no | _=>.no)
 | _,_,_=>.no
def sMS(g:D->List D->Hd->R D)(f:SE)(k:SA):SE:=λτ h=>(f τ h).bind λd h1=>match d with | .str z=>(k τ h1).bind λds h2=>g (.str z) ds h2 | _=>.no
theorem aqg{r:V->List V->Hp->VK->Prop}{g:D->List D->Hd->R D}(slot:Slot "str" name idn)(hty:typeOf (.builtin idn)=pure (.type "method_descriptor"))(hm:MtR X idn r)(hs:atg X.K g r)(ho:ME X E o fo)(ha:MA X E (e::es) ka)
  (hbase:attributeBase o name X.env (eval o X.env)=eval o X.env:=by rfl)
  (hfew:((backTo cpos (starEach (e::es) X.env)).all (λx => !x.1) && (backToKw cpos (keywordEach [] X.env)).all (λx=>x.1.isSome)
   && decide ((e::es).length+([]:List Keyword).length+(if ([]:List Keyword).isEmpty then 0 else 1)<30))=true:=by rfl)
  (hline:(apos.endLine == cpos.line)=true:=by rfl) (hst:starEach (e::es) X.env=(false,eval e X.env)::starEach es X.env:=by rfl) (hplain:(backTo cpos (starEach es X.env)).any (·.1)=false:=by rfl) :
  ME X E (.Call (.Attribute o name apos) (e::es) [] cpos) (sMS g fo ka):=by
 refine PE.weak (auh slot hty hm ho ha hbase hfew hline hst hplain) λσ H Q ⟨ι,τ,h,S,Rh,o⟩=>?_;refine ⟨ι,τ,h,S,Rh,gm o λd h1 ι1 H1 v g1 r1 hr1 o1=>?_⟩
 cases r1 with
 | str z=>exact ⟨⟨z,rfl⟩,ι1,τ,h1,S.mono g1,hr1,gm o1 λds h2 ι2 H2 vs g2 r2 hr2 o2=>hs E ι2 H2 h2 _ _ vs ds Q (.str z) r2 hr2 o2⟩
 | _=>exact o1.elim
def a9u:List D->Option (List Str)
 | []=>some []
 | .str z::r=>(a9u r).map (z::·)
 | _::_=>none
theorem a6v{ι:List Addr}{H:Hp}:∀ {vs:List V} {xs:List D} {zs:List Str},Reps K ι H vs xs->a9u xs=some zs->vs=zs.map V.str
 | _,_,_, .nil,e=>by cases e;rfl
 | _,_,zs, .cons (d:=d) r rs,e=>by
  cases r with
  | str z =>
   simp only [a9u,Option.map_eq_some_iff] at e;obtain ⟨ws,h1,rfl⟩:=e;rw [a6v rs h1];rfl
  | _=>cases e
def acx:D->List D->Hd->R D
 | .str sep,[.ref i],h=>(match h[i]? with | some (.lst xs)=>(match a9u xs with | some zs=>if (zs.map (·.length)).sum+zs.length*sep.length<=16777216 then .ok (.str (Txt.join sep zs)) h else .no | none=>.no) | _=>.no)
 | .str sep,[.rol xs],h=>(match a9u xs with | some zs=>if (zs.map (·.length)).sum+zs.length*sep.length<=16777216 then .ok (.str (Txt.join sep zs)) h else .no | none=>.no)
 | _,_,_=>.no
theorem ab3:atg K acx (λx xs H Q=>∃ sep p zs,x = .str sep/\xs=[.ref p]/\SqL K H p (zs.map V.str)/\(zs.map (·.length)).sum+zs.length*sep.length<=16777216/\Q (.str (Txt.join sep zs)) H):=by
 intro E ι H h x dx xs ds Q rx r hr o
 unfold acx at o
 split at o
 ·rename_i sep i;cases rx
  cases r with
  | cons r1 rs =>
   cases rs
   cases r1 with
   | @ref p _ hp =>
    split at o
    ·rename_i xs hx;obtain ⟨vs,h3,h4⟩:=hr.lst hp hx
     split at o
     ·rename_i zs hz
      split at o
      ·rename_i hc;exact ⟨sep,p,zs,rfl,rfl,SqL.of (by rw [h3,a6v h4 hz]),hc,ans o (.str _) hr⟩
      ·exact o.elim
     ·exact o.elim
    ·exact o.elim
 ·rename_i sep xs;cases rx
  cases r with
  | cons r1 rs =>
   cases rs
   cases r1 with
   | @rol p vs xs hp r =>
    split at o
    ·rename_i zs hz
     split at o
     ·rename_i hc;exact ⟨sep,p,zs,rfl,rfl,by rw [<-a6v r hz];exact hp.l,hc,ans o (.str _) hr⟩
     ·exact o.elim
    ·exact o.elim
 ·exact o.elim
def aqh:List D->Hd->R D
 | [.str z],h=>if z.length<=LINE then .ok (.ref h.length) (h++[.lst (a0l z)]) else .no
 | [x],h=>(match a1h x h with | some xs=>.ok (.ref h.length) (h++[.lst xs]) | none=>.no)
 | _,_=>.no
theorem a68{ι:List Addr}{H:Hp}(z:Str):Reps K ι H (a0e z) (a0l z):=by
 unfold a0e a0l
 induction z.cps.toList with
 | nil=>exact .nil
 | cons c cs ih=>exact .cons (.str _) ih
def yg:List D->Hd->R D
 | [.str z],h=>if z.length<=LINE then .ok (.tup (a0l z)) h else .no
 | [x],h=>(match a1h x h with | some xs=>.ok (.tup xs) h | none=>.no)
 | _,_=>.no
theorem a0m:aem K yg (λxs H Q=>(∃ p ys,xs=[.ref p]/\((SqL K H p ys/\∀ l,H l=none->Q (.ref l) (upd H l (.tup ys)))\/(SqT K H p ys/\Q (.ref p) H)))\/∃ z,xs=[.str z]/\z.length<=sizeLine/\∀ l,H l=none->Q (.ref l) (upd H l (.tup (a0e z)))):=by
 intro E ι H h xs ds Q r hr o
 cases r with
 | nil=>exact o.elim
 | cons r rs =>
  cases rs with
  | cons _ _=>exact (show False by cases r<;>exact o).elim
  | nil =>
   cases r with
   | str z =>
    by_cases hc:z.length<=LINE
    ·simp only [yg,if_pos hc] at o;exact .inr ⟨z,rfl,ll hc,a1p (a68 z) hr o⟩
    ·simp only [yg,if_neg hc] at o;exact o.elim
   | @tup p vs xs hp r=>simp only [yg,a1h] at o;exact .inl ⟨p,vs,rfl, .inr ⟨SqT.of hp,ans o (.tup hp r) hr⟩⟩
   | @rol p vs xs hp r=>simp only [yg,a1h] at o;exact .inl ⟨p,vs,rfl, .inl ⟨hp.l,a1p r hr o⟩⟩
   | @ref p j hp =>
    obtain ⟨ob,e1,e2⟩:=hr.at hp
    cases ob with
    | lst xs =>
     simp only [yg,a1h,e1] at o;obtain ⟨vs,h3,h4⟩:=e2;exact .inl ⟨p,vs,rfl, .inl ⟨SqL.of h3,a1p h4 hr o⟩⟩
    | dK _=>simp only [yg,a1h,e1] at o;exact o.elim
    | dT _=>simp only [yg,a1h,e1] at o;exact o.elim
   | _=>exact o.elim
def a6w:List D->Option (List Int)
 | []=>some []
 | .int z::r=>(a6w r).map (z::·)
 | _::_=>none
theorem a3s{ι:List Addr}{H:Hp}:∀ {vs:List V} {xs:List D} {zs:List Int},Reps K ι H vs xs->a6w xs=some zs->vs=zs.map V.int
 | _,_,_, .nil,e=>by cases e;rfl
 | _,_,zs, .cons (d:=d) r rs,e=>by
  cases r with
  | int z =>
   simp only [a6w,Option.map_eq_some_iff] at e;obtain ⟨ws,h1,rfl⟩:=e;rw [a3s rs h1];rfl
  | _=>cases e
end
end MI
theorem L2.Room.u{k:Nat}{A:PySem.Around}(r:L2.Room k A):A.units+64<PySem.cLine:=r.units
namespace MI
open PySem PySem.Spec L2
mutual
def eqD:D->D->Bool
 | .non, .non=>true
 | .bl a, .bl b=>a == b
 | .bl a, .int b=>(if a then 1 else 0) == b
 | .int a, .bl b=>a == (if b then 1 else 0)
 | .int a, .int b=>a == b
 | .str a, .str b=>a == b
 | .tup xs, .tup ys=>akr xs ys
 | _,_=>false
def akr:List D->List D->Bool
 | [],[]=>true
 | x::xs,y::ys=>eqD x y && akr xs ys
 | _,_=>false
end
def pur:Nat->D->Bool
 | _, .non=>true
 | _, .bl _=>true
 | _, .int _=>true
 | _, .str _=>true
 | n+1, .tup xs=>xs.all (pur n)
 | _,_=>false
def pairE(xs ys:List D)(j:Nat):Bool:=match xs[j]?,ys[j]? with | some x,some y=>eqD x y | _,_=>false
theorem a6x:∀ xs ys:List D,((List.range (min xs.length ys.length)).all (pairE xs ys) && xs.length == ys.length)=akr xs ys
 | [],[]=>by simp [akr]
 | [],_::_=>by simp [akr]
 | _::_,[]=>by simp [akr]
 | x::xs,y::ys=>by
  have ih:=a6x xs ys;rw [show min (x::xs).length (y::ys).length=min xs.length ys.length+1 by simp only [List.length_cons];omega,List.range_succ_eq_map]
  rw [List.all_cons,List.all_map];have e:(pairE (x::xs) (y::ys) ∘ Nat.succ)=pairE xs ys:=by funext j;simp [pairE]
  rw [e];simp only [akr];rw [<-ih];have e2:((x::xs).length == (y::ys).length)=(xs.length == ys.length):=by simp
  rw [e2,Bool.and_assoc];rfl
section
variable{K:PySem.W.Frag}{ι:List Addr}{H:Hp}
theorem aie:∀ (n:Nat) {v:V} {d e:D},Rep K ι H v d->Rep K ι H v e->pur n d=true->pur n e=true->eqD d e=true:=by
 intro n
 induction n with
 | zero=>intro v d e r q p1 p2;cases r<;>cases q<;>first | (simp [eqD];done) | (cases p1;done) | (cases p2;done)
 | succ n ih =>
  intro v d e r q p1 p2
  cases r with
  | @tup a vs xs h rs =>
   cases q with
   | @tup _ us ys h' qs =>
    rw [h] at h';cases h'
    simp only [eqD];simp only [pur,List.all_eq_true] at p1 p2
    clear h
    induction rs using Reps.rec (motive_1:=λ_ _ _=>True) generalizing ys with
    | nil=>cases qs;rfl
    | cons r rs _ ih2 =>
     cases qs with
     | cons q qs =>
      simp only [akr,Bool.and_eq_true];exact ⟨ih r q (p1 _ (List.mem_cons_self ..)) (p2 _ (List.mem_cons_self ..)),ih2 qs (λx hx=>p1 x (List.mem_cons_of_mem _ hx)) (λx hx=>p2 x (List.mem_cons_of_mem _ hx))⟩
    | _=>trivial
   | _=>cases p2
  | _=>cases q<;>first | (simp [eqD];done) | (cases p1;done) | (cases p2;done)
theorem a3f{n:Nat}{v:V}{d:D}(r:Rep K ι H v d)(p:pur n d=true):(∃ xs,d = .tup xs)\/(a1o v=true/\a0g d=true):=by
 cases r<;>first | exact .inr ⟨rfl,rfl⟩ | exact .inl ⟨_,rfl⟩ | (cases n<;>cases p)
theorem a6y{x y:V}{d e:D}(r:Rep K ι H x d)(q:Rep K ι H y e)(f:a0g d=true)(g:a0g e=true):eqV x y=eqD d e:=by
 cases r<;>cases q<;>first | rfl | (simp [eqV,eqD];done) | (cases f;done) | (cases g;done)
open SeqAt in
theorem aqi{P:Program}{w:World}{s:Shared}(hok:HOk P w H s.heap):∀ (n:Nat) (A:Around) {x y:V} {u v:Value} {d e:D},Rep K ι H x d->Rep K ι H y e->RelV x u->RelV y v->pur n d=true->pur n e=true->A.units+n<cLine->EqAt A s u v (eqD d e):=by
 intro n
 induction n with
 | zero =>
  intro A x y u v d e r q rx ry p1 p2 hu
  rcases a3f r p1 with ⟨xs,rfl⟩ | ⟨f1,f2⟩
  ·cases p1
  ·rcases a3f q p2 with ⟨xs,rfl⟩ | ⟨g1,g2⟩
   ·cases p2
   ·rw [<-a6y r q f2 g2];exact aef rx ry f1 g1
 | succ n ih =>
  intro A x y u v d e r q rx ry p1 p2 hu
  rcases a3f r p1 with ⟨xs,rfl⟩ | ⟨f1,f2⟩
  ·cases r with
   | @tup a vs _ ha rs =>
    cases rx
    obtain ⟨_,its,r1,t1⟩:=(Rd.of ha).ok hok
    rcases a3f q p2 with ⟨ys,rfl⟩ | ⟨g1,g2⟩
    ·cases q with
     | @tup b us _ hb qs =>
      cases ry
      obtain ⟨_,its2,r2,t2⟩:=(Rd.of hb).ok hok
      by_cases hab:a=b
      ·subst hab;rw [aie (n+1) (.tup ha rs) (.tup hb qs) p1 p2];exact EqAt.same _
      ·have l1:its.toArray.size=xs.length:=by rw [List.size_toArray,<-r1.length,rs.len]
       have l2:its2.toArray.size=ys.length:=by rw [List.size_toArray,<-r2.length,qs.len]
       have:=RcAt.tuples (A:=A) (s:=s) (e:=pairE xs ys) t1 t2 (by omega) (λj h1 h2=>by
        have j1:j<xs.length:=by omega
        have j2:j<ys.length:=by omega
        obtain ⟨v1,e1,q1⟩:=rs.get (List.getElem?_eq_getElem j1);obtain ⟨v2,e2,q2⟩:=qs.get (List.getElem?_eq_getElem j2);obtain ⟨u1,e3,q3⟩:=r1.get e1;obtain ⟨u2,e4,q4⟩:=r2.get e2;have f1:its.toArray[j]=u1:=by simpa using (List.getElem?_eq_some_iff.mp e3).2
        have f2:its2.toArray[j]=u2:=by simpa using (List.getElem?_eq_some_iff.mp e4).2
        have pe:pairE xs ys j=eqD xs[j] ys[j]:=by simp [pairE,List.getElem?_eq_getElem j1,List.getElem?_eq_getElem j2]
        rw [f1,f2,pe];simp only [pur,List.all_eq_true] at p1 p2;exact ih A.in1 q1 q2 q3 q4 (p1 _ (List.getElem_mem j1)) (p2 _ (List.getElem_mem j2)) (by rw [Around.in1_units];omega))
       rw [l1,l2,a6x] at this;exact EqAt.of_refs hab this
    ·have e0:eqD (.tup xs) e=false:=by cases e<;>first | rfl | (cases g2;done)
     rw [e0]
     cases y with
     | non=>cases ry;exact EqAt.tuple_none t1 (by omega)
     | bl b=>cases ry;exact EqAt.tuple_bool b t1 (by omega)
     | int b=>obtain ⟨t,rfl⟩:=ry;exact EqAt.tuple_int b t t1 (by omega)
     | str b=>obtain ⟨t,rfl⟩:=ry;exact EqAt.tuple_str b t t1 (by omega)
     | _=>cases g1
  ·rcases a3f q p2 with ⟨ys,rfl⟩ | ⟨g1,g2⟩
   ·cases q with
    | @tup b us _ hb qs =>
     cases ry
     obtain ⟨_,its2,r2,t2⟩:=(Rd.of hb).ok hok;have e0:eqD d (.tup ys)=false:=by cases d<;>first | rfl | (cases f2;done)
     rw [e0]
     cases x with
     | non=>cases rx;exact EqAt.none_tuple t2 (by omega)
     | bl b=>cases rx;exact EqAt.bool_tuple b t2 (by omega)
     | int b=>obtain ⟨t,rfl⟩:=rx;exact EqAt.int_tuple b t t2 (by omega)
     | str b=>obtain ⟨t,rfl⟩:=rx;exact EqAt.str_tuple b t t2 (by omega)
     | _=>cases f1
   ·rw [<-a6y r q f2 g2];exact aef rx ry f1 g1
open SeqAt in
theorem aqj{A:Around}{s:Shared}{y x:V}{u v:Value}(ry:RelV y u)(rx:RelV x v)(fy:a1o y=true)(fx:a1o x=true):RcAt A s u v (eqV y x):=by
 cases y with
 | non =>
  cases ry
  cases x with
  | non=>cases rx;exact RcAt.none_none
  | bl b=>cases rx;exact RcAt.none_bool b
  | int b=>obtain ⟨t,rfl⟩:=rx;exact RcAt.none_int b t
  | str b=>obtain ⟨t,rfl⟩:=rx;exact RcAt.none_str b t
  | _=>cases fx
 | bl a =>
  cases ry
  cases x with
  | non=>cases rx;exact RcAt.bool_none a
  | bl b=>cases rx;exact RcAt.bool_bool a b
  | int b=>obtain ⟨t,rfl⟩:=rx;exact RcAt.bool_int a b t
  | str b=>obtain ⟨t,rfl⟩:=rx;exact RcAt.bool_str a b t
  | _=>cases fx
 | int a =>
  obtain ⟨t',rfl⟩:=ry
  cases x with
  | non=>cases rx;exact RcAt.int_none a t'
  | bl b=>cases rx;exact RcAt.int_bool a t' b
  | int b=>obtain ⟨t,rfl⟩:=rx;exact RcAt.int_int a t' b t
  | str b=>obtain ⟨t,rfl⟩:=rx;exact RcAt.int_str a t' b t
  | _=>cases fx
 | str a =>
  obtain ⟨t',rfl⟩:=ry
  cases x with
  | non=>cases rx;exact RcAt.str_none a t'
  | bl b=>cases rx;exact RcAt.str_bool a t' b
  | int b=>obtain ⟨t,rfl⟩:=rx;exact RcAt.str_int a t' b t
  | str b=>obtain ⟨t,rfl⟩:=rx;exact RcAt.str_str a t' b t
  | _=>cases fx
 | _=>cases fy
open SeqAt in
theorem aif{A:Around}{s:Shared}{y x:V}{u v:Value}(ry:RelV y u)(rx:RelV x v)(fy:a1o y=true)(fx:a1o x=true):RcNeAt A s u v (!eqV y x):=by
 cases y with
 | non =>
  cases ry
  cases x with
  | non=>cases rx;exact RcNeAt.none_none
  | bl b=>cases rx;exact RcNeAt.none_bool b
  | int b=>obtain ⟨t,rfl⟩:=rx;exact RcNeAt.none_int b t
  | str b=>obtain ⟨t,rfl⟩:=rx;exact RcNeAt.none_str b t
  | _=>cases fx
 | bl a =>
  cases ry
  cases x with
  | non=>cases rx;exact RcNeAt.bool_none a
  | bl b=>cases rx;exact RcNeAt.bool_bool a b
  | int b=>obtain ⟨t,rfl⟩:=rx;exact RcNeAt.bool_int a b t
  | str b=>obtain ⟨t,rfl⟩:=rx;exact RcNeAt.bool_str a b t
  | _=>cases fx
 | int a =>
  obtain ⟨t',rfl⟩:=ry
  cases x with
  | non=>cases rx;exact RcNeAt.int_none a t'
  | bl b=>cases rx;exact RcNeAt.int_bool a t' b
  | int b=>obtain ⟨t,rfl⟩:=rx;exact RcNeAt.int_int a t' b t
  | str b=>obtain ⟨t,rfl⟩:=rx;exact RcNeAt.int_str a t' b t
  | _=>cases fx
 | str a =>
  obtain ⟨t',rfl⟩:=ry
  cases x with
  | non=>cases rx;exact RcNeAt.str_none a t'
  | bl b=>cases rx;exact RcNeAt.str_bool a t' b
  | int b=>obtain ⟨t,rfl⟩:=rx;exact RcNeAt.str_int a t' b t
  | str b=>obtain ⟨t,rfl⟩:=rx;exact RcNeAt.str_str a t' b t
  | _=>cases fx
 | _=>cases fy
open SeqAt in
theorem tops{P:Program}{w:World}{s:Shared}{A:Around}(hok:HOk P w H s.heap){x y:V}{u v:Value}{d e:D}(r:Rep K ι H x d)(q:Rep K ι H y e)(rx:RelV x u)(ry:RelV y v)(p1:pur 60 d=true)(p2:pur 60 e=true)(hu:A.units+64<cLine) :
  RcAt A s u v (eqD d e)/\RcNeAt A s u v (!eqD d e):=by
 rcases a3f r p1 with ⟨xs,rfl⟩ | ⟨f1,f2⟩
 ·cases r with
  | @tup a vs _ ha rs =>
   cases rx
   obtain ⟨_,its,r1,t1⟩:=(Rd.of ha).ok hok
   rcases a3f q p2 with ⟨ys,rfl⟩ | ⟨g1,g2⟩
   ·cases q with
    | @tup b us _ hb qs =>
     cases ry
     obtain ⟨_,its2,r2,t2⟩:=(Rd.of hb).ok hok;have l1:its.toArray.size=xs.length:=by rw [List.size_toArray,<-r1.length,rs.len]
     have l2:its2.toArray.size=ys.length:=by rw [List.size_toArray,<-r2.length,qs.len]
     have step:∀ j (h1:j<its.toArray.size) (h2:j<its2.toArray.size),EqAt A.in1 s its.toArray[j] its2.toArray[j] (pairE xs ys j):=λj h1 h2=>by
      have j1:j<xs.length:=by omega
      have j2:j<ys.length:=by omega
      obtain ⟨v1,e1,q1⟩:=rs.get (List.getElem?_eq_getElem j1);obtain ⟨v2,e2,q2⟩:=qs.get (List.getElem?_eq_getElem j2);obtain ⟨u1,e3,q3⟩:=r1.get e1;obtain ⟨u2,e4,q4⟩:=r2.get e2;have f1:its.toArray[j]=u1:=by simpa using (List.getElem?_eq_some_iff.mp e3).2
      have f2:its2.toArray[j]=u2:=by simpa using (List.getElem?_eq_some_iff.mp e4).2
      have pe:pairE xs ys j=eqD xs[j] ys[j]:=by simp [pairE,List.getElem?_eq_getElem j1,List.getElem?_eq_getElem j2]
      rw [f1,f2,pe];simp only [pur,List.all_eq_true] at p1 p2;exact aqi hok 59 A.in1 q1 q2 q3 q4 (p1 _ (List.getElem_mem j1)) (p2 _ (List.getElem_mem j2)) (by rw [Around.in1_units];omega)
     have c1:=RcAt.tuples (A:=A) (s:=s) (e:=pairE xs ys) t1 t2 (by omega) step
     have c2:=RcNeAt.tuples (A:=A) (s:=s) (e:=pairE xs ys) t1 t2 (by omega) step
     rw [l1,l2,a6x] at c1 c2;exact ⟨c1,c2⟩
   ·have e0:eqD (.tup xs) e=false:=by cases e<;>first | rfl | (cases g2;done)
    rw [e0]
    cases y with
    | non=>cases ry;exact ⟨RcAt.tuple_none t1 (by omega),RcNeAt.tuple_none t1 (by omega)⟩
    | bl b=>cases ry;exact ⟨RcAt.tuple_bool b t1 (by omega),RcNeAt.tuple_bool b t1 (by omega)⟩
    | int b=>obtain ⟨t,rfl⟩:=ry;exact ⟨RcAt.tuple_int b t t1 (by omega),RcNeAt.tuple_int b t t1 (by omega)⟩
    | str b=>obtain ⟨t,rfl⟩:=ry;exact ⟨RcAt.tuple_str b t t1 (by omega),RcNeAt.tuple_str b t t1 (by omega)⟩
    | _=>cases g1
 ·rcases a3f q p2 with ⟨ys,rfl⟩ | ⟨g1,g2⟩
  ·cases q with
   | @tup b us _ hb qs =>
    cases ry
    obtain ⟨_,its2,r2,t2⟩:=(Rd.of hb).ok hok;have e0:eqD d (.tup ys)=false:=by cases d<;>first | rfl | (cases f2;done)
    rw [e0]
    cases x with
    | non=>cases rx;exact ⟨RcAt.none_tuple t2 (by omega),RcNeAt.none_tuple t2 (by omega)⟩
    | bl b=>cases rx;exact ⟨RcAt.bool_tuple b t2 (by omega),RcNeAt.bool_tuple b t2 (by omega)⟩
    | int b=>obtain ⟨t,rfl⟩:=rx;exact ⟨RcAt.int_tuple b t t2 (by omega),RcNeAt.int_tuple b t t2 (by omega)⟩
    | str b=>obtain ⟨t,rfl⟩:=rx;exact ⟨RcAt.str_tuple b t t2 (by omega),RcNeAt.str_tuple b t t2 (by omega)⟩
    | _=>cases f1
  ·rw [<-a6y r q f2 g2];exact ⟨aqj rx ry f1 g1,aif rx ry f1 g1⟩
def avu(K:PySem.W.Frag):R2:=λx y H Q=>∃ ι d e,Rep K ι H x d/\Rep K ι H y e/\pur 60 d=true/\pur 60 e=true/\Q (.bl (eqD d e)) H
def avv(K:PySem.W.Frag):R2:=λx y H Q=>∃ ι d e,Rep K ι H x d/\Rep K ι H y e/\pur 60 d=true/\pur 60 e=true/\Q (.bl (!eqD d e)) H
theorem o7{X:Cx}(hu:X.A.units+64<cLine):OpR X (compareOp .Eq) (avu X.K):=by
 intro pins s σ H x y v u Q I rx ry h
 obtain ⟨ι,d,e,r,q,p1,p2,hq⟩:=h;exact (tops (A:=X.A) I.hok r q rx ry p1 p2 hu).1 X.prog X.w X.xe _ ⟨.bl _,H,I,rfl,hq⟩
theorem aqk{X:Cx}(hu:X.A.units+64<cLine):OpR X (compareOp .NotEq) (avv X.K):=by
 intro pins s σ H x y v u Q I rx ry h
 obtain ⟨ι,d,e,r,q,p1,p2,hq⟩:=h;exact (tops (A:=X.A) I.hok r q rx ry p1 p2 hu).2 X.prog X.w X.xe _ ⟨.bl _,H,I,rfl,hq⟩
def hEq(x y:D)(h:Hd):R D:=if pur 60 x=true/\pur 60 y=true then .ok (.bl (eqD x y)) h else .no
def hNe(x y:D)(h:Hd):R D:=if pur 60 x=true/\pur 60 y=true then .ok (.bl (!eqD x y)) h else .no
theorem kj:a5q K hEq (avu K):=by
 intro E ι H h x y dx dy Q rx ry hr o
 unfold hEq at o
 split at o
 ·rename_i hc;exact ⟨ι,dx,dy,rx,ry,hc.1,hc.2,ans o (.bl _) hr⟩
 ·exact o.elim
theorem amk:a5q K hNe (avv K):=by
 intro E ι H h x y dx dy Q rx ry hr o
 unfold hNe at o
 split at o
 ·rename_i hc;exact ⟨ι,dx,dy,rx,ry,hc.1,hc.2,ans o (.bl _) hr⟩
 ·exact o.elim
end
section
variable{X:Cx}{E:XD}{K:PySem.W.Frag}
def aml:SE:=λ_ h=>.ok (.ref h.length) (h++[.dK []])
def aun:D->D->Hd->R D
 | .int i, .int j,h=>.ok (.int (i+j)) h
 | .str x, .str y,h=>if x.length+y.length<=LINE then .ok (.str (x++y)) h else .no
 | _,_,_=>.no
theorem aql:bootBuiltins "max" = some (.builtin "max"):=by first | exact PySem.boot_max | exact PyProof.Rows.boot_max
theorem aqm:bootBuiltins "min" = some (.builtin "min"):=by first | exact PySem.boot_min | exact PyProof.Rows.boot_min
theorem amm:bootBuiltins "bool" = some (.type "bool"):=by first | exact PySem.boot_bool | exact PyProof.Rows.boot_bool
theorem aks:bootBuiltins "sum" = some (.builtin "sum"):=by first | exact PySem.boot_sum | exact PyProof.Rows.boot_sum
theorem a0x{e:Expr}{es:List Expr}{g:SG}{ks:SGs}(h1:MG X E e g)(h2:MGs X E es ks)(hs:(assignEach (e::es) X.env).map (·.2)=assign e X.env::(assignEach es X.env).map (·.2):=by rfl):MGs X E (e::es) (a02 g ks) :=
 PGs.weak (zy h1 h2 hs) λvs σ H Q q=>ai7 q
end
end MI
namespace ZP
open PySem PySem.Spec PySem.Builtin PySem.Builtin.SmallTypes
section
variable{prog:Program}{w:World}{A:Around}{E:Value->Shared->Prop}{s:Shared}
theorem amn{α:Type}{Q:α->Shared->Prop}(hh:A.handled=none)(q:∀ h' e,(∀ b o,s.heap.get? b=some o->h'.get? b=some o)->(∃ o,h'.get? e=some o/\o.cls = .type "StopIteration")->E (.ref e) { s with heap:=h' }) :
  wpAny (model prog w) A (stopIteration:Sem α) Q E s:=by
 have none_first:firstArgMember (.type "StopIteration") []=pure Value.none:=by first | rfl | (simp only [firstArgMember];rfl)
 rw [stopIteration]
 apply wpAny_bind
 rw [newExc,newTuple]
 apply wpAny_bind
 apply wpAny_newObj_type _ (by size_fits)
 rw [none_first,pure_bind]
 apply wpAny_newObj_type _ (by size_fits)
 apply wpAny_raiseNew_none hh
 exact q _ _ (λb o z=>Heap.get?_push_of_some _ (Heap.get?_push_of_some _ z)) ⟨_,Heap.get?_push_size _ rfl,rfl⟩
theorem aig{it t:Addr}{i:Nat}{items:Array Value}{x:Value}{Q:Value->Shared->Prop}(hi:s.heap.IsTupleIter it t i)(ht:s.heap.IsTuple t items)(hx:items[i]? = some x)
  (q:∀ h',h'.IsTupleIter it t (i+1)->Heap.SameBut it s.heap h'->Q x { s with heap:=h' }):wpAny (model prog w) A (nextOf (.ref it)) Q E s:=by
 have ty:=hi.typeIs;obtain ⟨o,e1,e2,e3⟩:=id hi;obtain ⟨p,f1,f2,n,f3⟩:=ht;rw [nextOf]
 apply wpAny_bind
 apply wpAny_callSpecial?_slot (name:=Str.ofString "__next__") ty F.slot_tuple_iterator_next
 apply wpAny_call_entry F.slot_tuple_iterator_next ty F.entry_tuple_iterator_next _ (F.args_tuple_iterator_next_1 _)
 change wpAny (model prog w) A.in1 (field (.ref it) 0>>=_) _ _ _
 apply wpAny_bind;apply wpAny_field e1 e3 (x:=.ref t) rfl
 change wpAny (model prog w) A.in1 (field (.ref it) 1>>=_) _ _ _
 apply wpAny_bind;apply wpAny_field e1 e3 (x:=.int i 0) rfl
 change wpAny (model prog w) A.in1 (seqItems? (.ref t)>>=_) _ _ _
 apply wpAny_bind;apply wpAny_seqItems f1 f3
 dsimp only;rw [Int.toNat_natCast,hx]
 apply wpAny_bind
 obtain ⟨c,dd,dt,sl⟩:=o;simp only at e2 e3;subst e2 e3
 apply wpAny_setField e1 rfl (Nat.lt_succ_self 1)
 apply wpAny_pure
 exact ⟨x,rfl,wpAny_pure (q _ ⟨_,Heap.get?_update_self _ e1 rfl,rfl,rfl⟩ (Heap.SameBut.update ..))⟩
theorem amo{it t:Addr}{i:Nat}{items:Array Value}{Q:Value->Shared->Prop}(hh:A.handled=none)(hi:s.heap.IsTupleIter it t i)(ht:s.heap.IsTuple t items)(hx:items[i]? = none)
  (q:∀ h' e,Heap.ExtBut it s.heap h'->(∃ o,h'.get? e=some o/\o.cls = .type "StopIteration")->E (.ref e) { s with heap:=h' }):wpAny (model prog w) A (nextOf (.ref it)) Q E s:=by
 have ty:=hi.typeIs;obtain ⟨o,e1,e2,e3⟩:=id hi;obtain ⟨p,f1,f2,n,f3⟩:=ht;rw [nextOf]
 apply wpAny_bind
 apply wpAny_callSpecial?_slot (name:=Str.ofString "__next__") ty F.slot_tuple_iterator_next
 apply wpAny_call_entry F.slot_tuple_iterator_next ty F.entry_tuple_iterator_next _ (F.args_tuple_iterator_next_1 _)
 change wpAny (model prog w) A.in1 (field (.ref it) 0>>=_) _ _ _
 apply wpAny_bind;apply wpAny_field e1 e3 (x:=.ref t) rfl
 change wpAny (model prog w) A.in1 (field (.ref it) 1>>=_) _ _ _
 apply wpAny_bind;apply wpAny_field e1 e3 (x:=.int i 0) rfl
 change wpAny (model prog w) A.in1 (seqItems? (.ref t)>>=_) _ _ _
 apply wpAny_bind;apply wpAny_seqItems f1 f3
 dsimp only;rw [Int.toNat_natCast,hx];dsimp only;obtain ⟨c,dd,dt,sl⟩:=o;simp only at e2 e3;subst e2 e3
 apply wpAny_bind;apply wpAny_rule
 apply wpAny_bind;apply wpAny_setField e1 rfl (Nat.succ_pos 1)
 apply amn (show A.in1.handled=none from hh)
 exact λh' e k z=>q h' e (λb o nb eb=>k b o ((Heap.SameBut.update ..).extBut b o nb eb)) z
theorem af4{prog:Program}{w:World}{A:Around}(hh:A.handled=none)(it t:Addr)(ne:t≠it)(items:Array Value):Draws prog w A it [it,t] items.size (λi v=>items[i]? = some v) (λi h=>h.IsTupleIter it t i/\h.IsTuple t items) where
 live:=λ_ _ st=>let ⟨o,e,_⟩:=st.1; ⟨o,e⟩
 frame:=λ_ _ _ st k=>⟨let ⟨o,e,r⟩:=st.1; ⟨o,k it (by simp) o e,r⟩,let ⟨o,e,r⟩:=st.2; ⟨o,k t (by simp) o e,r⟩⟩
 item:=λi s Q E hi st q=>aig st.1 st.2 (Array.getElem?_eq_getElem hi) λh' a b=>q _ h' s.toks (Array.getElem?_eq_getElem hi) ⟨a,st.2.extBut b.extBut ne⟩ b
 done:=λs Q E st q=>amo hh st.1 st.2 (by simp) q
end
structure Ap (z TI TO i1 i2:Addr) (p q:List Addr):Prop where
 m1:i1∈p
 m2:i2∈q
 z1:z ∉ p
 z2:z ∉ q
 o1:TO ∉ p
 o2:TO ∉ q
 oz:TO≠z
 x1:i1 ∉ q
 x2:i2 ∉ p
section
variable{prog:Program}{w:World}{A:Around}{E:Value->Shared->Prop}{s:Shared}{z TI TO i1 i2:Addr}{p q:List Addr}{n1 n2 k:Nat}{P1 P2:Nat->Value->Prop}{S1 S2:Nat->Heap->Prop}{a b:Value}
theorem far{D:Draws prog w A i1 p n1 P1 S1}{h h':Heap}{c:Addr}(sb:Heap.SameBut c h h')(nc:c ∉ p)(st:S1 k h):S1 k h':=D.frame _ _ _ st λx hx o e=>sb.extBut x o (λy=>nc (y ▸ hx)) e
theorem af5{Q:Fin->Shared->Prop}(hz:IsZip s.heap z TI TO .none)(hi:IsPair s.heap TI (.ref i1) (.ref i2))(ho:IsPair s.heap TO a b)(oz:TO≠z)
  (go:∀ h1,IsZip h1 z TI TO .ellipsis->Heap.SameBut z s.heap h1->wpAny (model prog w) A (nextOf (.ref i1))
   (λx s2=>IsPair s2.heap TO a b/\∀ h3,IsPair h3 TO x b->Heap.SameBut TO s2.heap h3->wpAny (model prog w) A (nextOf (.ref i2))
    (λy s4=>IsPair s4.heap TO x b/\∀ h5,IsPair h5 TO x y->Heap.SameBut TO s4.heap h5->IsZip h5 z TI TO .ellipsis/\∀ h8,IsZip h8 z TI TO (rawInt h5.objs.size)->IsPair h8 h5.objs.size x y->h8.objs.size=h5.objs.size+1->
     (∀ c o,c≠z->h5.get? c=some o->h8.get? c=some o)->Q (.done (.ret (.ref h5.objs.size))) { s4 with heap:=h8 })
    (λe s4=>wpAny (model prog w) A (setField (.ref z) 0 .none) (λ_ s5=>E e s5) E s4) { s2 with heap:=h3 })
   (λe s2=>wpAny (model prog w) A (setField (.ref z) 0 .none) (λ_ s3=>E e s3) E s2) { s with heap:=h1 }) :
  wpAny (model prog w) A (Builtin.«zip.__next__» ⟨[.ref z],[]⟩) Q E s:=by
 change wpAny (model prog w) A (field (.ref z) 2>>=_) _ _ _
 apply wpAny_bind;apply wpAny_field hz rfl (x:=.bool false) rfl
 change wpAny (model prog w) A (field (.ref z) 3>>=_) _ _ _
 apply wpAny_bind;apply wpAny_field hz rfl (x:=.ref TI) rfl
 apply wpAny_bind;apply wpAny_seqItems hi rfl
 change wpAny (model prog w) A (ownedTupleIsFree (.ref z)>>=_) _ _ _
 apply wpAny_bind
 rw [ownedTupleIsFree]
 apply wpAny_bind;apply wpAny_field hz rfl (x:=.none) rfl
 apply wpAny_pure
 rw [if_pos rfl]
 apply wpAny_bind;apply wpAny_rule
 apply wpAny_bind;apply wpAny_field hz rfl (x:=.ref TO) rfl
 apply wpAny_bind;apply wpAny_setField_rec hz (Nat.succ_pos _)
 intro h1 z1 b1
 apply wpAny_bind
 simp only [List.zipIdx_cons,List.zipIdx_nil,List.forIn_cons,List.forIn_nil]
 apply wpAny_bind;apply wpAny_bind;apply wpAny_onRaise
 change wpAny (model prog w) A (nextOf (.ref i1)>>=_) _ _ _
 apply wpAny_bind
 apply wpAny_mono (go h1 z1 b1) _ λ_ _ r=>r
 rintro x s2 ⟨o2,g2⟩
 apply wpAny_pure
 apply wpAny_bind;apply wpAny_seqItems o2 rfl
 apply wpAny_bind;apply wpAny_updateSeq_pair o2
 intro h3 o3 b3
 apply wpAny_bind;apply wpAny_letGo;apply wpAny_pure
 apply wpAny_bind;apply wpAny_bind;apply wpAny_onRaise
 change wpAny (model prog w) A (nextOf (.ref i2)>>=_) _ _ _
 apply wpAny_bind
 apply wpAny_mono (g2 h3 o3 b3) _ λ_ _ r=>r
 rintro y s4 ⟨o4,g4⟩
 apply wpAny_pure
 apply wpAny_bind;apply wpAny_seqItems o4 rfl
 apply wpAny_bind;apply wpAny_updateSeq_pair o4
 intro h5 o5 b5
 obtain ⟨z5,g5⟩:=g4 h5 o5 b5
 apply wpAny_bind;apply wpAny_letGo;apply wpAny_pure;apply wpAny_pure
 apply wpAny_bind;apply wpAny_seqItems o5 rfl
 apply wpAny_bind;refine wpAny_newTuple ?_ (by show 2<=sizeLine;decide)
 change wpAny (model prog w) A (ownedTupleHandOut (.ref z) (.ref h5.objs.size)>>=_) _ _ _
 apply wpAny_bind
 rw [ownedTupleHandOut];have z6:IsZip (h5.push { cls:=.type "tuple",data:=.seq #[x,y] }) z TI TO .ellipsis:=Heap.get?_push_of_some _ z5;have lt:z<h5.objs.size:=Heap.lt_size z5
 apply wpAny_bind;apply wpAny_setField_rec z6 (Nat.succ_pos _)
 intro h7 z7 b7
 apply wpAny_setField_rec z7 (by show 1<5;decide)
 intro h8 z8 b8
 apply wpAny_pure
 refine g5 h8 z8 (b8.extBut _ _ (Nat.ne_of_gt lt) (b7.extBut _ _ (Nat.ne_of_gt lt) (Heap.get?_push_size _ rfl))) ?_ λc o nc e=>b8.extBut _ _ nc (b7.extBut _ _ nc (Heap.get?_push_of_some _ e));rw [b8.1,b7.1,Heap.size_push]
theorem aih{Q:Value->Shared->Prop}(D1:Draws prog w A i1 p n1 P1 S1)(D2:Draws prog w A i2 q n2 P2 S2)(ap:Ap z TI TO i1 i2 p q)(hz:IsZip s.heap z TI TO .none)(hi:IsPair s.heap TI (.ref i1) (.ref i2))(ho:IsPair s.heap TO a b)
  (s1:S1 k s.heap) (s2:S2 k s.heap) (k1:k<n1) (k2:k<n2)
  (hQ:∀ x y h' tk,P1 k x->P2 k y->IsZip h' z TI TO (rawInt s.heap.objs.size)->IsPair h' TO x y->S1 (k+1) h'->S2 (k+1) h'->IsPair h' s.heap.objs.size x y->h'.objs.size=s.heap.objs.size+1->
   (∀ c o,c≠z->c≠TO->c≠i1->c≠i2->s.heap.get? c=some o->h'.get? c=some o)->Q (.ref s.heap.objs.size) { s with heap:=h',toks:=tk }) :
  wpAny (model prog w) A (Builtin.«zip.__next__» ⟨[.ref z],[]⟩) (λfin s'=>∃ v,fin = .done (.ret v)/\Q v s') E s:=by
 have ni1:i1≠z:=λe=>ap.z1 (e ▸ ap.m1);have ni2:i2≠z:=λe=>ap.z2 (e ▸ ap.m2);have no1:TO≠i1:=λe=>ap.o1 (e ▸ ap.m1);have no2:TO≠i2:=λe=>ap.o2 (e ▸ ap.m2);refine af5 hz hi ho ap.oz λh1 z1 b1=>?_;refine D1.item k _ _ _ k1 (far (D:=D1) b1 ap.z1 s1) λx h2 t2 px st2 b2=>?_;refine ⟨b2.extBut _ _ no1 (b1.extBut _ _ ap.oz ho),λh3 o3 b3=>?_⟩;refine D2.item k _ _ _ k2 (far (D:=D2) b3 ap.o2 (far (D:=D2) b2 ap.x1 (far (D:=D2) b1 ap.z2 s2))) λy h4 t4 py st4 b4=>?_;refine ⟨b4.extBut _ _ no2 o3,λh5 o5 b5=>⟨b5.extBut _ _ ap.oz.symm (b4.extBut _ _ ni2.symm (b3.extBut _ _ ap.oz.symm (b2.extBut _ _ ni1.symm z1))),λh8 z8 t8 l8 k8=>⟨_,rfl,?_⟩⟩⟩
 have sz:h5.objs.size=s.heap.objs.size:=by rw [b5.1,b4.1,b3.1,b2.1,b1.1]
 have g1:S1 (k+1) h8:=D1.frame _ _ _ (far (D:=D1) b5 ap.o1 (far (D:=D1) b4 ap.x2 (far (D:=D1) b3 ap.o1 st2))) λc hc o e=>k8 c o (λy=>ap.z1 (y ▸ hc)) e;have g2:S2 (k+1) h8:=D2.frame _ _ _ (far (D:=D2) b5 ap.o2 st4) λc hc o e=>k8 c o (λy=>ap.z2 (y ▸ hc)) e;rw [sz] at z8 t8 l8 ⊢;exact hQ x y h8 t4 px py z8 (k8 _ _ ap.oz o5) g1 g2 t8 l8 λc o c1 c2 c3 c4 e=>k8 c o c1 (b5.extBut _ _ c2 (b4.extBut _ _ c4 (b3.extBut _ _ c2 (b2.extBut _ _ c3 (b1.extBut _ _ c1 e)))))
theorem amq{Q:Fin->Shared->Prop}(D1:Draws prog w A i1 p n1 P1 S1)(D2:Draws prog w A i2 q n2 P2 S2)(ap:Ap z TI TO i1 i2 p q)(hz:IsZip s.heap z TI TO .none)(hi:IsPair s.heap TI (.ref i1) (.ref i2))(ho:IsPair s.heap TO a b)
  (s1:S1 k s.heap) (s2:S2 k s.heap) (kk:k=n1\/(k<n1/\k=n2))
  (hE:∀ h' tk e,(∀ c o,c≠z->c≠TO->c≠i1->c≠i2->s.heap.get? c=some o->h'.get? c=some o)->(∃ o,h'.get? e=some o/\o.cls = .type "StopIteration")->E (.ref e) { s with heap:=h',toks:=tk }) :
  wpAny (model prog w) A (Builtin.«zip.__next__» ⟨[.ref z],[]⟩) Q E s:=by
 have ni1:i1≠z:=λe=>ap.z1 (e ▸ ap.m1);have ni2:i2≠z:=λe=>ap.z2 (e ▸ ap.m2);have no1:TO≠i1:=λe=>ap.o1 (e ▸ ap.m1);have stop:∀ {h:Heap} {e:Addr},(∃ o,h.get? e=some o/\o.cls = .type "StopIteration")->IsZip h z TI TO .ellipsis->e≠z:=λ{h e} ⟨o,eo,ec⟩ zz y=>by
  subst y;rw [zz] at eo;cases eo;simp at ec
 refine af5 hz hi ho ap.oz λh1 z1 b1=>?_
 rcases kk with rfl | ⟨k1,rfl⟩
 ·refine D1.done _ _ _ (far (D:=D1) b1 ap.z1 s1) λh2 e x2 st=>?_;have z2:IsZip h2 z TI TO .ellipsis:=x2 _ _ ni1.symm z1;have ne:=stop st z2;obtain ⟨oe,f1,f2⟩:=st;refine wpAny_setField_rec z2 (Nat.succ_pos _) λh3 _ b3=>?_;exact hE h3 _ e (λc o c1 _ c3 _ y=>b3.extBut _ _ c1 (x2 _ _ c3 (b1.extBut _ _ c1 y))) ⟨oe,b3.extBut _ _ ne f1,f2⟩
 ·refine D1.item k _ _ _ k1 (far (D:=D1) b1 ap.z1 s1) λx h2 t2 px st2 b2=>?_;refine ⟨b2.extBut _ _ no1 (b1.extBut _ _ ap.oz ho),λh3 o3 b3=>?_⟩;refine D2.done _ _ _ (far (D:=D2) b3 ap.o2 (far (D:=D2) b2 ap.x1 (far (D:=D2) b1 ap.z2 s2))) λh4 e x4 st=>?_;have z4:IsZip h4 z TI TO .ellipsis:=x4 _ _ ni2.symm (b3.extBut _ _ ap.oz.symm (b2.extBut _ _ ni1.symm z1));have ne:=stop st z4;obtain ⟨oe,f1,f2⟩:=st;refine wpAny_setField_rec z4 (Nat.succ_pos _) λh5 _ b5=>?_;exact hE h5 _ e (λc o c1 c2 c3 c4 y=>b5.extBut _ _ c1 (x4 _ _ c4 (b3.extBut _ _ c2 (b2.extBut _ _ c3 (b1.extBut _ _ c1 y))))) ⟨oe,b5.extBut _ _ ne f1,f2⟩
theorem next_item{Q:Option Value->Shared->Prop}(D1:Draws prog w A.in1 i1 p n1 P1 S1)(D2:Draws prog w A.in1 i2 q n2 P2 S2)(ap:Ap z TI TO i1 i2 p q)(hz:IsZip s.heap z TI TO .none)(hi:IsPair s.heap TI (.ref i1) (.ref i2))(ho:IsPair s.heap TO a b)
  (s1:S1 k s.heap) (s2:S2 k s.heap) (k1:k<n1) (k2:k<n2)
  (hQ:∀ x y h' tk,P1 k x->P2 k y->IsZip h' z TI TO (rawInt s.heap.objs.size)->IsPair h' TO x y->S1 (k+1) h'->S2 (k+1) h'->IsPair h' s.heap.objs.size x y->h'.objs.size=s.heap.objs.size+1->
   (∀ c o,c≠z->c≠TO->c≠i1->c≠i2->s.heap.get? c=some o->h'.get? c=some o)->Q (some (.ref s.heap.objs.size)) { s with heap:=h',toks:=tk }):wpAny (model prog w) A (pyNext (.ref z)) Q E s:=by
 have ty:s.TypeIs (.ref z) "zip":=⟨_,hz,rfl⟩;rw [pyNext]
 apply wpAny_bind;apply wpAny_attempt
 apply wpAny_callSpecial?_slot (name:=Str.ofString "__next__") ty F.slot_zip_next
 apply wpAny_call_entry F.slot_zip_next ty F.entry_zip_next _ (F.args_zip_next_1 _)
 exact aih D1 D2 ap hz hi ho s1 s2 k1 k2 λx y h' tk c1 c2 c3 c4 c5 c6 c7 c8 c9=>wpAny_pure (hQ x y h' tk c1 c2 c3 c4 c5 c6 c7 c8 c9)
theorem next_end{Q:Option Value->Shared->Prop}(D1:Draws prog w A.in1 i1 p n1 P1 S1)(D2:Draws prog w A.in1 i2 q n2 P2 S2)(ap:Ap z TI TO i1 i2 p q)(hz:IsZip s.heap z TI TO .none)(hi:IsPair s.heap TI (.ref i1) (.ref i2))(ho:IsPair s.heap TO a b)
  (s1:S1 k s.heap) (s2:S2 k s.heap) (kk:k=n1\/(k<n1/\k=n2))
  (hQ:∀ h' tk,(∀ c o,c≠z->c≠TO->c≠i1->c≠i2->s.heap.get? c=some o->h'.get? c=some o)->Q none { s with heap:=h',toks:=tk }):wpAny (model prog w) A (pyNext (.ref z)) Q E s:=by
 have ty:s.TypeIs (.ref z) "zip":=⟨_,hz,rfl⟩;rw [pyNext]
 apply wpAny_bind;apply wpAny_attempt
 apply wpAny_callSpecial?_slot (name:=Str.ofString "__next__") ty F.slot_zip_next
 apply wpAny_call_entry F.slot_zip_next ty F.entry_zip_next _ (F.args_zip_next_1 _)
 refine amq D1 D2 ap hz hi ho s1 s2 kk λh' tk e kp ⟨o,f1,f2⟩=>?_;refine wpAny_bind (wpAny_isInstance (b:=true) (T := "StopIteration") ⟨o,f1,f2⟩ isSubtype_stop (wpAny_pure (hQ h' tk kp)))
end
end ZP
namespace ZP
open PySem PySem.Spec PySem.Builtin PySem.Builtin.SmallTypes L2
inductive Srk where
 | tup (a:Addr) | lst (a:Addr) | str (x:Str)
def Srk.v:Srk->V
 | .tup a=>.ref a
 | .lst a=>.ref a
 | .str x=>.str x
def its(H:Hp):Srk->Option (List V)
 | .tup a=>match H a with | some (.tup vs)=>some vs | _=>none
 | .lst a=>match H a with | some (.lst vs)=>some vs | some (.frz _ (.lst vs))=>some vs | _=>none
 | .str x=>some (a0e x)
def own(it:Addr)(t:Tok):Srk->Nat->Heap->Prop
 | .tup a,i,h=>h.IsTupleIter it a i
 | .lst a,i,h=>h.IsListIter it a i
 | .str x,i,h=>h.IsStrIter it (strIterType x) x t i
def iob(t:Tok):Srk->Obj
 | .tup a=>{ cls:=.type "tuple_iterator",data:=.fields #[.ref a, .int 0 0] }
 | .lst a=>{ cls:=.type "list_iterator",data:=.fields #[.ref a, .int 0 0] }
 | .str x=>{ cls:=.type (strIterType x),data:=.fields #[.str x t, .int 0 0] }
def val(t:Tok):Srk->Value
 | .tup a=>.ref a
 | .lst a=>.ref a
 | .str x=>.str x t
def cont(h:Heap):Srk->List Value->Prop
 | .tup a,us=>h.IsTuple a us.toArray
 | .lst a,us=>h.IsList a us.toArray
 | .str x,us=>True
theorem avw{it:Addr}{t:Tok}{k:Srk}{h:Heap}(e:h.get? it=some (iob t k)):own it t k 0 h:=by
 cases k with
 | tup a=>exact ⟨_,e,rfl,rfl⟩
 | lst a=>exact ⟨_,e,rfl,rfl⟩
 | str x=>exact ⟨_,e,rfl,rfl⟩
theorem a6z{it:Addr}{t:Tok}{k:Srk}{i:Nat}{h:Heap}(o:own it t k i h):∃ ob,h.get? it=some ob/\∀ v,ob.data≠.cell v:=by
 cases k with
 | tup a=>obtain ⟨ob,e,_,d⟩:=o;exact ⟨ob,e,λv z=>by rw [d] at z;cases z⟩
 | lst a=>obtain ⟨ob,e,_,d⟩:=o;exact ⟨ob,e,λv z=>by rw [d] at z;cases z⟩
 | str x=>obtain ⟨ob,e,_,d⟩:=o;exact ⟨ob,e,λv z=>by rw [d] at z;cases z⟩
theorem a3t{it:Addr}{t:Tok}{k:Srk}{i:Nat}{h h':Heap}(o:own it t k i h)(kk:∀ ob,h.get? it=some ob->h'.get? it=some ob):own it t k i h':=by
 cases k with
 | tup a=>obtain ⟨ob,e,r⟩:=o;exact ⟨ob,kk _ e,r⟩
 | lst a=>obtain ⟨ob,e,r⟩:=o;exact ⟨ob,kk _ e,r⟩
 | str x=>obtain ⟨ob,e,r⟩:=o;exact ⟨ob,kk _ e,r⟩
section
variable{P:Program}{w:World}{H:Hp}{s:Shared}
theorem a70{X:Cx}{pins:List (Addr × Obj)}{σ:St}(I:Inv X pins σ H s){k:Srk}{xs:List V}(e:its H k=some xs):∃ us,cont s.heap k us/\((∀ x,k≠.str x)->Vals xs us):=by
 cases k with
 | tup a =>
  cases q:H a with
  | none=>simp [its,q] at e
  | some o =>
   cases o with
   | tup vs =>
    simp [its,q] at e;subst e
    obtain ⟨us,r,t,_⟩:=I.tuple (SqT.of q);exact ⟨us,t,λ_=>r⟩
   | _=>simp [its,q] at e
 | lst a =>
  cases q:H a with
  | none=>simp [its,q] at e
  | some o =>
   cases o with
   | lst vs =>
    simp [its,q] at e;subst e
    obtain ⟨us,r,t,_⟩:=I.list (SqL.of q);exact ⟨us,t.isList,λ_=>r⟩
   | frz ob u =>
    cases u with
    | lst vs =>
     simp [its,q] at e;subst e
     obtain ⟨us,r,t,_⟩:=I.list (.inl (.inr ⟨_,q⟩));exact ⟨us,t.isList,λ_=>r⟩
    | _=>simp [its,q] at e
   | _=>simp [its,q] at e
 | str x=>exact ⟨[],True.intro,λn=>absurd rfl (n x)⟩
theorem a71{X:Cx}{pins:List (Addr × Obj)}{σ:St}(I:Inv X pins σ H s){k:Srk}{xs:List V}{it:Addr}{t:Tok}(e:its H k=some xs)(hn:H it=none) :
  ∃ (cs:List Addr) (P1:Nat->Value->Prop) (S1:Nat->Heap->Prop),(∀ A:Around,A.handled=none->Draws X.prog X.w A it (it::cs) xs.length P1 S1)/\(∀ i,own it t k i s.heap->S1 i s.heap)/\(∀ i h,S1 i h->own it t k i h)/\(∀ c∈cs,H c≠none) /\
   ∀ i v,P1 i v->∃ x,xs[i]? = some x/\RelV x v:=by
 cases k with
 | tup a =>
  obtain ⟨us,c,r⟩:=a70 I e;have r:=r (by intro x z;cases z)
  have ha:H a≠none:=λz=>by simp [its,z] at e
  have l:us.toArray.size=xs.length:=by rw [List.size_toArray,r.length]
  refine ⟨[a],λi v=>us.toArray[i]? = some v,λi h=>h.IsTupleIter it a i/\h.IsTuple a us.toArray,λA hA=>?_,λi o=>⟨o,c⟩,λi h z=>z.1,λc hc=>by rw [List.mem_singleton.mp hc];exact ha,λi v z=>?_⟩
  ·have:=af4 (prog:=X.prog) (w:=X.w) hA it a (λy=>ha (y ▸ hn)) us.toArray
   rw [l] at this;exact this
  ·have z':us[i]? = some v:=by simpa using z
   have hi:i<xs.length:=by rw [r.length];exact (List.getElem?_eq_some_iff.mp z').1
   obtain ⟨u,e1,e2⟩:=r.get (List.getElem?_eq_getElem hi);rw [z'] at e1;cases e1
   exact ⟨_,List.getElem?_eq_getElem hi,e2⟩
 | lst a =>
  obtain ⟨us,c,r⟩:=a70 I e;have r:=r (by intro x z;cases z)
  have ha:H a≠none:=λz=>by simp [its,z] at e
  have l:us.toArray.size=xs.length:=by rw [List.size_toArray,r.length]
  refine ⟨[a],λi v=>us.toArray[i]? = some v,λi h=>h.IsListIter it a i/\h.IsList a us.toArray,λA hA=>?_,λi o=>⟨o,c⟩,λi h z=>z.1,λc hc=>by rw [List.mem_singleton.mp hc];exact ha,λi v z=>?_⟩
  ·have:=Draws.list (prog:=X.prog) (w:=X.w) hA it a (λy=>ha (y ▸ hn)) us.toArray
   rw [l] at this;exact this
  ·have z':us[i]? = some v:=by simpa using z
   have hi:i<xs.length:=by rw [r.length];exact (List.getElem?_eq_some_iff.mp z').1
   obtain ⟨u,e1,e2⟩:=r.get (List.getElem?_eq_getElem hi);rw [z'] at e1;cases e1
   exact ⟨_,List.getElem?_eq_getElem hi,e2⟩
 | str x =>
  cases e
  have l:(a0e x).length=x.cps.size:=by simp [a0e]
  refine ⟨[],λi v=>∃ c u,x.cps[i]? = some c/\v = .str ⟨#[c]⟩ u,λi h=>h.IsStrIter it (strIterType x) x t i,λA hA=>?_,λi o=>o,λi h z=>z,λc hc=>(by cases hc),λi v z=>?_⟩
  ·rw [l]
   cases ha:x.cps.all (· < 128)
   ·have:=Draws.strWide (prog:=X.prog) (w:=X.w) hA it x t
    simpa [strIterType,ha] using this
   ·have:=Draws.strAscii (prog:=X.prog) (w:=X.w) hA it x t
    simpa [strIterType,ha] using this
  ·obtain ⟨c,u,e1,rfl⟩:=z;exact ⟨.str ⟨#[c]⟩,by simp [a0e,e1],⟨_,rfl⟩⟩
end
def ItZ(k1 k2:Srk):It where
 go:=λi H=>∃ xs ys x y,its H k1=some xs/\its H k2=some ys/\xs[i]? = some x/\ys[i]? = some y
 yld:=λi H v H'=>∃ xs ys x y p,its H k1=some xs/\its H k2=some ys/\xs[i]? = some x/\ys[i]? = some y/\H p=none/\v = .ref p/\H'=upd H p (.tup [x,y])
 stop:=λi H=>∃ xs ys,its H k1=some xs/\its H k2=some ys/\(i=xs.length\/(i<xs.length/\i=ys.length))
def tnZ(z TI TO i1 i2:Addr)(t1 t2:Tok)(k1 k2:Srk)(i:Nat)(h:Heap):Prop :=
 IsZip h z TI TO .none/\IsPair h TI (.ref i1) (.ref i2)/\(∃ a b,IsPair h TO a b)/\own i1 t1 k1 i h/\own i2 t2 k2 i h
structure Far (z TI TO i1 i2:Addr):Prop where
 a:TI≠z
 b:TO≠z
 c:i1≠z
 d:i2≠z
 e:TI≠TO
 f:TI≠i1
 g:TI≠i2
 h:TO≠i1
 i:TO≠i2
 j:i1≠i2
theorem af6{X:Cx}{pins:List (Addr × Obj)}{σ:St}{H:Hp}{s:Shared}{h':Heap}{t':Nat}{ch:List Addr}(I:Inv X pins σ H s)(hf:∀ b∈ch,FpOk X pins H b)(k:∀ b o,b ∉ ch->s.heap.get? b=some o->h'.get? b=some o) :
  Inv X pins σ H { s with heap:=h',toks:=t' }:=by
 have nit:∀ b u,H b=some u->b ∉ ch:=λb u e z=>by rw [(hf b z).1] at e;cases e
 refine I.step (g':=s.gens) (d':=s.drawn) (ch:=ch) (λb hb=>?_) (λb o _ _ hc e _=>k b o hc e) (λb o _ _ hc e _=>⟨o.slots,k b o hc e⟩) (λ_ _ _ _ n=>n) (λb o hc e=>⟨o,k b o hc e⟩) (λ_ _ e=>e) (λ_ _ _ e=>e)
  (λb ps e=>⟨#[],by rw [e];simp⟩) (λm hm=>?_) (λb u e=>?_) I.bare
 ·obtain ⟨_,f1,_,f3,f4,f5⟩:=hf b hb;exact ⟨f3,f1,f4,f5⟩
 ·obtain ⟨o,es,ep,ho,r⟩:=hm;exact ⟨o,es,ep,k _ o (λz=>(hf _ z).2.1 rfl) ho,r⟩
 ·refine (I.hok b u e).stay (λc v hc q=>k c v ?_ q) (λ_ q=>q) λ_ _ q=>q
  rcases hc with z | z
  ·rw [z];exact nit b u e
  ·exact nit c _ z
theorem aii{P:Program}{w:World}{K:PySem.W.Frag}{elts:List Expr}{x1:Nat}{pos:Pos}{z TI TO i1 i2:Addr}{t1 t2:Tok}{k1 k2:Srk}(f:Far z TI TO i1 i2):Turn P w K (.Tuple elts x1 pos) (ItZ k1 k2) [z,TI,TO,i1,i2] z (tnZ z TI TO i1 i2 t1 t2 k1 k2) where
 mem:=by simp
 obj:=λi h st b hb=>by
  obtain ⟨h1,h2,⟨a,b',h3⟩,h4,h5⟩:=st;simp only [List.mem_cons,List.not_mem_nil,or_false] at hb
  rcases hb with rfl | rfl | rfl | rfl | rfl
  ·exact ⟨_,h1,λv z=>(by cases z)⟩
  ·exact ⟨_,h2,λv z=>(by cases z)⟩
  ·exact ⟨_,h3,λv z=>(by cases z)⟩
  ·exact a6z h4
  ·exact a6z h5
 keep:=λi h h' st k=>by
  obtain ⟨h1,h2,⟨a,b',h3⟩,h4,h5⟩:=st;exact ⟨k z (by simp) _ h1,k TI (by simp) _ h2,⟨a,b',k TO (by simp) _ h3⟩,a3t h4 λob e=>k i1 (by simp) ob e,a3t h5 λob e=>k i2 (by simp) ob e⟩
 item:=by
  intro X hP hw hK hc i pins s σ H E I hf st hg
  subst hP hw hK;obtain ⟨xs,ys,x,y,e1,e2,g1,g2⟩:=hg;obtain ⟨h1,h2,⟨a,b,h3⟩,h4,h5⟩:=st;have n:∀ c∈[z,TI,TO,i1,i2],H c=none:=λc hc=>(hf c hc).1;obtain ⟨cs,P1,S1,D1,a1,b1,c1,d1⟩:=a71 I (t:=t1) e1 (n i1 (by simp))
  obtain ⟨ds,P2,S2,D2,a2,b2,c2,d2⟩:=a71 I (t:=t2) e2 (n i2 (by simp))
  have hd:=I.ok.hd hc;have out1:∀ c,H c=none->c ∉ cs:=λc e z=>c1 c z e;have out2:∀ c,H c=none->c ∉ ds:=λc e z=>c2 c z e;have ap:Ap z TI TO i1 i2 (i1::cs) (i2::ds):=⟨by simp,by simp,by simp [f.c.symm,out1 z (n z (by simp))],by simp [f.d.symm,out2 z (n z (by simp))],by simp [f.h,out1 TO (n TO (by simp))],by simp [f.i,out2 TO (n TO (by simp))],f.b,by simp [f.j,out2 i1 (n i1 (by simp))],by simp [f.j.symm,out1 i2 (n i2 (by simp))]⟩
  refine next_item (D1 X.A.in1 hd) (D2 X.A.in1 hd) ap h1 h2 h3 (a1 i h4) (a2 i h5) (List.getElem?_eq_some_iff.mp g1).1 (List.getElem?_eq_some_iff.mp g2).1 λu v h' tk pu pv z' to' s1' s2' pr sz kp=>?_;obtain ⟨x',q1,r1⟩:=d1 i u pu;obtain ⟨y',q2,r2⟩:=d2 i v pv;rw [g1] at q1;cases q1
  rw [g2] at q2;cases q2
  refine ⟨_,rfl,wpAny_letOwnedTupleGo_zip z' λh2' z2' sb=>?_⟩;have hp:H s.heap.objs.size=none:=I.hok.fresh (Nat.le_refl _);have lt:∀ c∈[z,TI,TO,i1,i2],c<s.heap.objs.size:=λc hc=>by
   simp only [List.mem_cons,List.not_mem_nil,or_false] at hc
   rcases hc with rfl | rfl | rfl | rfl | rfl
   ·exact Heap.lt_size h1
   ·exact Heap.lt_size h2
   ·exact Heap.lt_size h3
   ·obtain ⟨_,e,_⟩:=a6z h4;exact Heap.lt_size e
   ·obtain ⟨_,e,_⟩:=a6z h5;exact Heap.lt_size e
  have all:∀ c o,c ∉ [z,TI,TO,i1,i2]->s.heap.get? c=some o->h2'.get? c=some o:=λc o nc e=>by
   simp only [List.mem_cons,List.not_mem_nil,or_false,not_or] at nc;exact (sb.2 c nc.1).trans (kp c o nc.1 nc.2.2.1 nc.2.2.2.1 nc.2.2.2.2 e)
  have nT:∀ c∈[z,TI,TO,i1,i2],c≠s.heap.objs.size:=λc hc=>Nat.ne_of_lt (lt c hc);have I0:Inv X pins σ (upd H s.heap.objs.size (.tup [x,y])) { s with heap:=s.heap.push { cls:=.type "tuple",data:=.seq #[u,v] } } :=
   I.laid (t':=s.toks) (o:=.tup [x,y]) (λb o e=>Heap.get?_push_of_some _ e) (Nat.le_refl _) ⟨by show 2<=sizeLine;decide,[u,v], .cons r1 (.cons r2 .nil),⟨_,Heap.get?_push_size _ rfl,rfl,_,rfl⟩⟩
  have I1:Inv X pins σ (upd H s.heap.objs.size (.tup [x,y])) { s with heap:=h2',toks:=tk }:=by
   refine af6 (s:={ s with heap:=s.heap.push { cls:=.type "tuple",data:=.seq #[u,v] } }) (ch:=[z,TI,TO,i1,i2]) I0 (λb hb=>?_) λc o nc e=>?_
   ·obtain ⟨f0,f1⟩:=hf b hb;exact ⟨by rw [j9 (nT b hb)];exact f0,f1⟩
   ·rcases Heap.get?_push_cases e with ⟨rfl,rfl⟩ | e
    ·exact (sb.2 _ (nT z (by simp)).symm).trans pr
    ·exact all c o nc e
  refine ⟨.ref s.heap.objs.size,_,I1,rfl,⟨xs,ys,x,y,_,e1,e2,g1,g2,hp,rfl,rfl⟩,⟨z2',?_,⟨u,v,(sb.2 _ f.b).trans to'⟩,a3t (b1 _ _ s1') λob e=>(sb.2 _ f.c).trans e,a3t (b2 _ _ s2') λob e=>(sb.2 _ f.d).trans e⟩,λb hb=>?_⟩
  ·exact (sb.2 _ f.a).trans (kp TI _ f.a f.e f.f f.g h2)
  ·rw [j9 (nT b hb)];exact n b hb
 done:=by
  intro X hP hw hK hc i pins s σ H E I hf st hg
  subst hP hw hK;obtain ⟨xs,ys,e1,e2,g⟩:=hg;obtain ⟨h1,h2,⟨a,b,h3⟩,h4,h5⟩:=st;have n:∀ c∈[z,TI,TO,i1,i2],H c=none:=λc hc=>(hf c hc).1;obtain ⟨cs,P1,S1,D1,a1,b1,c1,d1⟩:=a71 I (t:=t1) e1 (n i1 (by simp))
  obtain ⟨ds,P2,S2,D2,a2,b2,c2,d2⟩:=a71 I (t:=t2) e2 (n i2 (by simp))
  have hd:=I.ok.hd hc;have out1:∀ c,H c=none->c ∉ cs:=λc e z=>c1 c z e;have out2:∀ c,H c=none->c ∉ ds:=λc e z=>c2 c z e;have ap:Ap z TI TO i1 i2 (i1::cs) (i2::ds):=⟨by simp,by simp,by simp [f.c.symm,out1 z (n z (by simp))],by simp [f.d.symm,out2 z (n z (by simp))],by simp [f.h,out1 TO (n TO (by simp))],by simp [f.i,out2 TO (n TO (by simp))],f.b,by simp [f.j,out2 i1 (n i1 (by simp))],by simp [f.j.symm,out1 i2 (n i2 (by simp))]⟩
  refine next_end (D1 X.A.in1 hd) (D2 X.A.in1 hd) ap h1 h2 h3 (a1 i h4) (a2 i h5) g λh' tk kp=>⟨rfl,af6 I hf λc o nc e=>?_⟩;simp only [List.mem_cons,List.not_mem_nil,or_false,not_or] at nc;exact kp c o nc.1 nc.2.2.1 nc.2.2.2.1 nc.2.2.2.2 e
 self:=λ_ _ _ _ _ st h=>wpAny_pyIter_zip st.1 h
theorem af7{h:Heap}{k:Srk}{us:List Value}(c:cont h k us)(o:Obj):cont (h.push o) k us:=by
 cases k with
 | tup a=>obtain ⟨ob,e,r⟩:=c;exact ⟨ob,Heap.get?_push_of_some _ e,r⟩
 | lst a=>obtain ⟨ob,e,r⟩:=c;exact ⟨ob,Heap.get?_push_of_some _ e,r⟩
 | str x=>trivial
theorem ab4{prog:Program}{w:World}{A:Around}{E:Value->Shared->Prop}{s:Shared}{k:Srk}{t:Tok}{us:List Value}{Q:Value->Shared->Prop}(c:cont s.heap k us)(q:Q (.ref s.heap.objs.size) { s with heap:=s.heap.push (iob t k) }) :
  wpAny (model prog w) A (pyIter (val t k)) Q E s:=by
 cases k with
 | tup a=>exact wpAny_pyIter_tuple c q
 | lst a=>exact wpAny_pyIter_list c q
 | str x=>exact wpAny_pyIter_strU q
def mk2(h:Heap)(t1 t2:Tok)(k1 k2:Srk):Heap:=(h.push (iob t1 k1)).push (iob t2 k2)
def mk5(h:Heap)(t1 t2:Tok)(k1 k2:Srk):Heap :=
 (((mk2 h t1 t2 k1 k2).push { cls:=.type "tuple",data:=.seq #[.ref h.objs.size, .ref (h.objs.size+1)] }).push { cls:=.type "tuple",data:=.seq #[.none, .none] }).push
  { cls:=.type "zip",data:=.fields #[.none, .bool false, .bool false, .ref (h.objs.size+2), .ref (h.objs.size+3)] }
theorem aij(t1 t2:Tok)(k1 k2:Srk)(us1 us2:List Value):Meets (Builtin.«zip.__new__» ⟨[.type "zip",val t1 k1,val t2 k2],[]⟩)
  (λ_ R s=>cont s.heap k1 us1/\cont s.heap k2 us2/\R (.ok (.ret (.ref (s.heap.objs.size+4)))) { s with heap:=mk5 s.heap t1 t2 k1 k2 }) :=
 .of_wp λprog w A R s h=>by
  obtain ⟨hp,g,d,tk,os⟩:=s;obtain ⟨c1,c2,h⟩:=h;have sub:=sub_zip;have c1':cont (Shared.heap ⟨hp,g,d,tk,os⟩) k1 us1:=c1;have c2':cont (Shared.heap ⟨hp.push (iob t1 k1),g,d,tk,os⟩) k2 us2:=af7 c2 _
  wp_walk using ab4 (t:=t1) c1',ab4 (t:=t2) c2'
  refine ⟨_,rfl,?_⟩;simpa [mk5,mk2,Heap.size_push,ownedTupleFields,Nat.add_assoc] using h
theorem auo(n:Nat):Far (n+4) (n+2) (n+3) n (n+1):=by
 refine ⟨?_,?_,?_,?_,?_,?_,?_,?_,?_,?_⟩<;>(intro z;have z:(_:Nat)=_:=z;omega)
theorem awz(n b:Nat)(h:b∈[n+4,n+2,n+3,n,n+1]):n<=b:=by
 simp only [List.mem_cons,List.not_mem_nil,or_false] at h;omega
section
variable{X:Cx}{elts:List Expr}{x1:Nat}{tpos:Pos}
def ax0(ta:TA):TI:=λσ H R=>ta σ H λvs H1=>∃ k1 k2 xs ys,vs=[Srk.v k1,Srk.v k2]/\its H1 k1=some xs/\its H1 k2=some ys/\R (ItZ k1 k2) H1
theorem akt{k:Srk}{u:Value}(r:RelV k.v u):∃ t,u=val t k:=by
 cases k with
 | tup a=>cases r;exact ⟨0,rfl⟩
 | lst a=>cases r;exact ⟨0,rfl⟩
 | str x=>obtain ⟨t,rfl⟩:=r;exact ⟨t,rfl⟩
theorem aqn{e1 e2:Expr}{ta:TA}{p pos:Pos}(hg:Gl X "zip")(hm:X.mg "zip" = none)(hb:bootBuiltins "zip" = some (.type "zip"))(ha:PA X [e1,e2] ta)
  (h1:starEach [e1,e2] X.env=[(false,eval e1 X.env),(false,eval e2 X.env)]:=by rfl) (h2:starEach [e2] X.env=[(false,eval e2 X.env)]:=by rfl):PI X (.Tuple elts x1 tpos) (.Call (.Name "zip" p) [e1,e2] [] pos) (ax0 ta):=by
 intro pins s σ H R I h
 refine wpAny_Call_Name_kw (a4a I hg hm hb ?_ (by decide) (by decide))
 refine PyProof.Rows.callWith_type1 (thn (ha pos pins s σ H _ I h) λus s1 ⟨vs,H1,I1,r1,q1⟩=>?_) (by rw [h1,h2]) (by rw [h2];rfl)
 obtain ⟨k1,k2,xs,ys,rfl,e1,e2,q⟩:=q1;obtain ⟨v1,v2,rfl,rv1,rv2⟩:=vals2 r1;obtain ⟨t1,rfl⟩:=akt rv1;obtain ⟨t2,rfl⟩:=akt rv2;obtain ⟨us1,c1,_⟩:=a70 I1 e1;obtain ⟨us2,c2,_⟩:=a70 I1 e2;refine callType_new F.called_zip (by decide) (F.typeCall_zip_2 _ _) (F.newCall_zip_2 _ _) (λobj=>F.args_object_init_3 obj _ _) F.entry_zip_new (aij t1 t2 k1 k2 us1 us2) ⟨c1,c2,?_⟩
 have z2:(mk2 s1.heap t1 t2 k1 k2).objs.size=s1.heap.objs.size+2:=by simp [mk2,Heap.size_push]
 have at0:(mk5 s1.heap t1 t2 k1 k2).get? s1.heap.objs.size=some (iob t1 k1):=by
  unfold mk5 mk2;exact Heap.get?_push_of_some _ (Heap.get?_push_of_some _ (Heap.get?_push_of_some _ (Heap.get?_push_of_some _ (Heap.get?_push_size _ (by cases k1<;>rfl)))))
 have at1:(mk5 s1.heap t1 t2 k1 k2).get? (s1.heap.objs.size+1)=some (iob t2 k2):=by
  unfold mk5 mk2;have:=Heap.get?_push_size (o:=iob t2 k2) (s1.heap.push (iob t1 k1)) (by cases k2<;>rfl)
  rw [Heap.size_push] at this;exact Heap.get?_push_of_some _ (Heap.get?_push_of_some _ (Heap.get?_push_of_some _ this))
 have at2:IsPair (mk5 s1.heap t1 t2 k1 k2) (s1.heap.objs.size+2) (.ref s1.heap.objs.size) (.ref (s1.heap.objs.size+1)):=by
  unfold mk5;rw [<-z2];exact Heap.get?_push_of_some _ (Heap.get?_push_of_some _ (Heap.get?_push_size _ rfl))
 have at3:IsPair (mk5 s1.heap t1 t2 k1 k2) (s1.heap.objs.size+3) .none .none:=by
  unfold mk5;have:=Heap.get?_push_size (o:={ cls:=.type "tuple",data:=.seq #[.none, .none] }) ((mk2 s1.heap t1 t2 k1 k2).push { cls:=.type "tuple",data:=.seq #[.ref s1.heap.objs.size, .ref (s1.heap.objs.size+1)] }) rfl;rw [Heap.size_push,z2] at this;exact Heap.get?_push_of_some _ this
 have at4:IsZip (mk5 s1.heap t1 t2 k1 k2) (s1.heap.objs.size+4) (s1.heap.objs.size+2) (s1.heap.objs.size+3) .none:=by
  unfold mk5;have:=Heap.get?_push_size (o:={ cls:=.type "zip",data:=.fields #[.none, .bool false, .bool false, .ref (s1.heap.objs.size+2), .ref (s1.heap.objs.size+3)] }) (((mk2 s1.heap t1 t2 k1 k2).push { cls:=.type "tuple",data:=.seq #[.ref s1.heap.objs.size, .ref (s1.heap.objs.size+1)] }).push { cls:=.type "tuple",data:=.seq #[.none, .none] }) rfl;rw [Heap.size_push,Heap.size_push,z2] at this;exact this
 have keepA:∀ b o,s1.heap.get? b=some o->(mk5 s1.heap t1 t2 k1 k2).get? b=some o:=λb o e=>by
  unfold mk5 mk2;exact Heap.get?_push_of_some _ (Heap.get?_push_of_some _ (Heap.get?_push_of_some _ (Heap.get?_push_of_some _ (Heap.get?_push_of_some _ e))))
 have I2:Inv X pins σ H1 { s1 with heap:=mk5 s1.heap t1 t2 k1 k2 }:=I1.kept (t':=s1.toks) keepA
 refine ⟨⟨_,at4,rfl⟩,?_⟩;refine wpAny_pyIter_zip (s:={ s1 with heap:=mk5 s1.heap t1 t2 k1 k2 }) at4 ?_
 refine ⟨s1.heap.objs.size+4,[s1.heap.objs.size+4,s1.heap.objs.size+2,s1.heap.objs.size+3,s1.heap.objs.size,s1.heap.objs.size+1],tnZ _ _ _ _ _ t1 t2 k1 k2,ItZ k1 k2,H1,rfl,I2,aii (auo s1.heap.objs.size),
  ⟨at4,at2,⟨_,_,at3⟩,avw at0,avw at1⟩,λb hb=>?_,q⟩
 have:s1.heap.objs.size<=b:=awz _ b hb
 exact I1.fpOk this (I1.hok.fresh this)
end
end ZP
namespace MI
open PySem PySem.Spec L2 ZP
def srcOf(d:D)(h:Hd):Option (List D × (Hd->Prop)):=match d with
 | .tup xs=>some (xs,λ_=>True)
 | .rol xs=>some (xs,λ_=>True)
 | .str x=>some (a0l x,λ_=>True)
 | .ref i=>(match h[i]? with | some (.lst xs)=>some (xs,λh=>h[i]? = some (.lst xs)) | _=>none)
 | _=>none
def ati(x y:D)(h:Hd):R Itm:=match srcOf x h,srcOf y h with
 | some (xs,c1),some (ys,c2)=>.ok ⟨(xs.zip ys).map λp=>.tup [p.1,p.2],λh=>c1 h/\c2 h⟩ h
 | _,_=>.no
def a9v(f g:SE):SI:=λτ h=>(f τ h).bind λx h1=>(g τ h1).bind λy h2=>ati x y h2
theorem aku{K:PySem.W.Frag}{ι:List Addr}{H:Hp}{h:Hd}{v:V}{d:D}{xs:List D}{ck:Hd->Prop}(r:Rep K ι H v d)(hr:HRep K ι H h)(e:srcOf d h=some (xs,ck)) :
  ∃ k:Srk,v=k.v/\ck h/\∀ ι' H' h',Gr ι H ι' H'->HRep K ι' H' h'->ck h'->∃ vs,its H' k=some vs/\Reps K ι' H' vs xs:=by
 cases r with
 | @tup a vs ys ha rs =>
  cases e
  exact ⟨.tup a,rfl,True.intro,λι' H' h' g _ _=>⟨vs,by simp [its,g.tup _ _ ha],rs.mono g⟩⟩
 | @rol a vs ys ha rs =>
  cases e
  refine ⟨.lst a,rfl,True.intro,λι' H' h' g _ _=>⟨vs,?_,rs.mono g⟩⟩;obtain ⟨o,q⟩:=ha.mono g;simp [its,q]
 | str x =>
  cases e
  exact ⟨.str x,rfl,True.intro,λι' H' h' g _ _=>⟨_,rfl,a68 x⟩⟩
 | @ref a i ha =>
  obtain ⟨ob,e1,e2⟩:=hr.at ha
  cases ob with
  | lst zs =>
   simp only [srcOf,e1] at e;cases e
   refine ⟨.lst a,rfl,e1,λι' H' h' g hr' c=>?_⟩;obtain ⟨us,q1,q2⟩:=hr'.obj i a _ (g.at ha) c;exact ⟨us,by simp [its,q1],q2⟩
  | dK _=>simp only [srcOf,e1] at e;cases e
  | dT _=>simp only [srcOf,e1] at e;cases e
 | _=>cases e
theorem af8{X:Cx}{E:XD}{elts:List Expr}{x1:Nat}{tpos:Pos}{e1 e2:Expr}{f g:SE}{p pos:Pos}(hg:Gl X "zip")(hm:X.mg "zip" = none)(hb:bootBuiltins "zip" = some (.type "zip"))(ha:ME X E e1 f)(hb':ME X E e2 g)
  (h1:starEach [e1,e2] X.env=[(false,eval e1 X.env),(false,eval e2 X.env)]:=by rfl) (h2:starEach [e2] X.env=[(false,eval e2 X.env)]:=by rfl) :
  MI X E (.Tuple elts x1 tpos) (.Call (.Name "zip" p) [e1,e2] [] pos) (a9v f g):=by
 intro pins s σ H Rr I ⟨ι,τ,h,S,Rh,o⟩
 refine aqn hg hm hb (a00 ha (a00 hb' a3d (by rw [h2];rfl)) (by rw [h1,h2])) h1 h2 pins s σ H Rr I ?_
 refine ⟨ι,τ,h,S,Rh,gm o λd h1 ι1 H1 v g1 r1 hr1 o1=>?_⟩;refine ⟨ι1,τ,h1,S.mono g1,hr1,gm o1 λd2 h2 ι2 H2 u g2 r2 hr2 o2=>?_⟩;unfold ati at o2
 split at o2
 ·rename_i xs c1 ys c2 q1 q2;obtain ⟨k1,rfl,k1c,k1f⟩:=aku (r1.mono g2) hr2 q1;obtain ⟨k2,rfl,k2c,k2f⟩:=aku r2 hr2 q2;obtain ⟨vs1,w1,w2⟩:=k1f ι2 H2 h2 (.refl _ _) hr2 k1c;obtain ⟨vs2,w3,w4⟩:=k2f ι2 H2 h2 (.refl _ _) hr2 k2c;refine ⟨k1,k2,vs1,vs2,rfl,w1,w3,o2 ι2 H2 _ (.refl _ _) ?_ hr2⟩
  intro ι3 H3 h3 g3 hr3 c
  obtain ⟨us1,a1,a2⟩:=k1f ι3 H3 h3 g3 hr3 c.1;obtain ⟨us2,a3,a4⟩:=k2f ι3 H3 h3 g3 hr3 c.2;refine ⟨λi d ed=>?_,us1,us2,a1,a3,?_⟩
  ·simp only [List.getElem?_map,Option.map_eq_some_iff] at ed;obtain ⟨⟨x,y⟩,ez,rfl⟩:=ed;obtain ⟨ex,ey⟩:=List.getElem?_zip_eq_some.mp ez;obtain ⟨v1,b1,b2⟩:=a2.get ex;obtain ⟨v2,b3,b4⟩:=a4.get ey;refine ⟨⟨us1,us2,v1,v2,a1,a3,b1,b3⟩,λx H' yl=>?_⟩;obtain ⟨xs',ys',x',y',p,c1,c2,c3,c4,c5,rfl,rfl⟩:=yl;rw [a1] at c1;cases c1
   rw [a3] at c2;cases c2
   rw [b1] at c3;cases c3
   rw [b3] at c4;cases c4
   exact ⟨wy c5 _, .tup nj (.cons (b2.mono (wy c5 _)) (.cons (b4.mono (wy c5 _)) .nil)),hr3.aside c5 _⟩
  ·rw [List.length_map,List.length_zip,a2.len,a4.len];omega
 ·exact o2.elim
theorem af9:bootBuiltins "zip" = some (.type "zip"):=by first | exact PySem.boot_zip | exact PyProof.Rows.boot_zip | rfl
end MI
namespace MI
open PySem PySem.Spec L2
section
variable{P:Program}{w:World}{K:PySem.W.Frag}{mg:Str->Option Value}{base:Heap}
theorem afa{k:Nat}{f:Addr}{fd:FuncData}{ps:List Str}:FnOk P w K mg base CX0 k f fd ps (o6 K ps.length λ_ _=>.no) :=
 ⟨λvs H Q E h=>h.1,λA outer s H args us vs Q E hr he hb hv hs=>by obtain ⟨_,ι,ds,h,_,_,o⟩:=hs;exact o.elim⟩
end
def FrzOf(L:List Addr)(H H2:Hp):Prop:=∀ a,(a ∉ L->H2 a=H a)/\(a∈L->∃ o u,H a=some u/\H2 a=some (.frz o u))
def acy(H:Hp)(L:List Addr):Prop:=∀ a∈L,(∃ xs,H a=some (.lst xs))\/(∃ kvs,H a=some (.dK kvs))\/∃ kvs,H a=some (.dT kvs)
def still:HO->Prop
 | .lst _=>False | .dK _=>False | .dT _=>False
 | _=>True
theorem FrzOf.still{L:List Addr}{H H2:Hp}(f:FrzOf L H H2)(ab:acy H L){a:Addr}{u:HO}(e:H a=some u)(st:MI.still u):H2 a=some u:=by
 rw [(f a).1 λz=>?_]
 ·exact e
 ·rcases ab a z with ⟨_,q⟩ | ⟨_,q⟩ | ⟨_,q⟩<;>(rw [e] at q;cases q;exact st)
theorem Inv.frz{X:Cx}{pins:List (Addr × Obj)}{σ:St}{H:Hp}{s:Shared}{L:List Addr}(I:Inv X pins σ H s)(ab:acy H L):∃ H2,FrzOf L H H2/\Inv X pins σ H2 s:=by
 have obj:∀ a∈L,∀ u,H a=some u->∃ o,s.heap.get? a=some o:=λa ha u e=>by
  rcases ab a ha with ⟨_,q⟩ | ⟨_,q⟩ | ⟨_,q⟩
  ·obtain ⟨_,_,_,_,z⟩:=I.hok a _ q;exact ⟨_,z⟩
  ·obtain ⟨_,_,_,_,z⟩:=I.hok a _ q;obtain ⟨o,_,_,z,_⟩:=z;exact ⟨o,z⟩
  ·obtain ⟨_,_,_,_,o,_,_,z,_⟩:=I.hok a _ q;exact ⟨o,z⟩
 let H2:Hp:=λa=>if a∈L then (match s.heap.get? a,H a with | some o,some u=>some (.frz o u) | _,w=>w) else H a
 have f:FrzOf L H H2:=λa=>⟨λh=>by simp [H2,h],λh=>by
  obtain ⟨u,e⟩:∃ u,H a=some u:=by
   rcases ab a h with ⟨_,q⟩ | ⟨_,q⟩ | ⟨_,q⟩<;>exact ⟨_,q⟩
  obtain ⟨o,eo⟩:=obj a h u e;exact ⟨o,u,e,by simp [H2,h,e,eo]⟩⟩
 refine ⟨H2,f,?_⟩;have mv:∀ a u,ObjOk X.prog X.w H s.heap a u->ObjOk X.prog X.w H2 s.heap a u:=λa u x=>x.stay (λb v _ q=>q) (λc q=>f.still ab q True.intro) λc xs q=>f.still ab q True.intro;have ok:HOk X.prog X.w H2 s.heap:=λa u e=>by
  by_cases hl:a∈L
  ·obtain ⟨u0,e0⟩:∃ u,H a=some u:=by
    rcases ab a hl with ⟨_,q⟩ | ⟨_,q⟩ | ⟨_,q⟩<;>exact ⟨_,q⟩
   obtain ⟨o,eo⟩:=obj a hl u0 e0;have e':H2 a=some (.frz o u0):=by simp [H2,hl,e0,eo]
   rw [e'] at e;cases e
   exact ⟨eo,mv a u0 (I.hok a u0 e0)⟩
  ·rw [(f a).1 hl] at e;exact mv a u (I.hok a u e)
 have fn:∀ b,H b=none->H2 b=none:=λb n=>by
  rw [(f b).1 λz=>?_]
  ·exact n
  ·rcases ab b z with ⟨_,q⟩ | ⟨_,q⟩ | ⟨_,q⟩<;>(rw [n] at q;cases q)
 have un:Un X.fs [] H H2 s.heap s.heap:=⟨λb o q _ _ _=>q,λb o q _ _ _=>⟨o.slots,q⟩,λb o _ n _=>fn b n,λb o q _=>⟨o,q⟩,λb xs q=>f.still ab q True.intro,λb o u q=>f.still ab q True.intro,λb ps q=>⟨#[],by rw [f.still ab q True.intro];simp⟩⟩
 exact I.un (t':=s.toks) un ok
theorem afb{X:Cx}{e:Expr}{t:TE}(h:PE X e t):PE X e (λσ H Q=>t σ H λv H1=>∃ L,acy H1 L/\∀ H2,FrzOf L H1 H2->Q v H2):=λpins s σ H Q I q =>
 thn (h pins s σ H _ I q) λu s' ⟨v,H1,I1,r,L,ab,k⟩=>let ⟨H2,f,I2⟩:=Inv.frz I1 ab; ⟨v,H2,I2,r,k H2 f⟩
def za{α β:Type}(f:α->Option β):List α->Option (List β)
 | []=>some []
 | x::xs=>match f x,za f xs with | some y,some ys=>some (y::ys) | _,_=>none
open Classical in
noncomputable def a5p(n:Nat)(h:Hd):Nat->D->Option D
 | 0,_=>none
 | k+1,d=>if clo n d then some d else match d with
  | .tup xs=>(za (a5p n h k) xs).map .tup
  | .rol xs=>(za (a5p n h k) xs).map .rol
  | .scr xs=>(za (a5p n h k) xs).map .scr
  | .rod ks xs=>(za (a5p n h k) xs).map (.rod ks)
  | .rdT ks xs=>(za (a5p n h k) xs).map (.rdT ks)
  | .ref i=>match h[i]? with
   | some (.lst xs)=>(za (a5p n h k) xs).map .rol
   | some (.dK kvs)=>(za (a5p n h k) (kvs.map (·.2))).map (.rod (kvs.map (·.1)))
   | some (.dT kvs)=>(za (a5p n h k) (kvs.map (·.2))).map (.rdT (kvs.map (·.1)))
   | none=>none
  | _=>none
open Classical in
noncomputable def aqo(n:Nat)(h:Hd)(k:Nat)(o:O):Option O:=if qt n o then some o else match o with
 | .lst xs=>(za (a5p n h k) xs).map .lst
 | .dK kvs=>(za (a5p n h k) (kvs.map (·.2))).map λys=>.dK ((kvs.map (·.1)).zip ys)
 | .dT kvs=>(za (a5p n h k) (kvs.map (·.2))).map λys=>.dT ((kvs.map (·.1)).zip ys)
abbrev FU:Nat:=20
noncomputable def a72(n:Nat):R D->R D
 | .ok d h1=>match a5p n h1 FU d,za (aqo n h1 FU) (h1.take n) with | some d',some g=>.ok d' g | _,_=>.no
 | _=>.no
open Classical in
noncomputable def aok(n:Nat):R D->R D
 | .ok (.ref i) h1=>(match h1[i]? with
   | some o=>if n<=i/\qt n o/\∀ u∈h1.take n,qt n u then .ok (.ref n) (h1.take n++[o]) else .no
   | none=>.no)
 | _=>.no
section
variable{K:PySem.W.Frag}{ι ι':List Addr}{H H' H2:Hp}{h1:Hd}{n:Nat}{L:List Addr}
theorem ab5(f:FrzOf L H' H2)(ab:acy H' L)(κ:List Addr):Gw κ H' κ H2:=⟨⟨[],by simp⟩,λa vs e=>f.still ab e True.intro,λa o u e=>f.still ab e True.intro⟩
theorem p6{K:PySem.W.Frag}{ι κ:List Addr}{H H2:Hp}{f:D->Option D}(ih:∀ {v d d'},Rep K ι H v d->f d=some d'->Rep K κ H2 v d'):∀ {vs:List V} {ds ds':List D},Reps K ι H vs ds->za f ds=some ds'->Reps K κ H2 vs ds'
 | _,_,_, .nil,e=>by cases e;exact .nil
 | _,x::xs,_, .cons r rs,e=>by
  unfold za at e
  split at e
  ·rename_i y ys h1 h2;cases e
   exact .cons (ih r h1) (p6 ih rs h2)
  ·cases e
theorem a73(hr:HRep K ι' H' h1)(hL:∀ (i:Nat) a,ι'[i]? = some a->n<=i->a∈L)(f:FrzOf L H' H2)(ab:acy H' L):∀ (k:Nat) {v:V} {d d':D},Rep K ι' H' v d->a5p n h1 k d=some d'->Rep K (ι'.take n) H2 v d':=by
 intro k
 induction k with
 | zero=>intro v d d' r e;cases e
 | succ k ih =>
  intro v d d' r e
  unfold a5p at e
  split at e
  ·rename_i c;cases e
   exact (r.cut c).monoW (ab5 f ab _)
  ·rename_i c
   cases r with
   | tup h rs =>
    simp only [Option.map_eq_some_iff] at e;obtain ⟨ys,e1,rfl⟩:=e;exact .tup (f.still ab h True.intro) (p6 (λr e=>ih r e) rs e1)
   | rol h rs =>
    simp only [Option.map_eq_some_iff] at e;obtain ⟨ys,e1,rfl⟩:=e;exact .rol (h.monoW (ab5 f ab ι')) (p6 (λr e=>ih r e) rs e1)
   | scr h rs =>
    simp only [Option.map_eq_some_iff] at e;obtain ⟨ys,e1,rfl⟩:=e;exact .scr (h.monoW (ab5 f ab ι')) (p6 (λr e=>ih r e) rs e1)
   | rod h ek rs =>
    simp only [Option.map_eq_some_iff] at e;obtain ⟨ys,e1,rfl⟩:=e;exact .rod (f.still ab h True.intro) ek (p6 (λr e=>ih r e) rs e1)
   | rdT h ek rs =>
    simp only [Option.map_eq_some_iff] at e;obtain ⟨ys,e1,rfl⟩:=e;exact .rdT (f.still ab h True.intro) ek (p6 (λr e=>ih r e) rs e1)
   | @ref a i ha =>
    have hi:n<=i:=by
     simp only [clo] at c;omega
    obtain ⟨o,u,e1,e2⟩:=(f a).2 (hL i a ha hi);obtain ⟨ob,h3,h4⟩:=hr.at ha;simp only [h3] at e
    cases ob with
    | lst xs =>
     simp only [Option.map_eq_some_iff] at e;obtain ⟨ys,e3,rfl⟩:=e;obtain ⟨vs,h5,h6⟩:=h4;rw [e1] at h5;cases h5
     exact .rol ⟨o,e2⟩ (p6 (λr e=>ih r e) h6 e3)
    | dK kvs =>
     simp only [Option.map_eq_some_iff] at e;obtain ⟨ys,e3,rfl⟩:=e;obtain ⟨us,h5,h6,h7⟩:=h4;rw [e1] at h5;cases h5
     exact .rod e2 h6 (p6 (λr e=>ih r e) h7 e3)
    | dT kvs =>
     simp only [Option.map_eq_some_iff] at e;obtain ⟨ys,e3,rfl⟩:=e;obtain ⟨us,h5,h6,h7⟩:=h4;rw [e1] at h5;cases h5
     exact .rdT e2 h6 (p6 (λr e=>ih r e) h7 e3)
   | non=>simp only [clo,not_true_eq_false] at c
   | exc _ _ _=>simp only [clo,not_true_eq_false] at c
   | bl b=>simp only [clo,not_true_eq_false] at c
   | int b=>simp only [clo,not_true_eq_false] at c
   | str b=>simp only [clo,not_true_eq_false] at c
   | ty b=>simp only [clo,not_true_eq_false] at c
theorem ab6{κ:Type}{H:Hp}{us:List (κ × V)}{ks:List κ}{ys:List D}(e:us.map (·.1)=ks)(r:Reps K ι H (us.map (·.2)) ys):KRep K ι H us (ks.zip ys):=by
 have l:ks.length=ys.length:=by rw [<-e,List.length_map,<-r.len,List.length_map]
 refine ⟨?_,?_⟩
 ·rw [List.map_fst_zip (by omega)];exact e
 ·rw [List.map_snd_zip (by omega)];exact r
theorem amr(hr:HRep K ι' H' h1)(hL:∀ (i:Nat) a,ι'[i]? = some a->n<=i->a∈L)(f:FrzOf L H' H2)(ab:acy H' L){k:Nat}{a:Addr}{o o':O}(na:a ∉ L)(r:ORep K ι' H' a o)(e:aqo n h1 k o=some o'):ORep K (ι'.take n) H2 a o':=by
 have same:H2 a=H' a:=(f a).1 na;unfold aqo at e
 split at e
 ·rename_i c;cases e
  exact (r.cut c).monoW (ab5 f ab _) same
 ·cases o with
  | lst xs =>
   simp only [Option.map_eq_some_iff] at e;obtain ⟨ys,e1,rfl⟩:=e;obtain ⟨vs,h3,h4⟩:=r;exact ⟨vs,by rw [same];exact h3,p6 (λr e=>a73 hr hL f ab k r e) h4 e1⟩
  | dK kvs =>
   simp only [Option.map_eq_some_iff] at e;obtain ⟨ys,e1,rfl⟩:=e;obtain ⟨us,h3,h4,h5⟩:=r;exact ⟨us,by rw [same];exact h3,ab6 h4 (p6 (λr e=>a73 hr hL f ab k r e) h5 e1)⟩
  | dT kvs =>
   simp only [Option.map_eq_some_iff] at e;obtain ⟨ys,e1,rfl⟩:=e;obtain ⟨us,h3,h4,h5⟩:=r;exact ⟨us,by rw [same];exact h3,ab6 h4 (p6 (λr e=>a73 hr hL f ab k r e) h5 e1)⟩
theorem a0y{α β:Type}{f:α->Option β}:∀ {xs:List α} {ys:List β},za f xs=some ys->xs.length=ys.length/\∀ (i:Nat) y,ys[i]? = some y->∃ x,xs[i]? = some x/\f x=some y
 | [],_,e=>by cases e;exact ⟨rfl,λi y e=>by simp at e⟩
 | x::xs,ys,e=>by
  unfold za at e
  split at e
  ·rename_i y ys h1 h2;cases e
   obtain ⟨l,g⟩:=a0y h2;refine ⟨by simp [l],λi z e=>?_⟩
   cases i with
   | zero=>simp at e;subst e;exact ⟨x,rfl,h1⟩
   | succ i=>simpa using g i z (by simpa using e)
  ·cases e
theorem afc(hr:HRep K ι' H' h1)(M:List Addr)(hM:∀ a∈M,a∈ι'):acy H' M:=λa ha=>by
 obtain ⟨i,hi⟩:=List.getElem?_of_mem (hM a ha);obtain ⟨o,_,q⟩:=hr.at hi
 cases o with
 | lst xs=>obtain ⟨vs,h,_⟩:=q;exact .inl ⟨_,h⟩
 | dK xs=>obtain ⟨vs,h,_⟩:=q;exact .inr (.inl ⟨_,h⟩)
 | dT xs=>obtain ⟨vs,h,_⟩:=q;exact .inr (.inr ⟨_,h⟩)
theorem a4o{α:Type}{l:List α}(nd:l.Nodup){i j:Nat}{a:α}(h1:l[i]? = some a)(h2:l[j]? = some a):i=j:=by
 obtain ⟨l1,e1⟩:=List.getElem?_eq_some_iff.mp h1;obtain ⟨l2,e2⟩:=List.getElem?_eq_some_iff.mp h2
 rcases Nat.lt_trichotomy i j with l | l | l
 ·exact absurd (e1.trans e2.symm) (List.pairwise_iff_getElem.mp nd i j l1 l2 l)
 ·exact l
 ·exact absurd (e2.trans e1.symm) (List.pairwise_iff_getElem.mp nd j i l2 l1 l)
theorem aqp(g:Gr ι H ι' H')(f:FrzOf L H' H2)(ab:acy H' L)(hL:∀ a∈L,H a=none){m:List Addr}(hm:∀ a∈m,H a=none):Gr ι H (ι++m) H2:=by
 refine ⟨⟨m,rfl,hm⟩,λa vs e=>f.still ab (g.tup a vs e) True.intro,λa o u e=>f.still ab (g.frz a o u e) True.intro,λa u e hn=>?_,λa u e=>?_⟩
 ·rw [(f a).1 λz=>by rw [hL a z] at e;cases e]
  exact g.oth a u e hn
 ·obtain ⟨u',e'⟩:=g.kp a u e;rw [(f a).1 λz=>by rw [hL a z] at e;cases e]
  exact ⟨u',e'⟩
theorem afd{d d':D}{v:V}{g':Hd}(g:Gr ι H ι' H')(rb:Rep K ι' H' v d)(hr:HRep K ι' H' h1)(e:a72 ι.length (.ok d h1) = .ok d' g') :
  ∃ L,acy H' L/\∀ H2,FrzOf L H' H2->Gr ι H ι H2/\Rep K ι H2 v d'/\HRep K ι H2 g':=by
 obtain ⟨m,rfl,hm⟩:=g.pre;have tk:(ι++m).take ι.length=ι:=by simp
 have ab:acy H' m:=afc hr m λa ha=>List.mem_append_right _ ha;have hL:∀ (i:Nat) a,(ι++m)[i]? = some a->ι.length<=i->a∈m:=λi a e hi=>by
  rw [List.getElem?_append_right hi] at e;exact List.mem_of_getElem? e
 refine ⟨m,ab,λH2 f=>?_⟩;unfold a72 at e;simp only at e
 split at e
 ·rename_i dd gg e1 e2;cases e
  refine ⟨by simpa using aqp g f ab hm (m:=[]) (by simp),by have:=a73 hr hL f ab FU rb e1;rwa [tk] at this,?_⟩
  obtain ⟨l,gt⟩:=a0y e2;have hl:=hr.len;have ln:ι.length<=h1.length:=by rw [<-hl];simp
  refine ⟨(List.nodup_append.mp hr.nd).1,by rw [<-l,List.length_take];omega,λi a o q1 q2=>?_⟩
  obtain ⟨x,hx,fx⟩:=gt i o q2;have hi:i<ι.length:=(List.getElem?_eq_some_iff.mp q1).1;rw [List.getElem?_take,if_pos hi] at hx;have q3:(ι++m)[i]? = some a:=by rw [List.getElem?_append_left hi];exact q1
  have na:a ∉ m:=λz=>(List.nodup_append.mp hr.nd).2.2 a (List.mem_of_getElem? q1) a z rfl;have:=amr hr hL f ab na (hr.obj i a x q3 hx) fx
  rwa [tk] at this
 ·cases e
theorem aik{d d':D}{v:V}{g':Hd}(g:Gr ι H ι' H')(rb:Rep K ι' H' v d)(hr:HRep K ι' H' h1)(e:aok ι.length (.ok d h1) = .ok d' g') :
  ∃ b,H b=none/\Gr ι H (ι++[b]) H'/\Rep K (ι++[b]) H' v d'/\HRep K (ι++[b]) H' g':=by
 obtain ⟨m,rfl,hm⟩:=g.pre;have tk:(ι++m).take ι.length=ι:=by simp
 have up:∀ b,Gw ι H' (ι++[b]) H':=λb=>⟨⟨[b],rfl⟩,λ_ _ h=>h,λ_ _ _ h=>h⟩
 cases rb with
 | @ref b i hb =>
  unfold aok at e;simp only at e
  split at e
  ·rename_i ob ho
   split at e
   ·rename_i hc;obtain ⟨hi,c1,c2⟩:=hc;cases e
    have hb':=hb;rw [List.getElem?_append_right hi] at hb';have bm:b∈m:=List.mem_of_getElem? hb';obtain ⟨nd1,nd2,nd3⟩:=List.nodup_append.mp hr.nd;have hl:=hr.len;have ln:ι.length<=h1.length:=by rw [<-hl];simp
    have lt:(h1.take ι.length).length=ι.length:=by rw [List.length_take];omega
    refine ⟨b,hm b bm,⟨⟨[b],rfl,by simpa using hm b bm⟩,g.tup,g.frz,g.oth,g.kp⟩, .ref (by simp),?_⟩
    refine ⟨List.nodup_append.mpr ⟨nd1,by simp,λa ha c hc z=>nd3 a ha c (by rw [List.mem_singleton.mp hc];exact bm) z⟩,by simp [lt],λj a o q1 q2=>?_⟩
    by_cases hj:j<ι.length
    ·rw [List.getElem?_append_left hj] at q1;rw [List.getElem?_append_left (by omega)] at q2
     have q2':=q2;rw [List.getElem?_take,if_pos hj] at q2';have:=(hr.obj j a o (by rw [List.getElem?_append_left hj];exact q1) q2').cut (c2 o (List.mem_of_getElem? q2))
     rw [tk] at this;exact this.monoW (up b) rfl
    ·have hj2:j<(ι++[b]).length:=(List.getElem?_eq_some_iff.mp q1).1;have:j=ι.length:=by simp at hj2;omega
     subst this;rw [List.getElem?_append_right (Nat.le_refl _)] at q1;rw [List.getElem?_append_right (by omega),lt] at q2
     simp at q1 q2
     subst q1 q2;have:=(hr.obj i b ob hb ho).cut c1;rw [tk] at this;exact this.monoW (up b) rfl
   ·cases e
  ·cases e
 | _=>cases e
end
noncomputable def sZ(f:SE):SE:=λτ h=>a72 h.length (f τ h)
abbrev ax1(Q:VK):VK:=λv H1=>∃ L,acy H1 L/\∀ H2,FrzOf L H1 H2->Q v H2
theorem atj{K:PySem.W.Frag}{E:XD}{fa:SE}{σ:St}{H:Hp}{Q:VK}(q:lift K E (xx K) (sZ fa) σ H Q):lift K E (xx K) fa σ H (ax1 Q):=by
 obtain ⟨ι,τ,h,S,Rh,o⟩:=q;refine ⟨ι,τ,h,S,Rh,?_⟩;unfold sZ at o;rw [<-Rh.len] at o
 cases hf:fa τ h with
 | ok d h1 =>
  rw [hf] at o
  intro ι' H' v g r hr
  cases hz:a72 ι.length (.ok d h1) with
  | ok d' g' =>
   rw [hz] at o;obtain ⟨L,ab,k⟩:=afd g r hr hz;refine ⟨L,ab,λH2 f=>?_⟩;obtain ⟨k1,k2,k3⟩:=k H2 f;exact o ι H2 v k1 k2 k3
  | ex c hx=>unfold a72 at hz;simp only at hz;split at hz<;>cases hz
  | no=>rw [hz] at o;exact o.elim
 | ex c h1=>rw [hf] at o;exact o.elim
 | no=>rw [hf] at o;exact o.elim
theorem zx{X:Cx}{E:XD}{e:Expr}{fa:SE}(ha:ME X E e fa):ME X E e (sZ fa):=PE.weak (afb ha) λσ H Q q=>atj q
def refOf:D->Option Nat
 | .ref i=>some i
 | _=>none
def a0h(ds:List D):List Nat:=ds.filterMap refOf
def zb:Nat->List D->List D
 | _,[]=>[]
 | k,d::ds=>match d with
  | .ref _=>.ref k::zb (k+1) ds
  | d=>d::zb k ds
def u9:Hd->List Nat->List O->Hd
 | h,i::is,o::os=>u9 (h.set i o) is os
 | h,_,_=>h
def isRef(d:D):Prop:=∃ i,d = .ref i
open Classical in
noncomputable def aol(m:Bool)(F:SF)(ds:List D)(h:Hd):R D:=match za (λi=>h[i]?) (a0h ds) with
 | none=>.no
 | some os=>if (a0h ds).Nodup/\(∀ d∈ds,clo 0 d\/isRef d)/\(∀ o∈os,qt 0 o) then
   (match (if m then aok os.length (F (zb 0 ds) os) else a72 os.length (F (zb 0 ds) os)) with
   | .ok d h1=>if ∀ o∈h1,qt 0 o then
     (if m then .ok (.ref h.length) (u9 h (a0h ds) h1++h1.drop os.length)
      else if clo 0 d then .ok d (u9 h (a0h ds) h1) else .no) else .no
   | _=>.no)
  else .no
noncomputable def kh(m:Bool)(n:Nat)(F:SF):SF:=λds h=>if ds.length=n then aol m F ds h else .no
section
variable{K:PySem.W.Frag}{ι ι':List Addr}{H H' H2:Hp}{h h1:Hd}{n:Nat}
theorem akv(κ:List Addr):Gw [] H κ H:=⟨⟨κ,rfl⟩,λ_ _ h=>h,λ_ _ _ h=>h⟩
theorem Rep.any{v:V}{d:D}(r:Rep K ι H v d)(c:MI.clo 0 d)(κ:List Addr):Rep K κ H v d:=by
 have:=r.cut c
 rw [List.take_zero] at this;exact this.monoW (akv κ)
theorem ORep.any{a:Addr}{o:O}(r:ORep K ι H a o)(c:qt 0 o)(κ:List Addr):ORep K κ H a o:=by
 have:=r.cut c
 rw [List.take_zero] at this;exact this.monoW (akv κ) rfl
theorem a8r{α:Type}(l:List α):∀ {is:List Nat},(∀ i∈is,i<l.length)->∃ ys,za (λi=>l[i]?) is=some ys
 | [],_=>⟨[],rfl⟩
 | i::is,hi=>by
  obtain ⟨ys,e⟩:=a8r l (is:=is) λj hj=>hi j (List.mem_cons_of_mem _ hj);have:=hi i List.mem_cons_self;exact ⟨l[i]::ys,by unfold za;rw [e,List.getElem?_eq_getElem this]⟩
theorem a2r:∀ {ds:List D} {vs:List V} {pre κ:List Addr},Reps K ι H vs ds->(∀ d∈ds,clo 0 d\/isRef d)->za (λi=>ι[i]?) (a0h ds)=some κ->Reps K (pre++κ) H vs (zb pre.length ds)
 | [],_,_,_, .nil,_,_=>.nil
 | d::ds,_,pre,κ, .cons r rs,hc,e=>by
  have hc':∀ d∈ds,clo 0 d\/isRef d:=λx hx=>hc x (List.mem_cons_of_mem _ hx)
  by_cases hd:isRef d
  ·obtain ⟨i,rfl⟩:=hd;have e':za (λi=>ι[i]?) (i::a0h ds)=some κ:=e;unfold za at e'
   split at e'
   ·rename_i a κ' h1 h2
    cases e'
    cases r with
    | ref ha =>
     rw [ha] at h1;cases h1
     have:=a2r (pre:=pre++[a]) rs hc' h2
     simp only [List.append_assoc,List.singleton_append,List.length_append,List.length_singleton] at this;refine .cons (.ref ?_) this;rw [List.getElem?_append_right (Nat.le_refl _)];simp
   ·cases e'
  ·have c:=(hc d List.mem_cons_self).resolve_right hd;have e1:a0h (d::ds)=a0h ds:=by
    unfold a0h
    cases d<;>first | rfl | exact absurd ⟨_,rfl⟩ hd
   have e2:zb pre.length (d::ds)=d::zb pre.length ds:=by
    cases d<;>first | rfl | exact absurd ⟨_,rfl⟩ hd
   rw [e1] at e;rw [e2];exact .cons (r.any c _) (a2r rs hc' e)
theorem zc:∀ {is:List Nat} {os:List O} {h:Hd},(u9 h is os).length=h.length
 | [],_,_=>by simp [u9]
 | _::_,[],_=>by simp [u9]
 | i::is,o::os,h=>by rw [u9,zc,List.length_set]
theorem a2s{i:Nat}:∀ {is:List Nat} {os:List O} {h:Hd},i ∉ is->(u9 h is os)[i]? = h[i]?
 | [],_,_,_=>by simp [u9]
 | _::_,[],_,_=>by simp [u9]
 | j::is,o::os,h,n=>by
  rw [u9,a2s λz=>n (List.mem_cons_of_mem _ z),List.getElem?_set_ne λz=>n (by rw [z];exact List.mem_cons_self)]
theorem a8s{i:Nat}{o:O}:∀ {is:List Nat} {os:List O} {h:Hd} {j:Nat},is.Nodup->is[j]? = some i->os[j]? = some o->i<h.length->(u9 h is os)[i]? = some o
 | [],_,_,_,_,e,_,_=>by simp at e
 | _::_,[],_,_,_,_,e,_=>by simp at e
 | k::is,o'::os,h,j,nd,e1,e2,hl=>by
  cases j with
  | zero =>
   simp at e1 e2
   subst e1 e2;rw [u9,a2s (List.nodup_cons.mp nd).1,List.getElem?_set_self hl]
  | succ j =>
   rw [u9];exact a8s (j:=j) (List.nodup_cons.mp nd).2 (by simpa using e1) (by simpa using e2) (by simpa using hl)
theorem a8t{α:Type}{l:List α}(nl:l.Nodup){is:List Nat}{ys:List α}(e:za (λi=>l[i]?) is=some ys)(ni:is.Nodup):ys.Nodup:=by
 obtain ⟨le,g⟩:=a0y e;refine List.pairwise_iff_getElem.mpr λi j hi hj lt z=>?_;obtain ⟨x,h1,h2⟩:=g i _ (List.getElem?_eq_getElem hi);obtain ⟨y,h3,h4⟩:=g j _ (List.getElem?_eq_getElem hj);rw [<-z] at h4;have:=a4o nl h2 h4;subst this;have:=a4o ni h1 h3;omega
theorem ab7{is:List Nat}{κ m:List Addr}{g:Hd}(hr:HRep K ι H h)(e1:za (λi=>ι[i]?) is=some κ)(nd:is.Nodup)(gr:Gr κ H (κ++m) H2)(hg:HRep K (κ++m) H2 g)(cg:∀ o∈g,qt 0 o)(hm:m.length<=1) :
  Gr ι H (ι++m) H2/\HRep K (ι++m) H2 (u9 h is g++g.drop κ.length):=by
 obtain ⟨l1,g1⟩:=a0y e1;have mn:∀ a∈m,H a=none:=by
  obtain ⟨m',e,hm'⟩:=gr.pre;rw [List.append_cancel_left e];exact hm'
 have sub:∀ a∈κ,a∈ι:=λa ha=>by
  obtain ⟨j,hj⟩:=List.getElem?_of_mem ha;obtain ⟨i,_,q⟩:=g1 j a hj;exact List.mem_of_getElem? q
 have some_of:∀ a∈ι,∃ u,H a=some u:=λa ha=>by
  obtain ⟨i,hi⟩:=List.getElem?_of_mem ha;obtain ⟨o,_,q⟩:=hr.at hi;obtain ⟨u,q,_⟩:=q.some;exact ⟨u,q⟩
 have G:Gr ι H (ι++m) H2:=⟨⟨m,rfl,mn⟩,gr.tup,gr.frz,λa u e n=>gr.oth a u e λz=>n (sub a z),gr.kp⟩;have lg:=hg.len;rw [List.length_append] at lg;refine ⟨G,?_,?_,λj a o q1 q2=>?_⟩
 ·refine List.nodup_append.mpr ⟨hr.nd,(List.nodup_append.mp hg.nd).2.1,λa ha b hb z=>?_⟩;obtain ⟨u,q⟩:=some_of a ha;rw [z,mn b hb] at q;cases q
 ·rw [List.length_append,List.length_append,zc,List.length_drop,hr.len];omega
 ·by_cases hj:j<ι.length
  ·rw [List.getElem?_append_left hj] at q1;rw [List.getElem?_append_left (by rw [zc,<-hr.len];exact hj)] at q2
   by_cases hp:j∈is
   ·obtain ⟨k,hk⟩:=List.getElem?_of_mem hp;have hkl:k<κ.length:=by rw [<-l1];exact (List.getElem?_eq_some_iff.mp hk).1
    obtain ⟨i,h3,h4⟩:=g1 k _ (List.getElem?_eq_getElem hkl);rw [hk] at h3;cases h3
    rw [q1] at h4;have hkg:k<g.length:=by omega
    have e5:=a8s (h:=h) nd hk (List.getElem?_eq_getElem hkg) (by rw [<-hr.len];exact hj)
    rw [e5] at q2;cases q2
    have ea:(κ++m)[k]? = some a:=by rw [List.getElem?_append_left hkl,List.getElem?_eq_getElem hkl];exact h4.symm
    exact (hg.obj k a _ ea (List.getElem?_eq_getElem hkg)).any (cg _ (List.getElem_mem hkg)) _
   ·rw [a2s hp] at q2;have r:=hr.obj j a o q1 q2;obtain ⟨u,hu,_⟩:=r.some;have na:a ∉ κ:=λz=>by
     obtain ⟨k,hk⟩:=List.getElem?_of_mem z;obtain ⟨i,h3,h4⟩:=g1 k a hk;have:=a4o hr.nd q1 h4;subst this;exact hp (List.mem_of_getElem? h3)
    exact r.mono G (by rw [hu];exact gr.oth a u hu na)
  ·have q1':=q1;rw [List.getElem?_append_right (by omega)] at q1
   rw [List.getElem?_append_right (by rw [zc,<-hr.len];omega),zc,<-hr.len,List.getElem?_drop] at q2
   have ea:(κ++m)[κ.length+(j - ι.length)]? = some a:=by rw [List.getElem?_append_right (by omega)];simpa using q1
   exact (hg.obj _ a o ea q2).any (cg o (List.mem_of_getElem? q2)) _
theorem afe{m:Bool}{F:SF}{vs:List V}{ds:List D}{Q:VK}(r:Reps K ι H vs ds)(hr:HRep K ι H h)(o:out K X0 (xx K) ι H (kh m n F ds h) Q)(E:XK) :
  o6 K n F vs H (λv H1=>∃ L,acy H1 L/\∀ H2,FrzOf L H1 H2->Q v H2) E:=by
 unfold kh at o
 split at o
 ·rename_i hl;refine ⟨by rw [r.len];exact hl,?_⟩
  unfold aol at o
  split at o
  ·exact o.elim
  ·rename_i os hos
   split at o
   ·rename_i hc;obtain ⟨nd,hd,hcl⟩:=hc;obtain ⟨l0,g0⟩:=a0y hos;obtain ⟨κ,e1⟩:=a8r ι (is:=a0h ds) λi hi=>by
     obtain ⟨j,hj⟩:=List.getElem?_of_mem hi;have hjl:j<os.length:=by rw [<-l0];exact (List.getElem?_eq_some_iff.mp hj).1
     obtain ⟨x,h3,h4⟩:=g0 j _ (List.getElem?_eq_getElem hjl);rw [hj] at h3;cases h3
     rw [hr.len];exact (List.getElem?_eq_some_iff.mp h4).1
    obtain ⟨l1,g1⟩:=a0y e1;have lk:κ.length=os.length:=by omega
    have R0:Reps K κ H vs (zb 0 ds):=by simpa using a2r (pre:=[]) r hd e1
    have H0:HRep K κ H os:=by
     refine ⟨a8t hr.nd e1 nd,lk,λj a ob q1 q2=>?_⟩;obtain ⟨i,h3,h4⟩:=g1 j a q1;obtain ⟨i',h5,h6⟩:=g0 j ob q2;rw [h3] at h5;cases h5
     exact (hr.obj i a ob h4 h6).any (hcl ob (List.mem_of_getElem? q2)) _
    refine ⟨κ,zb 0 ds,os,R0,H0,?_⟩
    cases hF:F (zb 0 ds) os with
    | no=>rw [hF] at o;cases m<;>exact o.elim
    | ex c hx=>rw [hF] at o;cases m<;>exact o.elim
    | ok d h1 =>
     rw [hF] at o
     intro ι' H' v g rb hr1
     rw [<-lk] at o
     cases m with
     | false =>
      simp only [Bool.false_eq_true,if_false] at o
      cases hz:a72 κ.length (.ok d h1) with
      | ok d' g' =>
       rw [hz] at o;simp only at o;obtain ⟨L,ab,k⟩:=afd g rb hr1 hz;refine ⟨L,ab,λH2 f=>?_⟩;obtain ⟨k1,k2,k3⟩:=k H2 f
       split at o
       ·rename_i cg
        split at o
        ·rename_i cd;have q:=ab7 (m:=[]) hr e1 nd (by simpa using k1) (by simpa using k3) cg (by simp)
         have lg:=k3.len;have dr:g'.drop κ.length=[]:=List.drop_eq_nil_of_le (by omega)
         rw [dr,List.append_nil,List.append_nil] at q;exact o ι H2 v q.1 (k2.any cd _) q.2
        ·exact o.elim
       ·exact o.elim
      | ex c hx=>rw [hz] at o;exact o.elim
      | no=>rw [hz] at o;exact o.elim
     | true =>
      simp only [if_true] at o
      cases hz:aok κ.length (.ok d h1) with
      | ok d' g' =>
       rw [hz] at o;simp only at o;obtain ⟨b,hb,k1,k2,k3⟩:=aik g rb hr1 hz;refine ⟨[],λa ha=>(by simp at ha),λH2 f=>?_⟩
       have e2:H2=H':=by funext a;exact (f a).1 (by simp)
       subst e2
       split at o
       ·rename_i cg;have q:=ab7 (m:=[b]) hr e1 nd k1 k3 cg (by simp)
        refine o (ι++[b]) H2 v q.1 ?_ q.2;have hd':d' = .ref κ.length:=by
         unfold aok at hz
         split at hz
         ·rename_i i h2 hh
          injection hh with z1 z2
          split at hz
          ·split at hz
           ·injection hz with z3 z4;exact z3.symm
           ·cases hz
          ·cases hz
         ·cases hz
        subst hd'
        cases k2 with
        | ref hk =>
         rw [List.getElem?_append_right (Nat.le_refl _)] at hk;simp at hk;subst hk;exact .ref (by rw [<-hr.len];simp)
       ·exact o.elim
      | ex c hx=>rw [hz] at o;exact o.elim
      | no=>rw [hz] at o;exact o.elim
   ·exact o.elim
 ·exact o.elim
end
theorem bj(m:Bool){X:Cx}{k n:Nat}{f:Addr}{fd:FuncData}{ps:List Str}{x:Str}{F:SF}{ka:SA}{e:Expr}{es:List Expr}{p pos:Pos}(G:Dn X.prog X.w X.K X.mg X.base k x ps (o6 X.K n F) f fd)(hr:Room k X.A)(hg:Gl X x)(ha:MA X X0 (e::es) ka)
  (hdb:(x == ("__debug__" : Str))=false:=by decide) (he:starEach (e::es) X.env=(false,eval e X.env)::starEach es X.env:=by rfl) (hpl:(backTo pos (starEach es X.env)).any (·.1)=false:=by rfl):ME X X0 (.Call (.Name x p) (e::es) [] pos) (sA (kh m n F) ka):=by
 refine PE.weak (afb (alv G.ok hr hg G.m G.kp G.b .nil apt ha hdb he hpl)) λσ H Q ⟨ι,τ,h,S,Rh,o⟩=>?_;refine ⟨ι,τ,h,S,Rh,gm o λds h1 ι1 H1 vs g1 r1 hr1 o1=>?_⟩;rw [List.append_nil];exact afe r1 hr1 o1 _
theorem afg(m:Bool){X:Cx}{k n:Nat}{f:Addr}{fd:FuncData}{ps:List Str}{x:Str}{F:SF}{p pos:Pos}(G:Dn X.prog X.w X.K X.mg X.base k x ps (o6 X.K n F) f fd)(hr:Room k X.A)(hg:Gl X x)(hdb:(x == ("__debug__" : Str))=false:=by decide) :
  ME X X0 (.Call (.Name x p) [] [] pos) (sA (kh m n F) dh):=by
 refine PE.weak (afb (ahy G.ok hr hg G.m G.kp G.b .nil apt hdb)) λσ H Q ⟨ι,τ,h,S,Rh,o⟩=>?_;exact afe (vs:=[]) .nil Rh o E0
def sNo:SE:=λ_ _=>.no
def ail:SS:=λ_ _=>.no
section
variable{X:Cx}{E:XD}
theorem aup{e:Expr}:ME X E e sNo:=λ_ _ _ _ _ _ ⟨_,_,_,_,_,o⟩=>o.elim
theorem a4p{st:List Stmt}:MSs X E st ail:=λ_ _ _ _ _ _ ⟨_,_,_,_,_,o⟩=>o.elim
end
theorem afh{X:Cx}{st:Stmt}{t:TS}(h:PS X st t):PS X st (λD σ H=>t { D with nx:=λσ' H1=>∃ L,acy H1 L/\∀ H2,FrzOf L H1 H2->D.nx σ' H2 } σ H):=λpins s σ H D I q =>
 thn (h pins s σ H _ I q) λf s' k=>by
  cases f with
  | next =>
   obtain ⟨σ',H1,I1,L,ab,k⟩:=k;obtain ⟨H2,f,I2⟩:=Inv.frz I1 ab;exact ⟨σ',H2,I2,k H2 f⟩
  | brk=>exact k
  | cont=>exact k
  | ret u=>exact k
theorem ab8{K:PySem.W.Frag}{E:XD}{f:SE}{i:Nat}{N:Ends}{σ:St}{H:Hp}(q:a6t K E (mq i f) N σ H):lift K E (xx K) f σ H (λv H1=>N.nx (σ.set i (some v)) H1):=by
 obtain ⟨ι,τ,h,S,Rh,o⟩:=q;exact ⟨ι,τ,h,S,Rh,a0j o λd h1 ι1 H1 v g1 r1 hr1 o1=>o1 ι1 H1 _ (.refl _ _) ((S.mono g1).set r1 i) hr1⟩
theorem a9w{K:PySem.W.Frag}{E:XD}{fi:SI}{t:D->Option Sd}{fe:SE}{ix:List Nat}{n:Nat}{g:TG}{σ:St}{H:Hp}{Q:VK}(ht:aet K n g t)(q:lift K E (xx K) (m8 fi t fe ix) σ H Q):acn (lift K E (aq1 K) fi) (jz n ix) g (lift K E (xx K) fe) σ H Q:=by
 obtain ⟨ι,τ,h,Sr,Rh,o⟩:=q;refine ⟨ι,τ,h,Sr,Rh,gm o λit h1 ι1 H1 J g1 r1 hr1 o1=>?_⟩
 by_cases hl:it.xs.length<=LINE
 ·rw [if_pos hl] at o1;exact ab0 r1 ht (a3r (Sr.mono g1) ix) hr1 hl o1
 ·rw [if_neg hl] at o1;exact o1.elim
theorem aim{K:PySem.W.Frag}{E:XD}{fi:SI}{t:D->Option Sd}{fc:ST}{fe:SE}{ix:List Nat}{n:Nat}{g:TG}{σ:St}{H:Hp}{Q:VK}(ht:aet K n g t)(q:lift K E (xx K) (a66 fi t fc fe ix) σ H Q):a9o (lift K E (aq1 K) fi) (jz n ix) g (lift K E am7 fc) (lift K E (xx K) fe) σ H Q:=by
 obtain ⟨ι,τ,h,Sr,Rh,o⟩:=q;refine ⟨ι,τ,h,Sr,Rh,gm o λit h1 ι1 H1 J g1 r1 hr1 o1=>?_⟩
 by_cases hl:it.xs.length<=LINE
 ·rw [if_pos hl] at o1;exact aew r1 ht (a3r (Sr.mono g1) ix) hr1 hl o1
 ·rw [if_neg hl] at o1;exact o1.elim
section
variable{X:Cx}{E:XD}{elt tg iter cnd:Expr}{scope:Scope}{pos spos pos':Pos}{cl:List (Str × Addr)}{ts fr:List Str}{ix:List Nat}{fi:SI}{g:TG}{t:D->Option Sd}{fe:SE}{fc:ST}{i:Nat}{x:Str}
theorem ams(hN:X.N.Nodup)(hi':X.N[i]? = some x)(hx:Loc X.env.scope x)(hc:X.calm=true)(S:CSc X scope cl ts fr ix)(hi:MI X E tg iter fi)(hg:∀ C fp s H,PG (cxC X (ts++fr) scope cl C fp s H) tg g)(ht:aet X.K ts.length g t)(he:∀ C fp s H,ME (cxC X (ts++fr) scope cl C fp s H) E elt fe)
  (hs:∀ x,foldedSetIterable iter X.env x=pure x:=by intro _;rfl) (hsw:swapsWith (.ListComp elt [⟨tg,iter,[],0⟩] scope pos) (some (.Name x pos')) spos.line X.env=pure true:=by rfl) (hf:X.fn x=true\/X.env.scope.names.lookup x=some .local:=by first | exact .inl rfl | exact .inr rfl | assumption) :
  MS X E (.Assign [.Name x pos'] (.ListComp elt [⟨tg,iter,[],0⟩] scope pos) spos) (mq i (m8 fi t fe ix)) :=
 PS.weak (aaw (te:=lift X.K E (xx X.K) fe) hN hi' hx hc S hi hg he hs hsw hf) λN σ H q=>a9w ht (ab8 q)
theorem uq(hN:X.N.Nodup)(hi':X.N[i]? = some x)(hx:Loc X.env.scope x)(hc:X.calm=true)(S:CSc X scope cl ts fr ix)(hi:MI X E tg iter fi)(hg:∀ C fp s H,PG (cxC X (ts++fr) scope cl C fp s H) tg g)(ht:aet X.K ts.length g t)(he:∀ C fp s H,ME (cxC X (ts++fr) scope cl C fp s H) E elt fe)
  (hs:∀ x,foldedSetIterable iter X.env x=pure x:=by intro _;rfl) (hsw:swapsWith (.ListComp elt [⟨tg,iter,[],0⟩] scope pos) (some (.Name x pos')) spos.line X.env=pure true:=by rfl) (hf:X.fn x=true\/X.env.scope.names.lookup x=some .local:=by first | exact .inl rfl | exact .inr rfl | assumption) :
  MS X E (.Assign [.Name x pos'] (.ListComp elt [⟨tg,iter,[],0⟩] scope pos) spos) (mq i (sZ (m8 fi t fe ix))) :=
 PS.weak (afh (aaw (te:=lift X.K E (xx X.K) fe) hN hi' hx hc S hi hg he hs hsw hf)) λN σ H q=>a9w ht (atj (ab8 q))
theorem ain(hN:X.N.Nodup)(hi':X.N[i]? = some x)(hx:Loc X.env.scope x)(hc:X.calm=true)(S:CSc X scope cl ts fr ix)(hi:MI X E tg iter fi)(hg:∀ C fp s H,PG (cxC X (ts++fr) scope cl C fp s H) tg g)(ht:aet X.K ts.length g t)(he:∀ C fp s H,ME (cxC X (ts++fr) scope cl C fp s H) E elt fe)
  (hq:∀ C fp s H,MT (cxC X (ts++fr) scope cl C fp s H) E cnd fc)
  (hs:∀ x,foldedSetIterable iter X.env x=pure x:=by intro _;rfl) (hsw:swapsWith (.ListComp elt [⟨tg,iter,[cnd],0⟩] scope pos) (some (.Name x pos')) spos.line X.env=pure true:=by rfl) (hf:X.fn x=true\/X.env.scope.names.lookup x=some .local:=by first | exact .inl rfl | exact .inr rfl | assumption) :
  MS X E (.Assign [.Name x pos'] (.ListComp elt [⟨tg,iter,[cnd],0⟩] scope pos) spos) (mq i (sZ (a66 fi t fc fe ix))) :=
 PS.weak (afh (acp (te:=lift X.K E (xx X.K) fe) (tc:=lift X.K E am7 fc) hN hi' hx hc S hi hg he hq hs hsw hf)) λN σ H q=>aim ht (atj (ab8 q))
end
theorem o8{P:Program}{w:World}{K:PySem.W.Frag}{mg:Str->Option Value}{base:Heap}{x qual:Str}{st:Stmt}{f:Addr}{fd:FuncData}{N ps:List Str}{k:Nat}{b:SS}(Fu:Fun K x qual st f fd)(S:FnScope N ps (bf st))
  (hb:∀ (cdv:Value) (A:Around) (outer:List Env) (s:Shared) (H:Hp) (E:XK),Room k (A.deeper (PyProof.Rows.envOfC qual (bf st) s.heap.objs.size f cdv))->MSs (a0w CX0 P w K mg base N qual (bf st) f cdv A outer s H E).nox X0 (jh st) b) :
  FnOk P w K mg base CX0 (k+1) f fd ps (o6 K ps.length (qb b N.length)):=aq6 Fu S hb λds h _ _ _=>Rf.same rfl
end MI
namespace MI
open PySem PySem.Spec L2 HT
theorem acz{prog:Program}{w:World}{A:Around}{E:Value->Shared->Prop}{s:Shared}{t sl:Addr}{items:Array Value}{vl vu:Value}{lo hi:Option Int}{Q:Value->Shared->Prop}(ht:PyProof.Rows.IsTup s.heap t items)(hs:s.heap.IsSliceOf sl vl vu .none)(pl:IsPart vl lo)(pu:IsPart vu hi)
  (hw:HT.sIx items.size 0 lo=0/\HT.sIx items.size items.size hi=items.size) (h:Q (.ref t) s):wpAny (model prog w) A (getItem (.ref t) (.ref sl)) Q E s:=by
 obtain ⟨os,f1,f2,f3⟩:=id hs;have ty:s.TypeIs (.ref sl) "slice":=⟨os,f1,f2⟩;have tt:s.TypeIs (.ref t) "tuple":=ht.typeIs;rw [getItem]
 try apply wpAny_holding
 first | (apply wpAny_bind;apply wpAny_pure) | skip
 apply wpAny_bind;apply wpAny_sequenceKey tt (by decide)
 apply wpAny_bind
 apply wpAny_callSpecial?_slot (name:=Str.ofString "__getitem__") tt PyProof.Rows.slot_tuple_getitem
 apply wpAny_call_entry PyProof.Rows.slot_tuple_getitem tt PyProof.Rows.entry_tuple_getitem _ (PyProof.Rows.args_tuple_getitem _ _)
 change wpAny (model prog w) A.in1 (Builtin.Tuple.tupleItemsOf (.ref t)>>=_) _ _ s
 apply wpAny_bind;apply PyProof.Rows.tupleItemsOf_ ht
 apply wpAny_bind;apply wpAny_typeOf ty
 rw [if_pos (by decide)]
 apply wpAny_bind;apply HT.a0d hs pl pu
 rw [hw.1,hw.2];dsimp only;rw [if_pos (by simp)]
 apply wpAny_bind
 rw [Builtin.Tuple.tupleIsExact]
 apply wpAny_bind;apply wpAny_typeOf tt
 apply wpAny_pure
 rw [if_pos (by decide)]
 apply wpAny_bind;apply wpAny_rule
 apply wpAny_pure
 exact ⟨_,rfl,wpAny_pure h⟩
def avx(K:PySem.W.Frag):V->Option Int->Option Int->Hp->VK->Prop:=λx lo hi H Q=>∃ a xs,x = .ref a/\SqT K H a xs/\whole xs.length lo hi/\Q (.ref a) H
theorem aio{X:Cx}:SlR X (avx X.K):=by
 intro pins s σ H x v vl vu lo hi sl Q I rx hs pl pu h
 obtain ⟨a,xs,rfl,hx,hw,q⟩:=h;cases rx
 obtain ⟨its,r,ht,hz⟩:=I.tuple hx;have hlen:its.toArray.size=xs.length:=by rw [List.size_toArray];exact r.length.symm
 exact ⟨"tuple",_,PyProof.Rows.slot_tuple_getitem.lookup,ht.typeIs,acz ht hs pl pu (by rw [hlen];exact hw) ⟨.ref a,H,I,rfl,q⟩⟩
def a69(d:D)(lo hi:Option Int)(h:Hd):R D:=match d with
 | .tup xs=>if whole xs.length lo hi then .ok (.tup xs) h else .ok (.tup (a3e xs lo hi)) h
 | d=>gSl d lo hi h
def ye(f:SE)(l u:SO):SE:=λτ h=>(f τ h).bind λd h1=>(l τ h1).bind λlo h2=>(u τ h2).bind λhi h3=>a69 d lo hi h3
theorem amt{K:PySem.W.Frag}{E:XD}{ι:List Addr}{H:Hp}{h:Hd}{x:V}{d:D}{lo hi:Option Int}{Q:VK}(rx:Rep K ι H x d)(hr:HRep K ι H h)(o:out K E (xx K) ι H (a69 d lo hi h) Q):(aue x lo hi H Q\/aua K x lo hi H Q\/auc K x lo hi H Q)\/avx K x lo hi H Q:=by
 cases rx with
 | @tup p vs xs hp r =>
  by_cases hc:whole xs.length lo hi
  ·simp only [a69,if_pos hc] at o;exact .inr ⟨p,vs,rfl,SqT.of hp,by rw [r.len];exact hc,ans o (.tup hp r) hr⟩
  ·simp only [a69,if_neg hc] at o;exact .inl (.inr (.inl ⟨p,vs,rfl,SqT.of hp,by rw [r.len];exact hc,a1p (a1w r lo hi) hr o⟩))
 | non=>exact o.elim
 | bl _=>exact o.elim
 | int _=>exact o.elim
 | ty _=>exact o.elim
 | str z=>exact .inl (ab2 (.str z) hr o)
 | rol a b=>exact .inl (ab2 (.rol a b) hr o)
 | scr a b=>exact .inl (ab2 (.scr a b) hr o)
 | rod a b c=>exact o.elim
 | rdT a b c=>exact o.elim
 | exc a b c=>exact o.elim
 | ref a=>exact .inl (ab2 (.ref a) hr o)
theorem km{X:Cx}{E:XD}{e:Expr}{fa:SE}{lo hi:Option Expr}{l u:SO}{p2 pos:Pos}(he:ME X E e fa)(hl:MO X E lo l)(hu:MO X E hi u):ME X E (.Subscript e (.Slice lo hi none p2) pos) (ye fa l u):=by
 refine PE.weak (ai0 ((apx.or (apn.or am2)).or aio) he hl hu) λσ H Q ⟨ι,τ,h,S,Rh,o⟩=>?_;refine ⟨ι,τ,h,S,Rh,gm o λd h1 ι1 H1 v g1 r1 hr1 o1=>?_⟩;refine ⟨ι1,τ,h1,S.mono g1,hr1,gm o1 λlo h2 ι2 H2 lv g2 r2 hr2 o2=>?_⟩;refine ⟨ι2,τ,h2,(S.mono g1).mono g2,hr2,gm o2 λhi h3 ι3 H3 hv g3 r3 hr3 o3=>?_⟩
 cases r2;cases r3
 exact amt ((r1.mono g2).mono g3) hr3 o3
end MI
namespace TPM
open PySem PySem.Spec PySem.W L2 HT MI
end TPM
namespace MI
open PySem PySem.Spec L2 TPM
end MI
namespace L2
open PySem PySem.Spec PyProof.Rows
end L2
namespace MI
open PySem PySem.Spec L2
def aqq(x y:D)(h:Hd):R D:=match x,y with
 | .ref p, .int i=>(match h[p]? with | some (.lst xs)=>(match atI xs i with | some d=>.ok d h | none=>.no) | _=>.no)
 | _,_=>.no
def aip(g:D->D->Hd->R D)(fo fi fe:SE):SS:=λτ h=>(fo τ h).fl λo h1=>(fi τ h1).fl λi h2=>(aqq o i h2).fl λx h3=>(fe τ h3).fl λy h4=>(g x y h4).fl λz h5=>match put o i z h5 with | some h6=>.nx τ h6 | none=>.no
end MI
namespace TPM
open PySem PySem.Spec PySem.W L2 HT MI
theorem ad0(t b:Addr)(items2:Array Value)(n n2:Nat)(dd dd2:Option Addr)(sl sl2:Array (Option Value)) :
  Meets (Builtin.«tuple.__add__» ⟨[.ref t, .ref b],[]⟩) (λ_ R s=>s.heap.get? t=some { cls:=.type "tuple",dict:=dd,data:=.seq #[] n,slots:=sl }/\s.heap.get? b=some { cls:=.type "tuple",dict:=dd2,data:=.seq items2 n2,slots:=sl2 }/\R (.ok (.ret (.ref b))) s):=by
 refine .of_wp λprog w A R s h=>?_;obtain ⟨hp,g,d,tk,os⟩:=s;obtain ⟨hl,hb,h⟩:=h
 wp_walk
 refine wpAny_of_eq sub_tuple_self ?_
 wp_walk
 exact ⟨_,rfl,h⟩
def aqr(K:PySem.W.Frag):R2:=λx y H Q=>∃ a b ys,x = .ref a/\y = .ref b/\SqT K H a []/\SqT K H b ys/\Q (.ref b) H
theorem amu{X:Cx}:OpR X (binaryOp .Add) (aqr X.K):=by
 intro pins s σ H x y v u Q I rx ry h
 obtain ⟨a,b,ys,rfl,rfl,ha,hb,q⟩:=h;cases rx
 cases ry
 obtain ⟨its,r1,p1,_⟩:=I.tuple ha;obtain ⟨its2,r2,p2,_⟩:=I.tuple hb;cases r1
 obtain ⟨⟨cls,dd,data,sl⟩,ho,hc,n,hd⟩:=id p1;obtain ⟨⟨cls2,dd2,data2,sl2⟩,ho2,hc2,n2,hd2⟩:=id p2;simp only at hc hd hc2 hd2;subst hc hd hc2 hd2;exact concat_meets ⟨_,ho,rfl⟩ ⟨_,ho2,rfl⟩ noFill_tuple_add seq_tuple_add F.slot_tuple_add F.entry_tuple_add (F.args_tuple_add_2 _ _) (ad0 a b its2.toArray n n2 dd dd2 sl sl2) ⟨ho,ho2,⟨.ref b,H,I,rfl,q⟩⟩
end TPM
namespace MI
open PySem PySem.Spec L2 TPM
end MI
namespace TPM
open PySem PySem.Spec PySem.W L2 HT MI PyProof.Rows
end TPM
namespace MI
open PySem PySem.Spec L2 TPM
end MI
namespace L2
open PySem PySem.Spec PyProof.Rows
section
variable{X:Cx}
theorem Inv.lstR{pins:List (Addr × Obj)}{σ:St}{H:Hp}{s:Shared}{l:Addr}{xs:List V}(I:Inv X pins σ H s)(hH:Rd H l (.lst xs)):xs.length<=sizeLine/\∃ (its:List Value) (n:Nat),Vals xs its/\xs.length=its.length/\s.heap.get? l=some { cls:=.type "list",data:=.seq its.toArray n }:=by
 obtain ⟨z,its,n,r,e⟩:=hH.ok I.hok;exact ⟨z,its,n,r,r.length,e⟩
def aqs:R2:=λx y H Q=>∃ l b xs zs,x = .ref l/\y = .ref b/\Rd H l (.lst xs)/\Rd H b (.lst zs)/\xs.length+zs.length<=sizeLine/\∀ p,H p=none->Q (.ref p) (upd H p (.lst (xs++zs)))
theorem amv:OpR X (binaryOp .Add) aqs:=λpins s σ H x y v u Q I rx ry ⟨l,b,xs,zs,ex,ey,h1,h2,hz,q⟩=>by
 subst ex ey;cases rx
 cases ry
 obtain ⟨_,as,_,va,la,ea⟩:=I.lstR h1;obtain ⟨_,bs,_,vb,lb,eb⟩:=I.lstR h2;have app:as.toArray++bs.toArray=(as++bs).toArray:=by simp
 refine PySem.P.add_list ea eb ?_ (by simp;omega)
 rw [app];exact ⟨.ref _,_,I.lnew (t':=s.toks) (va.append vb) (by simpa using hz),rfl,q _ I.fresh⟩
def aqt:V->List V->Hp->VK->Prop:=λx vs H Q=>∃ l b xs zs,x = .ref l/\vs=[.ref b]/\H l=some (.lst xs)/\Rd H b (.lst zs)/\xs.length+zs.length<=sizeLine/\Q .non (upd H l (.lst (xs++zs)))
theorem ad1:MtM X "list.extend" aqt:=λpins s σ H x vs v us Q I rx rv ⟨l,b,xs,zs,ex,ev,h1,h2,hz,q⟩=>by
 subst ex ev;cases rx
 obtain ⟨u,rfl,ru⟩:=rv.one;cases ru
 obtain ⟨_,as,n,va,la,ea⟩:=I.lstM h1;obtain ⟨_,bs,m,vb,lb,eb⟩:=I.lstR h2;have few:as.toArray.size+bs.toArray.size<=sizeLine:=by simp;omega
 have long:¬ (!as.toArray.isEmpty && Builtin.List.listTooLong (as.toArray.size+bs.toArray.size))=true:=by rw [a6p few,Bool.and_false];exact Bool.false_ne_true
 exact call_meets F.slot_list_extend ⟨_,ea,rfl⟩ F.entry_list_extend (F.args_list_extend_2 _ _) (AutoSeq1.list_extend_list_list_0 l as.toArray n b bs.toArray m long (by simp;omega) (by omega))
  ⟨ea,eb, .non,_,I.lset (its':=as++bs) h1 ea (by simp) (va.append vb) (by simpa using hz),rfl,q⟩
def aqu:R2:=λx y H Q=>∃ l k xs,x = .ref l/\y = .int k/\Rd H l (.lst xs) /\ -(2 ^ 63)<=k/\k<2 ^ 63/\xs.length*k.toNat<=sizeLine/\∀ p,H p=none->Q (.ref p) (upd H p (.lst (List.replicate k.toNat xs).flatten))
theorem amw(its:List Value)(k:Nat):List.foldl (λx1 x2=>x1++x2) #[] (List.replicate (if its.toArray.isEmpty=true then 0 else k) its.toArray)=(List.replicate k its).flatten.toArray:=by
 have g:∀ m:Nat,List.foldl (λx1 x2=>x1++x2) #[] (List.replicate m its.toArray)=(List.replicate m its).flatten.toArray:=λm=>by simpa using foldl_rep its m []
 cases its with
 | nil=>simp
 | cons a r=>rw [if_neg (by simp),g]
theorem amx:OpR X (binaryOp .Mult) aqu:=λpins s σ H x y v u Q I rx ry ⟨l,k,xs,ex,ey,h1,k1,k2,hz,q⟩=>by
 subst ex ey;cases rx
 obtain ⟨t,rfl⟩:=ry;obtain ⟨_,as,n,va,la,ea⟩:=I.lstR h1;have few:as.toArray.size*k.toNat<=sizeLine:=by rw [List.size_toArray,<-la];exact hz
 have top:(sizeLine:Nat)<=(2 ^ 63 - 1) / 8:=by decide
 refine wpAny_binaryOp_repeat_ref (T := "list") (U := "int") (by decide) ⟨_,ea,rfl⟩ (λs'=>typeIs_int s' k t) noFill_list_mul F.fills_int_mul F.slot_int_rmul repeat_list F.slot_int_index.lookup
  (call_meets F.slot_int_rmul (typeIs_int s k t) F.entry_int_rmul (F.args_int_rmul_2 _ _) (int___rmul___int_list k t l as.toArray n)
   ⟨ea,rfl,⟨_,ea,rfl⟩,call_meets F.slot_list_mul ⟨_,ea,rfl⟩ F.entry_list_mul (F.args_list_mul_2 _ _)
    (AutoListH.list___mul___list_int_3 l as.toArray n k t (by rw [fitsIndex_both k1 k2];exact Bool.false_ne_true) (by omega) (by rw [a6p few];exact Bool.false_ne_true)) ⟨ea,?_⟩⟩)
 rw [amw];exact ⟨.ref _,_,I.lnew (t':=s.toks) (va.rep k.toNat) (by rw [len_rep,Nat.mul_comm];exact hz),rfl,q _ I.fresh⟩
end
end L2
namespace MI
open PySem PySem.Spec L2 TPM
def qw(d:D)(h:Hd):Option (List D):=match d with
 | .rol xs=>some xs
 | .ref i=>(match h[i]? with | some (.lst xs)=>some xs | _=>none)
 | _=>none
section
variable{K:PySem.W.Frag}{ι:List Addr}{H:Hp}{h:Hd}
theorem yh{x:V}{d:D}{xs:List D}(r:Rep K ι H x d)(hr:HRep K ι H h)(e:qw d h=some xs):∃ a vs,x = .ref a/\Rd H a (.lst vs)/\Reps K ι H vs xs:=by
 cases r with
 | @rol a vs ys hp rs=>cases e;exact ⟨a,vs,rfl, .inr hp,rs⟩
 | @ref a i hp =>
  obtain ⟨ob,e1,e2⟩:=hr.at hp;simp only [qw,e1] at e
  cases ob with
  | lst ys=>cases e;obtain ⟨vs,h3,h4⟩:=e2;exact ⟨a,vs,rfl, .inl h3,h4⟩
  | _=>cases e
 | _=>cases e
def j5:D->D->Hd->R D
 | .int i, .int j,h=>.ok (.int (i+j)) h
 | .str x, .str y,h=>if x.length+y.length<=LINE then .ok (.str (x++y)) h else .no
 | .tup [], .tup ys,h=>.ok (.tup ys) h
 | .tup (x::xs), .tup ys,h=>if (x::xs).length+ys.length<=LINE then .ok (.tup (x::xs++ys)) h else .no
 | x,y,h=>match qw x h,qw y h with
  | some xs,some ys=>if xs.length+ys.length<=LINE then .ok (.ref h.length) (h++[.lst (xs++ys)]) else .no
  | _,_=>.no
theorem a9x{x y:D}{xs ys:List D}(e1:qw x h=some xs)(e2:qw y h=some ys):j5 x y h=if xs.length+ys.length<=LINE then .ok (.ref h.length) (h++[.lst (xs++ys)]) else .no:=by
 cases x<;>first | (cases e1;done) | (cases y<;>first | (cases e2;done) | (simp only [j5,e1,e2]))
theorem amy(x y:D)(h:Hd):(∃ i j,x = .int i/\y = .int j)\/(∃ i j,x = .str i/\y = .str j)\/(∃ xs ys,x = .tup xs/\y = .tup ys)\/(∃ xs ys,qw x h=some xs/\qw y h=some ys)\/j5 x y h = .no:=by
 cases e1:qw x h with
 | some xs =>
  cases e2:qw y h with
  | some ys=>exact .inr (.inr (.inr (.inl ⟨xs,ys,rfl,rfl⟩)))
  | none =>
   refine .inr (.inr (.inr (.inr ?_)))
   cases x<;>first | (cases e1;done) | (simp only [j5,e1,e2])
 | none =>
  cases x with
  | int i=>cases y<;>first | exact .inl ⟨_,_,rfl,rfl⟩ | exact .inr (.inr (.inr (.inr rfl)))
  | str i=>cases y<;>first | exact .inr (.inl ⟨_,_,rfl,rfl⟩) | exact .inr (.inr (.inr (.inr rfl)))
  | tup i=>cases y<;>first | exact .inr (.inr (.inl ⟨_,_,rfl,rfl⟩)) | (cases i<;>exact .inr (.inr (.inr (.inr rfl))))
  | _=>refine .inr (.inr (.inr (.inr ?_)));simp only [j5,e1]
theorem aiq:a5q K j5 (λx y H Q=>(rI0 (λi j=>.int (i+j)) x y H Q\/(∃ i j,x = .str i/\y = .str j/\i.length+j.length<=sizeLine/\Q (.str (i++j)) H)\/apo K x y H Q\/aqs x y H Q)\/aqr K x y H Q):=by
 intro E ι H h x y dx dy Q rx ry hr o
 rcases amy dx dy h with ⟨i,j,rfl,rfl⟩ | ⟨i,j,rfl,rfl⟩ | ⟨xs,ys,rfl,rfl⟩ | ⟨xs,ys,e1,e2⟩ | e
 ·cases rx;cases ry
  exact .inl (.inl ⟨i,j,rfl,rfl,ans o (.int _) hr⟩)
 ·cases rx;cases ry
  simp only [j5] at o
  split at o
  ·rename_i hc;exact .inl (.inr (.inl ⟨i,j,rfl,rfl,ll hc,ans o (.str _) hr⟩))
  ·exact o.elim
 ·cases rx with
  | @tup a vs _ ha r1 =>
  cases ry with
  | @tup b us _ hb r2 =>
  cases xs with
  | nil=>cases r1;exact .inr ⟨a,b,us,rfl,rfl,SqT.of ha,SqT.of hb,ans o (.tup hb r2) hr⟩
  | cons z xs =>
   simp only [j5] at o
   split at o
   ·rename_i hc;refine .inl (.inr (.inr (.inl ⟨a,b,vs,us,rfl,rfl,SqT.of ha,SqT.of hb,λz=>(by subst z;cases r1),ll (by rw [r1.len,r2.len];exact hc),λz=>?_,λ_=>?_⟩)))
    ·subst z;cases r2
     rw [List.append_nil] at o;exact ans o (.tup ha r1) hr
    ·exact a1p (r1.app r2) hr o
   ·exact o.elim
 ·rw [a9x e1 e2] at o;obtain ⟨a,vs,rfl,h1,h2⟩:=yh rx hr e1;obtain ⟨b,us,rfl,h3,h4⟩:=yh ry hr e2
  split at o
  ·rename_i hc;exact .inl (.inr (.inr (.inr ⟨a,b,vs,us,rfl,rfl,h1,h3,ll (by rw [h2.len,h4.len];exact hc),vg (h2.app h4) hr o⟩)))
  ·exact o.elim
 ·rw [e] at o;exact o.elim
theorem j6{X:Cx}{E:XD}{a b:Expr}{fa fb:SE}{pos:Pos}(ha:ME X E a fa)(hb:ME X E b fb):ME X E (.BinOp a .Add b pos) (s2 j5 fa fb) :=
 acr (OpR.or (apc.or (ach.or (am0.or amv))) amu) aiq ha hb
open Classical in
noncomputable def a1x:D->D->Hd->R D
 | .int i, .int j,h=>if CMul i j then .ok (.int (i*j)) h else .no
 | x, .int k,h=>match qw x h with
  | some xs=>if (-(2 ^ 63)<=k/\k<2 ^ 63)/\xs.length*k.toNat<=LINE then .ok (.ref h.length) (h++[.lst (List.replicate k.toNat xs).flatten]) else .no
  | none=>.no
 | _,_,_=>.no
theorem air:a5q K a1x (λx y H Q=>rI CMul (λi j=>.int (i*j)) x y H Q\/aqu x y H Q):=by
 intro E ι H h x y dx dy Q rx ry hr o
 cases ry with
 | int k =>
  cases hx:qw dx h with
  | some xs =>
   obtain ⟨a,vs,rfl,h1,h2⟩:=yh rx hr hx;have o':out K E (xx K) ι H (if (-(2 ^ 63)<=k/\k<2 ^ 63)/\xs.length*k.toNat<=LINE then .ok (.ref h.length) (h++[.lst (List.replicate k.toNat xs).flatten]) else .no) Q:=by
    cases dx<;>first | (cases hx;done) | (simp only [a1x,hx] at o;exact o)
   split at o'
   ·rename_i hc;exact .inr ⟨a,k,vs,rfl,rfl,h1,hc.1.1,hc.1.2,ll (by rw [h2.len];exact hc.2),vg (h2.flat _) hr o'⟩
   ·exact o'.elim
  | none =>
   cases rx with
   | int i =>
    by_cases hc:CMul i k
    ·simp only [a1x,if_pos hc] at o;exact .inl ⟨i,k,rfl,rfl,hc,ans o (.int _) hr⟩
    ·simp only [a1x,if_neg hc] at o;exact o.elim
   | _=>simp only [a1x,hx] at o;exact o.elim
 | _=>cases rx<;>exact o.elim
theorem a74{X:Cx}{E:XD}{a b:Expr}{fa fb:SE}{pos:Pos}(ha:ME X E a fa)(hb:ME X E b fb):ME X E (.BinOp a .Mult b pos) (s2 a1x fa fb):=acr (ape.or amx) air ha hb
def ais:D->List D->Hd->R D
 | .ref i,[.tup ys],h=>(match h[i]? with | some (.lst xs)=>if xs.length+ys.length<=LINE then .ok .non (h.set i (.lst (xs++ys))) else .no | _=>.no)
 | .ref i,[y],h=>(match h[i]?,qw y h with | some (.lst xs),some ys=>if xs.length+ys.length<=LINE then .ok .non (h.set i (.lst (xs++ys))) else .no | _,_=>.no)
 | _,_,_=>.no
theorem ait:atg K ais (λx vs H Q=>aqt x vs H Q\/aax K x vs H Q):=by
 intro E ι H h x dx xs ds Q rx r hr o
 unfold ais at o
 split at o
 ·rename_i i ys
  cases rx with
  | @ref p _ hp =>
   cases r with
   | cons r1 rs =>
    cases rs
    cases r1 with
    | @tup b us zs hb rb =>
     split at o
     ·rename_i xs hx;obtain ⟨vs,h3,h4⟩:=hr.lst hp hx
      split at o
      ·rename_i hc;exact .inr ⟨p,b,vs,us,rfl,rfl,h3,SqT.of hb,ll (by rw [h4.len,rb.len];exact hc),aep (h4.app rb) hr hp .non o⟩
      ·exact o.elim
     ·exact o.elim
 ·rename_i i y _
  cases rx with
  | @ref p _ hp =>
   cases r with
   | cons r1 rs =>
    cases rs
    split at o
    ·rename_i xs ys hx hy;obtain ⟨vs,h3,h4⟩:=hr.lst hp hx;obtain ⟨b,us,rfl,h5,h6⟩:=yh r1 hr hy
     split at o
     ·rename_i hc;exact .inl ⟨p,b,vs,us,rfl,rfl,h3,h5,ll (by rw [h4.len,h6.len];exact hc),aep (h4.app h6) hr hp .non o⟩
     ·exact o.elim
    ·exact o.elim
 ·exact o.elim
end
end MI
namespace MI
open PySem PySem.Spec L2
def afi(d:D)(h:Hd):Option (List Int):=match d with
 | .ref i=>(match h[i]? with | some (.lst xs)=>a6w xs | _=>none)
 | .rol xs=>a6w xs
 | _=>none
theorem afj{K:PySem.W.Frag}{ι:List Addr}{H:Hp}{h:Hd}{v:V}{d:D}{ns:List Int}(r:Rep K ι H v d)(hr:HRep K ι H h)(e:afi d h=some ns):∃ p,v = .ref p/\SqL K H p (ns.map V.int):=by
 unfold afi at e
 split at e
 ·cases r with
  | @ref p _ hp =>
   split at e
   ·rename_i xs hx;obtain ⟨vs,h3,h4⟩:=hr.lst hp hx;exact ⟨p,rfl,SqL.of (by rw [h3,a3s h4 e])⟩
   ·cases e
 ·cases r with
  | @rol p vs xs hp r=>exact ⟨p,rfl,by rw [<-a3s r e];exact hp.l⟩
 ·cases e
end MI
namespace L2
open PySem PySem.Spec PyProof.Rows
end L2
namespace MI
open PySem PySem.Spec L2
end MI
namespace L2
open PySem PySem.Spec PyProof.Rows
def ixI(n:Int):List Int->Option Nat
 | []=>none
 | a::l=>if a=n then some 0 else (ixI n l).map (·+1)
end L2
namespace MI
open PySem PySem.Spec L2
def avy:D->Option Key
 | .int i=>some (.inl i)
 | .str x=>some (.inr x)
 | _=>none
def ax3:D->Option (List Key)
 | .tup xs=>za avy xs
 | _=>none
def putD{κ:Type}[DecidableEq κ](kvs:List (κ × D))(k:κ)(d:D):List (κ × D):=if (kvs.any λkv=>decide (kv.1=k))=true then kvs.map λkv=>if kv.1=k then (kv.1,d) else kv else kvs++[(k,d)]
section
variable{K:PySem.W.Frag}{ι:List Addr}{H:Hp}{h:Hd}
variable{X:Cx}{E:XD}{a b e o i:Expr}{fa fb fc:SE}{pos:Pos}
def ax4(o k v:D)(h:Hd):Option Hd:=match o with
 | .ref i=>(match h[i]? with
  | some (.dK kvs)=>(match avy k with | some kk=>if kvs.length<LINE then some (h.set i (.dK (putD kvs kk v))) else none | none=>none)
  | some (.dT kvs)=>(match ax3 k with | some kk=>if kvs.length<LINE then some (h.set i (.dT (putD kvs kk v))) else none | none=>none)
  | _=>none)
 | _=>none
def aiu(fe fo fi:SE):SS:=λτ h=>(fe τ h).fl λv h1=>(fo τ h1).fl λo h2=>(fi τ h2).fl λk h3=>match ax4 o k v h3 with | some h4=>.nx τ h4 | none=>.no
end
end MI
namespace ZP
open PySem PySem.Spec PySem.Builtin PySem.Builtin.SmallTypes L2
end ZP
namespace MI
open PySem PySem.Spec L2 ZP
def amz(x:D)(h:Hd):R Itm:=match srcOf x h with
 | some (xs,c)=>.ok ⟨((List.range xs.length).zip xs).map λp=>.tup [.int (p.1:Nat),p.2],c⟩ h
 | none=>.no
def aqv(f:SE):SI:=λτ h=>(f τ h).bind amz
end MI
namespace L2
open PySem PySem.Spec PyProof.Rows
end L2
namespace MI
open PySem PySem.Spec L2
end MI
namespace L2
open PySem PySem.Spec PyProof.Rows
def Itd(lo:Int)(n:Nat):It:=⟨λi _=>i<n,λi H x H'=>H'=H/\x = .int (lo - i),λi _=>n<=i⟩
theorem afk{P:Program}{w:World}{K:PySem.W.Frag}{tg:Expr}(it:Addr)(lo:Int)(n:Nat):Turn P w K tg (Itd lo n) [it] it (λi h=>IsRangeIter h it (lo - (i:Nat)) ((n:Int) - (i:Nat)) (-1)) where
 mem:=by simp
 obj:=λi h st b hb=>by
  cases List.mem_singleton.mp hb
  exact ⟨_,st,λv z=>nomatch (show Data.fields _=Data.cell v from z)⟩
 keep:=λi h h' st k=>k it (by simp) _ st
 item:=by
  intro X hP hw hK hc i pins s σ H E I hf st hg
  subst hP hw hK;obtain ⟨f0,f1,f2,f3,f4,f5⟩:=hf it (by simp)
  have hg:i<n:=hg;refine wpAny_pyNext_range_item st (by omega) λh' st' sb=>?_
  have I1:Inv X pins σ H { s with heap:=h',toks:=s.toks+1 }:=I.turned (λb o hb e=>sb.extBut b o hb e) f0 f1 f3 f4 f5
  have e1:lo - (i:Nat) + -1=lo - ((i+1:Nat):Int):=by omega
  have e2:(n:Int) - (i:Nat) - 1=(n:Int) - ((i+1:Nat):Int):=by omega
  have st2:IsRangeIter h' it (lo - ((i+1:Nat):Int)) ((n:Int) - ((i+1:Nat):Int)) (-1):=by rw [<-e1,<-e2];exact st'
  exact ⟨_,rfl,ae1 (s:={ s with heap:=h',toks:=s.toks+1 }) (n := "range_iterator") st' rfl rfl (by decide) ⟨.int (lo - i),H,I1,⟨_,rfl⟩,⟨rfl,rfl⟩,st2,λb hb=>(hf b hb).1⟩⟩
 done:=by
  intro X hP hw hK hc i pins s σ H E I hf st hg
  subst hP hw hK;obtain ⟨f0,f1,f2,f3,f4,f5⟩:=hf it (by simp)
  exact wpAny_pyNext_range_end (I.ok.hd hc) st (by have:n<=i:=hg;omega) λh' eb=>⟨rfl,I.turned (t':=s.toks) (λb o hb e=>eb b o hb e) f0 f1 f3 f4 f5⟩
 self:=λ_ _ _ _ _ st h=>wpAny_pyIter_rangeiter st h
end L2
namespace MI
open PySem PySem.Spec L2
def aiv(lo:Int)(n:Nat):List D:=(List.range n).map λi=>D.int (lo - (i:Nat))
def aqw(ds:List D)(h:Hd):R Itm:=match ds with
 | [.int i, .int j, .int k]=>if k = -1/\B62 i/\B62 j then .ok ⟨aiv i (i - j).toNat,λ_=>True⟩ h else .no
 | _=>.no
theorem aqx{K:PySem.W.Frag}{ι0:List Addr}{H0:Hp}(lo:Int)(n:Nat):ai9 K ι0 H0 (Itd lo n) ⟨aiv lo n,λ_=>True⟩:=by
 intro ι H h g hr _
 refine ⟨λi d ed=>?_,by show n<=(aiv lo n).length;simp [aiv]⟩
 simp only [aiv,List.getElem?_map,Option.map_eq_some_iff] at ed;obtain ⟨j,ej,rfl⟩:=ed;obtain ⟨hj,e⟩:=List.getElem?_eq_some_iff.mp ej;simp at e hj;subst e;refine ⟨hj,λy H' q=>?_⟩;obtain ⟨rfl,rfl⟩:=q;exact ⟨.refl _ _, .int _,hr⟩
theorem gh{α β:Type}(a:α)(h:Hd)(k:α->Hd->R β):(R.ok a h).bind k=k a h:=rfl
theorem a4q{α:Type}(a:α)(h:Hd)(k:α->Hd->Fl):(R.ok a h).fl k=k a h:=rfl
def thn(r:Fl)(g:SS):Fl:=match r with | .nx τ h=>g τ h | r=>r
theorem ur(f g:SS)(τ:Sd)(h:Hd):ju f g τ h=thn (f τ h) g:=by unfold ju thn;cases f τ h<;>rfl
theorem a3g(τ:Sd)(h:Hd)(g:SS):thn (.nx τ h) g=g τ h:=rfl
theorem ab9(d:D)(h:Hd)(g:SS):thn (.rt d h) g = .rt d h:=rfl
def toR(r:Fl):R D:=match r with | .rt d h1=>.ok d h1 | .nx _ h1=>.ok .non h1 | .ex c h1=>.ex c h1 | _=>.no
theorem jn(b:SS)(n:Nat)(ds:List D)(h:Hd):qb b n ds h=toR (b (a1v n ds) h):=by unfold qb toR;cases b (a1v n ds) h<;>rfl
theorem a8u(d:D)(h:Hd):toR (.rt d h) = .ok d h:=rfl
theorem aba(τ:Sd)(h:Hd):toR (.nx τ h) = .ok .non h:=rfl
theorem lz{n:Nat}:∀ {xs:List D},clos n xs↔∀ x∈xs,clo n x
 | []=>by simp [clos]
 | x::xs=>by simp [clos,lz (xs:=xs)]
theorem iu{n:Nat}(i:Int):clo n (.int i):=by simp [clo]
theorem j4{n:Nat}(i:Str):clo n (.str i):=by simp [clo]
theorem a3h{n:Nat}(i:Bool):clo n (.bl i):=by simp [clo]
theorem a4r{n:Nat}:clo n .non:=by simp [clo]
theorem gq{n:Nat}:clos n []:=by simp [clos]
theorem bx{n:Nat}{x:D}{xs:List D}(a:clo n x)(b:clos n xs):clos n (x::xs):=by simp only [clos];exact ⟨a,b⟩
theorem my{n:Nat}{xs:List D}(h:clos n xs):clo n (.tup xs):=by simpa [clo] using h
theorem qx{n:Nat}{xs:List D}(h:clos n xs):clo n (.rol xs):=by simpa [clo] using h
theorem iz{α:Type}{n:Nat}{f:α->D}{l:List α}(h:∀ a∈l,clo n (f a)):clos n (l.map f):=by
 rw [lz]
 intro x hx
 obtain ⟨a,ha,rfl⟩:=List.mem_map.mp hx;exact h a ha
mutual
theorem afl{n m:Nat}(hm:n<=m):∀ {d:D},clo n d->clo m d
 | .non,_=>by simp [clo]
 | .bl _,_=>by simp [clo]
 | .int _,_=>by simp [clo]
 | .str _,_=>by simp [clo]
 | .ty _,_=>by simp [clo]
 | .tup xs,h=>by simp only [clo] at h ⊢;exact yp hm h
 | .rol xs,h=>by simp only [clo] at h ⊢;exact yp hm h
 | .scr xs,h=>by simp only [clo] at h ⊢;exact yp hm h
 | .rod _ xs,h=>by simp only [clo] at h ⊢;exact yp hm h
 | .rdT _ xs,h=>by simp only [clo] at h ⊢;exact yp hm h
 | .exc _,_=>by simp [clo]
 | .ref i,h=>by simp only [clo] at h ⊢;omega
theorem yp{n m:Nat}(hm:n<=m):∀ {xs:List D},clos n xs->clos m xs
 | [],_=>by simp [clos]
 | x::xs,h=>by simp only [clos] at h ⊢;exact ⟨afl hm h.1,yp hm h.2⟩
end
theorem a2t{n m:Nat}(hm:n<=m){o:O}(h:qt n o):qt m o:=by
 cases o with
 | lst xs=>exact yp hm h
 | dK kvs=>exact yp hm h
 | dT kvs=>exact yp hm h
theorem a9y{α:Type}{f:α->Option α}:∀ {xs:List α},(∀ x∈xs,f x=some x)->za f xs=some xs
 | [],_=>rfl
 | x::xs,h=>by
  unfold za;rw [h x List.mem_cons_self,a9y λy hy=>h y (List.mem_cons_of_mem _ hy)]
theorem abb{n k:Nat}{h:Hd}{d:D}(c:clo n d):a5p n h (k+1) d=some d:=by unfold a5p;rw [if_pos c]
theorem aiw{n k:Nat}{h:Hd}{o:O}(c:qt n o):aqo n h k o=some o:=by unfold aqo;rw [if_pos c]
theorem aix{n k i:Nat}{h:Hd}{xs:List D}(hi:n<=i)(e:h[i]? = some (.lst xs))(c:clos n xs):a5p n h (k+2) (.ref i)=some (.rol xs):=by
 unfold a5p;rw [if_neg (by simp only [clo];omega)]
 simp only [e];rw [a9y λx hx=>abb (lz.mp c x hx)];rfl
theorem a4s{n:Nat}{d d':D}{h1:Hd}(e:a5p n h1 FU d=some d')(c:∀ o∈h1.take n,qt n o):a72 n (.ok d h1) = .ok d' (h1.take n):=by
 unfold a72;simp only [e];rw [a9y λo ho=>aiw (c o ho)]
theorem a04{n:Nat}{d:D}{h1:Hd}(e:clo n d)(c:∀ o∈h1.take n,qt n o):a72 n (.ok d h1) = .ok d (h1.take n):=a4s (abb e) c
theorem a0z{n i:Nat}{h1:Hd}{xs:List D}(hi:n<=i)(e:h1[i]? = some (.lst xs))(cx:clos n xs)(c:∀ o∈h1.take n,qt n o):a72 n (.ok (.ref i) h1) = .ok (.rol xs) (h1.take n):=a4s (aix hi e cx) c
theorem a0n{f:SE}{τ:Sd}{h:Hd}{xs:List D}(e:f τ h = .ok (.ref h.length) (h++[.lst xs]))(cx:clos h.length xs)(c:∀ o∈h,qt h.length o):sZ f τ h = .ok (.rol xs) h:=by
 unfold sZ;rw [e,a0z (Nat.le_refl _) (by simp) cx (by simpa using c)]
 simp
theorem auq{f:SE}{τ:Sd}{h:Hd}{d:D}(e:f τ h = .ok d h)(cx:clo h.length d)(c:∀ o∈h,qt h.length o):sZ f τ h = .ok d h:=by
 unfold sZ;rw [e,a04 cx (by simpa using c)]
 simp
def Pu(F:SF)(n:Nat)(ds:List D)(d:D):Prop:=∀ h,kh false n F ds h = .ok d h
def Dr(F:SF)(n:Nat)(ds:List D)(o:O)(d:D)(o':O):Prop:=∀ p h,h[p]? = some o->kh false n F (.ref p::ds) h = .ok d (h.set p o')
theorem a1y:∀ {ds:List D},(∀ d∈ds,clo 0 d)->a0h ds=[]/\zb 0 ds=ds/\∀ k,zb k ds=ds
 | [],_=>⟨rfl,rfl,λ_=>rfl⟩
 | d::ds,h=>by
  obtain ⟨a,b,c⟩:=a1y (ds:=ds) λx hx=>h x (List.mem_cons_of_mem _ hx);have hd:=h d List.mem_cons_self;have nr:refOf d=none:=by cases d<;>first | rfl | (simp only [clo] at hd;omega)
  refine ⟨?_,?_,λk=>?_⟩
  ·simpa [a0h,nr] using a
  ·cases d<;>first | (simp only [clo] at hd;omega) | (simp only [zb,b])
  ·cases d<;>first | (simp only [clo] at hd;omega) | (simp only [zb,c])
theorem Pu.of{F:SF}{n:Nat}{ds:List D}{r:R D}{d:D}(hn:ds.length=n)(cd:∀ x∈ds,clo 0 x)(e:F ds []=r)(z:a72 0 r = .ok d [])(c:clo 0 d):Pu F n ds d:=λh=>by
 obtain ⟨p1,p2,_⟩:=a1y cd;unfold kh;rw [if_pos hn];unfold aol;rw [p1];simp only [za,List.length_nil,Bool.false_eq_true,if_false];rw [if_pos ⟨List.nodup_nil,λx hx=>.inl (cd x hx),λo ho=>by simp at ho⟩,p2,e,z]
 simp [c,u9]
theorem Dr.of{F:SF}{n:Nat}{ds:List D}{o o':O}{r:R D}{d:D}(hn:ds.length+1=n)(cd:∀ x∈ds,clo 0 x)(co:qt 0 o)(e:F (.ref 0::ds) [o]=r)(z:a72 1 r = .ok d [o'])(c:clo 0 d)(co':qt 0 o'):Dr F n ds o d o':=λp h hp=>by
 obtain ⟨p1,_,p3⟩:=a1y cd;have e1:a0h (.ref p::ds)=[p]:=by
  have:a0h (.ref p::ds)=p::a0h ds:=rfl
  rw [this,p1]
 have e2:zb 0 (.ref p::ds) = .ref 0::ds:=by
  have:zb 0 (.ref p::ds) = .ref 0::zb 1 ds:=rfl
  rw [this,p3]
 unfold kh;rw [if_pos (by simpa using hn)]
 unfold aol;rw [e1];simp only [za,hp,List.length_singleton,Bool.false_eq_true,if_false];have all:∀ x∈(D.ref p::ds),clo 0 x\/isRef x:=λx hx=>by
  rcases List.mem_cons.mp hx with rfl | hx
  ·exact .inr ⟨p,rfl⟩
  ·exact .inl (cd x hx)
 rw [if_pos ⟨by simp,all,λu hu=>by rw [List.mem_singleton.mp hu];exact co⟩,e2,e,z]
 simp [c,co',u9]
theorem aqy{F:SF}{n i:Nat}{ds:List D}{o:O}{h1:Hd}(hn:ds.length=n)(cd:∀ x∈ds,clo 0 x)(e:F ds [] = .ok (.ref i) h1)(ho:h1[i]? = some o)(co:qt 0 o)(h:Hd):kh true n F ds h = .ok (.ref h.length) (h++[o]):=by
 obtain ⟨p1,p2,_⟩:=a1y cd;unfold kh;rw [if_pos hn];unfold aol;rw [p1];simp only [za,List.length_nil,if_true];rw [if_pos ⟨List.nodup_nil,λx hx=>.inl (cd x hx),λo ho=>by simp at ho⟩,p2,e]
 unfold aok;simp only [ho];rw [if_pos ⟨Nat.zero_le _,co,by simp⟩]
 simp [co,u9]
theorem aiy(g:SG)(b:SS)(τ:Sd)(h:Hd):forL (λ_=>True) g b [] τ h = .nx τ h:=by rw [forL,if_pos True.intro]
def trn(r:Fl)(k:Sd->Hd->Fl):Fl:=match r with | .nx τ h=>k τ h | .ct τ h=>k τ h | .bk τ h=>.nx τ h | r=>r
theorem afm(g:SG)(b:SS)(x:D)(xs:List D)(τ τ1:Sd)(h h1:Hd)(e:g x τ h = .nx τ1 h1):forL (λ_=>True) g b (x::xs) τ h=trn (b τ1 h1) (forL (λ_=>True) g b xs):=by
 rw [forL,if_pos True.intro,e];dsimp only;unfold trn
 cases b τ1 h1<;>rfl
theorem aqz(τ:Sd)(h:Hd)(k:Sd->Hd->Fl):trn (.nx τ h) k=k τ h:=rfl
theorem ar0(d:D)(h:Hd)(k:Sd->Hd->Fl):trn (.rt d h) k = .rt d h:=rfl
theorem abd{g:SG}{b:SS}{α:Type}(f:α->D)(I:List α->Sd->Hd->Prop)(Rt:D->Hd->Prop):∀ (xs pre:List α) (τ:Sd) (h:Hd),
  (∀ pre' x post τ h,pre++xs=pre'++x::post->I pre' τ h->∃ τ1 h1,g (f x) τ h = .nx τ1 h1/\((∃ τ2 h2,b τ1 h1 = .nx τ2 h2/\I (pre'++[x]) τ2 h2)\/∃ d h2,b τ1 h1 = .rt d h2/\Rt d h2))->I pre τ h->
  (∃ τ' h',forL (λ_=>True) g b (xs.map f) τ h = .nx τ' h'/\I (pre++xs) τ' h')\/∃ d h',forL (λ_=>True) g b (xs.map f) τ h = .rt d h'/\Rt d h'
 | [],pre,τ,h,_,i0=>.inl ⟨τ,h,aiy ..,by simpa using i0⟩
 | x::xs,pre,τ,h,st,i0=>by
  obtain ⟨τ1,h1,e1,q⟩:=st pre x xs τ h rfl i0;rw [List.map_cons,afm _ _ _ _ _ _ _ _ e1]
  rcases q with ⟨τ2,h2,e2,i2⟩ | ⟨d,h2,e2,r⟩
  ·rw [e2,aqz];have:=abd f I Rt xs (pre++[x]) τ2 h2 (λpre' y post τ h e=>st pre' y post τ h (by simpa using e)) i2
   simpa using this
  ·rw [e2,ar0];exact .inr ⟨d,h2,rfl,r⟩
theorem ut{g:SG}{b:SS}{α:Type}(f:α->D)(I:List α->Sd->Hd->Prop)(xs:List α)(τ:Sd)(h:Hd)
  (st:∀ pre x post τ h,xs=pre++x::post->I pre τ h->∃ τ1 h1,g (f x) τ h = .nx τ1 h1/\∃ τ2 h2,b τ1 h1 = .nx τ2 h2/\I (pre++[x]) τ2 h2) (i0:I [] τ h) :
  ∃ τ' h',forL (λ_=>True) g b (xs.map f) τ h = .nx τ' h'/\I xs τ' h':=by
 rcases abd f I (λ_ _=>False) xs [] τ h (λpre' x post τ h e i=>let ⟨τ1,h1,a,b⟩:=st pre' x post τ h e i; ⟨τ1,h1,a, .inl b⟩) i0 with ⟨τ',h',a,b⟩ | ⟨_,_,_,z⟩
 ·exact ⟨τ',h',a,b⟩
 ·exact z.elim
theorem a75{f:D->Hd->R D}{α:Type}(g:α->D)(I:List α->List D->Hd->Prop):∀ (xs pre:List α) (ys:List D) (h:Hd),
  (∀ pre' x post ys h,pre++xs=pre'++x::post->I pre' ys h->∃ y h',f (g x) h = .ok y h'/\I (pre'++[x]) (ys++[y]) h')->I pre ys h->∃ zs h',mapR (λ_=>True) f (xs.map g) h = .ok zs h'/\I (pre++xs) (ys++zs) h'
 | [],pre,ys,h,_,i0=>⟨[],h,by rw [List.map_nil,mapR,if_pos True.intro],by simpa using i0⟩
 | x::xs,pre,ys,h,st,i0=>by
  obtain ⟨y,h1,e1,i1⟩:=st pre x xs ys h rfl i0;obtain ⟨zs,h',e2,i2⟩:=a75 g I xs (pre++[x]) (ys++[y]) h1 (λpre' z post ys h e=>st pre' z post ys h (by simpa using e)) i1
  refine ⟨y::zs,h',?_,by simpa using i2⟩
  rw [List.map_cons,mapR,if_pos True.intro,e1];show (mapR _ f (xs.map g) h1).bind _=_;rw [e2];rfl
theorem a8v{f:D->Hd->R D}{α:Type}(g F:α->D){h:Hd}:∀ {xs:List α},(∀ x∈xs,f (g x) h = .ok (F x) h)->mapR (λ_=>True) f (xs.map g) h = .ok (xs.map F) h
 | [],_=>by rw [List.map_nil,mapR,if_pos True.intro];rfl
 | x::xs,st=>by
  rw [List.map_cons,mapR,if_pos True.intro,st x List.mem_cons_self];show (mapR _ f (xs.map g) h).bind _=_;rw [a8v g F λy hy=>st y (List.mem_cons_of_mem _ hy)];rfl
theorem a8w{f:D->Hd->R (Option D)}{α:Type}(g:α->D)(F:α->Option D){h:Hd}:∀ {xs:List α},(∀ x∈xs,f (g x) h = .ok (F x) h)->ahl (λ_=>True) f (xs.map g) h = .ok (xs.filterMap F) h
 | [],_=>by rw [List.map_nil,ahl,if_pos True.intro];rfl
 | x::xs,st=>by
  rw [List.map_cons,ahl,if_pos True.intro,st x List.mem_cons_self];show (ahl _ f (xs.map g) h).bind _=_;rw [a8w g F λy hy=>st y (List.mem_cons_of_mem _ hy)];show R.ok ((F x).toList++xs.filterMap F) h=_
  cases e:F x<;>simp [List.filterMap_cons,e]
theorem aur{c:ST}{f:SS}(I:Nat->Sd->Hd->Prop)(N:Sd->Hd->Prop)(Rt:D->Hd->Prop)
  (st:∀ m τ h,I m τ h->(∃ h1,c τ h = .ok false h1/\N τ h1)\/∃ h1,c τ h = .ok true h1/\((∃ τ2 h2 m',f τ h1 = .nx τ2 h2/\m'<m/\I m' τ2 h2)\/∃ d h2,f τ h1 = .rt d h2/\Rt d h2)) :
  ∀ (m n:Nat) (τ:Sd) (h:Hd),m<n->I m τ h->(∃ τ' h',sWh c f n τ h = .nx τ' h'/\N τ' h')\/∃ d h',sWh c f n τ h = .rt d h'/\Rt d h':=by
 intro m
 induction m using Nat.strongRecOn with
 | ind m ih =>
  intro n τ h hn i0
  cases n with
  | zero=>omega
  | succ n =>
   rcases st m τ h i0 with ⟨h1,e1,q⟩ | ⟨h1,e1,q⟩
   ·exact .inl ⟨τ,h1,by rw [sWh,e1];rfl,q⟩
   ·rcases q with ⟨τ2,h2,m',e2,lt,i2⟩ | ⟨d,h2,e2,r⟩
    ·have e3:sWh c f (n+1) τ h=sWh c f n τ2 h2:=by
      rw [sWh,e1,a4q,if_pos rfl,e2]
     rw [e3];exact ih m' lt n τ2 h2 (by omega) i2
    ·refine .inr ⟨d,h2,?_,r⟩;rw [sWh,e1,a4q,if_pos rfl,e2]
structure KD (P:Program) (w:World) (K:PySem.W.Frag) (a:Addr) (kvs:List (Str × Str)):Prop where
 sys:(a == sysModules)=false
 ex:∃ (o:Obj) (vs:List (Key × Value)),K.lookup a=some o/\KV (kvs.map λp=>((.inr p.1:Key),V.str p.2)) vs/\∀ h:Heap,h.get? a=some o->h.DictOf (a3z P w) a vs
section
variable{X:Cx}{E:XD}{e:Expr}{fa:SE}{pos p:Pos}{a:Addr}{kvs:List (Str × Str)}{x:Str}
theorem KD.at(kd:KD X.prog X.w X.K a kvs){pins:List (Addr × Obj)}{σ:L2.St}{H:Hp}{s:Shared}(I:Inv X pins σ H s):∃ vs,KV (kvs.map λp=>((.inr p.1:Key),V.str p.2)) vs/\s.heap.DictOf (a3z X.prog X.w) a vs:=by
 obtain ⟨o,vs,l,r,d⟩:=kd.ex;exact ⟨vs,r,d _ (I.bk _ _ (I.mod.kin _ _ l))⟩
end
mutual
def toPy:D->Option PyData
 | .non=>some .none
 | .bl b=>some (.bool b)
 | .int i=>some (.int i)
 | .str x=>some (.str x)
 | .tup xs=>(an0 xs).map .tuple
 | .rol xs=>(an0 xs).map .list
 | .rod [] []=>some (.dict [])
 | _=>none
def an0:List D->Option (List PyData)
 | []=>some []
 | x::xs=>match toPy x,an0 xs with | some p,some ps=>some (p::ps) | _,_=>none
end
mutual
def noL:D->Bool
 | .rol _=>false
 | .tup xs=>avz xs
 | _=>true
def avz:List D->Bool
 | []=>true
 | x::xs=>noL x && avz xs
end
open Classical in
theorem a8x{X:Cx}:CallR X (.builtin "isinstance") (λxs H Q=>∃ a o us T b,xs=[.ref a, .ty T]/\H a=some (.frz o (.dK us))/\PySem.W.kitOne X.K (.type "dict") (.type T)=some b/\Q (.bl b) H):=by
 intro pins s σ H xs us Q I r h
 obtain ⟨a,o,kv,T,b,rfl,ea,e,q⟩:=h;obtain ⟨u,w',rfl,rx,rt⟩:=vals2 r;cases rt
 obtain rfl:u=Value.ref a:=rx
 obtain ⟨_,_,_,vs,_,p⟩:=(show ObjOk X.prog X.w H s.heap a (.frz o (.dK kv)) from I.hok a _ ea)
 obtain ⟨o',es,ep,h1,h2,_⟩:=p;exact PySem.W.kia_one PySem.W.kitx_dict I.kIn ⟨o',h1,h2.1⟩ e (λz=>nomatch z) λtk=>⟨.bl b,H,I.tok tk,rfl,q⟩
def afn:List D->Hd->R D
 | [.rod ks xs, .ty T],h=>(match aoj "dict" T with | some b=>.ok (.bl b) h | none=>.no)
 | ds,h=>atf ds h
theorem aiz{K:PySem.W.Frag}:aem K afn (λxs H Q=>(∃ x T t b,xs=[x, .ty T]/\TyOf K H x t/\PySem.W.kitOne K t (.type T)=some b/\Q (.bl b) H)\/∃ a o us T b,xs=[.ref a, .ty T]/\H a=some (.frz o (.dK us))/\PySem.W.kitOne K (.type "dict") (.type T)=some b/\Q (.bl b) H):=by
 intro E ι H h xs ds Q r hr o
 unfold afn at o
 split at o
 ·split at o
  ·rename_i b hb
   cases r with
   | cons r1 rs =>
    cases rs with
    | cons r2 rs2 =>
     cases rs2
     cases r2
     cases r1 with
     | rod hp ek rr=>exact .inr ⟨_,_,_,_,b,rfl,hp,af3 hb,ans o (.bl _) hr⟩
  ·exact o.elim
 ·exact .inl (amj E ι H h xs _ Q r hr o)
end MI
namespace TPM
open PySem PySem.Spec PySem.W L2 HT MI PyProof.Rows
end TPM
namespace MI
open PySem PySem.Spec L2 TPM
end MI
namespace L2
open PySem PySem.Spec PyProof.Rows
end L2
namespace MI
open PySem PySem.Spec L2
end MI
namespace PN
open PySem PySem.Spec L2 MI
noncomputable def a1z:SS :=
 (ug (sA ue (aj (sZ (ye (sV 0) oN (oS (sC (.int 63))))) (aj (sC (.int 0)) (aj (sC (.int 0)) dh)))))
noncomputable def a2u:SS :=
 (ju (sIf (sT (s2 gGt (s2 gIx (sV 0) (sC (.int 2))) (sC (.int 0))))
 (ju (mq 2 (s2 a9s (s2 gIx (sV 0) (sC (.int 2))) (sV 1)))
 (ju (aay (s2 aex (s2 gIx (sV 0) (sC (.int 2))) (sV 1)) (sV 0) (sC (.int 2)))
 (ug (sV 2))))
 sNx)
 (ju (mq 3 (s2 gIx (sV 0) (sC (.int 1))))
 (ju (aay (s2 j5 (sV 3) (sC (.int 1))) (sV 0) (sC (.int 1)))
 (ju (mq 4 (sC (.int 5)))
 (ju (sIf (sT (s2 gGt (sA qg (aj (s2 gIx (sV 0) (sC (.int 0))) dh)) (sC (.int 0))))
 (mq 4 (s2 gIx (s2 gIx (sV 0) (sC (.int 0))) (s2 a9s (sV 3) (sA qg (aj (s2 gIx (sV 0) (sC (.int 0))) dh)))))
 sNx)
 (ju (sIf (a5o (sT (s2 gLt (sV 3) (sA qg (aj (s2 gIx (sV 0) (sC (.int 0))) dh)))) (sT (s2 gGe (sA aqd (aj (sV 4) dh)) (s2 aey (sC (.int 10)) (sC (.int 18))))))
 (ju (mq 5 (s2 j5 (s2 a1x (sC (.int 2)) (sA aqd (aj (sV 4) dh))) (sA acw (aj (s2 gLt (sV 4) (sC (.int 0))) dh))))
 (ju (aay (s2 aex (sV 5) (sV 1)) (sV 0) (sC (.int 2)))
 (ug (s2 a9s (sV 5) (sV 1)))))
 sNx)
 (ju (mq 6 (s2 a9s (s2 aey (s2 j5 (s2 j5 (s2 a9s (sV 4) (sC (.int 2147483587))) (s2 a1x (sC (.int 40709)) (sV 3))) (sC (.int 31))) (sC (.int 3))) (sC (.int 2147483647))))
 (ju (mq 6 (s2 a9s (s2 j5 (s2 j5 (s2 a1x (sV 6) (sV 6)) (s2 a1x (sC (.int 48271)) (sV 6))) (sV 3)) (sC (.int 2147483629))))
 (ug (s2 a9s (s2 aex (sV 6) (sC (.int 64))) (sV 1)))))))))))
noncomputable def xg:SS :=
 (ju (mq 0 (sC (.str " !\"#$&'()*+,-./0123456789:;<=>?@ABCDEFGHIJKLMNOPQRSTUVWXYZ[\\]^_`")))
 (ug (s2 j5 (sV 0) (sC (.str "abcdefghijklmnopqrstuvwxyz{|}~\n")))))
noncomputable def wg(aq:SF):SS :=
 (ju (mq 5 (sA (kh false 2 aq) (aj (sV 0) (aj (sA qg (aj (sV 1) dh)) dh))))
 (ju (mq 3 (s2 j5 (sV 3) (s2 gIx (sV 1) (sV 5))))
 (mq 1 (s2 j5 (ye (sV 1) oN (oS (sV 5))) (ye (sV 1) (oS (s2 j5 (sV 5) (sC (.int 1)))) oN)))))
noncomputable def a2v(aq:SF):SS :=
 (ju (mq 3 (sC (.str "")))
 (ju (a9r (sRg rm (aj (s2 j5 (sC (.int 1)) (sA (kh false 2 aq) (aj (sV 0) (aj (sV 2) dh)))) dh)) (kN 4) (wg aq))
 (ug (sV 3))))
end PN
namespace L2
open PySem PySem.Spec PySem.W PyProof.Rows
end L2
namespace L2
open PySem PySem.Spec PySem.W PyProof.Rows Builtin Builtin.ObjectAttr Builtin.Getset_descriptor
section
variable{prog:Program}{w:World}{A:Around}{E:Value->Shared->Prop}{s:Shared}{K:Frag}{x D:Addr}{ox:Obj}{odo:Option Obj}
structure XKit (K:Frag) (D:Addr):Prop where
 ga:findIn K (.ref D) "__getattribute__" = some (some (.builtin "BaseException.__getattribute__"))
 gn:findIn K (.ref D) "__getattr__" = some none
 cl:(clsIn K D).isSome=true
 ca:findIn K (.ref D) "__class__" = some (some (.builtin "object.__class__"))
 sp:specialIn K (.builtin "object.__class__") "__get__" = some (some (.builtin "getset_descriptor.__get__"))
 tk:takesIn K (.builtin "object.__class__")=some true
 ob:mroIn K D (.type "object")=some true
 be:subIn K (.ref D) (.type "BaseException")=some true
 kc:kitCls K (.ref D) (.ref D)=some true
abbrev ExAt(x D:Addr)(h:Heap):Prop:=∃ o,h.get? x=some o/\o.cls = .ref D
theorem ExAt.ty{M:Model}{h:Heap}(I:ExAt x D h):Looks M h (typeOf (.ref x)) (.ref D):=by
 obtain ⟨o,q,c⟩:=I;exact c ▸ (Looks.ld q).andThen .now
theorem XKit.at(Z:XKit K D):∃ c o cd sl,K.lookup D=some ⟨c,o, .cls cd,sl⟩:=by
 have:=Z.cl
 unfold clsIn at this
 split at this
 ·exact ⟨_,_,_,_, ‹_›⟩
 ·cases this
theorem XKit.no(Z:XKit K D){h:Heap}{tp:Addr}{dd:Option Addr}{its:List Value}{n:Nat}{sl:Array (Option Value)}(X:K.In h)(q:h.get? tp=some ⟨.type "tuple",dd, .seq its.toArray n,sl⟩):(Value.ref D == .ref tp)=false :=
 beq_eq_false_iff_ne.mpr λe=>by
  obtain ⟨_,_,_,_,lo⟩:=Z.at;rw [Value.ref.inj e] at lo;have:=X _ _ lo;rw [q] at this;cases this
end
end L2
namespace L2
open PySem PySem.Spec PySem.W PyProof.Rows
end L2
namespace MI
open PySem PySem.Spec L2
end MI
namespace EVX
open PySem PySem.Spec L2 MI
end EVX
namespace MI
open PySem PySem.Spec L2
end MI
namespace EVX
open PySem PySem.Spec L2 MI
end EVX
namespace ZP
open PySem PySem.Spec PySem.Builtin PySem.Builtin.SmallTypes L2
end ZP
namespace MI
open PySem PySem.Spec L2 ZP
end MI
namespace AT
open L2
theorem aj0{α:Type}(x0:α)(xs:List α):atI (x0::xs) 0=some x0:=ul (j:=0) rfl
theorem aj1{α:Type}(x0 x1:α)(xs:List α):atI (x0::x1::xs) 1=some x1:=ul (j:=1) rfl
theorem aj2{α:Type}(x0 x1 x2:α)(xs:List α):atI (x0::x1::x2::xs) 2=some x2:=ul (j:=2) rfl
theorem aj3{α:Type}(x0 x1 x2 x3:α)(xs:List α):atI (x0::x1::x2::x3::xs) 3=some x3:=ul (j:=3) rfl
theorem aj4{α:Type}(x0 x1 x2 x3 x4:α)(xs:List α):atI (x0::x1::x2::x3::x4::xs) 4=some x4:=ul (j:=4) rfl
theorem aj5{α:Type}(x0 x1 x2 x3 x4 x5:α)(xs:List α):atI (x0::x1::x2::x3::x4::x5::xs) 5=some x5:=ul (j:=5) rfl
theorem aj6{α:Type}(x0 x1 x2 x3 x4 x5 x6:α)(xs:List α):atI (x0::x1::x2::x3::x4::x5::x6::xs) 6=some x6:=ul (j:=6) rfl
theorem aj7{α:Type}(x0 x1 x2 x3 x4 x5 x6 x7:α)(xs:List α):atI (x0::x1::x2::x3::x4::x5::x6::x7::xs) 7=some x7:=ul (j:=7) rfl
theorem x10:ixN 1 0=some 0:=rfl
theorem x20:ixN 2 0=some 0:=rfl
theorem x21:ixN 2 1=some 1:=rfl
theorem x30:ixN 3 0=some 0:=rfl
theorem x31:ixN 3 1=some 1:=rfl
theorem x32:ixN 3 2=some 2:=rfl
theorem x40:ixN 4 0=some 0:=rfl
theorem x41:ixN 4 1=some 1:=rfl
theorem x42:ixN 4 2=some 2:=rfl
theorem x43:ixN 4 3=some 3:=rfl
theorem x50:ixN 5 0=some 0:=rfl
theorem x51:ixN 5 1=some 1:=rfl
theorem x52:ixN 5 2=some 2:=rfl
theorem x53:ixN 5 3=some 3:=rfl
theorem x54:ixN 5 4=some 4:=rfl
theorem x60:ixN 6 0=some 0:=rfl
theorem x61:ixN 6 1=some 1:=rfl
theorem x62:ixN 6 2=some 2:=rfl
theorem x63:ixN 6 3=some 3:=rfl
theorem x64:ixN 6 4=some 4:=rfl
theorem x65:ixN 6 5=some 5:=rfl
theorem x70:ixN 7 0=some 0:=rfl
theorem x71:ixN 7 1=some 1:=rfl
theorem x72:ixN 7 2=some 2:=rfl
theorem x73:ixN 7 3=some 3:=rfl
theorem x74:ixN 7 4=some 4:=rfl
theorem x75:ixN 7 5=some 5:=rfl
theorem x76:ixN 7 6=some 6:=rfl
def akx(x:Int):Int:=if x<0 then -x else x
theorem aj8(x:Int)(h:MI.Hd):MI.aqd [.int x] h = .ok (.int (akx x)) h:=rfl
theorem p18(h:MI.Hd):MI.aey (.int 10) (.int 18) h = .ok (.int 1000000000000000000) h:=by rw [MI.aey,if_pos (by decide)];rfl
theorem aus{i j:Int}{h:MI.Hd}(c:0<=j/\j<=1000000/\i.natAbs<2 ^ 64):MI.aey (.int i) (.int j) h = .ok (.int (i ^ j.toNat)) h:=by rw [MI.aey,if_pos c]
end AT
namespace MI
open PySem PySem.Spec L2 SeqAt
end MI
namespace L2
open PySem PySem.Spec
end L2
namespace MI
open PySem PySem.Spec L2
end MI
namespace TPM
open PySem PySem.Spec PySem.W L2 HT MI
end TPM
namespace MI
open PySem PySem.Spec L2 TPM
end MI
namespace SHD
open PySem PySem.Spec L2 MI
noncomputable def qj(bz:SF)(fu:SF)(aq:SF):SE :=
 (sA (kh false 4 bz) (aj (sV 1) (aj (sV 2) (aj (s2 a8b (sV 3) (sC (.int 1))) (aj (sV 4) dh)))))
noncomputable def xj(bz:SF)(fu:SF)(aq:SF):SS :=
 (ju (mq 4 (sA (kh false 2 aq) (aj (sV 0) (aj (sC (.int 10)) dh))))
 (ju (sIf (a5o (sT (s2 hEq (sV 2) (sC (.int 5)))) (sT (s2 gLt (sV 4) (sC (.int 2)))))
 (mq 4 (s2 j5 (sV 4) (sC (.int 4))))
 sNx)
 (ju (sIf (a5o (sT (s2 hEq (sV 4) (sC (.int 9)))) (sT (s2 hEq (sA (kh false 2 aq) (aj (sV 0) (aj (sC (.int 2)) dh))) (sC (.int 0)))))
 (ug (sA yc (aj (sC (.str "row")) (aj (sA yc dh) dh))))
 sNx)
 (ju (sIf (sOr (sT (s2 hEq (sV 2) (sC (.int 1)))) (sOr (sT (s2 gLt (s2 gIx (sV 1) (sC (.int 0))) (sC (.int 1)))) (sT (s2 gLt (sV 4) (sC (.int 2))))))
 (ug (sA yc (aj (sC (.str "one")) (aj (sA (kh false 3 fu) (aj (sV 0) (aj (sV 3) (aj (sA qg (aj (sV 3) dh)) dh)))) dh))))
 sNx)
 (ju (sIf (sT (s2 gLt (sV 4) (sC (.int 4))))
 (ju (aay (s2 a8b (s2 gIx (sV 1) (sC (.int 0))) (sC (.int 1))) (sV 1) (sC (.int 0)))
 (ju (mq 5 (sA (kh false 4 bz) (aj (sV 0) (aj (sV 1) (aj (s2 a8b (sV 2) (sC (.int 1))) (aj (sV 3) dh))))))
 (ju (sIf (sT (s2 hEq (sV 4) (sC (.int 2))))
 (ug (sA yc (aj (sC (.str "many")) (aj (sV 5) dh))))
 sNx)
 (ju (mq 6 (sA (kh false 2 aq) (aj (sV 0) (aj (sC (.int 5)) dh))))
 (ug (sA yc (aj (sC (.str "times")) (aj (sV 5) (aj (sV 6) (aj (s2 j5 (sV 6) (sA (kh false 2 aq) (aj (sV 0) (aj (s2 a8b (sC (.int 5)) (sV 6)) dh)))) dh))))))))))
 sNx)
 (ju (mq 7 (sA a8q (aj (s2 gIx (sV 1) (sC (.int 0))) (aj (s2 j5 (sC (.int 1)) (sA (kh false 2 aq) (aj (sV 0) (aj (s2 gIx (sZ (sA ue (aj (sC (.int 2)) (aj (sC (.int 3)) (aj (sC (.int 6)) dh))))) (sA (kh false 2 aq) (aj (sV 0) (aj (sC (.int 3)) dh)))) dh)))) dh))))
 (ju (aay (s2 a8b (s2 gIx (sV 1) (sC (.int 0))) (sV 7)) (sV 1) (sC (.int 0)))
 (ju (mq 8 (sA yg (aj (sZ (m8 (sRg rm (aj (sV 7) dh)) t1 (qj bz fu aq) [0,1,2,3])) dh)))
 (ug (sA yc (aj (s2 gIx (sZ (sA ue (aj (sC (.str "row")) (aj (sC (.str "either")) dh)))) (sA acw (aj (s2 gGt (sV 4) (sC (.int 6))) dh))) (aj (sV 8) dh))))))))))))
noncomputable def yq(cj:SF)(aq:SF):SE :=
 (sA (kh false 2 cj) (aj (sV 1) (aj (sV 0) dh)))
noncomputable def uv(cj:SF)(aq:SF):SE :=
 (sA (kh false 2 cj) (aj (sV 1) (aj (s2 gIx (sV 2) (sC (.int 1))) dh)))
noncomputable def um(cj:SF)(aq:SF):SS :=
 (ju (sIf (sT (s2 hEq (s2 gIx (sV 1) (sC (.int 0))) (sC (.str "one"))))
 (ug (sA yc (aj (sC (.str "one")) (aj (s2 gIx (s2 gIx (sV 1) (sC (.int 1))) (sA (kh false 2 aq) (aj (sV 0) (aj (sA qg (aj (s2 gIx (sV 1) (sC (.int 1))) dh)) dh)))) dh))))
 sNx)
 (ju (sIf (sT (s2 hEq (s2 gIx (sV 1) (sC (.int 0))) (sC (.str "either"))))
 (ju (mq 2 (sA (kh false 2 aq) (aj (sV 0) (aj (sA qg (aj (s2 gIx (sV 1) (sC (.int 1))) dh)) dh))))
 (ug (sA yc (aj (sC (.str "either")) (aj (sV 2) (aj (sA (kh false 2 cj) (aj (sV 0) (aj (s2 gIx (s2 gIx (sV 1) (sC (.int 1))) (sV 2)) dh))) dh))))))
 sNx)
 (ju (sIf (sT (s2 hEq (s2 gIx (sV 1) (sC (.int 0))) (sC (.str "row"))))
 (ug (sA yc (aj (sC (.str "row")) (aj (sA yg (aj (sZ (m8 (sIt (s2 gIx (sV 1) (sC (.int 1)))) t1 (yq cj aq) [0])) dh)) dh))))
 sNx)
 (ju (mq 3 (sC (.int 0)))
 (ju (mq 4 (sC (.int 3)))
 (ju (sIf (sT (s2 hEq (s2 gIx (sV 1) (sC (.int 0))) (sC (.str "times"))))
 (ju (mq 3 (s2 gIx (sV 1) (sC (.int 2))))
 (mq 4 (s2 gIx (sV 1) (sC (.int 3)))))
 sNx)
 (ju (mq 5 (s2 j5 (sV 3) (sA (kh false 2 aq) (aj (sV 0) (aj (s2 j5 (s2 a8b (sV 4) (sV 3)) (sC (.int 1))) dh)))))
 (ug (sA yc (aj (s2 gIx (sV 1) (sC (.int 0))) (aj (sA yg (aj (sZ (m8 (sRg rm (aj (sV 5) dh)) t1 (uv cj aq) [0,1])) dh)) dh)))))))))))
noncomputable def a2a(gj:SF):SE :=
 (sA (kh false 1 gj) (aj (sV 0) dh))
noncomputable def zg(gj:SF):SS :=
 (ju (sIf (sT (s2 hEq (s2 gIx (sV 0) (sC (.int 0))) (sC (.str "one"))))
 (ug (s2 gIx (sV 0) (sC (.int 1))))
 sNx)
 (ju (sIf (sT (s2 hEq (s2 gIx (sV 0) (sC (.int 0))) (sC (.str "either"))))
 (ug (sA (kh false 1 gj) (aj (s2 gIx (sV 0) (sC (.int 2))) dh)))
 sNx)
 (ug (sMS acx (sC (.str "")) (aj (sZ (m8 (sIt (s2 gIx (sV 0) (sC (.int 1)))) t1 (a2a gj) [])) dh)))))
end SHD
namespace SETA
open PySem PySem.SetTable
def adx(xs:Array Nat):Prop:=∀ i j (hi:i<xs.size) (hj:j<xs.size),i<j->xs[i]<xs[j]
theorem an1(xs:Array Nat)(ri:adx xs)(j:Nat):∀ (fuel lo hi:Nat),hi - lo<=fuel->lo<=hi->hi<=xs.size->(∀ i (h:i<xs.size),i<lo->xs[i]<j)->(∀ i (h:i<xs.size),hi<=i->j<=xs[i])->
  lo<=below.go xs j fuel lo hi/\below.go xs j fuel lo hi<=hi/\(∀ i (h:i<xs.size),i<below.go xs j fuel lo hi->xs[i]<j)/\∀ i (h:i<xs.size),below.go xs j fuel lo hi<=i->j<=xs[i]:=by
 intro fuel
 induction fuel with
 | zero =>
  intro lo hi h1 h2 h3 a b
  have:lo=hi:=by omega
  subst this;exact ⟨Nat.le_refl _,Nat.le_refl _,a,b⟩
 | succ fuel ih =>
  intro lo hi h1 h2 h3 a b
  unfold below.go
  split
  ·rename_i c;have hm:(lo+hi) / 2<xs.size:=by omega
   have e:xs.getD ((lo+hi) / 2) j=xs[(lo+hi) / 2]:=by simp [Array.getD,hm]
   dsimp only;rw [e]
   split
   ·rename_i q;have r:=ih ((lo+hi) / 2+1) hi (by omega) (by omega) h3 (λi h z=>by
     by_cases y:i=(lo+hi) / 2
     ·subst y;exact q
     ·exact Nat.lt_trans (ri i _ h hm (by omega)) q) b
    exact ⟨by omega,r.2.1,r.2.2⟩
   ·rename_i q;have r:=ih lo ((lo+hi) / 2) (by omega) (by omega) (by omega) a (λi h z=>by
     by_cases y:i=(lo+hi) / 2
     ·subst y;omega
     ·have:=ri _ i hm h (by omega);omega)
    exact ⟨r.1,by omega,r.2.2⟩
  ·have:lo=hi:=by omega
   subst this;exact ⟨Nat.le_refl _,Nat.le_refl _,a,b⟩
theorem zj{xs:Array Nat}(ri:adx xs)(j:Nat):below xs j<=xs.size/\(∀ i (h:i<xs.size),i<below xs j->xs[i]<j)/\∀ i (h:i<xs.size),below xs j<=i->j<=xs[i]:=by
 have:=an1 xs ri j xs.size 0 xs.size (by omega) (by omega) (Nat.le_refl _) (λi _ z=>absurd z (Nat.not_lt_zero i)) λi h z=>absurd h (by omega)
 exact ⟨this.2.1,this.2.2⟩
theorem below_at{xs:Array Nat}(ri:adx xs){k:Nat}(hk:k<xs.size):below xs xs[k]=k:=by
 obtain ⟨h1,h2,h3⟩:=zj ri xs[k]
 apply Classical.byContradiction
 intro z
 rcases Nat.lt_or_gt_of_ne z with c | c
 ·have:=h3 (below xs xs[k]) (by omega) (Nat.le_refl _)
  have:=ri (below xs xs[k]) k (by omega) hk c
  omega
 ·have:=h2 k hk c
  omega
theorem ad2{xs:Array Nat}(ri:adx xs){k:Nat}(hk:k<xs.size):below xs (xs[k]+1)=k+1:=by
 obtain ⟨h1,h2,h3⟩:=zj ri (xs[k]+1)
 apply Classical.byContradiction
 intro z
 rcases Nat.lt_or_gt_of_ne z with c | c
 ·have:=h3 k hk (by omega)
  omega
 ·have:=h2 (k+1) (by omega) c
  have:=ri k (k+1) hk (by omega) (by omega)
  omega
theorem an2{xs:Array Nat}(ri:adx xs):below xs 0=0:=by
 obtain ⟨h1,h2,h3⟩:=zj ri 0
 apply Classical.byContradiction
 intro z
 have:=h2 0 (by omega) (by omega)
 omega
structure Gd (t:SetTable):Prop where
 ri:adx t.place
 dm:t.dummies = #[]
theorem ad3:adx #[]:=λi j hi=>absurd hi (by simp)
theorem aj9(f m:Nat)(l:Bool):Gd (.fresh f m l):=⟨ad3,rfl⟩
theorem ad4(n:Nat):adx (Array.range n):=λi j hi hj h=>by simpa using h
theorem a4t{l:List Nat}(h:l.Pairwise (· < ·)):adx l.toArray:=λi j hi hj c=>by
 have:=List.pairwise_iff_getElem.mp h i j (by simpa using hi) (by simpa using hj) c
 simpa using this
theorem a8y{xs:Array Nat}(h:adx xs):xs.toList.Pairwise (· < ·):=List.pairwise_iff_getElem.mpr λi j hi hj c=>by
 have:=h i j (by simpa using hi) (by simpa using hj) c
 simpa using this
theorem a6a(t:SetTable)(n:Nat):Gd (t.standIn n):=⟨ad4 n,rfl⟩
theorem a8z{t:SetTable}(g:Gd t)(n:Nat):Gd (t.orStandIn n):=by
 unfold SetTable.orStandIn
 split
 ·exact g
 ·exact a6a t n
theorem a4u(j:Nat):has #[] j=false:=by simp [has]
theorem ad5{t:SetTable}(g:Gd t){j:Nat}(h:t.slot j = .empty):∀ k (hk:k<t.place.size),t.place[k]≠j:=λk hk e=>by
 subst e;unfold SetTable.slot at h;simp only [below_at g.ri hk] at h;rw [if_pos (by simp [hk])] at h
 cases h
theorem aja{t:SetTable}(g:Gd t){ha:Nat->Int}{h:Int}:∀ (fuel:Nat) (p:Probe) (j:Nat) (d:Option Nat),p.dummy=none->SetTable.probe.go t ha h fuel p=some (.empty j d)->t.slot j = .empty/\d=none:=by
 intro fuel
 induction fuel with
 | zero=>intro p j d _ z;simp [SetTable.probe.go] at z
 | succ fuel ih =>
  intro p j d hp z
  unfold SetTable.probe.go at z
  cases e:t.slot p.j with
  | empty =>
   rw [e] at z;simp only [Option.some.injEq,Met.empty.injEq] at z;obtain ⟨rfl,rfl⟩:=z;exact ⟨e,hp⟩
  | dummy =>
   exfalso
   unfold SetTable.slot at e;rw [g.dm,a4u] at e;dsimp only at e
   split at e<;>simp at e
  | live i =>
   rw [e] at z;dsimp only at z
   split at z
   ·cases z
   ·refine ih _ j d ?_ z;unfold SetTable.advance
    split
    ·exact hp
    ·exact hp
theorem a4v{t:SetTable}(g:Gd t){h:Int}{j:Nat}{b:Bool}(e:t.freeSlot h=some (j,b)):(∀ k (hk:k<t.place.size),t.place[k]≠j)/\b=false:=by
 unfold SetTable.freeSlot at e
 split at e
 ·rename_i j' d q;obtain ⟨h1,h2⟩:=aja g _ _ _ _ rfl q;subst h2;simp only [Option.getD_none,Option.isSome_none,Option.some.injEq,Prod.mk.injEq] at e;obtain ⟨rfl,rfl⟩:=e;exact ⟨ad5 g h1,rfl⟩
 ·cases e
theorem a9z{xs:Array Nat}(ri:adx xs){j:Nat}(h:∀ k (hk:k<xs.size),xs[k]≠j):adx (SetTable.insertAt xs (below xs j) j):=by
 obtain ⟨h1,h2,h3⟩:=zj ri j;have e:(SetTable.insertAt xs (below xs j) j)=(xs.toList.take (below xs j)++j::xs.toList.drop (below xs j)).toArray:=by
  exact Array.ext' ((SetTable.toList_insertAt _ _ _).trans (by simp))
 rw [e];refine a4t ?_;have rl:=a8y ri;rw [List.pairwise_append];refine ⟨rl.sublist (List.take_sublist _ _),List.pairwise_cons.mpr ⟨λa ha=>?_,rl.sublist (List.drop_sublist _ _)⟩,λa ha b hb=>?_⟩
 ·obtain ⟨i,hi,rfl⟩:=List.mem_iff_getElem.mp ha;rw [List.getElem_drop];rw [List.length_drop,Array.length_toList] at hi;have h4:=h3 (below xs j+i) (by omega) (by omega)
  have h5:=h (below xs j+i) (by omega)
  rw [Array.getElem_toList];omega
 ·obtain ⟨i,hi,rfl⟩:=List.mem_iff_getElem.mp ha;rw [List.getElem_take];rw [List.length_take,Array.length_toList] at hi;have h4:=h2 i (by omega) (by omega)
  rw [Array.getElem_toList]
  rcases List.mem_cons.mp hb with rfl | hb
  ·exact h4
  ·obtain ⟨k,hk,rfl⟩:=List.mem_iff_getElem.mp hb;rw [List.getElem_drop];rw [List.length_drop,Array.length_toList] at hk;have h6:=h3 (below xs j+k) (by omega) (by omega)
   rw [Array.getElem_toList];omega
theorem aky{t:SetTable}(g:Gd t){j:Nat}(h:∀ k (hk:k<t.place.size),t.place[k]≠j):Gd (t.put j).1:=by
 refine ⟨a9z g.ri h,?_⟩;show (if has t.dummies j=true then _ else t.dummies) = #[]
 rw [g.dm,a4u];rfl
theorem afo{t:SetTable}(g:Gd t)(es:Array (Int × Value))(h:Int)(x:Value):Gd (layNew t es h x).2.1/\(layNew t es h x).2.2.1=false:=by
 unfold layNew
 split
 ·rename_i slot wd e;obtain ⟨h1,h2⟩:=a4v g e;exact ⟨a8z (aky g h1) _,h2⟩
 ·exact ⟨a6a _ _,rfl⟩
theorem a76{mask f m:Nat}{l p:Bool}{hs:Array Int}{t:SetTable}{o:Array Nat}(e:SetTable.laid mask f m l p hs=some (t,o)):Gd t/\t.led=l:=by
 unfold SetTable.laid at e
 cases q:layClean mask hs with
 | none=>rw [q] at e;cases e
 | some owner =>
  rw [q] at e;simp only [Option.bind_eq_bind,Option.bind_some,Option.pure_def,Option.some.injEq,Prod.mk.injEq] at e;obtain ⟨rfl,rfl⟩:=e;refine ⟨⟨a4t ?_,rfl⟩,rfl⟩;have:∀ l:List Nat,l.Pairwise (· < ·)->((l.filterMap λj=>(owner.getD j none).map (j, ·)).map (·.1)).Pairwise (· < ·):=λl hl=>by
   have sub:((l.filterMap λj=>(owner.getD j none).map (j, ·)).map (·.1)).Sublist l:=by
    clear hl
    induction l with
    | nil=>exact .slnil
    | cons a l ih =>
     cases q:owner.getD a none with
     | none =>
      rw [List.filterMap_cons_none (by rw [q];rfl)]
      exact .cons _ ih
     | some b =>
      rw [List.filterMap_cons_some (b:=(a,b)) (by rw [q];rfl),List.map_cons]
      exact .cons₂ _ ih
   exact hl.sublist sub
  exact this _ List.pairwise_lt_range
theorem a77(t:SetTable)(n:Nat):(t.orStandIn n).led=t.led:=by
 unfold SetTable.orStandIn
 split<;>rfl
theorem ad6(t:SetTable)(es:Array (Int × Value))(h:Int)(x:Value):(layNew t es h x).2.1.led=t.led:=by
 unfold layNew
 split
 ·exact a77 _ _
 ·rfl
theorem afp(t:SetTable)(es:Array (Int × Value))(n:Nat):(relayAll t es n).2.1.led=t.led:=by
 unfold relayAll
 split
 ·rename_i t' o e;dsimp only
  split
  ·exact (a76 e).2
  ·rfl
 ·rfl
end SETA
namespace SETH
def it:Nat->Nat->Nat
 | 0,x=>x
 | n+1,x=>it n (5*x+1)
theorem afq(m:Nat):∀ (n x:Nat),it (n+m) x=it m (it n x)
 | 0,x=>by rw [Nat.zero_add];rfl
 | n+1,x=>by rw [show n+1+m=(n+m)+1 by omega];exact afq m n _
theorem akz:∀ k:Nat,∃ c,∀ x,it (2 ^ k) x=(4*(2 ^ k*(2*c+1))+1)*x+2 ^ k*(2*c+1)
 | 0=>⟨0,λx=>by show 5*x+1=_;omega⟩
 | k+1=>by
  obtain ⟨c,h⟩:=akz k;refine ⟨2*c*(2 ^ k*(2*c+1))+c+2 ^ k*(2*c+1),λx=>?_⟩;have e:2 ^ (k+1)=2 ^ k+2 ^ k:=by rw [Nat.pow_succ];omega
  rw [e,afq,h,h]
  generalize 2 ^ k=P
  grind
theorem full:∀ (k x y:Nat),∃ n,n<2 ^ k/\it n x % 2 ^ k=y % 2 ^ k
 | 0,x,y=>⟨0,by decide,by rw [Nat.pow_zero,Nat.mod_one,Nat.mod_one]⟩
 | k+1,x,y=>by
  obtain ⟨n,hn,e⟩:=full k x y;obtain ⟨c,h⟩:=akz k;have hp:0<2 ^ k:=Nat.pow_pos (by decide)
  rw [Nat.pow_succ]
  by_cases q:it n x / 2 ^ k % 2=y / 2 ^ k % 2
  ·exact ⟨n,by omega,by rw [Nat.mod_mul,Nat.mod_mul,e,q]⟩
  ·refine ⟨n+2 ^ k,by omega,?_⟩
   rw [afq,h]
   generalize 2 ^ k=P at *
   generalize it n x=z at *
   have:(4*(P*(2*c+1))+1)*z+P*(2*c+1)=(z+P)+P*2*(2*(2*c+1)*z+c):=by grind
   rw [this,Nat.add_mul_mod_self_left,Nat.mod_mul,Nat.mod_mul,Nat.add_mod_right,e,Nat.add_div_right _ hp]
   congr 2
   omega
def im(M:Nat):Nat->Nat->Nat
 | 0,x=>x
 | n+1,x=>im M n ((x*5+1) % M)
theorem ar3(M:Nat):∀ (n x:Nat),im M n x % M=it n x % M
 | 0,x=>rfl
 | n+1,x=>by
  show im M n _ % M=it n _ % M;rw [ar3 M n];have:∀ n a b,a % M=b % M->it n a % M=it n b % M:=by
   intro n
   induction n with
   | zero=>exact λa b h=>h
   | succ n ih=>exact λa b h=>ih _ _ (by rw [Nat.add_mod,Nat.mul_mod,h,<-Nat.mul_mod,<-Nat.add_mod])
  exact this n _ _ (by rw [Nat.mod_mod,Nat.mul_comm])
theorem ar4{M:Nat}(hM:0<M):∀ (n x:Nat),x<M->im M n x<M
 | 0,x,h=>h
 | n+1,x,h=>ar4 hM n _ (Nat.mod_lt _ hM)
theorem an3{k x y:Nat}(hx:x<2 ^ k)(hy:y<2 ^ k):∃ n,n<2 ^ k/\im (2 ^ k) n x=y:=by
 obtain ⟨n,hn,e⟩:=full k x y;refine ⟨n,hn,?_⟩;rw [<-ar3,Nat.mod_eq_of_lt hy,Nat.mod_eq_of_lt (ar4 (by omega) n x hx)] at e
 exact e
open PySem PySem.SetTable
def ls(mask:Nat):Nat->Nat × Nat->Nat × Nat
 | 0,x=>x
 | n+1,x=>ls mask n (leap mask x.1 x.2)
theorem al0(mask m:Nat):∀ (n:Nat) (x:Nat × Nat),ls mask (n+m) x=ls mask m (ls mask n x)
 | 0,x=>by rw [Nat.zero_add];rfl
 | n+1,x=>by rw [show n+1+m=(n+m)+1 by omega];exact al0 mask m n _
theorem a6b(mask:Nat):∀ (n:Nat) (x:Nat × Nat),(ls mask n x).2=x.2 / 32 ^ n
 | 0,x=>by rw [Nat.pow_zero,Nat.div_one];rfl
 | n+1,x=>by
  show (ls mask n _).2=_;rw [a6b mask n,Nat.pow_succ,Nat.mul_comm,<-Nat.div_div_eq_div_mul];rfl
theorem ar5(mask:Nat):∀ (n:Nat) (x:Nat × Nat),x.1<=mask->(ls mask n x).1<=mask
 | 0,x,h=>h
 | n+1,x,h=>ar5 mask n _ (Nat.le_of_lt_succ (Nat.mod_lt _ (Nat.succ_pos _)))
theorem ar6(mask:Nat):∀ (n i:Nat),ls mask n (i,0)=(im (mask+1) n i,0)
 | 0,i=>rfl
 | n+1,i=>by
  show ls mask n (leap mask i 0)=(im (mask+1) n _,0);rw [<-ar6 mask n];rfl
theorem hit{mask k i p y:Nat}(hk:mask+1=2 ^ k)(hi:i<=mask)(hp:p<2 ^ 64)(hy:y<=mask):∃ m,m<mask+14/\(ls mask m (i,p)).1=y:=by
 have e:ls mask 13 (i,p)=((ls mask 13 (i,p)).1,0):=by
  refine Prod.ext rfl ?_;rw [a6b];show p / 32 ^ 13=0;exact Nat.div_eq_of_lt (by omega)
 have h13:=ar5 mask 13 (i,p) hi;obtain ⟨n,hn,en⟩:=an3 (k:=k) (x:=(ls mask 13 (i,p)).1) (y:=y) (by omega) (by omega)
 refine ⟨13+n,by omega,?_⟩
 rw [al0,e,ar6];show im (mask+1) n _=y;rw [hk];exact en
end SETH
namespace SETH
open PySem PySem.SetTable SETA
theorem a4w(mask i:Nat):i<=runEnd mask i:=by unfold runEnd;split<;>omega
theorem a4x{mask i:Nat}(h:i<=mask):runEnd mask i<=mask:=by unfold runEnd;split<;>omega
theorem abe(mask i:Nat):runEnd mask i - i<=9:=by unfold runEnd;split<;>omega
theorem a90{mask:Nat}{owner:Array (Option Nat)}:∀ (fuel i p m:Nat),m<fuel->i<=mask->owner.getD (ls mask m (i,p)).1 (some 0)=none->∃ j,layClean.free mask owner fuel i p=some j/\j<=mask/\owner.getD j (some 0)=none
 | 0,i,p,m,h,_,_=>absurd h (Nat.not_lt_zero _)
 | fuel+1,i,p,m,h,hi,e=>by
  unfold layClean.free;have ge:=a4w mask i;have le:=a4x hi
  split
  ·rename_i k hk;refine ⟨_,rfl,?_,?_⟩
   ·have:=List.mem_of_find?_eq_some hk
    rw [List.mem_range] at this;omega
   ·have:=List.find?_some hk
    exact Option.isNone_iff_eq_none.mp this
  ·rename_i hk
   cases m with
   | zero =>
    have:=List.find?_eq_none.mp hk 0 (List.mem_range.mpr (by omega))
    exact absurd (Option.isNone_iff_eq_none.mpr e) this
   | succ m=>exact a90 fuel _ _ m (by omega) (Nat.le_of_lt_succ (Nat.mod_lt _ (Nat.succ_pos _))) e
theorem a3i{t:SetTable}{p:Probe}(h:p.more > 0):t.advance p={ p with j:=p.j+1,more:=p.more - 1 }:=by unfold advance;rw [if_pos h]
theorem a3j{t:SetTable}{p:Probe}(h:p.more=0):t.advance p={ p with j:=(leap t.mask p.i p.perturb).1,more:=runEnd t.mask (leap t.mask p.i p.perturb).1 - (leap t.mask p.i p.perturb).1,i:=(leap t.mask p.i p.perturb).1,perturb:=(leap t.mask p.i p.perturb).2 }:=by unfold advance;rw [if_neg (by omega)]
theorem aa0{t:SetTable}{h:Int}:∀ (fuel m:Nat) (p:Probe),p.more+10*m+1<fuel->t.slot (ls t.mask (m+1) (p.i,p.perturb)).1 = .empty->∃ j d,probe.go t (λ_=>h+1) h fuel p=some (.empty j d)
 | 0,m,p,hf,_=>absurd hf (Nat.not_lt_zero _)
 | fuel+1,m,p,hf,e=>by
  have ne:(h+1 == h)=false:=by simpa using (by omega:h+1≠h)
  have next:∀ d,∃ j d',probe.go t (λ_=>h+1) h fuel (t.advance { p with dummy:=d })=some (.empty j d'):=λd=>by
   by_cases hm:p.more > 0
   ·rw [a3i (by exact hm)]
    exact aa0 fuel m _ (by show p.more - 1+10*m+1<fuel;omega) e
   ·rw [a3j (by show p.more=0;omega)]
    cases m with
    | zero =>
     cases fuel with
     | zero=>omega
     | succ fuel =>
      have e:t.slot (leap t.mask p.i p.perturb).1 = .empty:=e;unfold probe.go;simp only [e];exact ⟨_,_,rfl⟩
    | succ m =>
     have:=abe t.mask (leap t.mask p.i p.perturb).1
     exact aa0 fuel m _ (by show runEnd t.mask (leap t.mask p.i p.perturb).1 - (leap t.mask p.i p.perturb).1+10*m+1<fuel;omega) e
  unfold probe.go
  split
  ·exact ⟨_,_,rfl⟩
  ·exact next _
  ·rw [ne];exact next p.dummy
theorem afr{t:SetTable}(hd:t.dummies = #[]){y:Nat}(hy:∀ k (hk:k<t.place.size),t.place[k]≠y):t.slot y = .empty:=by
 unfold slot;dsimp only;rw [if_neg,hd,a4u]
 ·rfl
 ·intro c
  have c:t.place[below t.place y]? = some y:=by simpa using c
  obtain ⟨hk,e⟩:=Array.getElem?_eq_some_iff.mp c;exact hy _ hk e
theorem a78{t:SetTable}{k y:Nat}(hk:t.mask+1=2 ^ k)(hd:t.dummies = #[])(hy:y<=t.mask)(fr:∀ k (hk:k<t.place.size),t.place[k]≠y)(h:Int):∃ r,t.freeSlot h=some r:=by
 have sl:=afr hd fr;have hi:bits h % (t.mask+1)<=t.mask:=Nat.le_of_lt_succ (Nat.mod_lt _ (Nat.succ_pos _));have hb:bits h<2 ^ 64:=by unfold bits;omega
 obtain ⟨m,hm,e⟩:=hit hk hi hb hy;have r9:=abe t.mask (bits h % (t.mask+1));have:∃ j d,t.probe (λ_=>h+1) h (t.probeStart h)=some (.empty j d):=by
  unfold probe turns
  cases m with
  | zero =>
   have e:bits h % (t.mask+1)=y:=e;rw [show 10*(t.mask+15)=(10*(t.mask+15) - 1)+1 by omega]
   unfold probe.go probeStart;simp only [e,sl];exact ⟨_,_,rfl⟩
  | succ m=>exact aa0 _ m _ (by show runEnd t.mask (bits h % (t.mask+1)) - bits h % (t.mask+1)+10*m+1<_;omega) (by rw [<-e] at sl;exact sl)
 obtain ⟨j,d,x⟩:=this;unfold freeSlot;rw [x];exact ⟨_,rfl⟩
theorem afs:∀ l:List (Option Nat),(l.filterMap id).length<l.length->∃ i,∃ h:i<l.length,l[i]=none
 | [],h=>absurd h (Nat.lt_irrefl _)
 | none::l,_=>⟨0,Nat.succ_pos _,rfl⟩
 | some x::l,h=>by
  obtain ⟨i,hi,e⟩:=afs l (by simpa using h)
  exact ⟨i+1,Nat.succ_lt_succ hi,e⟩
theorem abf(k:Nat):∀ (l:List (Option Nat)) (i:Nat) (h:i<l.length),l[i]=none->((l.set i (some k)).filterMap id).Perm (k::l.filterMap id)
 | x::l,0,_,e=>by
  have e:x=none:=e;subst e;simp
 | x::l,i+1,h,e=>by
  have ih:=abf k l i (Nat.lt_of_succ_lt_succ h) e
  cases x with
  | none=>simpa using ih
  | some x =>
   simp only [List.set_cons_succ,List.filterMap_cons,id];exact (ih.cons x).trans (List.Perm.swap ..)
structure Own (mask n:Nat) (o:Array (Option Nat)):Prop where
 size:o.size=mask+1
 all:(o.toList.filterMap id).Perm (List.range n)
theorem aut(mask:Nat):Own mask 0 (Array.replicate (mask+1) none) where
 size:=by simp
 all:=by simp
theorem Own.free{mask n:Nat}{o:Array (Option Nat)}(w:Own mask n o)(hn:n<=mask):∃ y,y<=mask/\o.getD y (some 0)=none:=by
 have:=w.all.length_eq
 rw [List.length_range] at this;obtain ⟨i,hi,e⟩:=afs o.toList (by rw [this,Array.length_toList,w.size];omega)
 have hs:i<o.size:=by simpa using hi
 refine ⟨i,by have:=w.size;omega,?_⟩
 simp only [Array.getD,hs,dif_pos];simpa using e
theorem Own.put{mask n j:Nat}{o:Array (Option Nat)}(w:Own mask n o)(hj:j<=mask)(e:o.getD j (some 0)=none):Own mask (n+1) (o.setIfInBounds j (some n)) where
 size:=by rw [Array.size_setIfInBounds];exact w.size
 all:=by
  have hs:j<o.size:=by have:=w.size;omega
  have e:o.toList[j]'(by simpa using hs)=none:=by
   simp only [Array.getD,hs,dif_pos] at e;simpa using e
  rw [Array.toList_setIfInBounds,List.range_succ];exact (abf n _ _ _ e).trans ((w.all.cons n).trans (List.perm_append_singleton n _).symm)
theorem abg{mask k:Nat}(hk:mask+1=2 ^ k){F:Option (Array (Option Nat) × Nat)->Int->Option (Array (Option Nat) × Nat)}
  (hF:∀ o n h j,layClean.free mask o (turns mask) (bits h % (mask+1)) (bits h)=some j->F (some (o,n)) h=some (o.setIfInBounds j (some n),n+1)) :
  ∀ (hs:List Int) (o:Array (Option Nat)) (n:Nat),Own mask n o->n+hs.length<=mask+1->∃ o',hs.foldl F (some (o,n))=some (o',n+hs.length)/\Own mask (n+hs.length) o'
 | [],o,n,w,_=>⟨o,rfl,w⟩
 | h::hs,o,n,w,le=>by
  rw [List.length_cons] at le ⊢;obtain ⟨y,hy,e⟩:=w.free (by omega)
  have hi:bits h % (mask+1)<=mask:=Nat.le_of_lt_succ (Nat.mod_lt _ (Nat.succ_pos _));obtain ⟨m,hm,em⟩:=hit hk hi (p:=bits h) (by unfold bits;omega) hy
  obtain ⟨j,ej,hj,fj⟩:=a90 (turns mask) (bits h % (mask+1)) (bits h) m (by unfold turns;omega) hi (by rw [em];exact e)
  obtain ⟨o',eo,wo⟩:=abg hk hF hs _ (n+1) (w.put hj fj) (by omega)
  refine ⟨o',?_,by rw [show n+(hs.length+1)=n+1+hs.length by omega];exact wo⟩
  rw [List.foldl_cons,hF o n h j ej,eo,show n+(hs.length+1)=n+1+hs.length by omega]
theorem ajb{mask k:Nat}(hk:mask+1=2 ^ k)(hs:Array Int)(le:hs.size<=mask+1){F:Option (Array (Option Nat) × Nat)->Int->Option (Array (Option Nat) × Nat)}
  (hF:∀ o n h j,layClean.free mask o (turns mask) (bits h % (mask+1)) (bits h)=some j->F (some (o,n)) h=some (o.setIfInBounds j (some n),n+1)) :
  ∃ o,(hs.toList.foldl F (some (Array.replicate (mask+1) none,0))).map (·.1)=some o/\Own mask hs.size o:=by
 obtain ⟨o,e,w⟩:=abg hk hF hs.toList _ 0 (aut mask) (by simpa using le)
 rw [e];exact ⟨o,rfl,by simpa using w⟩
theorem ad7{mask k:Nat}(hk:mask+1=2 ^ k)(hs:Array Int)(le:hs.size<=mask+1):∃ o,layClean mask hs=some o/\Own mask hs.size o:=by
 unfold layClean;rw [<-Array.foldl_toList];refine ajb hk hs le λo n h j ej=>?_;simp only [Option.bind_eq_bind,Option.bind_some,ej];rfl
theorem ajc{mask n:Nat}{o:Array (Option Nat)}(w:Own mask n o):((List.range (mask+1)).filterMap λj=>(o.getD j none).map (j, ·)).map (·.2)=o.toList.filterMap id:=by
 have e:o.toList=(List.range (mask+1)).map λj=>o.getD j none:=by
  refine List.ext_getElem (by simp [w.size]) λi h1 h2=>?_
  have hs:i<o.size:=by simpa using h1
  simp [Array.getD,hs]
 rw [e,List.filterMap_map,List.map_filterMap]
 congr 1
 funext j
 show _=o.getD j none
 cases o.getD j none<;>rfl
theorem a4y{mask k f m:Nat}{l p:Bool}(hk:mask+1=2 ^ k)(hs:Array Int)(le:hs.size<=mask+1):∃ t o,laid mask f m l p hs=some (t,o)/\t.mask=mask/\t.dummies = #[]/\t.plain=p/\t.place.size=hs.size/\(∀ i (h:i<t.place.size),t.place[i]<=mask)/\o.toList.Perm (List.range hs.size):=by
 obtain ⟨o,e,w⟩:=ad7 hk hs le;unfold laid;rw [e];have ls:=ajc w;have len:((List.range (mask+1)).filterMap λj=>(o.getD j none).map (j, ·)).length=hs.size:=by
  have:=w.all.length_eq
  rw [<-ls,List.length_map,List.length_range] at this;exact this
 refine ⟨_,_,rfl,rfl,rfl,rfl,by simpa using len,λi hi=>?_,?_⟩
 ·have hm:=Array.getElem_mem hi;simp only [List.mem_toArray,List.mem_map,List.mem_filterMap,List.mem_range] at hm;obtain ⟨⟨a,b⟩,⟨j,hj,x⟩,y⟩:=hm
  cases g:o.getD j none with
  | none=>rw [g] at x;cases x
  | some z =>
   rw [g] at x;cases x
   exact Nat.le_of_lt_succ (y ▸ hj)
 ·show List.Perm (List.map _ _) _;exact (ls ▸ w.all)
theorem abh(n:Nat):∀ (fuel a:Nat),n<2 ^ (a+fuel)->∃ b,a<=b/\sizeAbove.go n fuel (2 ^ a)=2 ^ b/\n<2 ^ b
 | 0,a,h=>⟨a,Nat.le_refl _,rfl,h⟩
 | fuel+1,a,h=>by
  unfold sizeAbove.go
  split
  ·obtain ⟨b,h1,h2,h3⟩:=abh n fuel (a+1) (by rw [show a+1+fuel=a+(fuel+1) by omega];exact h)
   exact ⟨b,by omega,h2,h3⟩
  ·exact ⟨a,Nat.le_refl _,rfl,by omega⟩
theorem above{n:Nat}(h:n<2 ^ 67):∃ b,3<=b/\sizeAbove n=2 ^ b/\n<2 ^ b:=abh n 64 3 h
theorem gap:∀ (l:List Nat) (a:Nat),l.Pairwise (· < ·)->(∀ x∈l,a<=x)->∃ y,a<=y/\y<=a+l.length/\y ∉ l
 | [],a,_,_=>⟨a,Nat.le_refl _,Nat.le_refl _,List.not_mem_nil⟩
 | x::l,a,p,g=>by
  obtain ⟨p1,p2⟩:=List.pairwise_cons.mp p;have gx:=g x (List.mem_cons_self ..);rw [List.length_cons]
  by_cases e:x=a
  ·obtain ⟨y,h1,h2,h3⟩:=gap l (a+1) p2 λz hz=>by have:=p1 z hz;omega
   exact ⟨y,by omega,by omega,λc=>(List.mem_cons.mp c).elim (λc=>by omega) h3⟩
  ·exact ⟨a,Nat.le_refl _,by omega,λc=>(List.mem_cons.mp c).elim (λc=>e c.symm) λc=>by have:=p1 a c;omega⟩
structure Gs (t:SetTable):Prop where
 gd:Gd t
 pow:∃ k,t.mask+1=2 ^ k
 big:7<=t.mask
 le:∀ i (h:i<t.place.size),t.place[i]<=t.mask
 plain:t.plain=true
theorem ajd(f m:Nat)(l:Bool):Gs (.fresh f m l):=⟨aj9 f m l,⟨3,rfl⟩,Nat.le_refl _,λi h=>absurd h (Nat.not_lt_zero _),rfl⟩
theorem a0o{t:SetTable}(g:Gd t):t.fill=t.place.size:=by unfold fill;rw [g.dm];rfl
theorem a6c{t:SetTable}{p:Probe}(h:p.j+p.more<=t.mask):(t.advance p).j+(t.advance p).more<=t.mask:=by
 by_cases hm:p.more > 0
 ·rw [a3i hm];show p.j+1+(p.more - 1)<=_;omega
 ·rw [a3j (by omega)]
  have h1:(leap t.mask p.i p.perturb).1<=t.mask:=Nat.le_of_lt_succ (Nat.mod_lt _ (Nat.succ_pos _));have h2:=a4x h1;have h3:=a4w t.mask (leap t.mask p.i p.perturb).1;show (leap t.mask p.i p.perturb).1+(runEnd t.mask (leap t.mask p.i p.perturb).1 - (leap t.mask p.i p.perturb).1)<=_;omega
theorem an4{t:SetTable}{ha:Nat->Int}{h:Int}:∀ (fuel:Nat) (p:Probe) (j:Nat) (d:Option Nat),p.j+p.more<=t.mask->probe.go t ha h fuel p=some (.empty j d)->j<=t.mask
 | 0,p,j,d,_,e=>by cases e
 | fuel+1,p,j,d,hp,e=>by
  unfold probe.go at e
  split at e
  ·cases e
   omega
  ·exact an4 fuel _ j d (a6c (p:={ p with dummy:=some p.j }) hp) e
  ·split at e
   ·cases e
   ·exact an4 fuel _ j d (a6c hp) e
theorem an5{t:SetTable}{h:Int}{j:Nat}{b:Bool}(e:t.freeSlot h=some (j,b))(hb:b=false):j<=t.mask:=by
 unfold freeSlot at e
 split at e
 ·rename_i j' d x;have:=an4 _ _ j' d (by
   have h1:bits h % (t.mask+1)<=t.mask:=Nat.le_of_lt_succ (Nat.mod_lt _ (Nat.succ_pos _));have h2:=a4x h1;have h3:=a4w t.mask (bits h % (t.mask+1));show bits h % (t.mask+1)+(runEnd t.mask (bits h % (t.mask+1)) - bits h % (t.mask+1))<=t.mask;omega) x
  cases d with
  | none=>cases e;exact this
  | some d=>cases e;cases hb
 ·cases e
theorem al2{xs:Array Nat}{a b z:Nat}(h:z∈xs.extract a b):z∈xs:=by
 obtain ⟨i,hi,e⟩:=Array.mem_iff_getElem.mp h;rw [Array.getElem_extract] at e;exact e ▸ Array.getElem_mem _
theorem a4z{α:Type}(xs:Array α)(p:Nat)(x:α)(hp:p<=xs.size):(insertAt xs p x).size=xs.size+1:=by
 simp [insertAt]
 omega
theorem aft{t:SetTable}(g:Gs t)(es:Array (Int × Value))(hs:t.place.size=es.size)(rest:t.fill*5<t.mask*3)(h:Int)(x:Value) :
  Gs (layNew t es h x).2.1/\(layNew t es h x).2.2.2=false/\(layNew t es h x).2.1.fits (layNew t es h x).1.size=true/\(layNew t es h x).2.1.mask=t.mask/\(layNew t es h x).2.1.place.size=es.size+1:=by
 have big:=g.big;have fl:=a0o g.gd;obtain ⟨k,hk⟩:=g.pow;obtain ⟨y,_,hy,ny⟩:=gap t.place.toList 0 (a8y g.gd.ri) λ_ _=>Nat.zero_le _;rw [Array.length_toList] at hy;obtain ⟨⟨j,b⟩,e⟩:=a78 hk g.gd.dm (y:=y) (by omega) (λi hi c=>ny (by rw [<-c];simp)) h
 obtain ⟨f1,f2⟩:=a4v g.gd e;have hj:=an5 e f2;have bl:=(zj g.gd.ri j).1;have sz1:(t.put j).1.place.size=es.size+1:=by
  show (insertAt t.place _ j).size=_;rw [a4z _ _ _ bl,hs]
 have sz2:(insertAt es (t.put j).2 (h,x)).size=es.size+1:=a4z _ _ _ (by show below t.place j<=_;omega)
 have gp:=aky g.gd f1;have ft:(t.put j).1.fits (insertAt es (t.put j).2 (h,x)).size=true:=by
  unfold fits;rw [a0o gp,sz1,sz2];have:es.size+1<=(t.put j).1.mask:=by show _<=t.mask;omega
  simp [this]
 have pl:∀ z∈(t.put j).1.place,z<=t.mask:=λz hz=>by
  have hz:z∈insertAt t.place (below t.place j) j:=hz;simp only [insertAt,Array.mem_append,Array.mem_push] at hz
  rcases hz with (hz | hz) | hz
  ·obtain ⟨i,hi,e⟩:=Array.mem_iff_getElem.mp (al2 hz);exact e ▸ g.le i hi
  ·omega
  ·obtain ⟨i,hi,e⟩:=Array.mem_iff_getElem.mp (al2 hz);exact e ▸ g.le i hi
 have gs:Gs (t.put j).1:=⟨gp,g.pow,g.big,λi hi=>pl _ (Array.getElem_mem hi),g.plain⟩;have eq:layNew t es h x=(insertAt es (t.put j).2 (h,x),(t.put j).1,b,false):=by
  unfold layNew;rw [e];simp only [ft,orStandIn,if_true,Bool.not_true]
 rw [eq];exact ⟨gs,rfl,ft,rfl,sz1⟩
theorem abi{es:Array (Int × Value)}:∀ l:List Nat,(∀ x∈l,x<es.size)->(l.filterMap (es[·]?)).length=l.length
 | [],_=>rfl
 | x::l,h=>by
  rw [List.filterMap_cons,Array.getElem?_eq_getElem (h x (List.mem_cons_self ..))];exact congrArg (·+1) (abi l λz hz=>h z (List.mem_cons_of_mem _ hz))
theorem aje{t:SetTable}(g:Gs t)(es:Array (Int × Value)){n:Nat}(hn:n<2 ^ 67)(big:es.size*2<=n)(pos:0<es.size) :
  Gs (relayAll t es n).2.1/\(relayAll t es n).2.2=false/\(relayAll t es n).2.1.fits (relayAll t es n).1.size=true/\(relayAll t es n).2.1.fill*5<(relayAll t es n).2.1.mask*3:=by
 obtain ⟨b,h3,eb,lb⟩:=above hn;have p8:2 ^ 3<=2 ^ b:=Nat.pow_le_pow_right (by decide) h3
 have hk:sizeAbove n - 1+1=2 ^ b:=by omega
 obtain ⟨t',o,e,hm,hd,hp,hs,hl,ho⟩:=a4y (f:=t.finger) (m:=t.movedTo (sizeAbove n - 1)) (l:=t.led) (p:=t.plain) hk (es.map (·.1)) (by rw [Array.size_map];omega)
 rw [Array.size_map] at hs ho;have gd':=(a76 e).1;have cov:coversAll o es.size=true:=List.isPerm_iff.mpr ho;have sz:(o.filterMap (es[·]?)).size=es.size:=by
  rw [<-Array.length_toList,Array.toList_filterMap,abi _ λx hx=>List.mem_range.mp (ho.mem_iff.mp hx),ho.length_eq,List.length_range]
 have fl:=a0o gd';have ft:t'.fits (o.filterMap (es[·]?)).size=true:=by
  unfold fits;rw [fl,sz,hs];have:es.size<=t'.mask:=by omega
  simp [this]
 have eq:relayAll t es n=(o.filterMap (es[·]?),t',false):=by
  unfold relayAll relaid;rw [e];simp only [cov,ft,Bool.and_self,if_true]
 rw [eq];exact ⟨⟨gd',⟨b,by rw [hm];exact hk⟩,by rw [hm];omega,λi hi=>by rw [hm];exact hl i hi,hp.trans g.plain⟩,rfl,ft,by show t'.fill*5<t'.mask*3;omega⟩
end SETH
namespace SETB
open PySem PySem.Spec PyProof.Rows SETA
def kOf:Int × Value->Int
 | (_, .int k _)=>k
 | _=>0
def AllI(l:List (Int × Value)):Prop:=∀ e∈l,∃ k t,e=(hashInt k,Value.int k t)
def Gr(t:SetTable):Prop:=SETH.Gs t/\t.fill*5<t.mask*3
def SetI(b:Bool)(a:Addr)(ks:List Int)(h:Heap):Prop :=
 ∃ o es ep t,h.get? a=some o/\o.ExactSet/\o.data = .set es ep t/\AllI es.toList/\(es.toList.map kOf).Perm ks/\es.size<scanBound/\t.fits es.size=true/\Gr t/\t.led=b
theorem SetI.keep{b:Bool}{a:Addr}{ks:List Int}{h h':Heap}(x:SetI b a ks h)(k:∀ o,h.get? a=some o->h'.get? a=some o):SetI b a ks h':=by
 obtain ⟨o,es,ep,t,ho,r⟩:=x;exact ⟨o,es,ep,t,k o ho,r⟩
theorem SetI.len{b:Bool}{a:Addr}{ks:List Int}{h:Heap}(x:SetI b a ks h):ks.length<scanBound:=by
 obtain ⟨o,es,ep,t,_,_,_,_,p,hb,_⟩:=x;have:=p.length_eq;rw [List.length_map,Array.length_toList] at this;omega
section
variable{prog:Program}{w:World}{E:Value->Shared->Prop}{A:Around}{s:Shared}
theorem AllI.el{l:List (Int × Value)}(h:AllI l):ElemsOf (intKind prog w) l:=λe he=>by
 obtain ⟨k,t,rfl⟩:=h e he;exact ⟨⟨k,by simp [intKind,Value.isInt],rfl⟩,rfl⟩
theorem aw0{e:Int × Value}{k j:Int}{t:Tok}(h:e=(hashInt j,Value.int j t)):(intKind prog w).is k e.2=decide (k=j):=by
 subst h
 by_cases q:k=j
 ·subst q;simp [intKind,Value.isInt]
 ·rw [decide_eq_false q];show Value.isInt k (Value.int j t)=false;simp only [Value.isInt,beq_eq_false_iff_ne,ne_eq]
  first | exact q | exact λz=>q z.symm
theorem abj{l:List (Int × Value)}(h:AllI l){k:Int}:l.findIdx? (λe=>(intKind prog w).is k e.2)=none↔k ∉ l.map kOf:=by
 rw [List.findIdx?_eq_none_iff]
 constructor
 ·intro n m
  obtain ⟨e,he,q⟩:=List.mem_map.mp m;have:=n e he;obtain ⟨j,t,rfl⟩:=h e he;rw [aw0 rfl] at this;have:¬ k=j:=of_decide_eq_false this;exact this q.symm
 ·intro n e he
  obtain ⟨j,t,rfl⟩:=h e he;rw [aw0 rfl];exact decide_eq_false λz=>n (List.mem_map.mpr ⟨_,he,z.symm⟩)
theorem stored(prog:Program)(w:World){b:Bool}{a:Addr}{o:Obj}{es es':Array (Int × Value)}{ep:Nat}{t t':SetTable}{ks:List Int}{h:Heap}(ho:h.get? a=some o)(hex:o.ExactSet)(hd:o.data = .set es ep t)(al:AllI es'.toList)(p:(es'.toList.map kOf).Perm ks)(sz:es'.size<scanBound)(f:t'.fits es'.size=true)(g:Gr t')(l:t'.led=b) :
  SetI b a ks (h.update a (Obj.putSet es' t')):=by
 have e:=SetOf_store (knd:=intKind prog w) (S':=λk=>es'.toList.any λe=>(intKind prog w).is k e.2) ho hex hd al.el (λk=>List.any_eq_true) sz f;exact ⟨_,es',ep+1,t',e.1,hex,rfl,al,p,sz,f,g,l⟩
theorem held(prog:Program)(w:World){a:Addr}{o:Obj}{es es':Array (Int × Value)}{ep:Nat}{t t':SetTable}{h:Heap}(ho:h.get? a=some o)(hex:o.ExactSet)(hd:o.data = .set es ep t)(al:AllI es'.toList)(sz:es'.size<scanBound)(f:t'.fits es'.size=true) :
  ∃ o1 ep1,(h.update a (Obj.putSet es' t')).get? a=some o1/\o1.ExactSet/\o1.data = .set es' ep1 t':=by
 have e:=SetOf_store (knd:=intKind prog w) (S':=λk=>es'.toList.any λe=>(intKind prog w).is k e.2) ho hex hd al.el (λk=>List.any_eq_true) sz f;exact ⟨_,ep+1,e.1,hex,rfl⟩
theorem size_of{t:SetTable}{n:Nat}(hf:t.fits n=true):t.place.size=n:=by
 simp only [SetTable.fits,Bool.and_eq_true,beq_iff_eq] at hf;exact hf.1
theorem an6{b:Bool}{a:Addr}{o:Obj}{es es1:Array (Int × Value)}{ep:Nat}{t t2:SetTable}{ks:List Int}{wd:Bool}{g:Bool->Sem Unit}{R:Option Bool->Shared->Prop}{rl:Array (Int × Value) × SetTable × Bool}
  (hrl:rl=relayAll t2 es1 (SetTable.grown es1.size))
  (hg:∀ (c:Bool) (z:Shared) (R':Unit->Shared->Prop),R' () z->wpAny (model prog w) A (g c) R' E z)
  (ho:s.heap.get? a=some o) (hex:o.ExactSet) (hd:o.data = .set es ep t) (al:AllI es1.toList) (pm:(es1.toList.map kOf).Perm ks) (sz:es1.size<scanBound) (f:t2.fits es1.size=true) (gs:SETH.Gs t2) (ld:t2.led=b) (hwd:wd=false)
  (fin:∀ h',Heap.SameBut a s.heap h'->SetI b a ks h'->R (some true) { s with heap:=h' }) :
  wpAny (model prog w) A (storeSet a es1 t2>>=λ_=>if (!wd && t2.tooFull)=true then (g rl.2.2>>=λ_=>storeSet a rl.1 rl.2.1>>=λ_=>pure (some true)) else pure (some true)) R E s:=by
 have fl:=SETH.a0o gs.gd;have ps:=size_of f;have big:=gs.big;have sb:=Heap.SameBut.update s.heap a (Obj.putSet es1 t2);refine wpAny_bind (wpAny_storeSet_of ho hd ?_ (fits_of_scanBound sz))
 split
 ·rename_i full;have full:t2.fill*5≥t2.mask*3:=by
   rw [hwd] at full;simpa [SetTable.tooFull] using full
  have lt:es1.size<4096:=sz;have p2:=relayAll_perm t2 es1 (SetTable.grown es1.size);obtain ⟨g2,_,f2,r2⟩:=SETH.aje gs es1 (n:=SetTable.grown es1.size) (by unfold SetTable.grown;split<;>omega) (by unfold SetTable.grown;split<;>omega) (by omega)
  have l2:=afp t2 es1 (SetTable.grown es1.size);rw [<-hrl] at p2 f2 g2 l2 r2
  clear hrl
  obtain ⟨es2,t3,gv⟩:=rl;have z2:es2.size<scanBound:=by
   have:=p2.length_eq
   simp only [Array.length_toList] at this;omega
  obtain ⟨o1,p1,ho1,hex1,hd1⟩:=held prog w ho hex hd al sz f;refine wpAny_bind (hg _ _ _ (wpAny_bind (wpAny_storeSet_of ho1 hd1 (wpAny_pure (fin _ (sb.trans (Heap.SameBut.update _ a _)) ?_)) (fits_of_scanBound z2))));exact stored prog w ho1 hex1 hd1 (λe he=>al e (p2.mem_iff.mp he)) ((p2.map kOf).trans pm) z2 f2 ⟨g2,r2⟩ (l2.trans ld)
 ·rename_i full;have full:t2.fill*5<t2.mask*3:=by
   rw [hwd] at full;simpa [SetTable.tooFull] using full
  exact wpAny_pure (fin _ sb (stored prog w ho hex hd al pm sz f ⟨gs,full⟩ ld))
theorem a2w{b:Bool}{a:Addr}{ks:List Int}{k:Int}{tk:Tok}{Q:Bool->Shared->Prop}(hS:SetI b a ks s.heap)(few:ks.length+1<scanBound)
  (q:∀ (h':Heap) (r:Bool),Heap.SameBut a s.heap h'->SetI b a (L2.stepK ks k) h'->Q r { s with heap:=h' }):wpAny (model prog w) A (setAddHashed a (.int k tk) (hashInt k)) Q E s:=by
 obtain ⟨o,es,ep,t,ho,hex,hd,al,pm,sz,ft,gd,ld⟩:=hS;have hk:(intKind prog w).is k (Value.int k tk)=true:=by simp [intKind,Value.isInt]
 have lk:es.size=ks.length:=by have:=pm.length_eq;rwa [List.length_map,Array.length_toList] at this
 unfold setAddHashed setAddHashedIn;refine wpAny_holding (wpAny_bind (wpAny_setState_of ho hd ft ?_));dsimp only;rw [byScan_of (knd:=intKind prog w) rfl sz al.el,if_pos rfl];unfold setAddByScan;refine wpAny_bind (wpAny_bind (wpAny_rule (wpAny_bind (wpAny_setScan_of (knd:=intKind prog w) hk ho hd ft al.el ?_))))
 cases c:es.toList.findIdx? (λe=>(intKind prog w).is k e.2) with
 | some j =>
  have mem:k∈ks:=by
   apply Classical.byContradiction
   intro n
   have:=(abj (prog:=prog) (w:=w) al (k:=k)).mpr λm=>n (pm.mem_iff.mp m)
   rw [this] at c;cases c
  refine wpAny_pure (wpAny_pure ?_);have:=q s.heap false (Heap.SameBut.refl a s.heap) (by rw [show L2.stepK ks k=ks from if_pos mem];exact ⟨o,es,ep,t,ho,hex,hd,al,pm,sz,ft,gd,ld⟩)
  exact this
 | none =>
  have nm:k ∉ ks:=λm=>(abj (prog:=prog) (w:=w) al).mp c (pm.mem_iff.mpr m);have es1p:=layNew_perm t es (hashInt k) (.int k tk);have wd1:=(afo gd.1.gd es (hashInt k) (.int k tk)).2;obtain ⟨gs1,_,ft1,_,_⟩:=SETH.aft gd.1 es (size_of ft) gd.2 (hashInt k) (.int k tk);have ld1:=ad6 t es (hashInt k) (.int k tk)
  generalize layNew t es (hashInt k) (.int k tk)=L at es1p ft1 gs1 ld1 wd1 ⊢
  obtain ⟨es1,t1,wd,gave⟩:=L;dsimp only at es1p ft1 gs1 ld1 wd1 ⊢;rw [Array.toList_push] at es1p;have al1:AllI es1.toList:=λe he=>by
   rcases List.mem_append.mp (es1p.mem_iff.mp he) with m | m
   ·exact al e m
   ·rw [List.mem_singleton] at m;exact ⟨k,tk,m⟩
  have pm1:(es1.toList.map kOf).Perm (L2.stepK ks k):=by
   rw [show L2.stepK ks k=ks++[k] from if_neg nm]
   refine (es1p.map kOf).trans ?_;rw [List.map_append];exact pm.append_right _
  have sz1:es1.size<scanBound:=by
   have:=es1p.length_eq
   rw [Array.length_toList,List.length_append,Array.length_toList,List.length_singleton] at this;omega
  have fin:∀ h':Heap,Heap.SameBut a s.heap h'->SetI b a (L2.stepK ks k) h'->wpAny (model prog w) A (pure true) Q E { s with heap:=h' }:=λh' sb x=>wpAny_pure (q h' true sb x)
  have way:∀ (c:Bool) (z:Shared) (R:Unit->Shared->Prop),R () z->wpAny (model prog w) A (match c with | true=>rule "set.scan.the-table-gave-way" | false=>pure ()) R E z:=λc z R h=>by
   cases c
   ·exact wpAny_pure h
   ·exact wpAny_rule h
  refine wpAny_bind (way gave _ _ ?_)
  split
  ·refine wpAny_bind ?_;rw [hashByValue_scannable 8 (x:=.int k tk) rfl];refine wpAny_pure ?_;exact an6 rfl way ho hex hd al1 pm1 sz1 ft1 gs1 (ld1.trans ld) wd1 fin
  ·rename_i z;exact absurd gs1.plain z
end
section
variable{prog:Program}{w:World}{E:Value->Shared->Prop}{A:Around}{s:Shared}
theorem SetI.typeIs{b:Bool}{a:Addr}{ks:List Int}(x:SetI b a ks s.heap):s.TypeIs (.ref a) "set":=by
 obtain ⟨o,_,_,_,ho,hex,_⟩:=x;exact ⟨o,ho,hex.1⟩
theorem ajf{b:Bool}{a:Addr}{ks:List Int}{k:Int}{tk:Tok}{Q:Value->Shared->Prop}(hS:SetI b a ks s.heap)(few:ks.length+1<scanBound)
  (q:∀ h':Heap,Heap.SameBut a s.heap h'->SetI b a (L2.stepK ks k) h'->Q .none { s with heap:=h',toks:=s.toks+1 }):wpAny (model prog w) A (call (.builtin "set.add") [.ref a, .int k tk]) Q E s:=by
 refine wpAny_call_entry F.slot_set_add hS.typeIs F.entry_set_add ?_ (F.args_set_add_2 _ _);show wpAny (model prog w) _ (Builtin.«set.add» ⟨[.ref a, .int k tk],[]⟩) _ _ s;have e:Builtin.«set.add» ⟨[.ref a, .int k tk],[]⟩=(setAdd a (.int k tk)>>=λ_=>ret .none):=by
  unfold Builtin.«set.add» Builtin.Frozenset.oneOther;rfl
 rw [e];unfold setAdd;refine wpAny_bind (wpAny_holding (wpAny_bind ((intKind prog w).pyHash (k:=k) (by simp [intKind,Value.isInt]) ?_)))
 exact a2w (s:={ s with toks:=s.toks+1 }) hS few λh' r sb x=>wpAny_pure ⟨_,rfl,q h' sb x⟩
def a05(b:Bool):Obj:={ cls:=.type "set",dict:=none,data:=.set #[] 0 (.fresh 0 0 b) }
theorem aa1{a:Addr}{b:Bool}{h:Heap}(e:h.get? a=some (a05 b)):SetI b a [] h :=
 ⟨_, #[],0,_,e,⟨rfl,rfl,rfl⟩,rfl,λe he=>by simp at he,by simp,by decide,by simp [SetTable.fits,SetTable.fresh,SetTable.fill],⟨SETH.ajd _ _ _,by show 0*5<7*3;decide⟩,rfl⟩
def byT(w:World):Bool:=w.params.followText "set-order"
theorem a79{Q:Value->Shared->Prop}(q:Q (.ref s.heap.objs.size) { s with heap:=s.heap.push (a05 (!byT w)) }):wpAny (model prog w) A (newSet (.type "set")) Q E s:=by
 unfold newSet setsByText;refine wpAny_bind (wpAny_bind (wpAny_askSetting (wpAny_pure ?_)));exact wpAny_newObj_type q
end
end SETB
set_option maxHeartbeats 1000000
namespace SETB
open PySem PySem.Spec PyProof.Rows SETA PySem.Builtin
def itO(f:Value)(i:Nat)(a:Addr)(n ep:Nat):Obj:={ cls:=.type "set_iterator",data:=.fields #[f,rawInt i, .ref a,rawInt n,rawInt ep] }
theorem slot_next:Slot "set_iterator" "__next__" "set_iterator.__next__" :=
 .of (owner := "set_iterator") (n := "__next__") (by rw [typeLookup_type,builtinLookup_eq_fast];kernel_rfl) (by decide +kernel) (by decide +kernel) (by decide +kernel)
  (Or.inl (by decide +kernel)) (by rw [isSubtype_type];kernel_rfl)
theorem entry_next:entryFor table "set_iterator.__next__" = some Builtin.«set_iterator.__next__»:=entryFor_of_fast (by kernel_rfl)
theorem args_next(a:Value):argsOk "set_iterator.__next__" ⟨[a],[]⟩:=by unfold argsOk;kernel_rfl
theorem ad8:entryFor table "set.__iter__" = some Builtin.«frozenset.__iter__» :=
 entryFor_alias (id' := "frozenset.__iter__") (by kernel_rfl) rfl (by decide +kernel) (by kernel_rfl)
theorem afu(a:Value):argsOk "set.__iter__" ⟨[a],[]⟩:=by unfold argsOk;kernel_rfl
section
variable{prog:Program}{w:World}{E:Value->Shared->Prop}{A:Around}{s:Shared}
theorem a2x{Q:Bool->Shared->Prop}(q:Q (byT w) s):wpAny (model prog w) A setsByText Q E s:=by
 unfold setsByText;exact wpAny_bind (wpAny_askSetting (wpAny_pure q))
theorem a5a{a:Addr}{o:Obj}{es:Array (Int × Value)}{ep i slot ep' k:Nat}{t:SetTable}{Q:Option (Value × Nat)->Shared->Prop}(ho:s.heap.get? a=some o)(hd:o.data = .set es ep t)(hf:t.fits es.size=true)(bt:byT w=false)(pl:t.plain=true\/es.size<=1)(ld:t.led=true)(hk:SetTable.below t.place slot=k)
  {r:Option (Value × Nat)} (hr:(∃ h x j,es[k]? = some (h,x)/\t.place[k]? = some j/\r=some (x,j+1))\/(es[k]? = none/\r=none)) (q:Q r s):wpAny (model prog w) A (setNext a slot i ep') Q E s:=by
 subst hk;unfold setNext
 apply wpAny_bind
 apply wpAny_setState_of ho hd hf
 apply wpAny_bind
 apply a2x
 simp only [bt,Bool.false_eq_true,if_false]
 split
 ·rename_i z;have z:(!t.plain && decide (es.size > 1))=true:=z
  rcases pl with p | p
  ·rw [p] at z;cases z
  ·rw [decide_eq_false (by omega),Bool.and_false] at z
   cases z
 have led:∀ R:Unit->Shared->Prop,R () s->wpAny (model prog w) A (if (!t.led && !es.isEmpty)=true then unsupported "set:maker-not-led" else pure ()) R E s:=λR r=>by
  rw [ld];exact wpAny_pure r
 refine wpAny_bind (led _ (wpAny_pure ?_))
 rcases hr with ⟨h,x,j,e,f,rfl⟩ | ⟨e,rfl⟩
 ·rw [e,f];exact q
 ·rw [e];exact q
def Tells(w:World)(a:Addr)(slot i ep:Nat)(r:Option (Value × Nat))(s:Shared):Prop:=∀ (prog:Program) (A:Around) (E:Value->Shared->Prop) (Q:Option (Value × Nat)->Shared->Prop),Q r s->wpAny (model prog w) A (setNext a slot i ep) Q E s
theorem next_item{it a:Addr}{o:Obj}{es:Array (Int × Value)}{ep i slot nx:Nat}{t:SetTable}{x:Value}{Q:Option Value->Shared->Prop}(hi:s.heap.get? it=some (itO (rawInt slot) i a es.size ep))(ho:s.heap.get? a=some o)(hd:o.data = .set es ep t)(hf:t.fits es.size=true)(hn:Tells w a slot i ep (some (x,nx)) s)
  (q:∀ h':Heap,h'.get? it=some (itO (rawInt nx) (i+1) a es.size ep)->Heap.SameBut it s.heap h'->Q (some x) { s with heap:=h' }):wpAny (model prog w) A (pyNext (.ref it)) Q E s:=by
 have hT:s.TypeIs (.ref it) "set_iterator":=⟨_,hi,rfl⟩;unfold pyNext;refine wpAny_bind (wpAny_attempt (wpAny_callSpecial?_slot (name:=Str.ofString "__next__") hT slot_next (wpAny_call_entry slot_next hT entry_next ?_ (args_next _))));unfold Builtin.«set_iterator.__next__»;have hn':∀ {A:Around} {E:Value->Shared->Prop} {Q:Option (Value × Nat)->Shared->Prop},Q _ s->wpAny (model prog w) A (setNext a (slot:Int).toNat (i:Int).toNat (ep:Int).toNat) Q E s:=λ{A E Q} r=>hn prog A E Q r
 wp_walk using hn',wpAny_setState_of ho hd hf
 exact ⟨x,rfl,wpAny_pure (q _ (Heap.get?_update_self _ (Heap.get?_update_self _ hi rfl) rfl) ((Heap.SameBut.update ..).trans (Heap.SameBut.update ..)))⟩
theorem afv{it a:Addr}{o:Obj}{es:Array (Int × Value)}{ep i slot:Nat}{t:SetTable}{Q:Option Value->Shared->Prop}(hh:A.handled=none)(hi:s.heap.get? it=some (itO (rawInt slot) i a es.size ep))(ho:s.heap.get? a=some o)(hd:o.data = .set es ep t)(hf:t.fits es.size=true)(hn:Tells w a slot i ep none s)
  (q:∀ h':Heap,Heap.ExtBut it s.heap h'->Q none { s with heap:=h' }):wpAny (model prog w) A (pyNext (.ref it)) Q E s:=by
 have hT:s.TypeIs (.ref it) "set_iterator":=⟨_,hi,rfl⟩;unfold pyNext;refine wpAny_bind (wpAny_attempt (wpAny_callSpecial?_slot (name:=Str.ofString "__next__") hT slot_next (wpAny_call_entry slot_next hT entry_next ?_ (args_next _))));unfold Builtin.«set_iterator.__next__»;have hn':∀ {A:Around} {E:Value->Shared->Prop} {Q:Option (Value × Nat)->Shared->Prop},Q _ s->wpAny (model prog w) A (setNext a (slot:Int).toNat (i:Int).toNat (ep:Int).toNat) Q E s:=λ{A E Q} r=>hn prog A E Q r
 wp_walk using hn',wpAny_setState_of ho hd hf
 unfold raiseNew
 apply wpAny_bind
 apply wpAny_handled
 rw [show A.in1.handled=_ from hh]
 wp_walk
 show wpAny (model prog w) A (isSubtype (.type "StopIteration") (.type "StopIteration")) _ _ _;rw [isSubtype_stop];exact wpAny_pure (wpAny_pure (q _ λb o hb e=>Heap.get?_push_of_some _ (Heap.get?_push_of_some _ ((Heap.SameBut.update s.heap it _).extBut b o hb e))))
end
end SETB
set_option maxHeartbeats 1000000
namespace SETB
open PySem PySem.Spec PyProof.Rows SETA PySem.Builtin
def slotAt(t:SetTable)(i:Nat):Nat:=if i=0 then 0 else t.place.getD (i - 1) 0+1
theorem afw{t:SetTable}(g:Gd t){i:Nat}(h:i<=t.place.size):SetTable.below t.place (slotAt t i)=i:=by
 unfold slotAt
 split
 ·rename_i z;subst z;exact an2 g.ri
 ·have hk:i - 1<t.place.size:=by omega
  have e:t.place.getD (i - 1) 0=t.place[i - 1]:=by simp [Array.getD,hk]
  rw [e,ad2 g.ri hk];omega
section
variable{prog:Program}{w:World}{E:Value->Shared->Prop}{A:Around}{s:Shared}{a:Addr}{o:Obj}{es:Array (Int × Value)}{ep i:Nat}{t:SetTable}
theorem ad9(ho:s.heap.get? a=some o)(hd:o.data = .set es ep t)(hf:t.fits es.size=true)(bt:byT w=false)(pl:t.plain=true\/es.size<=1)(ld:t.led=true)(g:Gd t)(hi:i<es.size):Tells w a (slotAt t i) i ep (some (es[i].2,slotAt t (i+1))) s:=λprog A E Q q=>by
 have sz:=size_of hf;refine a5a ho hd hf bt pl ld (afw g (by omega)) (.inl ⟨_,_,_,Array.getElem?_eq_getElem hi,Array.getElem?_eq_getElem (by omega),rfl⟩) ?_
 have e:slotAt t (i+1)=t.place[i]'(by omega)+1:=by
  unfold slotAt;rw [if_neg (by omega)]
  simp [Array.getD,show i<t.place.size by omega]
 rw [e] at q;exact q
theorem ada(ho:s.heap.get? a=some o)(hd:o.data = .set es ep t)(hf:t.fits es.size=true)(bt:byT w=false)(pl:t.plain=true\/es.size<=1)(ld:t.led=true)(g:Gd t):Tells w a (slotAt t es.size) es.size ep none s:=λprog A E Q q=>by
 have sz:=size_of hf;exact a5a ho hd hf bt pl ld (afw g (by omega)) (.inr ⟨Array.getElem?_eq_none (by omega),rfl⟩) q
theorem ajg{Q:Value->Shared->Prop}(ho:s.heap.get? a=some o)(hex:o.ExactSet)(hd:o.data = .set es ep t)(hf:t.fits es.size=true)(nd:byT w=true\/t.plain=true\/es.size<=1)
  (q:Q (.ref s.heap.objs.size) { s with heap:=s.heap.push (itO (rawInt 0) 0 a es.size ep) }):wpAny (model prog w) A (pyIter (.ref a)) Q E s:=by
 have ht:s.TypeIs (.ref a) "set":=⟨_,ho,hex.1⟩;refine wpAny_pyIter_slot ht F.slot_set_iter (wpAny_call_entry F.slot_set_iter ht ad8 ?_ (afu _));have dr:∀ {A:Around} {E:Value->Shared->Prop} {Q:Bool->Shared->Prop},Q false s->wpAny (model prog w) A (setDrawn a) Q E s:=λ{A E Q} r=>by
  unfold setDrawn;refine wpAny_bind (wpAny_setState_of ho hd hf (wpAny_bind (a2x (wpAny_pure ?_))));have:(!byT w && (!t.plain && decide (es.size > 1)))=false:=by
   rcases nd with z | z | z
   ·rw [z];rfl
   ·rw [z];simp
   ·rw [decide_eq_false (by omega)];simp
  rw [<-this] at r;exact r
 unfold Builtin.«frozenset.__iter__»
 wp_walk using dr,wpAny_setState_of ho hd hf
 exact ⟨_,rfl, "set_iterator",_,⟨_,Heap.get?_push_size _ rfl,rfl⟩,slot_next.lookup,q⟩
end
end SETB
set_option maxHeartbeats 1000000
namespace SETB
open PySem PySem.Spec PyProof.Rows SETA PySem.Builtin
theorem a6d{α:Type}:∀ (l:List α) (i:Nat) (h:i<l.length),(l[i]::l.eraseIdx i).Perm l
 | x::l,0,_=>.refl _
 | x::l,i+1,h=>(List.Perm.swap ..).trans ((a6d l i (Nat.lt_of_succ_lt_succ h)).cons x)
theorem afx{α:Type}(nx:Nat->Nat):∀ (n k:Nat) (l:List α) (out:Array α),l.length=n->(pickOrder.go nx n k l out).toList.Perm (out.toList++l)
 | 0,k,l,out,e=>by
  cases l with
  | nil=>simp [pickOrder.go]
  | cons x l=>cases e
 | n+1,k,l,out,e=>by
  have hi:nx k % l.length<l.length:=Nat.mod_lt _ (by omega)
  unfold pickOrder.go;rw [List.getElem?_eq_getElem hi];refine (afx nx n (k+1) _ _ (by rw [List.length_eraseIdx_of_lt hi];omega)).trans ?_
  rw [Array.toList_push,List.append_assoc];exact (a6d l _ hi).append_left _
theorem afy{α:Type}(nx:Nat->Nat)(xs:Array α):(pickOrder nx xs).toList.Perm xs.toList:=by
 have:=afx nx xs.size 0 xs.toList #[] (by simp)
 simpa [pickOrder] using this
def a6e(w:World)(a:Addr)(ep:Nat)(es:Array (Int × Value)):Array (Int × Value):=if byT w then pickOrder (w.params.setOrder a ep) es else es
theorem a3u(w:World)(a:Addr)(ep:Nat)(es:Array (Int × Value)):(a6e w a ep es).toList.Perm es.toList:=by
 unfold a6e
 split
 ·exact afy _ _
 ·exact .refl _
theorem a2b(w:World)(a:Addr)(ep:Nat)(es:Array (Int × Value)):(a6e w a ep es).size=es.size:=by
 have:=(a3u w a ep es).length_eq
 simpa using this
def a7a(w:World)(t:SetTable)(i:Nat):Nat:=if byT w then 0 else slotAt t i
section
variable{prog:Program}{w:World}{E:Value->Shared->Prop}{A:Around}{s:Shared}{a:Addr}{o:Obj}{es:Array (Int × Value)}{ep i:Nat}{t:SetTable}
theorem a5b{Q:Array (Int × Value)->Shared->Prop}(ho:s.heap.get? a=some o)(hd:o.data = .set es ep t)(hf:t.fits es.size=true)(bt:byT w=true)(q:Q (pickOrder (w.params.setOrder a ep) es) s):wpAny (model prog w) A (setWalk a) Q E s:=by
 unfold setWalk
 apply wpAny_bind
 apply wpAny_setState_of ho hd hf
 apply wpAny_bind
 apply a2x
 simp only [bt,if_true];exact wpAny_bind (wpAny_askSetting (wpAny_pure q))
theorem a91{slot:Nat}{Q:Option (Value × Nat)->Shared->Prop}(ho:s.heap.get? a=some o)(hd:o.data = .set es ep t)(hf:t.fits es.size=true)(bt:byT w=true)
  (q:Q (((pickOrder (w.params.setOrder a ep) es)[i]?).map λe=>(e.2,slot)) s):wpAny (model prog w) A (setNext a slot i ep) Q E s:=by
 unfold setNext
 apply wpAny_bind
 apply wpAny_setState_of ho hd hf
 apply wpAny_bind
 apply a2x
 simp only [bt,if_true,bne_self_eq_false,Bool.false_eq_true,if_false]
 first
 | exact wpAny_bind (a5b ho hd hf bt (wpAny_pure q))
 | exact wpAny_bind (wpAny_pure (wpAny_bind (a5b ho hd hf bt (wpAny_pure q))))
theorem an7(ho:s.heap.get? a=some o)(hd:o.data = .set es ep t)(hf:t.fits es.size=true)(nd:byT w=true\/t.plain=true\/es.size<=1)(ld:t.led = !byT w)(g:Gd t)(hi:i<(a6e w a ep es).size):Tells w a (a7a w t i) i ep (some ((a6e w a ep es)[i].2,a7a w t (i+1))) s:=by
 have sz:=a2b w a ep es
 cases bt:byT w with
 | true =>
  intro prog A E Q q
  refine a91 ho hd hf bt ?_;have e:pickOrder (w.params.setOrder a ep) es=a6e w a ep es:=by unfold a6e;rw [bt];rfl
  rw [e,Array.getElem?_eq_getElem hi];unfold a7a at q ⊢;rw [bt] at q ⊢;exact q
 | false =>
  have e:a6e w a ep es=es:=by unfold a6e;rw [bt];rfl
  rw [bt] at ld;have:=ad9 (i:=i) ho hd hf bt (nd.resolve_left (by rw [bt];decide)) ld g (by omega)
  unfold a7a;rw [bt];simp only [e,Bool.false_eq_true,if_false];exact this
theorem afz(ho:s.heap.get? a=some o)(hd:o.data = .set es ep t)(hf:t.fits es.size=true)(nd:byT w=true\/t.plain=true\/es.size<=1)(ld:t.led = !byT w)(g:Gd t):Tells w a (a7a w t es.size) es.size ep none s:=by
 have sz:=a2b w a ep es
 cases bt:byT w with
 | true =>
  intro prog A E Q q
  refine a91 ho hd hf bt ?_;have e:pickOrder (w.params.setOrder a ep) es=a6e w a ep es:=by unfold a6e;rw [bt];rfl
  rw [e,Array.getElem?_eq_none (by omega)]
  exact q
 | false =>
  rw [bt] at ld;have:=ada ho hd hf bt (nd.resolve_left (by rw [bt];decide)) ld g
  unfold a7a;rw [bt];exact this
end
end SETB
set_option maxHeartbeats 1000000
namespace SETB
open PySem PySem.Spec PyProof.Rows SETA PySem.Builtin
theorem slot_self:Slot "set_iterator" "__iter__" "set_iterator.__iter__" :=
 .of (owner := "set_iterator") (n := "__iter__") (by rw [typeLookup_type,builtinLookup_eq_fast];kernel_rfl) (by decide +kernel) (by decide +kernel) (by decide +kernel)
  (Or.inl (by decide +kernel)) (by rw [isSubtype_type];kernel_rfl)
theorem entry_self:entryFor table "set_iterator.__iter__" = some Builtin.«dict_keyiterator.__iter__»:=entryFor_alias (id' := "dict_keyiterator.__iter__") (by kernel_rfl) rfl (by decide +kernel) (by kernel_rfl)
theorem args_self(a:Value):argsOk "set_iterator.__iter__" ⟨[a],[]⟩:=by unfold argsOk;kernel_rfl
section
variable{prog:Program}{w:World}{A:Around}{a I:Addr}{o:Obj}{es:Array (Int × Value)}{ep:Nat}{t:SetTable}
theorem an8{s:Shared}{E:Value->Shared->Prop}{Q:Value->Shared->Prop}(ht:s.TypeIs (.ref I) "set_iterator")(q:Q (.ref I) s):wpAny (model prog w) A (pyIter (.ref I)) Q E s:=by
 refine wpAny_pyIter_slot ht slot_self (wpAny_call_entry slot_self ht entry_self ?_ (args_self _));show wpAny (model prog w) _ (ret (.ref I)) _ _ s;exact wpAny_pure ⟨_,rfl, "set_iterator",_,ht,slot_next.lookup,q⟩
theorem ag0(hh:A.handled=none)(ne:a≠I)(hd:o.data = .set es ep t)(hf:t.fits es.size=true)(nd:byT w=true\/t.plain=true\/es.size<=1)(ld:t.led = !byT w)(g:Gd t) :
  Walks prog w A I [I,a] [I] es.size (λi v=>((a6e w a ep es)[i]?).map (·.2)=some v) (λi h=>h.get? I=some (itO (rawInt (a7a w t i)) i a es.size ep)/\h.get? a=some o) where
 sub:=λb hb=>List.mem_cons.mpr (.inl (List.mem_singleton.mp hb))
 frame:=λ_ _ _ st hk=>⟨hk I (by simp) _ st.1,hk a (by simp) _ st.2⟩
 item:=λi s Q E hi st q=>by
  have hi':i<(a6e w a ep es).size:=by rw [a2b];exact hi
  refine next_item st.1 st.2 hd hf (an7 st.2 hd hf nd ld g hi') λh' e sb=>?_;exact q _ h' s.toks (by rw [Array.getElem?_eq_getElem hi'];rfl) ⟨e,sb.extBut a o ne st.2⟩ λb o hb e=>sb.extBut b o (λh=>hb (by simp [h])) e
 done:=λs Q E st q=>afv hh st.1 st.2 hd hf (afz st.2 hd hf nd ld g) λh' e=>q h' s.toks λb o hb x=>e b o (λh=>hb (by simp [h])) x
 self:=λi s Q E st q=>an8 ⟨_,st.1,rfl⟩ q
end
theorem ag1{prog:Program}{w:World}{A:Around}{s:Shared}{E:Value->Shared->Prop}{a:Addr}{ks:List Int}{Q:Value->Shared->Prop}(hh:A.handled=none)(hS:SetI (!byT w) a ks s.heap)
  (q:∀ (es:Array (Int × Value)) (St:Nat->Heap->Prop),AllI es.toList->(es.toList.map kOf).Perm ks->∀ h':Heap,(∀ b o,s.heap.get? b=some o->h'.get? b=some o)->h'.objs.size=s.heap.objs.size+1->St 0 h'->
   Walks prog w A s.heap.objs.size [s.heap.objs.size,a] [s.heap.objs.size] es.size (λi v=>(es[i]?).map (·.2)=some v) St->Q (.ref s.heap.objs.size) { s with heap:=h' }):wpAny (model prog w) A (pyIter (.ref a)) Q E s:=by
 obtain ⟨o,es,ep,t,ho,hex,hd,al,pm,sz,ft,gr,ld⟩:=hS;have nd:byT w=true\/t.plain=true\/es.size<=1:=.inr (.inl gr.1.plain);refine ajg ho hex hd ft nd ?_;have ne:a≠s.heap.objs.size:=λc=>by
  rw [c] at ho;simp [Heap.get?] at ho
 have W:=ag0 (prog:=prog) (I:=s.heap.objs.size) hh ne hd ft nd ld gr.1.gd;have pp:=a3u w a ep es;rw [<-a2b w a ep es] at W;refine q (a6e w a ep es) _ (λe he=>al e (pp.mem_iff.mp he)) ((pp.map kOf).trans pm) _ (λb o e=>Heap.get?_push_of_some _ e) (by simp [Heap.push]) ⟨?_,Heap.get?_push_of_some _ ho⟩ W
 have s0:a7a w t 0=0:=by unfold a7a slotAt;simp
 rw [s0,a2b];exact Heap.get?_push_size _ rfl
end SETB
set_option maxHeartbeats 1000000
namespace SETB
open PySem PySem.Spec PyProof.Rows SETA PySem.Builtin
section
variable{prog:Program}{w:World}{A:Around}{s:Shared}{E:Value->Shared->Prop}{a:Addr}{ks:List Int}
theorem ajh{Q:Bool->Shared->Prop}(ht:s.TypeIs (.ref a) "set")(q:Q false s):wpAny (model prog w) A (Builtin.List.listLengthHint (.ref a)) Q E s:=by
 unfold Builtin.List.listLengthHint;refine wpAny_bind (wpAny_specialOf ht F.slot_set_len.lookup ?_);have sp:splitId "set.__len__" = some ("set", "__len__"):=by decide +kernel
 dsimp only;rw [sp];dsimp only
 apply wpAny_bind
 apply wpAny_isInstance (T := "set") (b:=true) ht (by rw [isSubtype_type];kernel_rfl)
 rw [if_neg (by decide)]
 refine wpAny_ite_split (λ_=>?_) λn=>absurd (by decide +kernel) n
 apply wpAny_bind
 apply wpAny_typeOf ht
 exact wpAny_pure q
theorem aa2{Q:List Value->Shared->Prop}(hh:A.handled=none)(hS:SetI (!byT w) a ks s.heap)
  (q:∀ (vs:List Value) (js:List Int) (s':Shared),js.Perm ks->vs.length=js.length->(∀ (i:Nat) (v:Value),vs[i]? = some v->∃ k t,js[i]? = some k/\v=Value.int k t)->Moved [] (λx y=>y=x) s s'->s.heap.objs.size<=s'.heap.objs.size->Q vs s'):wpAny (model prog w) A (collect (.ref a)) Q E s:=by
 unfold collect
 apply wpAny_bind
 apply wpAny_runValue
 apply codeAny_builtin F.entry_proto_collect
 rw [Around.under_plainId F.plain_proto_collect _];unfold Builtin.«proto.collect»
 wp_walk
 refine ⟨plainId_quiet F.plain_list_iadd _,codeAny_builtin F.entry_list_iadd ?_⟩;rw [Around.under_plainId F.plain_list_iadd _];obtain ⟨o,ho,hT⟩:∃ o,s.heap.get? a=some o/\o.cls = .type "set":=by
  obtain ⟨o,es,ep,t,ho,hex,_⟩:=hS;exact ⟨o,ho,hex.1⟩
 have lt:=Heap.lt_size ho;have up:∀ b x,s.heap.get? b=some x->(s.heap.push { cls:=.type "list",data:=.seq #[] }).get? b=some x:=λb x e=>Heap.get?_push_of_some _ e;have sz0:(s.heap.push { cls:=.type "list",data:=.seq #[] }).objs.size=s.heap.objs.size+1:=by simp [Heap.push]
 have hL:(s.heap.push { cls:=.type "list",data:=.seq #[] }).get? s.heap.objs.size=some { cls:=.type "list",data:=.seq #[] }:=Heap.get?_push_size _ rfl;have hS0:=hS.keep λx e=>up a x e;have few:=hS.len
 generalize s.heap.push { cls:=.type "list",data:=.seq #[] }=h0 at up sz0 hL hS0 ⊢
 show wpAny (model prog w) A.in1 (Builtin.List.listExtendWith (.ref s.heap.objs.size) (.ref a) (.ref s.heap.objs.size)) _ _ _;unfold Builtin.List.listExtendWith
 apply wpAny_bind
 have ht0:({ s with heap:=h0 }:Shared).TypeIs (.ref a) "set":=⟨o,up a o ho,hT⟩
 apply wpAny_typeOf ht0
 have far:s.heap.objs.size≠a:=Nat.ne_of_gt lt;rw [if_neg (by simp [Builtin.List.listSameRef,far])]
 apply wpAny_bind
 refine ag1 (s:={ s with heap:=h0 }) hh hS0 λes St al pm h1 ext sz1 st W=>?_
 apply wpAny_bind
 apply wpAny_holding
 have ht1:({ s with heap:=h1 }:Shared).TypeIs (.ref a) "set":=⟨o,ext a o (up a o ho),hT⟩
 apply ajh ht1
 refine wpAny_ite_split (λ_=>?_) λn=>absurd (by decide +kernel) n
 apply wpAny_bind
 apply wpAny_rule
 apply wpAny_bind
 have n1:es.size=ks.length:=by
  have:=pm.length_eq
  rwa [List.length_map,Array.length_toList] at this
 have hL1:=ext _ _ hL;show wpAny (model prog w) A.in1 (updateSeq s.heap.objs.size (·.push .none)>>=λ_=>updateSeq s.heap.objs.size (·.pop)) _ _ _;refine wpAny_bind (wpAny_updateSeq hL1 rfl ?_);have hL2:=Heap.get?_update_self (Obj.mapSeq (·.push Value.none)) hL1 rfl;refine wpAny_updateSeq hL2 rfl ?_;have hL3:=Heap.get?_update_self (Obj.mapSeq (·.pop)) hL2 rfl;have oth:∀ b x,b≠s.heap.objs.size->h1.get? b=some x->((h1.update s.heap.objs.size (Obj.mapSeq (·.push Value.none))).update s.heap.objs.size (Obj.mapSeq (·.pop))).get? b=some x :=
  λb x hb e=>(Heap.get?_update_other _ _ (Ne.symm hb)).trans ((Heap.get?_update_other _ _ (Ne.symm hb)).trans e)
 have hf:s.heap.objs.size ∉ [h0.objs.size,a]:=λc=>by
  simp only [List.mem_cons,List.not_mem_nil,or_false] at c
  rcases c with c | c
  ·exact Nat.ne_of_lt (Nat.lt_of_lt_of_eq (Nat.lt_succ_self _) sz0.symm) c
  ·exact far c
 refine wpAny_pure ⟨plainId_quiet F.plain_extend_loop _,codeAny_extend_loopS W.toS (by have:ks.length<4096:=few;rw [n1];unfold sizeLine;omega) _ hf _ es.size 0 _ _ _ rfl (Nat.zero_le _)
  (W.frame 0 h1 _ st λb hb x e=>oth b x (λc=>hf (c ▸ hb)) e) hL3 (ItemsOf.nil _) λs' acc c' hm hA hI=>?_⟩
 show wpAny (model prog w) A (load s.heap.objs.size>>=_) _ _ s'
 apply wpAny_bind
 apply wpAny_load hA
 refine wpAny_pure (q acc.toList (es.toList.map kOf) s' pm (by rw [Array.length_toList,hI.1,List.length_map,Array.length_toList]) (λi v e=>?_) ⟨λb x _ e=>?_,hm.gens,hm.drawn,hm.os,hm.toks⟩ (Nat.le_of_lt (Heap.lt_size hA)))
 ·have this:(es[i]?).map (·.2)=some v:=hI.2 i v (by simpa using e)
  cases g:es[i]? with
  | none=>rw [g] at this;cases this
  | some y =>
   rw [g] at this;have m:y∈es.toList:=by
    obtain ⟨hi,z⟩:=Array.getElem?_eq_some_iff.mp g;rw [<-z];simp
   obtain ⟨k,t,rfl⟩:=al y m;cases this
   exact ⟨k,t,by simp [g,kOf],rfl⟩
 ·have lb:=Heap.lt_size e;refine hm.heap b x (λc=>?_) (oth b x (Nat.ne_of_lt lb) (ext b x (up b x e)));simp only [List.mem_cons,List.not_mem_nil,or_false] at c
  rcases c with c | c
  ·exact Nat.ne_of_lt lb c
  ·exact Nat.ne_of_lt (Nat.lt_of_lt_of_eq (Nat.lt_succ_of_lt lb) sz0.symm) c
end
end SETB
set_option maxHeartbeats 1000000
namespace SETB
open PySem PySem.Spec PyProof.Rows SETA PySem.Builtin
section
variable{prog:Program}{w:World}{A:Around}{s:Shared}{E:Value->Shared->Prop}{a:Addr}{ks:List Int}
theorem ints_of{vs:List Value}{js:List Int}(len:vs.length=js.length)(h:∀ (i:Nat) (v:Value),vs[i]? = some v->∃ k t,js[i]? = some k/\v=Value.int k t):IntsAre vs js:=by
 have all:∀ v,v∈vs->∃ n t,v=Value.int n t:=λv hv=>by
  obtain ⟨i,hi,e⟩:=List.mem_iff_getElem.mp hv;obtain ⟨k,t,_,z⟩:=h i v (by rw [List.getElem?_eq_getElem hi,e])
  exact ⟨k,t,z⟩
 have e:vs.map numOf=js:=by
  refine List.ext_getElem (by rw [List.length_map,len]) λi h1 h2=>?_
  have hi:i<vs.length:=by omega
  obtain ⟨k,t,x,z⟩:=h i vs[i] (List.getElem?_eq_getElem hi);rw [List.getElem_map,z];rw [List.getElem?_eq_getElem h2] at x;cases x
  rfl
 have:=intsAre_map vs all
 rwa [e] at this
theorem adb{Q:Value->Shared->Prop}(hh:A.handled=none)(hS:SetI (!byT w) a ks s.heap)(h64:ks.length<64)
  (q:∀ (l:Addr) (out:Array Value) (e:Nat) (s':Shared),s.heap.objs.size<=l->IntsAre out.toList (PySem.W.sortI ks)->s'.heap.get? l=some (seqObj "list" out e)->Moved [] (λx y=>y=x) s s'->Q (.ref l) s') :
  wpAny (model prog w) A (call (.builtin "sorted") [.ref a]) Q E s:=by
 refine Calls.call_function_entry kind_sorted plain_sorted entry_sorted (args_sorted1 _) ?_;unfold Builtin.«sorted»
 apply wpAny_bind (m:=checkCount "sorted" 1 1 _)
 apply wpAny_pure
 apply wpAny_bind
 refine aa2 hh hS λvs js s1 pj len it mv up=>?_;have hI:=ints_of len it;have l64:vs.length<64:=by rw [len,pj.length_eq];exact h64
 apply wpAny_bind
 refine wpAny_newList ?_ (hsz:=by rw [sizeLine_eq];omega)
 have hL:(s1.heap.push (seqObj "list" vs.toArray 0)).get? s1.heap.objs.size=some (seqObj "list" vs.toArray 0):=Heap.get?_push_size _ rfl
 apply wpAny_bind
 apply wpAny_holding
 refine wpAny_call_entry slot_list_sort (s:={ s1 with heap:=s1.heap.push (seqObj "list" vs.toArray 0) }) ⟨_,hL,rfl⟩ entry_list_sort (list_sort_tree hL hI l64 λout ns a1 a2 a3=>⟨_,rfl,?_⟩) (args_list_sort _)
 have e2:ns=PySem.W.sortI ks:=PySem.W.eq_sortI (a2.trans pj) a3;subst e2;obtain ⟨e,he⟩:=sortedHeap_at (out:=out) hL;refine wpAny_pure ⟨_,rfl,q _ out e _ ?_ a1 he ⟨λb x hb g=>?_,mv.gens,mv.drawn,mv.os,mv.toks⟩⟩
 ·exact up
 ·have g1:=mv.heap b x hb g;have lt:=Heap.lt_size g1;show (sortedHeap _ _ _ _).get? b=some x;rw [sortedHeap_old (Nat.ne_of_lt lt) (by rw [size_push'];exact Nat.lt_succ_of_lt lt)]
  exact Heap.get?_push_of_some _ g1
end
end SETB
set_option maxHeartbeats 1000000
namespace L2
open PySem PySem.Spec PyProof.Rows SETB
def abk(w:World)(a:Addr)(ks:List Int):HO:=.ext λh=>SetI (!byT w) a ks h
section
variable{X:Cx}
theorem xm(hc:X.calm=true):CallR X (.builtin "sorted") (λxs H Q=>∃ (p:Addr) (ks:List Int),xs=[.ref p]/\H p=some (abk X.w p ks)/\ks.length<64/\∀ l,H l=none->Q (.ref l) (upd H l (.lst ((PySem.W.sortI ks).map V.int)))):=by
 intro pins s σ H xs us Q I r ⟨p,ks,e,hp,h64,q⟩
 subst e;obtain ⟨u,rfl,ru⟩:=vals1 r;cases ru
 obtain ⟨hS,_⟩:=I.hok p _ hp;refine adb (I.ok.hd hc) hS h64 λl out e s' hl a1 he mv=>?_;obtain ⟨h',g',d',t',o'⟩:=s';obtain ⟨mh,mg,md,mo,mt⟩:=mv;dsimp only at mh mg md mo mt he;subst mg md mo;have ln:(PySem.W.sortI ks).length=ks.length:=(PySem.W.sortI_perm ks).length_eq;refine ⟨.ref l,_,I.laid (t':=t') (λb u g=>mh b u (by simp) g) hl (show ObjOk X.prog X.w _ _ _ (.lst ((PySem.W.sortI ks).map V.int)) from ⟨by rw [List.length_map,ln];have:=sizeLine_eq;omega,out.toList,e,a4g a1,by simpa [seqObj] using he⟩),rfl,q _ (I.hok.fresh hl)⟩
theorem aa3{P:Program}{w:World}{H:Hp}{h:Heap}{a:Addr}{ks:List Int}(x:SetI (!byT w) a ks h):ObjOk P w H h a (abk w a ks):=by
 refine ⟨x,?_,λh1 h2 p k=>p.keep k⟩;obtain ⟨o,_,_,_,ho,_⟩:=x;exact ⟨o,ho⟩
end
end L2
set_option maxHeartbeats 1000000
namespace L2
open PySem PySem.Spec PyProof.Rows SETB
section
variable{prog:Program}{w:World}{A:Around}{R:Result->Shared->Prop}{s:Shared}{elt t0 i0 t1 i1:Expr}{scope:Scope}{pos:Pos}{it acc:Value}{env:Env}
theorem adc(J:Nat->Shared->Prop)
  (step:∀ m z,J m z->wpAny (model prog w) A (pyNext it) (λgot z1=>match got with
   | none=>R (.ok .next) z1
   | some v=>wpAny (model prog w) A (letOwnedTupleGo t1 it v) (λ_ z2=>wpAny (model prog w) A (assign t1 env v) (λ_ z3=>wpAny (model prog w) A (eval elt env) (λx z4 =>
     wpAny (model prog w) A (call (.builtin "set.add") [acc,x]) (λ_ z5=>∃ m',m'<m/\J m' z5) (λ_ _=>False) z4)
     (λ_ _=>False) z3) (λ_ _=>False) z2) (λ_ _=>False) z1) (λ_ _=>False) z)
  (m:Nat) (j0:J m s):codeAny (model prog w) A (.compLoop (.SetComp elt [⟨t0,i0,[],0⟩,⟨t1,i1,[],0⟩] scope pos) 1 it acc env) R s:=by
 refine codeAny_loop rfl J (λm z hj=>(wpAny_noted ?_:wpAny _ _ ((compTurn (.SetComp elt [⟨t0,i0,[],0⟩,⟨t1,i1,[],0⟩] scope pos) 1 it acc env).onRaise _) _ _ z)) m j0;show wpAny (model prog w) _ (standAt i1.pos>>=λ_=>pyNext it>>=_) _ _ z
 apply wpAny_bind
 apply wpAny_standAt
 apply wpAny_bind
 refine wpAny_mono (step m z hj) (λgot z1 h1=>?_) λ_ _ no=>no.elim
 match got,h1 with
 | none,h1=>exact wpAny_pure h1
 | some v,h1 =>
  apply wpAny_bind
  refine wpAny_mono h1 (λ_ z2 h2=>?_) λ_ _ no=>no.elim
  apply wpAny_bind
  refine wpAny_mono h2 (λ_ z3 h3=>?_) λ_ _ no=>no.elim;show wpAny (model prog w) _ ((eval elt env>>=λx=>standAt elt.pos>>=λ_=>call (.builtin "set.add") [acc,x]>>=λ_=>pure ())>>=_) _ _ _
  apply wpAny_bind
  apply wpAny_bind
  refine wpAny_mono h3 (λx z4 h4=>?_) λ_ _ no=>no.elim
  apply wpAny_bind
  apply wpAny_standAt
  apply wpAny_bind
  exact wpAny_mono h4 (λ_ z5 h5=>wpAny_pure (wpAny_pure ⟨rfl,h5⟩)) λ_ _ no=>no.elim
theorem aa4(h0:codeAny (model prog w) A (.compLoop (.SetComp elt [⟨t0,i0,[],0⟩,⟨t1,i1,[],0⟩] scope pos) 1 it acc env) R s)
  (h:wpAny (model prog w) A (pyIter it) (λit' s'=>codeAny (model prog w) A (.compLoop (.SetComp elt [⟨t0,i0,[],0⟩,⟨t1,i1,[],0⟩] scope pos) 1 it' acc env) R s') (λ_ _=>False) s) :
  codeAny (model prog w) A (.compStart (.SetComp elt [⟨t0,i0,[],0⟩,⟨t1,i1,[],0⟩] scope pos) 1 it acc env) R s:=by
 apply codeAny_of_tree
 show wpAny (model prog w) _ ((compStart (.SetComp elt [⟨t0,i0,[],0⟩,⟨t1,i1,[],0⟩] scope pos) 1 it acc env).onRaise _) _ _ s
 apply wpAny_onRaise
 unfold compStart;show wpAny (model prog w) _ (ask>>=_) _ _ s
 apply wpAny_bind
 apply wpAny_askSetting
 refine wpAny_ite ?_
 split
 ·first
  | exact wpAny_pure ⟨rfl,h0⟩
  | exact wpAny_bind (wpAny_pure (wpAny_pure ⟨rfl,h0⟩))
 ·apply wpAny_bind
  apply wpAny_rule
  show wpAny (model prog w) _ (standAt i1.pos>>=_) _ _ s
  apply wpAny_bind
  apply wpAny_standAt
  apply wpAny_bind
  exact wpAny_mono h (λit' s' h'=>wpAny_pure ⟨rfl,h'⟩) λ_ _ no=>no.elim
theorem aa5(J:Nat->Shared->Prop)
  (step:∀ m z,J m z->wpAny (model prog w) A (pyNext it) (λgot z1=>match got with
   | none=>R (.ok .next) z1
   | some v=>wpAny (model prog w) A (letOwnedTupleGo t0 it v) (λ_ z2=>wpAny (model prog w) A (assign t0 env v) (λ_ z3=>wpAny (model prog w) A (eval i1 env) (λx z4 =>
     wpAny (model prog w) A (foldedSetIterable i1 env x) (λy z5=>wpAny (model prog w) A (pyIter y) (λit1 z6 =>
      codeAny (model prog w) A (.compStart (.SetComp elt [⟨t0,i0,[],0⟩,⟨t1,i1,[],0⟩] scope pos) 1 it1 acc env) (λr z7=>∃ f,r = .ok f/\∃ m',m'<m/\J m' z7) z6) (λ_ _=>False) z5) (λ_ _=>False) z4)
     (λ_ _=>False) z3) (λ_ _=>False) z2) (λ_ _=>False) z1) (λ_ _=>False) z)
  (m:Nat) (j0:J m s):codeAny (model prog w) A (.compLoop (.SetComp elt [⟨t0,i0,[],0⟩,⟨t1,i1,[],0⟩] scope pos) 0 it acc env) R s:=by
 refine codeAny_loop rfl J (λm z hj=>(wpAny_noted ?_:wpAny _ _ ((compTurn (.SetComp elt [⟨t0,i0,[],0⟩,⟨t1,i1,[],0⟩] scope pos) 0 it acc env).onRaise _) _ _ z)) m j0;show wpAny (model prog w) _ (standAt i0.pos>>=λ_=>pyNext it>>=_) _ _ z
 apply wpAny_bind
 apply wpAny_standAt
 apply wpAny_bind
 refine wpAny_mono (step m z hj) (λgot z1 h1=>?_) λ_ _ no=>no.elim
 match got,h1 with
 | none,h1=>exact wpAny_pure h1
 | some v,h1 =>
  apply wpAny_bind
  refine wpAny_mono h1 (λ_ z2 h2=>?_) λ_ _ no=>no.elim
  apply wpAny_bind
  refine wpAny_mono h2 (λ_ z3 h3=>?_) λ_ _ no=>no.elim;show wpAny (model prog w) _ (eval i1 env>>=_) _ _ _
  apply wpAny_bind
  refine wpAny_mono h3 (λx z4 h4=>?_) λ_ _ no=>no.elim
  apply wpAny_bind
  apply wpAny_standAt
  show wpAny (model prog w) _ (foldedSetIterable i1 env x>>=_) _ _ _
  apply wpAny_bind
  refine wpAny_mono h4 (λy z5 h5=>?_) λ_ _ no=>no.elim;show wpAny (model prog w) _ (holding [y] (pyIter y)>>=_) _ _ _
  apply wpAny_bind
  apply wpAny_holding
  refine wpAny_mono h5 (λit1 z6 h6=>?_) λ_ _ no=>no.elim
  apply wpAny_bind
  refine wpAny_runOwn (codeAny_mono h6 λr z7 h7=>?_);obtain ⟨f,rfl,h8⟩:=h7;exact wpAny_pure ⟨rfl,h8⟩
end
theorem ag2{elt:Expr}{gens:List Comprehension}{scope:Scope}{pos:Pos}{env:Env}:eval (.SetComp elt gens scope pos) env =
  comprehension (.SetComp elt gens scope pos) scope env (firstIterPos gens pos) (newSet (.type "set")) (firstAsync gens) (firstIter gens env):=rfl
section
variable{prog:Program}{w:World}{A:Around}{R:Result->Shared->Prop}{s:Shared}{elt t0 i0 t1 i1:Expr}{scope:Scope}{pos:Pos}{it acc:Value}{env:Env}
theorem a92(h0:codeAny (model prog w) A (.compLoop (.SetComp elt [⟨t0,i0,[],0⟩,⟨t1,i1,[],0⟩] scope pos) 0 it acc env) R s)
  (h:wpAny (model prog w) A (pyIter it) (λit' s'=>codeAny (model prog w) A (.compLoop (.SetComp elt [⟨t0,i0,[],0⟩,⟨t1,i1,[],0⟩] scope pos) 0 it' acc env) R s') (λ_ _=>False) s) :
  codeAny (model prog w) A (.compStart (.SetComp elt [⟨t0,i0,[],0⟩,⟨t1,i1,[],0⟩] scope pos) 0 it acc env) R s:=by
 apply codeAny_of_tree
 show wpAny (model prog w) _ ((compStart (.SetComp elt [⟨t0,i0,[],0⟩,⟨t1,i1,[],0⟩] scope pos) 0 it acc env).onRaise _) _ _ s
 apply wpAny_onRaise
 unfold compStart;show wpAny (model prog w) _ (ask>>=_) _ _ s
 apply wpAny_bind
 apply wpAny_askSetting
 refine wpAny_ite ?_
 split
 ·first
  | exact wpAny_pure ⟨rfl,h0⟩
  | exact wpAny_bind (wpAny_pure (wpAny_pure ⟨rfl,h0⟩))
 ·apply wpAny_bind
  apply wpAny_rule
  show wpAny (model prog w) _ (standAt i0.pos>>=_) _ _ s
  apply wpAny_bind
  apply wpAny_standAt
  apply wpAny_bind
  exact wpAny_mono h (λit' s' h'=>wpAny_pure ⟨rfl,h'⟩) λ_ _ no=>no.elim
end
section
variable{X:Cx}
theorem ade{pins:List (Addr × Obj)}{σ σ':St}{H H':Hp}{s s':Shared}{scope:Scope}{cl:List (Str × Addr)}{N:List Str}{C acc:Addr}{fp:List Addr}{h':Heap}{ho:HO}(I:Inv X pins σ H s)
  (hf:∀ b∈fp,FpOk X pins H b) (hC:s.heap.objs.size<=C) (hacc:s.heap.objs.size<=acc)
  (J:Inv (cxC X N scope cl C fp s H) [] σ' H' s') (hn:H' acc=none) (hob:ObjOk X.prog X.w (upd H' acc ho) h' acc ho) (sb:Heap.SameBut C s'.heap h') :
  Inv X pins σ (upd H' acc ho) { s' with heap:=h' }:=by
 have k:∀ b o,b≠C->s'.heap.get? b=some o->h'.get? b=some o:=λb o hb e=>sb.extBut b o hb e;have old:∀ b o,s.heap.get? b=some o->b≠C/\b≠acc:=λb o e=>⟨Nat.ne_of_lt (Nat.lt_of_lt_of_le (Heap.lt_size e) hC),Nat.ne_of_lt (Nat.lt_of_lt_of_le (Heap.lt_size e) hacc)⟩;have u0:Un (frs X.stack) fp H H' s.heap s'.heap:=J.base;have fC:H' C=none:=J.free;have u:Un (frs X.stack) fp H (upd H' acc ho) s.heap h':=by
  refine ⟨λb o e n' hb hx=>k b o (old b o e).1 (u0.keep b o e n' hb hx),λb o e n' hb hx=>?_,λb o e n' hx=>?_,λb o e hx=>?_,λb xs e=>?_,λb o v e=>?_,λb ps e=>?_⟩
  ·obtain ⟨sl,e1⟩:=u0.slot b o e n' hb hx;exact ⟨sl,k b _ (old b o e).1 e1⟩
  ·rw [j9 (old b o e).2];exact u0.free b o e n' hx
  ·obtain ⟨o',e1⟩:=u0.there b o e hx;exact ⟨o',k b _ (old b o e).1 e1⟩
  ·rw [j9 (gf (u0.tups b xs e) hn)];exact u0.tups b xs e
  ·rw [j9 (gf (u0.frzs b o v e) hn)];exact u0.frzs b o v e
  ·obtain ⟨more,e1⟩:=u0.tbls b ps e;exact ⟨more,by rw [j9 (gf e1 hn)];exact e1⟩
 have hok:HOk X.prog X.w (upd H' acc ho) h':=λb o e=>by
  by_cases hb:b=acc
  ·subst hb;rw [nj] at e;cases e
   exact hob
  ·rw [j9 hb] at e;refine (J.hok b o e).stay (λc v hc q=>k c v ?_ q) (λc q=>by rw [j9 (gf q hn)];exact q) λc xs q=>by rw [j9 (gf q hn)];exact q
   rcases hc with z | z
   ·rw [z];exact gf e fC
   ·exact gf z fC
 have J':=I.call (g':=s'.gens) (t':=s'.toks) (d':=s'.drawn) (ch:=fp) u hok J.bare λb hb=>⟨(hf b hb).2.2.2.1,(hf b hb).2.1,(hf b hb).2.2.2.2.1,(hf b hb).2.2.2.2.2⟩;have eo:s'.os=s.os:=J.os;obtain ⟨hp,g,d,t,o⟩:=s';have eo':o=s.os:=eo;subst eo';exact J'
theorem FpOk.on{Y:Cx}{pins:List (Addr × Obj)}{H H':Hp}{b:Addr}{L:List Addr}{h:Heap}(f:FpOk Y pins H b)(hp:Y.pn=[])(hn:H' b=none)(ne:b ∉ L):FpOk Y (uf L h) H' b:=by
 obtain ⟨_,f1,f2,f3,f4,_⟩:=f;refine ⟨hn,f1,f2,f3,f4,λp hq z=>ne ?_⟩;rw [hp] at hq;have:=(a8c (show p∈uf L h from hq)).1
 rw [<-z];exact this
def aw1(w:World)(wi1:TI)(s0:St)(g0 g1:TG)(te:TE)(Q:VK)(J0:It)(H1:Hp):Prop :=
 ∃ W:Nat->Nat->List Int->Hp->Prop,(∃ m,W 0 m [] H1)/\∀ i m ks H,W i m ks H->
  (J0.stop i H/\∀ p,H p=none->Q (.ref p) (upd H p (abk w p ks))) \/
  (J0.go i H/\∀ x H',J0.yld i H x H'->g0 x s0 H' λσ2 H2=>Ext s0 σ2/\wi1 σ2 H2 λJ1 H3=>∃ V:Nat->Nat->List Int->Hp->Prop,(∃ n,V 0 n ks H3)/\∀ j n ks H,V j n ks H->
   (J1.stop j H/\∃ m',m'<m/\W (i+1) m' ks H) \/
   (J1.go j H/\∀ y H',J1.yld j H y H'->g1 y σ2 H' λσ3 H4=>Ext σ2 σ3/\te σ3 H4 λz H5=>∃ k,z = .int k/\ks.length+1<scanBound/\∃ n',n'<n/\V (j+1) n' (stepK ks k) H5))
def auu(w:World)(wi0 wi1:TI)(s0:St->St)(g0 g1:TG)(te:TE):TE:=λσ H Q=>wi0 σ H λJ0 H1=>aw1 w wi1 (s0 σ) g0 g1 te Q J0 H1
theorem an9{elt t0 i0 t1 i1:Expr}{scope:Scope}{pos:Pos}{cl:List (Str × Addr)}{ts fr:List Str}{ix:List Nat}{wi0 wi1:TI}{g0 g1:TG}{te:TE}(hc:X.calm=true)(S:CSc X scope cl ts fr ix)(hi0:PI X t0 i0 wi0)
  (hg0:∀ C fp s H,PG (cxC X (ts++fr) scope cl C fp s H) t0 g0) (hi1:∀ C fp s H,PI (cxC X (ts++fr) scope cl C fp s H) t1 i1 wi1) (hg1:∀ C fp s H,PG (cxC X (ts++fr) scope cl C fp s H) t1 g1) (he:∀ C fp s H,PE (cxC X (ts++fr) scope cl C fp s H) elt te)
  (hs0:∀ x,foldedSetIterable i0 X.env x=pure x:=by intro _;rfl) (hs1:∀ env x,foldedSetIterable i1 env x=pure x:=by intro _ _;rfl) :
  PE X (.SetComp elt [⟨t0,i0,[],0⟩,⟨t1,i1,[],0⟩] scope pos) (auu X.w wi0 wi1 (jz ts.length ix) g0 g1 te):=by
 intro pins s σ H Q I h
 rw [ag2];refine wpAny_comprehension_free (use:=none) rfl hs0 S.clos S.kind S.names (thn (hi0 pins s σ H _ I h) λv s1 h1=>thn h1 λitv s2 h2=>?_);obtain ⟨it,fp,tn,J,H2,e,I2,T,st2,f2,W,⟨m0,w0⟩,turn⟩:=h2;subst e;have hob:∀ b∈fp,b<s2.heap.objs.size:=λb hb=>let ⟨o,e,_⟩:=T.obj _ _ st2 b hb;Heap.lt_size e;refine a79 (wpAny_newFunctionEnv S.nocell (by intro y hy;simp at hy) (λh4 hns4 hsb4=>?_) S.kind)
 dsimp only at hns4 hsb4 ⊢
 generalize hH2:s2.heap.push (a05 (!byT X.w))=G at hns4 hsb4 ⊢
 have hCs:G.objs.size=s2.heap.objs.size+1:=by rw [<-hH2,Heap.size_push]
 have hCle:s2.heap.objs.size<=G.objs.size:=by omega
 have hne:G.objs.size≠s2.heap.objs.size:=by omega
 have old:∀ b o,s2.heap.get? b=some o->h4.get? b=some o:=λb o e=>by
  have hlt:=Heap.lt_size e;exact hsb4.extBut b o (Nat.ne_of_lt (Nat.lt_of_lt_of_le hlt hCle)) (Heap.get?_push_of_some _ (hH2 ▸ Heap.get?_push_of_some _ e))
 have hacc:SetI (!byT X.w) s2.heap.objs.size [] h4 :=
  aa1 (hsb4.extBut _ _ (Ne.symm hne) (Heap.get?_push_of_some _ (hH2 ▸ Heap.get?_push_size _ rfl)))
 have K0:Inv (cxC X (ts++fr) scope cl G.objs.size fp s2 H2) [] (jz ts.length ix σ) H2 { s2 with heap:=h4,toks:=s2.toks+([]:List (Str × Value)).length } :=
  a9n S I2 f2 hob hCle old hns4 rfl rfl
 have st4:tn 0 h4:=T.keep _ _ _ st2 λb _ o e=>old b o e;have accF:s2.heap.objs.size ∉ fp:=λz=>Nat.lt_irrefl _ (hob _ z)
 generalize hY:cxC X (ts++fr) scope cl G.objs.size fp s2 H2=Y at K0
 have Yc:Y.calm=true:=by rw [<-hY];exact hc
 have Yp:Y.prog=X.prog:=by rw [<-hY];rfl
 have Yw:Y.w=X.w:=by rw [<-hY];rfl
 have YK:Y.K=X.K:=by rw [<-hY];rfl
 have YA:Y.A=X.A:=by rw [<-hY];rfl
 have Yn:Y.pn=[]:=by rw [<-hY];rfl
 have Ye:Y.env=compEnvC scope cl G.objs.size X.env:=by rw [<-hY];rfl
 have Yx:Y.xe=λ_ _=>False:=by rw [<-hY];rfl
 have YG0:PG Y t0 g0:=by rw [<-hY];exact hg0 _ _ _ _
 have YG1:PG Y t1 g1:=by rw [<-hY];exact hg1 _ _ _ _
 have YI1:PI Y t1 i1 wi1:=by rw [<-hY];exact hi1 _ _ _ _
 have YE:PE Y elt te:=by rw [<-hY];exact he _ _ _ _
 have stat:∀ {H':Hp},(∀ b∈fp,H' b=none)->∀ b∈fp,FpOk Y [] H' b:=λhn b hb=>by
  rw [<-hY];exact ⟨hn b hb,λz=>by have h1:=hob b hb;have z':b=G.objs.size:=z;exact Nat.ne_of_lt (Nat.lt_of_lt_of_le h1 hCle) z',λz=>(a4h S I2 f2 hob hCle).exfs b hb z, .inl hb,λx c e=>(f2 b hb).2.2.2.2.1 x c (S.sub x c e),λp hp=>absurd (show p∈([]:List (Addr × Obj)) from hp) (by simp)⟩
 have statA:∀ {H':Hp},H' s2.heap.objs.size=none->FpOk Y [] H' s2.heap.objs.size:=λhn=>by
  rw [<-hY];exact ⟨hn,λz=>hne (show G.objs.size=s2.heap.objs.size from z.symm),λz=>by
   obtain ⟨_,o,ho,_⟩:=(a4h S I2 f2 hob hCle).funs.mem z;exact Nat.lt_irrefl _ (Heap.lt_size ho), .inr (Nat.le_refl _),λx c e z=>by
   obtain ⟨v,o,ho,_⟩:=I2.cell x c (S.sub x c e);rw [z] at ho;exact Nat.lt_irrefl _ (Heap.lt_size ho),λp hp=>absurd (show p∈([]:List (Addr × Obj)) from hp) (by simp)⟩
 generalize hacca:s2.heap.objs.size=ac at hacc accF statA hne hCle
 rw [<-Yw] at hacc;have loop:∀ s4:Shared,s4={ s2 with heap:=h4,toks:=s2.toks+([]:List (Str × Value)).length }->
   codeAny (model X.prog X.w) X.A (.compLoop (.SetComp elt [⟨t0,i0,[],0⟩,⟨t1,i1,[],0⟩] scope pos) 0 (.ref it) (.ref ac) (compEnvC scope cl G.objs.size X.env))
    (compPost (model X.prog X.w) X.A X.xe none (EP X pins σ Q) (.ref ac) G.objs.size) s4:=by
  rintro s4 rfl
  refine aa5 (λn s'=>∃ i σ' H' ks,Inv Y [] σ' H' s'/\Ext (jz ts.length ix σ) σ'/\tn i s'.heap/\(∀ b∈fp,H' b=none)/\H' ac=none /\
   SetI (!byT Y.w) ac ks s'.heap/\W i n ks H') ?_ m0
   ⟨0,_,H2,[],K0,⟨rfl,λ_ _ z=>z⟩,st4,λb hb=>(f2 b hb).1,I2.hok.fresh (by omega),hacc,w0⟩
  rintro n s5 ⟨i,σ5,H5,ks,I5,x5,st5,fr5,fa5,ac5,w5⟩
  have I5':Inv Y [] (jz ts.length ix σ) H5 s5:=I5.weak x5.1.symm x5.2;have hao:∃ o,s5.heap.get? ac=some o/\∀ v,o.data≠.cell v:=by
   obtain ⟨o,es,ep,t,ho,_,hd,_⟩:=ac5;exact ⟨o,ho,λv z=>by rw [hd] at z;cases z⟩
  have I5p:Inv Y (uf [ac] s5.heap) (jz ts.length ix σ) H5 s5:=Inv.pinned (pins:=[]) (fp:=[ac]) I5' (λb hb=>by rw [List.mem_singleton.mp hb];exact statA fa5) (λb hb=>by rw [List.mem_singleton.mp hb];exact hao)
  have F5:∀ b∈fp,FpOk Y (uf [ac] s5.heap) H5 b:=λb hb=>(stat fr5 b hb).on Yn (fr5 b hb) (λz=>accF (by rw [List.mem_singleton.mp z] at hb;exact hb))
  obtain ⟨ao,hao1,hao2⟩:=hao;have pa:(ac,ao)∈uf [ac] s5.heap:=jo (by simp) hao1
  rcases turn i n ks H5 w5 with ⟨stop,qn⟩ | ⟨go,step⟩
  ·rw [<-YA];refine thn (T.done Y Yp Yw YK Yc i _ s5 _ H5 _ I5p F5 st5 stop) λr s6 ⟨hr,I6⟩=>?_;subst hr;have e6:=(I6.pin (ac,ao) (List.mem_append_right _ pa)).1;have S6:SetI (!byT Y.w) ac ks s6.heap:=ac5.keep λo ho=>by rw [hao1] at ho;cases ho;exact e6
   have I6':Inv (cxC X (ts++fr) scope cl G.objs.size fp s2 H2) [] (jz ts.length ix σ) H5 s6:=by rw [hY];exact I6.unpinned'
   obtain ⟨m6,hn6,_⟩:=I6'.loc;rw [YA];refine aav (X:=X) ac G.objs.size s6 (upd H5 ac (abk X.w ac ks)) m6 hn6 (I2.fpOk (by omega) (by rw [j9 hne];exact I6'.free)) (λh' sb=>?_) (qn _ fa5)
   exact ade I2 f2 (by omega) (by omega) I6' fa5 (aa3 ((by rw [<-Yw];exact S6:SetI (!byT X.w) ac ks s6.heap).keep λo ho=>sb.extBut _ _ (Ne.symm hne) ho)) sb
  ·rw [<-YA];refine thn (T.item Y Yp Yw YK Yc i _ s5 _ H5 _ I5p F5 st5 go) λr s6 ⟨u,hr,h6⟩=>?_;subst hr;refine thn h6 λ_ s7 ⟨x,H7,I7,r7,y7,st7,fr7⟩=>?_;have fa7:H7 ac=none:=(I7.pin (ac,ao) (List.mem_append_right _ pa)).2.1;have ac7:=(I7.pin (ac,ao) (List.mem_append_right _ pa)).1;have S7:SetI (!byT Y.w) ac ks s7.heap:=ac5.keep λo ho=>by rw [hao1] at ho;cases ho;exact ac7
   have obj7:∀ b∈ac::fp,∃ o,s7.heap.get? b=some o/\∀ v,o.data≠.cell v:=λb hb=>by
    rcases List.mem_cons.mp hb with e | e
    ·subst e;exact ⟨_,ac7,hao2⟩
    ·exact T.obj _ _ st7 b e
   have I7':Inv Y (uf (ac::fp) s7.heap) (jz ts.length ix σ) H7 s7:=by
    refine Inv.pinned (pins:=[]) (fp:=ac::fp) I7.unpinned' (λb hb=>?_) obj7
    rcases List.mem_cons.mp hb with e | e
    ·subst e;exact statA fa7
    ·exact stat fr7 b e
   rw [<-Ye,<-Yp,<-Yw];refine wpAny_mono (YG0 _ s7 _ H7 x u _ I7' r7 (step x H7 y7)) (λ_ s8 ⟨σ8,H8,I8,x8,q8⟩=>?_) (λ_ _ z=>by rw [Yx] at z;exact z)
   refine wpAny_mono (YI1 _ s8 _ H8 _ I8 q8) (λv8 z4 h8=>wpAny_of_eq (hs1 _ v8) (wpAny_mono h8 (λitv z6 h9=>?_) (λ_ _ z=>by rw [Yx] at z;exact z))) (λ_ _ z=>by rw [Yx] at z;exact z)
   obtain ⟨it1,fp1,tn1,J1,H9,e1,I9,T1,st9,f9,V,⟨n0,v0⟩,turn1⟩:=h9;subst e1;have pin9:∀ b∈ac::fp,∀ o,s7.heap.get? b=some o->z6.heap.get? b=some o/\H9 b=none:=λb hb o e=>by
    obtain ⟨z1,z2,_⟩:=I9.pin (b,o) (List.mem_append_right _ (jo hb e));exact ⟨z1,z2⟩
   have apart:∀ b∈fp1,b ∉ ac::fp:=λb hb z=>by
    obtain ⟨o,e,_⟩:=obj7 b z;exact (f9 b hb).2.2.2.2.2 (b,o) (List.mem_append_right _ (jo z e)) rfl
   have stat1:∀ {H':Hp},(∀ b∈fp1,H' b=none)->∀ b∈fp1,FpOk Y [] H' b:=λhn b hb=>by
    obtain ⟨_,k1,k2,k3,k4,_⟩:=f9 b hb;refine ⟨hn b hb,k1,k2,k3,k4,λp hp=>?_⟩;rw [Yn] at hp;exact absurd (show p∈([]:List (Addr × Obj)) from hp) (by simp)
   have S9:SetI (!byT Y.w) ac ks z6.heap:=S7.keep λo ho=>(pin9 ac (by simp) o ho).1
   have inner:codeAny (model Y.prog Y.w) Y.A (.compLoop (.SetComp elt [⟨t0,i0,[],0⟩,⟨t1,i1,[],0⟩] scope pos) 1 (.ref it1) (.ref ac) Y.env)
     (λr z7=>∃ f,r = .ok f/\∃ m',m'<n/\∃ i σ' H' ks,Inv Y [] σ' H' z7/\Ext (jz ts.length ix σ) σ'/\tn i z7.heap/\(∀ b∈fp,H' b=none)/\H' ac=none/\SetI (!byT Y.w) ac ks z7.heap/\W i m' ks H') z6:=by
    refine adc (λn s'=>∃ j σ' H' ks,Inv Y [] σ' H' s'/\Ext σ8 σ'/\tn1 j s'.heap/\(∀ b∈fp1,H' b=none)/\(∀ b∈fp,∀ o,s7.heap.get? b=some o->s'.heap.get? b=some o/\H' b=none)/\H' ac=none/\SetI (!byT Y.w) ac ks s'.heap/\V j n ks H') ?_ n0
     ⟨0,_,H9,ks,I9.unpinned',⟨rfl,λ_ _ z=>z⟩,st9,λb hb=>(f9 b hb).1,λb hb=>pin9 b (List.mem_cons_of_mem _ hb),(pin9 ac (by simp) _ ac7).2,S9,v0⟩
    rintro k a5 ⟨j,τ5,G5,ks5,Q5,y5,t5,e5,o5,c5,d5,v5⟩
    have Q5':Inv Y [] σ8 G5 a5:=Q5.weak y5.1.symm y5.2;have fp5:∀ b∈fp,G5 b=none:=λb hb=>by
     obtain ⟨o,e,_⟩:=T.obj _ _ st7 b hb;exact (o5 b hb o e).2
    have dob:∃ o,a5.heap.get? ac=some o/\∀ v,o.data≠.cell v:=by
     obtain ⟨o,es,ep,t,ho,_,hd,_⟩:=d5;exact ⟨o,ho,λv z=>by rw [hd] at z;cases z⟩
    have objs:∀ b∈ac::fp,∃ o,a5.heap.get? b=some o/\∀ v,o.data≠.cell v:=λb hb=>by
     rcases List.mem_cons.mp hb with e | e
     ·subst e;exact dob
     ·obtain ⟨o,e',d⟩:=T.obj _ _ st7 b e;exact ⟨o,(o5 b e o e').1,d⟩
    have Q5p:Inv Y (uf (ac::fp) a5.heap) σ8 G5 a5:=by
     refine Inv.pinned (pins:=[]) (fp:=ac::fp) Q5' (λb hb=>?_) objs
     rcases List.mem_cons.mp hb with e | e
     ·subst e;exact statA c5
     ·exact stat fp5 b e
    have FF:∀ b∈fp1,FpOk Y (uf (ac::fp) a5.heap) G5 b:=λb hb=>(f9 b hb).on Yn (e5 b hb) (apart b hb);obtain ⟨bo,hbo1,hbo2⟩:=dob;have keep6:∀ {G6:Hp} {τ:St} {a6:Shared} {P:List (Addr × Obj)},Inv Y (uf (ac::fp) a5.heap++P) τ G6 a6->(∀ b∈fp,∀ o,s7.heap.get? b=some o->a6.heap.get? b=some o/\G6 b=none)/\G6 ac=none/\SetI (!byT Y.w) ac ks5 a6.heap:=λ{G6 τ a6 P} I6=>by
     refine ⟨λb hb o e=>?_,?_,?_⟩
     ·obtain ⟨z1,z2,_⟩:=I6.pin (b,o) (List.mem_append_right _ (List.mem_append_left _ (jo (List.mem_cons_of_mem _ hb) (o5 b hb o e).1)));exact ⟨z1,z2⟩
     ·exact (I6.pin (ac,bo) (List.mem_append_right _ (List.mem_append_left _ (jo (by simp) hbo1)))).2.1
     ·exact d5.keep λo ho=>by
       rw [hbo1] at ho;cases ho
       exact (I6.pin (ac,bo) (List.mem_append_right _ (List.mem_append_left _ (jo (by simp) hbo1)))).1
    rcases turn1 j k ks5 G5 v5 with ⟨stop1,m',hm',w6⟩ | ⟨go1,step1⟩
    ·refine thn (T1.done Y rfl rfl rfl Yc j _ a5 _ G5 _ Q5p FF t5 stop1) λr a6 ⟨hr,Q6⟩=>?_;subst hr;obtain ⟨kk1,kk2,kk3⟩:=keep6 (P:=[]) (by rw [List.append_nil];exact Q6)
     refine ⟨_,rfl,m',hm',i+1,σ8,G5,ks5,Q6.unpinned',x8,?_,fp5,c5,kk3,w6⟩;exact T.keep _ _ _ st7 λb hb o e=>(kk1 b hb o e).1
    ·refine thn (T1.item Y rfl rfl rfl Yc j _ a5 _ G5 _ Q5p FF t5 go1) λr a6 ⟨u1,hr,h6'⟩=>?_;subst hr;refine thn h6' λ_ a7 ⟨y,G7,Q7,ry,yy,t7,e7⟩=>?_;obtain ⟨p1,p2,p3⟩:=keep6 (P:=[]) (by rw [List.append_nil];exact Q7)
     have Q7p:Inv Y (uf (ac::fp) a5.heap++uf fp1 a7.heap) σ8 G7 a7:=by
      refine Inv.pinned (fp:=fp1) Q7 (λb hb=>(f9 b hb).on Yn (e7 b hb) (apart b hb)) (T1.obj _ _ t7)
     refine wpAny_mono (YG1 _ a7 _ G7 y u1 _ Q7p ry (step1 y G7 yy)) (λ_ a8 ⟨τ8,G8,Q8,z8,q8'⟩=>?_) (λ_ _ z=>by rw [Yx] at z;exact z)
     refine wpAny_mono (YE _ a8 _ G8 _ Q8 q8') (λyv a9 ⟨z,G9,Q9,rz,kz,ez,few,n',hn',v9⟩=>?_) (λ_ _ z=>by rw [Yx] at z;exact z)
     subst ez;obtain ⟨tk,rfl⟩:=rz;obtain ⟨r1,r2,r3⟩:=keep6 Q9;refine ajf r3 few λh' sb x'=>?_;have qo:∀ b o,b≠ac->a9.heap.get? b=some o->h'.get? b=some o:=λb o hb e=>sb.extBut b o hb e;obtain ⟨a0,a1,a2,a3,a4,a5'⟩:=statA (show G9 ac=none from r2)
     have nac:∀ b∈fp,b≠ac:=λb hb z=>accF (z ▸ hb);have nac1:∀ b∈fp1,b≠ac:=λb hb z=>apart b hb (by rw [z];simp)
     refine ⟨n',hn',j+1,τ8,G9,_,(Q9.unpinned').turned (t':=a9.toks+1) qo a0 a1 a3 a4 a5',z8,?_,?_,?_,r2,x',v9⟩
     ·exact T1.keep _ _ _ t7 λb hb o e=>qo b o (nac1 b hb) (Q9.pin (b,o) (List.mem_append_right _ (List.mem_append_right _ (jo hb e)))).1
     ·intro b hb
      obtain ⟨o,e,_⟩:=T1.obj _ _ t7 b hb;exact (Q9.pin (b,o) (List.mem_append_right _ (List.mem_append_right _ (jo hb e)))).2.1
     ·intro b hb o e
      obtain ⟨z1,z2⟩:=r1 b hb o e;exact ⟨qo b o (nac b hb) z1,z2⟩
   exact aa4 inner (T1.self _ 0 _ _ _ st9 inner)
 exact a92 (loop _ rfl) (T.self _ 0 _ _ _ st4 (loop _ rfl))
end
end L2
namespace MI
open PySem PySem.Spec L2 SETB
open Classical in
noncomputable def setIn(ck:Hd->Prop)(fe:SE)(x:D)(rd:Sd):List D->List Int->Hd->R (List Int)
 | [],ks,h=>if ck h then .ok ks h else .no
 | y::ys,ks,h=>if ck h then (fe (some x::some y::rd) h).bind λd h1=>(match d with
   | .int k=>if ks.length<63 then setIn ck fe x rd ys (stepK ks k) h1 else .no
   | _=>.no) else .no
open Classical in
noncomputable def a1i(ck:Hd->Prop)(fj:SI)(fe:SE)(rd:Sd):List D->List Int->Hd->R (List Int)
 | [],ks,h=>if ck h then .ok ks h else .no
 | x::xs,ks,h=>if ck h then (fj (some x::none::rd) h).bind λjt h1=>(setIn jt.ck fe x rd jt.xs ks h1).bind λks1 h2=>a1i ck fj fe rd xs ks1 h2 else .no
def adf(ks:List Int)(h:Hd):R D:=if ks.length<64 then .ok (.ref h.length) (h++[.lst ((PySem.W.sortI ks).map D.int)]) else .no
noncomputable def ag3(fi fj:SI)(fe:SE)(ix:List Nat):SE:=λτ h=>(fi τ h).bind λit h1=>(a1i it.ck fj fe (frs' ix τ) it.xs [] h1).bind adf
theorem xn:∀ {K:PySem.W.Frag} {ι:List Addr} {H:Hp} (ns:List Int),Reps K ι H (ns.map V.int) (ns.map D.int)
 | _,_,_,[]=>.nil
 | _,_,_,n::ns=>.cons (.int n) (xn ns)
def ax6(w:World):List V->Hp->VK->Prop:=λxs H Q=>∃ (p:Addr) (ks:List Int),xs=[.ref p]/\H p=some (abk w p ks)/\ks.length<64/\∀ l,H l=none->Q (.ref l) (upd H l (.lst ((PySem.W.sortI ks).map V.int)))
theorem ar7{K:PySem.W.Frag}{E:XD}{w:World}{J:It}{jt:Itm}{fe:SE}{x:D}{vx:V}{r:St}{rd:Sd}{k1:List Int->Hd->R D}{ι0:List Addr}{H0:Hp}{h0:Hd}{Q:VK}{M:List Int->Hp->Prop}{ks0:List Int}
  (ir:ai9 K ι0 H0 J jt) (rx:Rep K ι0 H0 vx x) (S:SRep K ι0 H0 r rd) (Rh:HRep K ι0 H0 h0) (o:out K E (xx K) ι0 H0 ((setIn jt.ck fe x rd jt.xs ks0 h0).bind k1) Q)
  (fin:∀ ks ι H h,Gr ι0 H0 ι H->HRep K ι H h->out K E (xx K) ι H (k1 ks h) Q->M ks H) :
  ∃ V:Nat->Nat->List Int->Hp->Prop,(∃ n,V 0 n ks0 H0)/\∀ j n ks H,V j n ks H->
   (J.stop j H/\M ks H) \/
   (J.go j H/\∀ y H',J.yld j H y H'->a1r 1 y (some vx::none::r) H' λσ3 H4=>L2.Ext (some vx::none::r) σ3/\lift K E (xx K) fe σ3 H4 λz H5=>∃ k,z = .int k/\ks.length+1<scanBound/\∃ n',n'<n/\V (j+1) n' (stepK ks k) H5):=by
 refine ⟨λj n ks H=>n=jt.xs.length - j/\j<=jt.xs.length/\∃ ι h,Gr ι0 H0 ι H/\HRep K ι H h/\out K E (xx K) ι H ((setIn jt.ck fe x rd (jt.xs.drop j) ks h).bind k1) Q,⟨_,rfl,Nat.zero_le _,ι0,h0, .refl _ _,Rh,o⟩,?_⟩
 rintro j n ks H ⟨rfl,hj,ι,h,g0,Rh,o⟩
 by_cases hlt:j<jt.xs.length
 ·rw [List.drop_eq_getElem_cons hlt,setIn] at o
  by_cases hc:jt.ck h
  ·rw [if_pos hc,R.bind_assoc] at o;obtain ⟨go,yl⟩:=(ir ι H h g0 Rh hc).1 j _ (List.getElem?_eq_getElem hlt);refine .inr ⟨go,λy H' yy=>?_⟩;obtain ⟨g1,r1,hr1⟩:=yl y H' yy;have o':=vz o g1;refine ⟨⟨rfl,λi v e=>?_⟩,ι,some x::some jt.xs[j]::rd,h,wz (rx.mono (g0.trans g1)) (wz r1 (S.mono (g0.trans g1))),hr1,gm o' λd h1 ι1 H1 u g2 r2 hr2 o2=>?_⟩
   ·match i,e with
    | 0,e=>exact e
    | 1,e=>simp at e
    | i+2,e=>simpa using e
   ·cases d with
    | int k =>
     cases r2
     by_cases h6:ks.length<63
     ·simp only [if_pos h6] at o2;exact ⟨k,rfl,by have:scanBound=4096:=rfl;omega,jt.xs.length - (j+1),by omega,rfl,hlt,ι1,h1,(g0.trans g1).trans g2,hr2,o2⟩
     ·simp only [if_neg h6] at o2;exact o2.elim
    | _=>exact o2.elim
  ·rw [if_neg hc] at o;exact o.elim
 ·have e:j=jt.xs.length:=by omega
  subst e;rw [List.drop_eq_nil_of_le (Nat.le_refl _),setIn] at o
  by_cases hc:jt.ck h
  ·rw [if_pos hc] at o;exact .inl ⟨(ir ι H h g0 Rh hc).2,fin ks ι H h g0 Rh o⟩
  ·rw [if_neg hc] at o;exact o.elim
theorem ana{K:PySem.W.Frag}{E:XD}{w:World}{J:It}{it:Itm}{fj:SI}{fe:SE}{r:St}{rd:Sd}{ι0:List Addr}{H0:Hp}{h0:Hd}{Q:VK}
  (ir:ai9 K ι0 H0 J it) (S:SRep K ι0 H0 r rd) (Rh:HRep K ι0 H0 h0) (o:out K E (xx K) ι0 H0 ((a1i it.ck fj fe rd it.xs [] h0).bind adf) Q) :
  aw1 w (lift K E (aq1 K) fj) (List.replicate 2 none++r) (a1r 0) (a1r 1) (lift K E (xx K) fe) (λv H=>ax6 w [v] H Q) J H0:=by
 refine ⟨λi m ks H=>m=it.xs.length - i/\i<=it.xs.length/\∃ ι h,Gr ι0 H0 ι H/\HRep K ι H h/\out K E (xx K) ι H ((a1i it.ck fj fe rd (it.xs.drop i) ks h).bind adf) Q,⟨_,rfl,Nat.zero_le _,ι0,h0, .refl _ _,Rh,o⟩,?_⟩
 rintro i m ks H ⟨rfl,hi,ι,h,g0,Rh,o⟩
 by_cases hlt:i<it.xs.length
 ·rw [List.drop_eq_getElem_cons hlt,a1i] at o
  by_cases hc:it.ck h
  ·rw [if_pos hc,R.bind_assoc] at o;obtain ⟨go,yl⟩:=(ir ι H h g0 Rh hc).1 i _ (List.getElem?_eq_getElem hlt);refine .inr ⟨go,λx H' y=>?_⟩;obtain ⟨g1,r1,hr1⟩:=yl x H' y;have o':=vz o g1;refine ⟨⟨rfl,λk v e=>?_⟩,ι,some it.xs[i]::none::rd,h,wz r1 ?_,hr1,gm o' λjt h1 ι1 H1 J1 g2 r2 hr2 o2=>?_⟩
   ·match k,e with
    | 0,e=>simp at e
    | 1,e=>simp at e
    | k+2,e=>simpa using e
   ·have S':=S.mono (g0.trans g1);refine ⟨by simp [S'.len],λk d e=>?_⟩
    cases k with
    | zero=>simp at e
    | succ k=>simpa using S'.val k d (by simpa using e)
   ·rw [R.bind_assoc] at o2;refine ar7 (w:=w) (k1:=λks1 h2=>(a1i it.ck fj fe rd (it.xs.drop (i+1)) ks1 h2).bind adf) r2 (r1.mono g2) (S.mono ((g0.trans g1).trans g2)) hr2 o2 λks' ι3 H3 h3 g3 hr3 o3=>?_;exact ⟨it.xs.length - (i+1),by omega,rfl,hlt,ι3,h3,((g0.trans g1).trans g2).trans g3,hr3,o3⟩
  ·rw [if_neg hc] at o;exact o.elim
 ·have e:i=it.xs.length:=by omega
  subst e;rw [List.drop_eq_nil_of_le (Nat.le_refl _),a1i] at o
  by_cases hc:it.ck h
  ·rw [if_pos hc] at o;refine .inl ⟨(ir ι H h g0 Rh hc).2,λp hp=>?_⟩;have o1:out K E (xx K) ι H (adf ks h) Q:=o;unfold adf at o1
   by_cases h6:ks.length<64
   ·rw [if_pos h6] at o1;exact ⟨p,ks,rfl,nj,h6,vg (E:=E) (xn _) (Rh.aside hp _) (vz o1 (wy hp _))⟩
   ·rw [if_neg h6] at o1;exact o1.elim
  ·rw [if_neg hc] at o;exact o.elim
theorem ag4{X:Cx}{E:XD}{elt t0 i0 t1 i1:Expr}{scope:Scope}{p pos spos:Pos}{cl:List (Str × Addr)}{a b:Str}{fr:List Str}{ix:List Nat}{fi fj:SI}{fe:SE}(hg:Gl X "sorted")(hm:X.mg "sorted" = none)(hc:X.calm=true)(S:CSc X scope cl [a,b] fr ix)(hi:MI X E t0 i0 fi)
  (hg0:∀ C fp s H,PG (cxC X ([a,b]++fr) scope cl C fp s H) t0 (a1r 0)) (hj:∀ C fp s H,MI (cxC X ([a,b]++fr) scope cl C fp s H) E t1 i1 fj) (hg1:∀ C fp s H,PG (cxC X ([a,b]++fr) scope cl C fp s H) t1 (a1r 1)) (he:∀ C fp s H,ME (cxC X ([a,b]++fr) scope cl C fp s H) E elt fe)
  (hs0:∀ x,foldedSetIterable i0 X.env x=pure x:=by intro _;rfl) (hs1:∀ env x,foldedSetIterable i1 env x=pure x:=by intro _ _;rfl) :
  ME X E (.Call (.Name "sorted" p) [.SetComp elt [⟨t0,i0,[],0⟩,⟨t1,i1,[],0⟩] scope spos] [] pos) (ag3 fi fj fe ix):=by
 refine PE.weak (a3p (xm hc) hg hm rfl (a00 (an9 (te:=lift X.K E (xx X.K) fe) (wi1:=lift X.K E (aq1 X.K) fj) hc S hi hg0 hj hg1 he hs0 hs1) a3d)) λσ H Q ⟨ι,τ,h,Sr,Rh,o⟩=>?_;refine ⟨ι,τ,h,Sr,Rh,gm o λit h1 ι1 H1 J g1 r1 hr1 o1=>?_⟩;exact ana r1 (a3r (Sr.mono g1) ix) hr1 o1
end MI
set_option maxHeartbeats 1000000
namespace SETB
open PySem PySem.Spec PyProof.Rows SETA PySem.Builtin
section
variable{prog:Program}{w:World}{E:Value->Shared->Prop}{A:Around}{s:Shared}{a:Addr}{o:Obj}{es:Array (Int × Value)}{ep:Nat}{t:SetTable}
theorem abl{Q:Array (Int × Value)->Shared->Prop}(ho:s.heap.get? a=some o)(hd:o.data = .set es ep t)(hf:t.fits es.size=true)(pl:t.plain=true)(ld:t.led = !byT w)(q:Q (a6e w a ep es) s):wpAny (model prog w) A (setWalk a) Q E s:=by
 unfold a6e at q
 cases bt:byT w with
 | true =>
  rw [bt] at q;exact a5b ho hd hf bt q
 | false =>
  rw [bt] at q ld;unfold setWalk
  apply wpAny_bind
  apply wpAny_setState_of ho hd hf
  apply wpAny_bind
  apply a2x
  simp only [bt,Bool.false_eq_true,if_false];refine wpAny_of_eq ?_ q;refine Eq.trans (if_neg (c:=(!t.plain && decide (es.size > 1))=true) (by rw [pl];simp)) ?_
  refine Eq.trans (congrArg (λz:Sem Unit=>z>>=λ_=>pure es) (if_neg (c:=(!t.led && decide (es.size > 1))=true) (by rw [ld];simp))) ?_
  rfl
theorem aa6{Q:Array (Int × Value)->Shared->Prop}{os:List Addr}{f:Option Addr}(ho:s.heap.get? a=some o)(hd:o.data = .set es ep t)(hf:t.fits es.size=true)(pl:t.plain=true)(ld:t.led = !byT w)(q:Q (a6e w a ep es) s):wpAny (model prog w) A (setWalkUnseen a os f) Q E s:=by
 unfold setWalkUnseen;refine wpAny_bind (wpAny_setState_of ho hd hf (wpAny_bind (a2x ?_)));dsimp only;have c:(byT w || t.led && t.plain || decide (es.size<=1))=true:=by rw [pl,ld];cases byT w<;>rfl
 rw [if_pos c]
 first | exact abl ho hd hf pl ld q | exact wpAny_bind (abl ho hd hf pl ld (wpAny_pure q))
def SetX(b:Bool)(a:Addr)(ks:List Int)(more:Nat)(h:Heap):Prop :=
 ∃ o es ep t,h.get? a=some o/\o.ExactSet/\o.data = .set es ep t/\AllI es.toList/\(es.toList.map kOf).Perm ks/\es.size<scanBound/\t.fits es.size=true/\Gr t/\t.led=b/\(t.fill+more)*5<t.mask*3
theorem aji{n:Nat}(h:n<=16384):SetTable.sizeAbove n<=sizeLine:=by
 have:∀ (fuel size:Nat),size<=32768->SetTable.sizeAbove.go n fuel size<=32768:=λfuel=>by
  induction fuel with
  | zero=>intro size hs;exact hs
  | succ f ih =>
   intro size hs
   unfold SetTable.sizeAbove.go
   split
   ·exact ih _ (by omega)
   ·exact hs
 have h1:=this 64 8 (by decide)
 have h2:SetTable.sizeAbove n=SetTable.sizeAbove.go n 64 8:=rfl;rw [sizeLine_eq,h2];omega
theorem ajj{b:Bool}{ks:List Int}{n more:Nat}{Q:Unit->Shared->Prop}(hS:SetI b a ks s.heap)(hn:(ks.length+more)*2<=n)(pos:0<ks.length+more)(n1:n<=16384)
  (q:∀ h',Heap.SameBut a s.heap h'->SetX b a ks more h'->Q () { s with heap:=h' }):wpAny (model prog w) A (setRelay a n) Q E s:=by
 obtain ⟨o,es,ep,t,ho,hex,hd,al,pm,sz,ft,gd,ld⟩:=hS;have lk:es.size=ks.length:=by have:=pm.length_eq;rwa [List.length_map,Array.length_toList] at this
 obtain ⟨b',h3,eb,lb⟩:=SETH.above (n:=n) (by omega)
 have p8:2 ^ 3<=2 ^ b':=Nat.pow_le_pow_right (by decide) h3
 have hk:SetTable.sizeAbove n - 1+1=2 ^ b':=by omega
 obtain ⟨t',od,e,hm,hdm,hp,hs,hl,hod⟩:=SETH.a4y (f:=t.finger) (m:=t.movedTo (SetTable.sizeAbove n - 1)) (l:=t.led) (p:=t.plain) hk (es.map (·.1)) (by rw [Array.size_map];omega)
 rw [Array.size_map] at hs hod;have ld':t'.led=t.led:=by
  have:=congrArg (Option.map λz=>z.1.led) e
  unfold SetTable.laid at this
  cases hc:SetTable.layClean (SetTable.sizeAbove n - 1) (es.map (·.1)) with
  | none=>rw [hc] at this;cases this
  | some ow=>rw [hc] at this;exact (Option.some.inj this).symm
 have gd':=(a76 e).1;have szo:(od.filterMap (es[·]?)).size=es.size:=by
  rw [<-Array.length_toList,Array.toList_filterMap,SETH.abi _ λx hx=>List.mem_range.mp (hod.mem_iff.mp hx),hod.length_eq,List.length_range]
 have po:(od.filterMap (es[·]?)).toList.Perm es.toList:=by
  rw [Array.toList_filterMap];refine (hod.filterMap _).trans ?_;have:(List.range es.size).filterMap (es[·]?)=es.toList:=by
   have e2:∀ l:List (Int × Value),(List.range l.length).filterMap (l[·]?)=l:=λl=>by
    induction l with
    | nil=>rfl
    | cons x l ih =>
     rw [List.length_cons,List.range_succ_eq_map,List.filterMap_cons];show x::List.filterMap _ (List.map Nat.succ (List.range l.length))=_;rw [List.filterMap_map];exact congrArg (x::·) ih
   have:=e2 es.toList
   rw [Array.length_toList] at this;simpa using this
  rw [this]
 have fl:=SETH.a0o gd';have ft':t'.fits (od.filterMap (es[·]?)).size=true:=by
  unfold SetTable.fits;rw [fl,szo,hs];have:es.size<=t'.mask:=by omega
  simp [this]
 unfold setRelay;refine wpAny_bind (wpAny_setState_of ho hd ft ?_);dsimp only;rw [if_neg (Nat.not_lt.mpr (aji n1))];have rl:t.relaid (es.map (·.1)) n=some (t',od):=e;have sx:(od.filterMap (es[·]?)).size<scanBound:=by omega
 refine wpAny_bind (wpAny_of_eq (a:=(od.filterMap (es[·]?),t')) ?_ ?_)
 ·rw [rl];exact if_neg (c:=(od.filterMap (es[·]?)).size != es.size) (by rw [szo];simp)
 ·refine wpAny_storeSet_of ho hd (q _ (Heap.SameBut.update s.heap a _) ?_) (fits_of_scanBound sx);have gg:Gr t':=⟨⟨gd',⟨b',by rw [hm];exact hk⟩,by rw [hm];omega,λi hi=>by rw [hm];exact hl i hi,hp.trans gd.1.plain⟩,by omega⟩
  obtain ⟨o1,es1,ep1,t1,q1,q2,q3,q4,q5,q6,q7,q8,q9⟩:=stored prog w ho hex hd (λe he=>al e (po.mem_iff.mp he)) ((po.map kOf).trans pm) sx ft' gg (ld'.trans ld);obtain ⟨o2,ep2,w1,w2,w3⟩:=held prog w ho hex hd (λe he=>al e (po.mem_iff.mp he)) sx ft';rw [q1] at w1;cases w1
  rw [q3] at w3;cases w3
  exact ⟨o1,_,_,_,q1,q2,q3,q4,q5,q6,q7,q8,q9,by omega⟩
theorem anb{b:Bool}{ks:List Int}{more:Nat}{Q:Unit->Shared->Prop}(hS:SetI b a ks s.heap)(pos:0<more)(few:ks.length+more<8000)
  (q:∀ h',Heap.SameBut a s.heap h'->SetX b a ks more h'->Q () { s with heap:=h' }):wpAny (model prog w) A (setRoomFor a more) Q E s:=by
 have hS':=hS;obtain ⟨o,es,ep,t,ho,hex,hd,al,pm,sz,ft,gd,ld⟩:=hS';have lk:es.size=ks.length:=by have:=pm.length_eq;rwa [List.length_map,Array.length_toList] at this
 unfold setRoomFor;refine wpAny_bind (wpAny_setState_of ho hd ft ?_);dsimp only;unfold SetTable.roomFor;have ps:=size_of ft
 by_cases h:(t.fill+more)*5≥t.mask*3
 ·rw [if_pos h];exact ajj hS (by omega) (by omega) (by omega) q
 ·rw [if_neg h];exact wpAny_pure (q _ (Heap.SameBut.refl a s.heap) ⟨o,es,ep,t,ho,hex,hd,al,pm,sz,ft,gd,ld,by omega⟩)
end
end SETB
set_option maxHeartbeats 1000000
namespace SETB
open PySem PySem.Spec PyProof.Rows SETA PySem.Builtin
theorem ag5{ks ls:List Int}(p:ks.Perm ls)(x:Int):(L2.stepK ks x).Perm (L2.stepK ls x):=by
 unfold L2.stepK
 by_cases h:x∈ks
 ·rw [if_pos h,if_pos (p.mem_iff.mp h)];exact p
 ·rw [if_neg h,if_neg λz=>h (p.mem_iff.mpr z)];exact p.append_right _
theorem anc{ks ls:List Int}(p:ks.Perm ls):∀ ms:List Int,(ms.foldl L2.stepK ks).Perm (ms.foldl L2.stepK ls):=λms=>by
 induction ms generalizing ks ls with
 | nil=>exact p
 | cons x ms ih=>exact ih (ag5 p x)
theorem abm{ks:List Int}{x y:Int}:y∈L2.stepK ks x↔y∈ks\/y=x:=by
 unfold L2.stepK
 split
 ·rename_i h;exact ⟨.inl,λz=>z.elim id λe=>e ▸ h⟩
 ·simp
theorem ag6(ks:List Int)(x y:Int):(L2.stepK (L2.stepK ks x) y).Perm (L2.stepK (L2.stepK ks y) x):=by
 by_cases hx:x∈ks
 ·have e1:L2.stepK ks x=ks:=if_pos hx;have e2:L2.stepK (L2.stepK ks y) x=L2.stepK ks y:=if_pos (abm.mpr (.inl hx));rw [e1,e2]
 ·by_cases hy:y∈ks
  ·have e1:L2.stepK ks y=ks:=if_pos hy;have e2:L2.stepK (L2.stepK ks x) y=L2.stepK ks x:=if_pos (abm.mpr (.inl hy));rw [e1,e2]
  ·by_cases e:x=y
   ·subst e;exact .refl _
   ·have e1:L2.stepK ks x=ks++[x]:=if_neg hx;have e2:L2.stepK ks y=ks++[y]:=if_neg hy;have e3:L2.stepK (ks++[x]) y=ks++[x]++[y]:=if_neg (by simp [hy,Ne.symm e])
    have e4:L2.stepK (ks++[y]) x=ks++[y]++[x]:=if_neg (by simp [hx,e])
    rw [e1,e2,e3,e4,List.append_assoc,List.append_assoc];exact (List.Perm.swap y x []).append_left ks
theorem ag7{ms ls:List Int}(p:ms.Perm ls):∀ ks:List Int,(ms.foldl L2.stepK ks).Perm (ls.foldl L2.stepK ks):=by
 induction p with
 | nil=>exact λ_=>.refl _
 | cons x _ ih=>exact λks=>ih _
 | swap x y l=>exact λks=>anc (ag6 ks y x) l
 | trans _ _ a b=>exact λks=>(a ks).trans (b ks)
theorem aa7:∀ {ms ks:List Int},(ks++ms).Nodup->ms.foldl L2.stepK ks=ks++ms
 | [],ks,_=>by simp
 | m::ms,ks,h=>by
  have nm:m ∉ ks:=λz=>(List.nodup_append.mp h).2.2 m z m (by simp) rfl
  rw [List.foldl_cons,show L2.stepK ks m=ks++[m] from if_neg nm,aa7 (by simpa using h)]
  simp
theorem SetI.perm{b:Bool}{a:Addr}{ks ls:List Int}{h:Heap}(x:SetI b a ks h)(p:ks.Perm ls):SetI b a ls h:=by
 obtain ⟨o,es,ep,t,h1,h2,h3,h4,h5,h6⟩:=x;exact ⟨o,es,ep,t,h1,h2,h3,h4,h5.trans p,h6⟩
theorem SetX.i{b:Bool}{a:Addr}{ks:List Int}{m:Nat}{h:Heap}(x:SetX b a ks m h):SetI b a ks h:=by
 obtain ⟨o,es,ep,t,h1,h2,h3,h4,h5,h6,h7,h8,h9,_⟩:=x;exact ⟨o,es,ep,t,h1,h2,h3,h4,h5,h6,h7,h8,h9⟩
theorem ajk{mask f m:Nat}{l p:Bool}{hs:Array Int}{t':SetTable}{od:Array Nat}(e:SetTable.laid mask f m l p hs=some (t',od)):t'.led=l:=by
 have:=congrArg (Option.map λz=>z.1.led) e
 unfold SetTable.laid at this
 cases hc:SetTable.layClean mask hs with
 | none=>rw [hc] at this;cases this
 | some ow=>rw [hc] at this;exact (Option.some.inj this).symm
theorem adg{es:Array (Int × Value)}{od:Array Nat}(hod:od.toList.Perm (List.range es.size)):(od.filterMap (es[·]?)).toList.Perm es.toList:=by
 rw [Array.toList_filterMap];refine (hod.filterMap _).trans ?_;have e2:∀ l:List (Int × Value),(List.range l.length).filterMap (l[·]?)=l:=λl=>by
  induction l with
  | nil=>rfl
  | cons x l ih =>
   rw [List.length_cons,List.range_succ_eq_map,List.filterMap_cons];show x::List.filterMap _ (List.map Nat.succ (List.range l.length))=_;rw [List.filterMap_map];exact congrArg (x::·) ih
 have:=e2 es.toList
 rw [Array.length_toList] at this;have:(List.range es.size).filterMap (es[·]?)=es.toList:=by simpa using this
 rw [this]
section
variable{prog:Program}{w:World}{E:Value->Shared->Prop}{A:Around}{s:Shared}{a c:Addr}
theorem abn{b:Bool}{ks ms:List Int}{each:Sem Unit}{Q:Unit->Shared->Prop}(hb:b = !byT w)(hS:SetI b a ks s.heap)(hO:SetI b c ms s.heap)(ne:a≠c)(nd:ms.Nodup)(few:ks.length+ms.length+1<scanBound)
  (he:∀ (s':Shared) (Q':Unit->Shared->Prop),s'.heap.get? c=s.heap.get? c->Q' () s'->wpAny (model prog w) A each Q' E s')
  (q:∀ h',Heap.SameBut a s.heap h'->SetI b a (ms.foldl L2.stepK ks) h'->Q () { s with heap:=h' }):wpAny (model prog w) A (setMerge a c each) Q E s:=by
 have sb4:scanBound=4096:=rfl;have hO':=hO;obtain ⟨oc,ec,pc,tc,hoc,hexc,hdc,alc,pmc,szc,ftc,gdc,ldc⟩:=hO';have lc:ec.size=ms.length:=by have:=pmc.length_eq;rwa [List.length_map,Array.length_toList] at this
 unfold setMerge;rw [if_neg (by simpa using ne)]
 refine wpAny_bind (wpAny_setState_of hoc hdc ftc ?_);dsimp only
 by_cases em:ec.isEmpty=true
 ·rw [if_pos em];have:ms=[]:=by
   have:ec.size=0:=by simpa using em
   exact List.length_eq_zero_iff.mp (by omega)
  subst this;exact wpAny_pure (q s.heap (Heap.SameBut.refl a s.heap) hS)
 rw [if_neg em];have pos:0<ec.size:=by
  rcases Nat.eq_zero_or_pos ec.size with z | z
  ·exact absurd (by simpa using z) em
  ·exact z
 refine wpAny_bind (anb hS pos (by omega) λh1 sb1 X1=>?_)
 have hoc1:h1.get? c=some oc:=sb1.extBut c oc (Ne.symm ne) hoc;have X1':=X1;obtain ⟨o1,e1,p1,t1,g1,g2,g3,g4,g5,g6,g7,g8,g9,g10⟩:=X1';have l1:e1.size=ks.length:=by have:=g5.length_eq;rwa [List.length_map,Array.length_toList] at this
 have fl1:=SETH.a0o g8.1.gd;have sz1:=size_of g7;have sz2:=size_of ftc;have flc:=SETH.a0o gdc.1.gd;refine wpAny_bind (wpAny_setState_of (s:={ s with heap:=h1 }) g1 g3 g7 ?_)
 dsimp only;unfold SetTable.road
 by_cases f0:t1.fill=0
 ·rw [if_neg (by simpa using f0)]
  have k0:ks=[]:=List.length_eq_zero_iff.mp (by omega)
  subst k0;have fm:ms.foldl L2.stepK []=ms:=aa7 (by simpa using nd)
  rw [fm] at q
  by_cases mm:(t1.mask == tc.mask && tc.dummies.isEmpty)=true
  ·rw [if_pos mm];dsimp only;have mk:t1.mask=tc.mask:=by have:=(Bool.and_eq_true _ _ ▸ mm).1;simpa using this
   refine wpAny_storeSet_of (s:={ s with heap:=h1 }) g1 g3 (q _ (sb1.trans (Heap.SameBut.update _ a _)) (stored prog w g1 g2 g3 alc pmc szc ftc ⟨⟨⟨gdc.1.gd.ri,gdc.1.gd.dm⟩,gdc.1.pow,gdc.1.big,gdc.1.le,?_⟩,gdc.2⟩ ?_)) (fits_of_scanBound szc)
   ·show (t1.plain && tc.plain)=true;rw [g8.1.plain,gdc.1.plain];rfl
   ·show (t1.led && tc.led)=b;rw [g9,ldc,Bool.and_self]
  ·rw [if_neg mm];dsimp only;obtain ⟨k1,hk1⟩:=g8.1.pow;obtain ⟨t',od,e,hm,hdm,hp,hs,hl,hod⟩:=SETH.a4y (f:=t1.finger) (m:=t1.moves) (l:=t1.led && tc.led) (p:=t1.plain && tc.plain) hk1 (ec.map (·.1)) (by rw [Array.size_map];omega)
   rw [Array.size_map] at hs hod;have ld':=ajk e;have gd':=(a76 e).1;have szo:(od.filterMap (ec[·]?)).size=ec.size:=by
    rw [<-Array.length_toList,Array.toList_filterMap,SETH.abi _ λx hx=>List.mem_range.mp (hod.mem_iff.mp hx),hod.length_eq,List.length_range]
   have po:=adg (es:=ec) hod;have fl:=SETH.a0o gd';have ft':t'.fits (od.filterMap (ec[·]?)).size=true:=by
    unfold SetTable.fits;rw [fl,szo,hs];have:ec.size<=t'.mask:=by omega
    simp [this]
   have sx:(od.filterMap (ec[·]?)).size<scanBound:=by omega
   refine wpAny_bind (wpAny_of_eq (a:=(od.filterMap (ec[·]?),t')) ?_ ?_)
   ·rw [e];exact if_neg (c:=(od.filterMap (ec[·]?)).size != ec.size) (by rw [szo];simp)
   ·have gg:Gr t':=⟨⟨gd',⟨k1,by rw [hm];exact hk1⟩,by rw [hm];exact g8.1.big,λi hi=>by rw [hm];exact hl i hi,by rw [hp,g8.1.plain,gdc.1.plain];rfl⟩,by omega⟩
    exact wpAny_storeSet_of (s:={ s with heap:=h1 }) g1 g3 (q _ (sb1.trans (Heap.SameBut.update _ a _)) (stored prog w g1 g2 g3 (λe he=>alc e (po.mem_iff.mp he)) ((po.map kOf).trans pmc) sx ft' gg (by rw [ld',g9,ldc,Bool.and_self]))) (fits_of_scanBound sx)
 ·rw [if_pos (by simpa using f0)]
  dsimp only;refine wpAny_bind (aa6 (s:={ s with heap:=h1 }) hoc1 hdc ftc gdc.1.plain (ldc.trans hb) ?_)
  have al:AllI (a6e w c pc ec).toList:=λe he=>alc e ((a3u w c pc ec).mem_iff.mp he);have pw:((a6e w c pc ec).toList.map kOf).Perm ms:=((a3u w c pc ec).map kOf).trans pmc
  generalize a6e w c pc ec=os at al pw
  refine wpAny_bind (wpAny_forIn_array' _ (λrest _ s'=>∃ (done:List (Int × Value)) (h':Heap),os.toList=done++rest/\s'={ s with heap:=h' }/\Heap.SameBut a s.heap h'/\SetI b a ((done.map kOf).foldl L2.stepK ks) h') _ ?_ ?_ os _ ⟨[],h1,rfl,rfl,sb1,X1.i⟩)
  ·rintro ⟨hh,x⟩ rest u s' ⟨done,h',eo,rfl,sb',S'⟩
   obtain ⟨k,tk,ek⟩:=al (hh,x) (by rw [eo];simp)
   cases ek
   have lm:=pw.length_eq;rw [eo,List.length_map,List.length_append,List.length_cons] at lm;have ln:((done.map kOf).foldl L2.stepK ks).length<=ks.length+done.length:=by
    have:∀ (l:List Int) (ks:List Int),(l.foldl L2.stepK ks).length<=ks.length+l.length:=λl=>by
     induction l with
     | nil=>intro ks;simp
     | cons x l ih =>
      intro ks
      have h2:=ih (L2.stepK ks x);have h3:(L2.stepK ks x).length<=ks.length+1:=by
       unfold L2.stepK
       split
       ·omega
       ·simp
      rw [List.foldl_cons,List.length_cons];omega
    have:=this (done.map kOf) ks
    rwa [List.length_map] at this
   refine wpAny_bind (wpAny_holding (a2w (s:={ s with heap:=h' }) S' (by omega) λh2 r sb2 S2=>?_))
   have sbt:=sb'.trans sb2;have gc2:h2.get? c=some oc:=sbt.extBut c oc (Ne.symm ne) hoc;refine wpAny_bind (he { s with heap:=h2 } _ (by rw [gc2,hoc]) ?_)
   refine wpAny_bind (wpAny_setState_of (s:={ s with heap:=h2 }) gc2 hdc ftc ?_)
   dsimp only;rw [if_neg (by simp)]
   refine wpAny_pure ⟨done++[(hashInt k, .int k tk)],h2,by rw [eo];simp,rfl,sbt,?_⟩
   rw [List.map_append,List.foldl_append];exact S2
  ·rintro u s' ⟨done,h',eo,rfl,sb',S'⟩
   rw [List.append_nil] at eo;rw [<-eo] at S';exact wpAny_pure (q h' sb' (S'.perm (ag7 pw ks)))
end
end SETB
set_option maxHeartbeats 1000000
namespace SETB
open PySem PySem.Spec PyProof.Rows SETA PySem.Builtin
theorem ajl:entryFor table "set.__or__" = some Builtin.«frozenset.__or__» :=
 entryFor_alias (id' := "frozenset.__or__") (by kernel_rfl) rfl (by decide +kernel) (by kernel_rfl)
section
variable{prog:Program}{w:World}{E:Value->Shared->Prop}{A:Around}{s:Shared}{a c:Addr}
theorem aa8{b:Bool}{ks:List Int}{Q:Bool->Shared->Prop}(hS:SetI b a ks s.heap)(q:Q true s):wpAny (model prog w) A (Frozenset.isAnySet (.ref a)) Q E s:=by
 unfold Frozenset.isAnySet;refine wpAny_bind (wpAny_isInstance hS.typeIs sub_set_self ?_);exact wpAny_pure q
theorem ajm{b:Bool}{ks:List Int}{Q:Value->Shared->Prop}(hb:b = !byT w)(hS:SetI b a ks s.heap)(nd:ks.Nodup)(few:ks.length+1<scanBound)
  (q:∀ h',(∀ c o,s.heap.get? c=some o->h'.get? c=some o)->SetI b s.heap.objs.size ks h'->Q (.ref s.heap.objs.size) { s with heap:=h' }):wpAny (model prog w) A (Frozenset.copyOf a) Q E s:=by
 subst hb;unfold Frozenset.copyOf Frozenset.baseOf;refine wpAny_bind (wpAny_bind (wpAny_isInstance hS.typeIs sub_set_self (wpAny_pure ?_)));rw [if_pos rfl];refine wpAny_bind (a79 ?_);refine wpAny_bind (wpAny_pure ?_);have at0:(s.heap.push (a05 (!byT w))).get? s.heap.objs.size=some (a05 (!byT w)):=Heap.get?_push_size _ rfl;have hS1:SetI (!byT w) a ks (s.heap.push (a05 (!byT w))):=hS.keep λo e=>Heap.get?_push_of_some _ e;have la:a<s.heap.objs.size:=by
  obtain ⟨o,_,_,_,ho,_⟩:=hS;exact Heap.lt_size ho
 refine wpAny_bind (abn (s:={ s with heap:=s.heap.push (a05 (!byT w)) }) rfl (aa1 at0) hS1 (Nat.ne_of_gt la) nd (by rw [List.length_nil,Nat.zero_add];exact few) (λs' Q' _ h=>wpAny_pure h) λh' sb x=>wpAny_pure (q h' (λc o e=>sb.extBut c o (Nat.ne_of_lt (Heap.lt_size e)) (Heap.get?_push_of_some _ e)) ?_))
 rwa [aa7 (by simpa using nd),List.nil_append] at x
theorem ane{b:Bool}{ks ms:List Int}{Q:Value->Shared->Prop}(hb:b = !byT w)(hS:SetI b a ks s.heap)(hO:SetI b c ms s.heap)(ne:a≠c)(nk:ks.Nodup)(nd:ms.Nodup)(few:ks.length+ms.length+1<scanBound)
  (q:∀ h',(∀ c o,s.heap.get? c=some o->h'.get? c=some o)->SetI b s.heap.objs.size (ms.foldl L2.stepK ks) h'->Q (.ref s.heap.objs.size) { s with heap:=h' }):wpAny (model prog w) A (binaryOp .BitOr (.ref a) (.ref c)) Q E s:=by
 refine wpAny_binaryOp_same (op:=.BitOr) (T := "set") hS.typeIs hO.typeIs F.fills_set_or F.slot_set_or (wpAny_call_entry F.slot_set_or hS.typeIs ajl ?_ (F.args_set_or_2 _ _));refine wpAny_bind (wpAny_of_eq (a:=(Value.ref a,Value.ref c)) rfl ?_);dsimp only;refine wpAny_bind (wpAny_bind (aa8 hS ?_));refine aa8 hO ?_;rw [if_neg (by decide)]
 refine wpAny_bind (wpAny_pure ?_);have lc:c<s.heap.objs.size:=by
  obtain ⟨o,_,_,_,ho,_⟩:=hO;exact Heap.lt_size ho
 refine wpAny_bind (wpAny_bind (ajm hb hS nk (by omega) λh1 kp x1=>?_))
 have hO1:SetI b c ms h1:=hO.keep λo e=>kp c o e;rw [if_pos (by simpa using (Ne.symm ne))]
 refine wpAny_bind (wpAny_pure ?_);refine wpAny_bind (wpAny_holding ?_);unfold Frozenset.updateFrom;refine wpAny_bind (aa8 (s:={ s with heap:=h1 }) hO1 ?_)
 rw [if_pos rfl];have hO1':=hO1;obtain ⟨oc,ec,pc,tc,hoc,hexc,hdc,alc,pmc,szc,ftc,gdc,ldc⟩:=hO1';refine wpAny_bind (wpAny_pure ?_);unfold Frozenset.merge;refine wpAny_bind (wpAny_setEpoch_of (s:={ s with heap:=h1 }) hoc hdc ftc ?_)
 refine abn (s:={ s with heap:=h1 }) hb x1 hO1 (Nat.ne_of_gt lc) nd (by omega) (λs' Q' e h=>?_) λh2 sb x2=>?_
 ·unfold Frozenset.unchanged;refine wpAny_bind (wpAny_setEpoch_of (e.trans hoc) hdc ftc ?_);rw [if_neg (by simp)]
  exact wpAny_pure h
 ·exact wpAny_pure (wpAny_pure ⟨_,rfl,(λz=>by cases z),q h2 (λd o e=>sb.extBut d o (Nat.ne_of_lt (Heap.lt_size e)) (kp d o e)) x2⟩)
end
end SETB
namespace SETB
open PySem PySem.Spec PyProof.Rows SETA
section
variable{prog:Program}{w:World}{A:Around}{E:Value->Shared->Prop}{R:Result->Shared->Prop}{s:Shared}
theorem a5c{b:Bool}{I S:Addr}{fp wr:List Addr}{n:Nat}{P:Nat->Value->Prop}{St:Nat->Heap->Prop}(W:Walks prog w A.in1 I fp wr n P St)(apart:S ∉ fp)(val:Nat->Int)(key:∀ i v,P i v->∃ t,v = .int (val i) t)(few:n+1<scanBound) :
  ∀ (left i:Nat) (s:Shared) (ks:List Int),i+left=n->ks.length<=i->St i s.heap->SetI b S ks s.heap->
   (∀ h' tk,SetI b S (((List.range' i left).map val).foldl L2.stepK ks) h'->(∀ c o,c≠S->c ∉ wr->s.heap.get? c=some o->h'.get? c=some o)->R (.ok (.ret .none)) { s with heap:=h',toks:=tk })->
   codeAny (model prog w) A (.builtin "set.update.loop" ⟨[.ref S, .ref I],[]⟩) R s
 | 0,i,s,ks,hi,hl,st,x,fin=>codeAny_builtin F.entry_set_update_loop (by
   obtain rfl:i=n:=by omega
   simp only [Around.under_plainId F.plain_set_update_loop];exact wpAny_bind (W.done s _ _ st λh' tk k=>wpAny_pure (fin h' tk (x.keep λo e=>k S o (λz=>apart (W.sub S z)) e) λc o _ hc e=>k c o hc e)))
 | left+1,i,s,ks,hi,hl,st,x,fin=>codeAny_builtin F.entry_set_update_loop (by
   simp only [Around.under_plainId F.plain_set_update_loop];refine wpAny_bind (W.item i s _ _ (by omega) st λv h1 t1 p st1 k1=>?_)
   obtain ⟨tk,rfl⟩:=key i v p;refine wpAny_bind (wpAny_holding ?_);unfold setAdd;refine wpAny_holding (wpAny_bind ((intKind prog w).pyHash (k:=val i) (by simp [intKind,Value.isInt]) ?_))
   refine a2w (s:={ s with heap:=h1,toks:=t1+1 }) (x.keep λo e=>k1 S o (λz=>apart (W.sub S z)) e) (by omega) λh2 r sb x2=>?_
   have sl:(L2.stepK ks (val i)).length<=i+1:=by
    unfold L2.stepK
    split
    ·omega
    ·rw [List.length_append,List.length_singleton];omega
   refine wpAny_pure ⟨plainId_quiet F.plain_set_update_loop _,a5c W apart val key few left (i+1) _ _ (by omega) sl (W.frame _ _ _ st1 λc hc o e=>sb.extBut c o (λz=>apart (z ▸ hc)) e) x2 λh3 t3 x3 k3=>?_⟩
   exact fin h3 t3 (by rw [List.range'_succ,List.map_cons,List.foldl_cons];exact x3) λc o cS cw e=>k3 c o cS cw (sb.extBut c o cS (k1 c o cw e)))
theorem ag8(a:Value){Q₁:Value->Shared->Prop}(h:Q₁ (.ref s.heap.objs.size) { s with heap:=s.heap.push (a05 (!byT w)) }) :
  codeAny (model prog w) A (.call (.builtin "set.__new__") ⟨[.type "set",a],[]⟩) (wants Q₁ E) s:=by
 apply codeAny_of_tree
 apply wpAny_bind
 refine wpAny_of_eq (F.newCall_set_1 a) ?_;refine wpAny_pure ⟨plainId_quiet F.plain_set_new _,codeAny_builtin F.entry_set_new ?_⟩;simp only [Around.under_plainId F.plain_set_new];have self:=sub_set_self;unfold Builtin.«set.__new__» Builtin.Frozenset.newClass
 generalize en:newSet=mk
 wp_walk
 subst en
 first
  | exact a79 (wpAny_pure h)
  | exact wpAny_bind (a79 (wpAny_pure h))
theorem ag9{l:Addr}{tn:String}{od:Option Addr}{dt:Data}{sl:Array (Option Value)}{ns:List Int}{b:Bool}{R:Result->Shared->Prop}(hh:A.handled=none)
  (hl:s.heap.get? l=some { cls:=.type tn,dict:=od,data:=dt,slots:=sl }) (no1:isSubtype (.type tn) (.type "set")=pure false) (no2:isSubtype (.type tn) (.type "frozenset")=pure false) (no3:(Value.type tn == Value.type "dict")=false) (few:ns.length+1<scanBound)
  (it:∀ (s1:Shared) (Q:Value->Shared->Prop) (E:Value->Shared->Prop),s1.heap.get? l=some { cls:=.type tn,dict:=od,data:=dt,slots:=sl }->
   (∀ (o:Obj) (St:Nat->Heap->Prop) (P:Nat->Value->Prop),(∀ A':Around,A'.handled=none->Walks prog w A' s1.heap.objs.size [s1.heap.objs.size,l] [s1.heap.objs.size] ns.length P St)->(∀ i v,P i v->∃ t,v = .int (ns.getD i 0) t)->St 0 (s1.heap.push o)->Q (.ref s1.heap.objs.size) { s1 with heap:=s1.heap.push o })->wpAny (model prog w) A.in1 (pyIter (.ref l)) Q E s1)
  (q:∀ h' tk,SetI b s.heap.objs.size (ns.foldl L2.stepK []) h'->(∀ c o,s.heap.get? c=some o->h'.get? c=some o)->R (.ok (.ret .none)) { s with heap:=h',toks:=tk }) :
  wpAny (model prog w) A.in1 (Builtin.«set.__init__» ⟨[.ref s.heap.objs.size, .ref l],[]⟩)
   (λfin s'=>match fin with | .done f=>R (.ok f) s' | .again c'=>c'.quiet=true/\codeAny (model prog w) A c' R s') (λe s'=>R (.error e) s') { s with heap:=s.heap.push (a05 b) }:=by
 have at0:(s.heap.push (a05 b)).get? s.heap.objs.size=some (a05 b):=Heap.get?_push_size _ rfl;have hl':(s.heap.push (a05 b)).get? l=some { cls:=.type tn,dict:=od,data:=dt,slots:=sl }:=Heap.get?_push_of_some _ hl;have ll:=Heap.lt_size hl;unfold Builtin.«set.__init__»;unfold noKeywords Builtin.Frozenset.updateFrom
 generalize ep:pyIter=walker
 unfold a05 at at0 hl' ⊢
 wp_walk
 subst ep;refine it _ _ _ hl' λo St P W key st=>wpAny_bind (wpAny_runValue ?_);dsimp only at W st ⊢;have far:s.heap.objs.size ∉ [(s.heap.push (a05 b)).objs.size,l]:=λz=>by
  rcases List.mem_cons.mp z with z | z
  ·rw [Heap.size_push] at z;exact absurd z (Nat.ne_of_lt (Nat.lt_succ_self _))
  ·rw [List.mem_singleton] at z;rw [<-z] at ll;exact Nat.lt_irrefl _ ll
 have e0:(List.range' 0 ns.length).map (λi=>ns.getD i 0)=ns:=by
  refine List.ext_getElem? λi=>?_
  by_cases hi:i<ns.length
  ·rw [List.getElem?_map,List.getElem?_range' hi,List.getElem?_eq_getElem hi];simp [List.getD_eq_getElem?_getD,hi]
  ·rw [List.getElem?_eq_none (by simp;omega),List.getElem?_eq_none (by omega)]
 refine a5c (b:=b) (W _ (by simp [hh])) far (λi=>ns.getD i 0) key few ns.length 0 { s with heap:=(s.heap.push (a05 b)).push o } [] (by omega) (by simp) st (aa1 (b:=b) (Heap.get?_push_of_some _ (show (s.heap.push (a05 b)).get? s.heap.objs.size=some (a05 b) from at0))) λh' tk held k=>?_
 rw [e0] at held;refine wpAny_pure (wpAny_pure ?_);refine q h' tk held λc o e=>k c o ?_ ?_ (Heap.get?_push_of_some _ (Heap.get?_push_of_some _ e))
 ·exact Nat.ne_of_lt (Heap.lt_size e)
 ·intro z
  have z:=List.mem_singleton.mp z;have:=Heap.lt_size e;rw [z,Heap.size_push] at this;exact absurd this (Nat.not_lt.mpr (Nat.le_succ _))
theorem a2c{l:Addr}{tn:String}{od:Option Addr}{dt:Data}{sl:Array (Option Value)}{ns:List Int}{Q:Value->Shared->Prop}
  (hl:s.heap.get? l=some { cls:=.type tn,dict:=od,data:=dt,slots:=sl }) (no1:isSubtype (.type tn) (.type "set")=pure false) (no2:isSubtype (.type tn) (.type "frozenset")=pure false) (no3:(Value.type tn == Value.type "dict")=false) (few:ns.length+1<scanBound)
  (it:∀ (A:Around) (s1:Shared) (Q:Value->Shared->Prop) (E:Value->Shared->Prop),s1.heap.get? l=some { cls:=.type tn,dict:=od,data:=dt,slots:=sl }->
   (∀ (o:Obj) (St:Nat->Heap->Prop) (P:Nat->Value->Prop),(∀ A':Around,A'.handled=none->Walks prog w A' s1.heap.objs.size [s1.heap.objs.size,l] [s1.heap.objs.size] ns.length P St)->(∀ i v,P i v->∃ t,v = .int (ns.getD i 0) t)->St 0 (s1.heap.push o)->Q (.ref s1.heap.objs.size) { s1 with heap:=s1.heap.push o })->wpAny (model prog w) A (pyIter (.ref l)) Q E s1)
  (hh:A.handled=none)
  (q:∀ h' tk,SetI (!byT w) s.heap.objs.size (ns.foldl L2.stepK []) h'->(∀ c o,s.heap.get? c=some o->h'.get? c=some o)->Q (.ref s.heap.objs.size) { s with heap:=h',toks:=tk }) :
  wpAny (model prog w) A (call (.type "set") [.ref l]) Q E s:=by
 obtain ⟨_,_,order⟩:=F.called_set.mro;have made:=F.called_set.made;have self:=F.called_set.sub;have nt:=F.called_set.notType;have cc:=F.called_set.canCreate;have tc:=F.typeCall_set_1 (.ref l);refine wpAny_call (codeAny_of_tree (wpAny_pure ⟨Code.quiet_builtin _ (by decide +kernel),codeAny_builtin F.entry_type_call ?_⟩))
 simp only [Around.under_plain (weight_type_call_type "set" [.ref l] []) rfl]
 repeat any_goals first | assumption | wp_step
 refine codeAny_mono (ag8 (.ref l) (E:=E) (Q₁:=λobj s1=>obj = .ref s.heap.objs.size/\s1={ s with heap:=s.heap.push (a05 (!byT w)) }) ⟨rfl,rfl⟩) λr s1 hr=>?_
 match r,hr with
 | .error _,hr=>exact hr
 | .ok (.ret _),⟨eo,es⟩ =>
  subst eo es;have ty:Shared.TypeIs { s with heap:=s.heap.push (a05 (!byT w)) } (.ref s.heap.objs.size) "set":=⟨_,Heap.get?_push_size _ rfl,rfl⟩
  have look:=F.called_set.init.lookup;have bound:=F.called_set.init.bind (.ref s.heap.objs.size)
  repeat any_goals first | assumption | wp_step
  refine codeAny_mono (codeAny_call_builtin (R:=wants (λr s2=>r = .none/\Q (.ref s.heap.objs.size) s2) E) F.called_set.init.plain F.entry_set_init (check_set_init_1 ty (ag9 hh hl no1 no2 no3 few (it _) λh' tk x1 k1=>⟨rfl,q h' tk x1 k1⟩))) λr2 s2 hr2=>?_
  match r2,hr2 with
  | .error _,hr2=>exact hr2
  | .ok (.ret _),⟨e2,q2⟩ =>
   subst e2
   repeat any_goals first | assumption | wp_step
  | .ok .next,hr2=>exact hr2.elim
  | .ok .brk,hr2=>exact hr2.elim
  | .ok .cont,hr2=>exact hr2.elim
 | .ok .next,hr=>exact hr.elim
 | .ok .brk,hr=>exact hr.elim
 | .ok .cont,hr=>exact hr.elim
end
end SETB
namespace L2
open PySem PySem.Spec PyProof.Rows SETB
theorem sub_tuple_set:isSubtype (.type "tuple") (.type "set")=pure false/\isSubtype (.type "tuple") (.type "frozenset")=pure false:=by
 constructor<;>(rw [isSubtype_type];kernel_rfl)
section
variable{X:Cx}
theorem abo{its:List Value}{ns:List Int}{v:Value}(h:IntsAre its ns){i:Nat}(e:its.toArray[i]? = some v):∃ t,v = .int (ns.getD i 0) t:=by
 replace e:its[i]? = some v:=by simpa using e
 induction h generalizing i with
 | nil=>simp at e
 | cons n t _ ih =>
  cases i with
  | zero=>simp at e;subst e;exact ⟨_,rfl⟩
  | succ i=>simpa using ih (by simpa using e)
theorem a2y(hc:X.calm=true):CallR X (.type "set") (λxs H Q=>∃ (p:Addr) (ns:List Int),xs=[.ref p]/\(SqL X.K H p (ns.map V.int)\/SqT X.K H p (ns.map V.int))/\ns.length+1<scanBound/\∀ l,H l=none->Q (.ref l) (upd H l (abk X.w l (ns.foldl stepK [])))):=by
 intro pins s σ H xs us Q I r h
 obtain ⟨p,ns,rfl,hq,few,q⟩:=h;obtain ⟨u,rfl,rx⟩:=vals1 r;cases rx
 have fin:∀ (h':Heap) (tk:Nat),SetI (!byT X.w) s.heap.objs.size (ns.foldl stepK []) h'->(∀ c o,s.heap.get? c=some o->h'.get? c=some o)->EP X pins σ Q (.ref s.heap.objs.size) { s with heap:=h',toks:=tk }:=λh' tk hS kp =>
  ⟨.ref s.heap.objs.size,_,I.laid (t':=tk) (o:=abk X.w s.heap.objs.size (ns.foldl stepK [])) kp (Nat.le_refl _) (aa3 hS),rfl,q _ (I.hok.fresh (Nat.le_refl _))⟩
 rcases hq with hq | hq
 ·obtain ⟨its,r',pl,hz⟩:=I.list hq;have hI:IntsAre its ns:=intsAre_of r';have hl:its.length=ns.length:=by have:=r'.length;simp at this;omega
  obtain ⟨o,ho,hcl,n,hd⟩:=pl.isList;obtain ⟨oc,od,odt,osl⟩:=o;simp only at hcl hd;subst hcl hd;have hlt:=Heap.lt_size ho;refine a2c (ns:=ns) ho F.sub_list_set F.sub_list_frozenset (by decide) few (λA s1 Q E e1 k=>?_) (I.ok.hd hc) fin
  have hlt1:=Heap.lt_size e1;have il:s1.heap.IsList p its.toArray:=⟨_,e1,rfl,n,rfl⟩;refine wpAny_pyIter_list il (k _ (λi h=>h.IsListIter s1.heap.objs.size p i/\h.IsList p its.toArray) (λi v=>its.toArray[i]? = some v) (λA' hA=>?_) (λi v e=>abo hI e) ⟨⟨_,Heap.get?_push_size _ rfl,rfl,rfl⟩,il.at λo e=>Heap.get?_push_of_some _ e⟩);have W:=Walks.list (prog:=X.prog) (w:=X.w) (A:=A') hA s1.heap.objs.size p (Nat.ne_of_lt hlt1) its.toArray
  rwa [show its.toArray.size=ns.length by simpa using hl] at W
 ·obtain ⟨its,r',pl,hz⟩:=I.tuple hq;have hI:IntsAre its ns:=intsAre_of r';have hl:its.length=ns.length:=by have:=r'.length;simp at this;omega
  obtain ⟨o,ho,hcl,n,hd⟩:=pl;obtain ⟨oc,od,odt,osl⟩:=o;simp only at hcl hd;subst hcl hd;refine a2c (ns:=ns) ho sub_tuple_set.1 sub_tuple_set.2 (by decide) few (λA s1 Q E e1 k=>?_) (I.ok.hd hc) fin
  have hlt1:=Heap.lt_size e1;have il:s1.heap.IsTuple p its.toArray:=⟨_,e1,rfl,n,rfl⟩;refine wpAny_pyIter_tuple il (k _ (λi h=>h.IsTupleIter s1.heap.objs.size p i/\h.IsTuple p its.toArray) (λi v=>its.toArray[i]? = some v) (λA' hA=>?_) (λi v e=>abo hI e) ⟨⟨_,Heap.get?_push_size _ rfl,rfl,rfl⟩,il.at λo e=>Heap.get?_push_of_some _ e⟩);have W:=Walks.tuple (prog:=X.prog) (w:=X.w) (A:=A') hA s1.heap.objs.size p (Nat.ne_of_lt hlt1) its.toArray
  rwa [show its.toArray.size=ns.length by simpa using hl] at W
end
end L2
namespace MI
open PySem PySem.Spec L2 SETB
def a5d(d:D)(h:Hd):Option (List Int):=match d with
 | .tup xs=>a6w xs
 | d=>afi d h
def a5e:D->Hd->R D:=λd h=>match a5d d h with
 | some ns=>if ns.length<=4000 then adf (ns.foldl stepK []) h else .no
 | none=>.no
theorem a7b{K:PySem.W.Frag}{ι:List Addr}{H:Hp}{h:Hd}{v:V}{d:D}{ns:List Int}(r:Rep K ι H v d)(hr:HRep K ι H h)(e:a5d d h=some ns):∃ p,v = .ref p/\(SqL K H p (ns.map V.int)\/SqT K H p (ns.map V.int)):=by
 cases d with
 | tup xs =>
  cases r with
  | tup hh rs =>
   have e:a6w xs=some ns:=e;exact ⟨_,rfl, .inr (by rw [<-a3s rs e];exact SqT.of hh)⟩
 | _ =>
  obtain ⟨p,e1,q⟩:=afj r hr e;exact ⟨p,e1, .inl q⟩
theorem a5f{X:Cx}{E:XD}{e:Expr}{f:SE}{p p2 pos pos2:Pos}(hg:Gl X "sorted")(hm:X.mg "sorted" = none)(hg2:Gl X "set")(hm2:X.mg "set" = none)(hc:X.calm=true)(he:ME X E e f)
  (hs:starEach [e] X.env=[(false,eval e X.env)]:=by rfl) (hs2:starEach [Expr.Call (.Name "set" p2) [e] [] pos2] X.env=[(false,eval (.Call (.Name "set" p2) [e] [] pos2) X.env)]:=by rfl) :
  ME X E (.Call (.Name "sorted" p) [.Call (.Name "set" p2) [e] [] pos2] [] pos) (s1 a5e f):=by
 refine PE.weak (a3p (xm hc) hg hm rfl (a00 (a1s (a2y hc) hg2 hm2 rfl (a00 he a3d (by rw [hs];rfl)) (by decide) (by decide) (by rw [hs];rfl)) a3d (by rw [hs2];rfl)) (by decide) (by decide) (by rw [hs2];rfl)) λσ H Q ⟨ι,τ,h,S,Rh,o⟩=>?_
 refine ⟨ι,τ,h,S,Rh,gm o λd h1 ι1 H1 v g1 r1 hr1 o1=>?_⟩;unfold a5e at o1
 cases e1:a5d d h1 with
 | none=>rw [e1] at o1;exact o1.elim
 | some ns =>
  rw [e1] at o1;simp only at o1
  by_cases hl:ns.length<=4000
  ·rw [if_pos hl] at o1;obtain ⟨q,rfl,sq⟩:=a7b r1 hr1 e1;refine ⟨q,ns,rfl,sq,by have:scanBound=4096:=rfl;omega,λl hl'=>?_⟩
   unfold adf at o1
   by_cases h6:(ns.foldl stepK []).length<64
   ·rw [if_pos h6] at o1;exact ⟨l,_,rfl,nj,h6,vg (E:=E) (xn _) (hr1.aside hl' _) (vz o1 (wy hl' _))⟩
   ·rw [if_neg h6] at o1;exact o1.elim
  ·rw [if_neg hl] at o1;exact o1.elim
end MI
namespace L2
open PySem PySem.Spec PyProof.Rows SETB
theorem anf{ks:List Int}{x:Int}(h:ks.Nodup):(stepK ks x).Nodup:=by
 unfold stepK
 split
 ·exact h
 ·rename_i n;exact List.nodup_append.mpr ⟨h,by simp,λa ha b hb=>by rw [List.mem_singleton.mp hb];exact λz=>n (z ▸ ha)⟩
theorem a7c:∀ {ms ks:List Int},ks.Nodup->(ms.foldl stepK ks).Nodup
 | [],_,h=>h
 | _::ms,_,h=>a7c (ms:=ms) (anf h)
theorem a5g:∀ (ms ks:List Int),(ms.foldl stepK ks).length<=ks.length+ms.length
 | [],ks=>by simp
 | x::ms,ks=>by
  have h2:=a5g ms (stepK ks x);have h3:(stepK ks x).length<=ks.length+1:=by
   unfold stepK
   split
   ·omega
   ·simp
  rw [List.foldl_cons,List.length_cons];omega
section
variable{X:Cx}
theorem ar8:OpR X (binaryOp .BitOr) (λx y H Q=>∃ (p q:Addr) (ks ms:List Int),x = .ref p/\y = .ref q/\p≠q/\H p=some (abk X.w p ks)/\H q=some (abk X.w q ms)/\ks.Nodup/\ms.Nodup/\ks.length+ms.length+1<scanBound/\∀ l,H l=none->Q (.ref l) (upd H l (abk X.w l (ms.foldl stepK ks)))):=by
 intro pins s σ H x y v u Q I rx ry h
 obtain ⟨p,q,ks,ms,rfl,rfl,ne,hp,hq,nk,nm,few,k⟩:=h;cases rx
 cases ry
 obtain ⟨h1,_⟩:=I.hok p _ hp;obtain ⟨h2,_⟩:=I.hok q _ hq;refine ane rfl h1 h2 ne nk nm few λh' kp x=>?_;exact ⟨.ref s.heap.objs.size,_,I.laid (t':=s.toks) (o:=abk X.w s.heap.objs.size (ms.foldl stepK ks)) kp (Nat.le_refl _) (aa3 x),rfl,k _ (I.hok.fresh (Nat.le_refl _))⟩
end
end L2
namespace MI
open PySem PySem.Spec L2 SETB
noncomputable def sSU(f g:SE):SE:=λτ h=>(f τ h).bind λx h1=>match a5d x h1 with
 | some ns=>if ns.length<=2000 then (g τ h1).bind λy h2=>match a5d y h2 with
  | some ms=>if ms.length<=2000 then adf ((ms.foldl stepK []).foldl stepK (ns.foldl stepK [])) h2 else .no
  | none=>.no else .no
 | none=>.no
theorem aga{X:Cx}{E:XD}{e1 e2:Expr}{f g:SE}{p p2 p3 pos pos2 pos3 pos4:Pos}(hg:Gl X "sorted")(hm:X.mg "sorted" = none)(hg2:Gl X "set")(hm2:X.mg "set" = none)(hc:X.calm=true)(he1:ME X E e1 f)(he2:ME X E e2 g)
  (hs:starEach [e1] X.env=[(false,eval e1 X.env)]:=by rfl) (hs3:starEach [e2] X.env=[(false,eval e2 X.env)]:=by rfl)
  (hs2:starEach [Expr.BinOp (.Call (.Name "set" p2) [e1] [] pos2) .BitOr (.Call (.Name "set" p3) [e2] [] pos3) pos4] X.env=[(false,eval (.BinOp (.Call (.Name "set" p2) [e1] [] pos2) .BitOr (.Call (.Name "set" p3) [e2] [] pos3) pos4) X.env)]:=by rfl) :
  ME X E (.Call (.Name "sorted" p) [.BinOp (.Call (.Name "set" p2) [e1] [] pos2) .BitOr (.Call (.Name "set" p3) [e2] [] pos3) pos4] [] pos) (sSU f g):=by
 refine PE.weak (a3p (xm hc) hg hm rfl (a00 (apb ar8 (a1s (a2y hc) hg2 hm2 rfl (a00 he1 a3d (by rw [hs];rfl)) (by decide) (by decide) (by rw [hs];rfl)) (a1s (a2y hc) hg2 hm2 rfl (a00 he2 a3d (by rw [hs3];rfl)) (by decide) (by decide) (by rw [hs3];rfl))) a3d (by rw [hs2];rfl)) (by decide) (by decide) (by rw [hs2];rfl)) λσ H Q ⟨ι,τ,h,S,Rh,o⟩=>?_
 refine ⟨ι,τ,h,S,Rh,gm o λd h1 ι1 H1 v g1 r1 hr1 o1=>?_⟩
 cases i1:a5d d h1 with
 | none=>rw [i1] at o1;exact o1.elim
 | some ns =>
  rw [i1] at o1;simp only at o1
  by_cases hl:ns.length<=2000
  ·rw [if_pos hl] at o1;obtain ⟨q,rfl,sq⟩:=a7b r1 hr1 i1;refine ⟨q,ns,rfl,sq,by have:scanBound=4096:=rfl;omega,λl hl'=>?_⟩
   have gn:Gr ι1 H1 ι1 (upd H1 l (abk X.w l (ns.foldl stepK []))):=wy hl' _;have nin:l ∉ ι1:=hr1.notin hl';refine ⟨ι1,τ,h1,S.mono (g1.trans gn),hr1.aside hl' _,gm (vz o1 gn) λd2 h2 ι2 H2 u g2 r2 hr2 o2=>?_⟩;have at1:H2 l=some (abk X.w l (ns.foldl stepK [])):=g2.oth l _ nj nin
   cases i2:a5d d2 h2 with
   | none=>rw [i2] at o2;exact o2.elim
   | some ms =>
    rw [i2] at o2;simp only at o2
    by_cases hl2:ms.length<=2000
    ·rw [if_pos hl2] at o2;obtain ⟨q2,rfl,sq2⟩:=a7b r2 hr2 i2;refine ⟨q2,ms,rfl,sq2,by have:scanBound=4096:=rfl;omega,λl2 hl2'=>?_⟩
     have ne:l≠l2:=λz=>by rw [z,hl2'] at at1;cases at1
     have f1:=a5g ns [];have f2:=a5g ms [];rw [List.length_nil,Nat.zero_add] at f1 f2;refine ⟨l,l2,ns.foldl stepK [],ms.foldl stepK [],rfl,rfl,ne,(by rw [j9 ne];exact at1),nj,a7c List.nodup_nil,a7c List.nodup_nil,by have:scanBound=4096:=rfl;omega,λl3 hl3=>?_⟩
     unfold adf at o2
     by_cases h6:((ms.foldl stepK []).foldl stepK (ns.foldl stepK [])).length<64
     ·rw [if_pos h6] at o2;have gn2:=wy (ι:=ι2) hl2' (abk X.w l2 (ms.foldl stepK []));exact ⟨l3,_,rfl,nj,h6,vg (E:=E) (xn _) ((hr2.aside hl2' _).aside hl3 _) (vz o2 (gn2.trans (wy hl3 _)))⟩
     ·rw [if_neg h6] at o2;exact o2.elim
    ·rw [if_neg hl2] at o2;exact o2.elim
  ·rw [if_neg hl] at o1;exact o1.elim
end MI
namespace L2
open PySem PySem.Spec PyProof.Rows
section
variable{prog:Program}{w:World}{A:Around}{E:Value->Shared->Prop}{R:Result->Shared->Prop}
abbrev stO(T:Addr)(c:Nat):Obj:={ cls:=.type "list",dict:=none,data:=.seq #[.ref T] c,slots := #[] }
theorem a1j{I S:Addr}{fp wr:List Addr}{n:Nat}{P:Nat->Value->Prop}{St:Nat->Heap->Prop}(W:Walks prog w A.in1 I fp wr n P St)(hS:S ∉ fp)(its:Nat->List Value)(ad cn:Nat->Nat)(key:∀ i v,i<n->P i v->v = .ref (ad i))(aw:∀ i,i<n->ad i ∉ wr/\ad i≠S)(fS:∀ b∈fp,b<S) :
  ∀ (left i:Nat) (s:Shared) (T:Addr) (tot:List Value) (c m:Nat),i+left=n->St i s.heap->s.heap.get? S=some (stO T c)->T≠S->T ∉ wr->IsL s.heap T tot.toArray m->(∀ j,j<n->IsL s.heap (ad j) (its j).toArray (cn j)) ->
   (tot++((List.range' i left).map its).flatten).length<=sizeLine->
   (∀ (h':Heap) (tk:Nat) (T':Addr) (m':Nat),IsL h' T' (tot++((List.range' i left).map its).flatten).toArray m'->(left=0->T'=T)->(left≠0->S<T')->(∀ b o,b ∉ wr->b≠S->s.heap.get? b=some o->h'.get? b=some o)->R (.ok (.ret (.ref T'))) { s with heap:=h',toks:=tk })->
   codeAny (model prog w) A (.builtin "sum.loop" ⟨[.ref I, .ref S,rawInt 2,rawInt 0],[]⟩) R s
 | 0,i,s,T,tot,c,m,hi,st,eS,hTS,hTw,eT,el,hz,fin=>codeAny_builtin F.entry_sum_loop (by
   obtain rfl:i=n:=by omega
   simp only [Around.under_plainId F.plain_sum_loop];show wpAny _ A.in1 (seqItems? (.ref S)>>=_) _ _ s;refine wpAny_bind (wpAny_seqItems eS rfl ?_);show wpAny _ A.in1 (tryCatch (pyNext (.ref I)) _>>=_) _ _ s;refine wpAny_bind (wpAny_tryCatch (W.done s _ _ st λh' tk k=>?_));exact wpAny_pure (fin h' tk T m (by simpa using k T _ hTw eT) (λ_=>rfl) (λz=>absurd rfl z) λb o hb _ e=>k b o hb e))
 | left+1,i,s,T,tot,c,m,hi,st,eS,hTS,hTw,eT,el,hz,fin=>codeAny_builtin F.entry_sum_loop (by
   have hin:i<n:=by omega
   have hSw:S ∉ wr:=λz=>hS (W.sub _ z);simp only [Around.under_plainId F.plain_sum_loop];show wpAny _ A.in1 (seqItems? (.ref S)>>=_) _ _ s;refine wpAny_bind (wpAny_seqItems eS rfl ?_);show wpAny _ A.in1 (tryCatch (pyNext (.ref I)) _>>=_) _ _ s;refine wpAny_bind (wpAny_tryCatch (W.item i s _ _ hin st λv h1 t1 p st1 k1=>?_));obtain rfl:=key i v hin p;have eS1:=k1 S _ hSw eS;have eT1:IsL h1 T tot.toArray m:=k1 T _ hTw eT;have ei1:IsL h1 (ad i) (its i).toArray (cn i):=k1 _ _ (aw i hin).1 (el i hin);have zl:tot.length+(its i).length<=sizeLine:=by
    rw [List.range'_succ,List.map_cons,List.flatten_cons,List.length_append,List.length_append] at hz;omega
   show wpAny _ A.in1 ((holding [Value.ref (ad i)] (binaryOp .Add (.ref T) (.ref (ad i)))).attempt>>=_) _ _ { s with heap:=h1,toks:=t1 }
   refine wpAny_bind (wpAny_attempt (wpAny_holding (PySem.P.add_list (s:={ s with heap:=h1,toks:=t1 }) eT1 ei1 ?_ (by simpa using zl))))
   have app:tot.toArray++(its i).toArray=(tot++its i).toArray:=by simp
   rw [app];dsimp only
   generalize hG:h1.push { cls:=.type "list",dict:=none,data:=.seq (tot++its i).toArray }=G
   have kG:∀ b o,h1.get? b=some o->G.get? b=some o:=λb o e=>by rw [<-hG];exact Heap.get?_push_of_some _ e
   have lS:=Heap.lt_size eS1;have neS:h1.objs.size≠S:=Nat.ne_of_gt lS;have eN:IsL G h1.objs.size (tot++its i).toArray 0:=by rw [<-hG];exact Heap.get?_push_size _ rfl
   have eS2:=kG S _ eS1;show wpAny _ A.in1 (updateSeq S (λ_ => #[.ref h1.objs.size])>>=_) _ _ _;refine wpAny_bind (wpAny_updateSeq eS2 rfl ?_);have eS3:=Heap.get?_update_self (Obj.mapSeq λ_ => #[Value.ref h1.objs.size]) eS2 rfl;refine wpAny_bind (wpAny_letGo ?_);refine wpAny_bind (wpAny_updateSeq eS3 rfl ?_);have eS4:=Heap.get?_update_self (Obj.mapSeq λ_ => #[Value.ref h1.objs.size]) eS3 rfl;have k2:∀ b o,b≠S->G.get? b=some o->((G.update S (Obj.mapSeq λ_ => #[Value.ref h1.objs.size])).update S (Obj.mapSeq λ_ => #[Value.ref h1.objs.size])).get? b=some o:=λb o hb e=>(Heap.get?_update_other _ _ (Ne.symm hb)).trans ((Heap.get?_update_other _ _ (Ne.symm hb)).trans e)
   have lw:h1.objs.size ∉ wr:=λz=>Nat.lt_irrefl _ (Nat.lt_trans lS (fS _ (W.sub _ z)));refine wpAny_pure ⟨plainId_quiet F.plain_sum_loop _,a1j W hS its ad cn key aw fS left (i+1) _ h1.objs.size (tot++its i) _ _ (by omega) (W.frame _ _ _ st1 λb hb o e=>k2 b o (λz=>hS (z ▸ hb)) (kG b o e)) eS4 neS lw (k2 _ _ neS eN) (λj hj=>k2 _ _ (aw j hj).2 (kG _ _ (k1 _ _ (aw j hj).1 (el j hj)))) ?_ λh' tk T' m' e1 e2 e3 e4=>?_⟩
   ·rw [List.range'_succ,List.map_cons,List.flatten_cons,<-List.append_assoc] at hz;exact hz
   ·refine fin h' tk T' m' (by rw [List.range'_succ,List.map_cons,List.flatten_cons,<-List.append_assoc];exact e1) (λz=>absurd z (by omega)) (λ_=>?_) λb o hb hbS e=>e4 b o hb hbS (k2 b o hbS (kG b o (k1 b o hb e)))
    by_cases z:left=0
    ·rw [e2 z];exact lS
    ·exact e3 z)
theorem agb(a b:Value):argsOk "sum" ⟨[a,b],[]⟩:=by unfold argsOk;kernel_rfl
theorem agc{p q:Addr}{ps qs:List Value}{cp cq:Nat}{s:Shared}(its:Nat->List Value)(ad cn:Nat->Nat){Q:Value->Shared->Prop}(hh:A.handled=none)(ep:IsL s.heap p ps.toArray cp)(eq:IsL s.heap q qs.toArray cq)(key:∀ (i:Nat) v,ps[i]? = some v->v = .ref (ad i)/\IsL s.heap (ad i) (its i).toArray (cn i))
  (hz:(qs++((List.range' 0 ps.length).map its).flatten).length<=sizeLine)
  (fin:∀ (h':Heap) (tk:Nat) (T':Addr) (m':Nat),IsL h' T' (qs++((List.range' 0 ps.length).map its).flatten).toArray m'->(ps.length=0->T'=q)->(ps.length≠0->s.heap.objs.size<=T')->(∀ b o,s.heap.get? b=some o->h'.get? b=some o)->Q (.ref T') { s with heap:=h',toks:=tk }) :
  wpAny (model prog w) A (call (.builtin "sum") [.ref p, .ref q]) Q E s:=by
 refine call_function_tree F.kind_sum F.plain_sum F.entry_sum (agb _ _) ?_;unfold Builtin.«sum»;simp only [List.length_cons,List.length_nil];rw [if_neg (by decide)]
 refine wpAny_bind (wpAny_of_eq (show Builtin.Builtins.bindParams "sum" ["start"] 0 ⟨[.ref q],[]⟩=pure [some (.ref q)] from rfl) ?_)
 have lp:=Heap.lt_size ep;have lq:=Heap.lt_size eq;refine wpAny_bind (wpAny_pyIter_list (⟨_,ep,rfl,cp,rfl⟩:s.heap.IsList p ps.toArray) ?_)
 generalize hG:s.heap.push _=G
 have kG:∀ b o,s.heap.get? b=some o->G.get? b=some o:=λb o e=>by rw [<-hG];exact Heap.get?_push_of_some _ e
 have iG:G.IsListIter s.heap.objs.size p 0:=by rw [<-hG];exact ⟨_,Heap.get?_push_size _ rfl,rfl,rfl⟩
 have sG:G.objs.size=s.heap.objs.size+1:=by rw [<-hG,Heap.size_push]
 have ty:Shared.TypeIs { s with heap:=G } (.ref q) "list":=⟨_,kG _ _ eq,rfl⟩
 refine wpAny_bind (wpAny_pure ?_);simp only [List.forIn_cons,List.forIn_nil];refine wpAny_bind (wpAny_bind (wpAny_bind (wpAny_isInstance (T := "list") (b:=false) ty F.sub_list_str ?_)));simp only [Bool.false_eq_true,if_false];refine wpAny_pure (wpAny_bind (wpAny_bind (wpAny_isInstance (T := "list") (b:=false) ty F.sub_list_bytes ?_)));simp only [Bool.false_eq_true,if_false];refine wpAny_pure (wpAny_bind (wpAny_bind (wpAny_isInstance (T := "list") (b:=false) ty F.sub_list_bytearray ?_)));simp only [Bool.false_eq_true,if_false]
 refine wpAny_pure (wpAny_pure ?_);refine wpAny_bind (wpAny_newObj_type ?_)
 generalize hK:({ s with heap:=G }:Shared).heap.push _=G2
 have kK:∀ b o,G.get? b=some o->G2.get? b=some o:=λb o e=>by rw [<-hK];exact Heap.get?_push_of_some _ e
 have eS:G2.get? G.objs.size=some (stO q 0):=by rw [<-hK];exact Heap.get?_push_size _ rfl
 have W:=Walks.list (prog:=prog) (w:=w) (A:=A.in1) (by simpa using hh) s.heap.objs.size p (Nat.ne_of_lt lp) ps.toArray
 have nw:∀ b o,s.heap.get? b=some o->b ∉ [s.heap.objs.size]/\b≠G.objs.size:=λb o e=>by
  have:=Heap.lt_size e
  refine ⟨λz=>?_,λz=>?_⟩
  ·rw [List.mem_singleton.mp z] at this;exact Nat.lt_irrefl _ this
  ·rw [z,sG] at this;exact absurd this (Nat.not_lt.mpr (Nat.le_succ _))
 have ff:∀ b∈[s.heap.objs.size,p],b<G.objs.size:=λb hb=>by
  rw [sG];simp only [List.mem_cons,List.not_mem_nil,or_false] at hb
  rcases hb with rfl | rfl
  ·exact Nat.lt_succ_self _
  ·exact Nat.lt_succ_of_lt lp
 have ky:∀ i,i<ps.length->ps[i]? = some (.ref (ad i))/\IsL s.heap (ad i) (its i).toArray (cn i):=λi hi=>by
  obtain ⟨a,b⟩:=key i _ (List.getElem?_eq_getElem hi);exact ⟨by rw [List.getElem?_eq_getElem hi,a],b⟩
 have n0:ps.toArray.size=ps.length:=by simp
 refine wpAny_pure ⟨plainId_quiet F.plain_sum_loop _,a1j W (λz=>Nat.lt_irrefl _ (ff _ z)) its ad cn (λi v hi e=>(key i v (by simpa using e)).1) (λi hi=>nw _ _ (ky i (by simpa using hi)).2) ff ps.length 0 _ q qs 0 cq (by simp) ⟨iG.at λo e=>kK _ _ e,(⟨_,kK _ _ (kG _ _ ep),rfl,cp,rfl⟩:G2.IsList p ps.toArray)⟩ eS (nw _ _ eq).2 (nw _ _ eq).1 (kK _ _ (kG _ _ eq)) (λj hj=>kK _ _ (kG _ _ (ky j (by simpa using hj)).2)) hz λh' tk T' m' e1 e2 e3 e4=>?_⟩
 refine fin h' tk T' m' e1 e2 (λz=>?_) λb o e=>e4 b o (nw b o e).1 (nw b o e).2 (kK _ _ (kG _ _ e));have:=e3 z;rw [sG] at this;exact Nat.le_of_lt (Nat.lt_of_succ_lt this)
end
section
variable{X:Cx}
def Lss(H:Hp):List V->List (List V)->Prop
 | [],[]=>True
 | v::vs,zs::zss=>(∃ a,v = .ref a/\Rd H a (.lst zs))/\Lss H vs zss
 | _,_=>False
theorem a93{pins:List (Addr × Obj)}{σ:St}{H:Hp}{s:Shared}(I:Inv X pins σ H s):∀ {vs:List V} {zss:List (List V)} {us:List Value},Lss H vs zss->Vals vs us->
  ∃ (its:List (List Value)) (ad cn:List Nat),its.length=us.length/\ad.length=us.length/\cn.length=us.length/\Vals zss.flatten its.flatten/\∀ (i:Nat) v,us[i]? = some v->v = .ref (ad.getD i 0)/\IsL s.heap (ad.getD i 0) (its.getD i []).toArray (cn.getD i 0)
 | [],[],_,_, .nil=>⟨[],[],[],rfl,rfl,rfl, .nil,λi v e=>by simp at e⟩
 | v::vs,zs::zss,_,⟨⟨a,e,h⟩,hs⟩, .cons r rs=>by
  subst e;cases r
  obtain ⟨_,as,n,va,la,ea⟩:=I.lstR h;obtain ⟨its,ad,cn,l1,l2,l3,vf,k⟩:=a93 I hs rs;refine ⟨as::its,a::ad,n::cn,by simp [l1],by simp [l2],by simp [l3],by rw [List.flatten_cons,List.flatten_cons];exact va.append vf,λi v e=>?_⟩
  cases i with
  | zero=>simp at e;subst e;exact ⟨rfl,ea⟩
  | succ i=>simpa using k i v (by simpa using e)
theorem a94(hc:X.calm=true):CallR X (.builtin "sum") (λxs H Q=>∃ (p q:Addr) (vs ys:List V) (zss:List (List V)),xs=[.ref p, .ref q]/\Rd H p (.lst vs)/\Rd H q (.lst ys)/\Lss H vs zss/\(ys++zss.flatten).length<=sizeLine/\(vs=[]->Q (.ref q) H)/\(vs≠[]->∀ l,H l=none->Q (.ref l) (upd H l (.lst (ys++zss.flatten))))):=by
 intro pins s σ H xs us Q I r h
 obtain ⟨p,q,vs,ys,zss,rfl,hp,hq,hl,hz,q1,q2⟩:=h
 cases r with
 | cons r1 r =>
  cases r with
  | cons r2 r =>
   cases r;cases r1;cases r2
   obtain ⟨_,ps,cp,vp,lp,ep⟩:=I.lstR hp;obtain ⟨_,qs,cq,vq,lq,eq⟩:=I.lstR hq;obtain ⟨its,ad,cn,l1,l2,l3,vf,k⟩:=a93 I hl vp;have e0:(List.range' 0 ps.length).map (λi=>its.getD i [])=its:=by
    refine List.ext_getElem? λi=>?_
    by_cases hi:i<ps.length
    ·rw [List.getElem?_map,List.getElem?_range' hi,List.getElem?_eq_getElem (by omega)]
     simp [List.getD_eq_getElem?_getD,show i<its.length by omega]
    ·rw [List.getElem?_eq_none (by simp;omega),List.getElem?_eq_none (by omega)]
   refine agc (λi=>its.getD i []) (λi=>ad.getD i 0) (λi=>cn.getD i 0) (I.ok.hd hc) ep eq k ?_ λh' tk T' m' e1 e2 e3 e4=>?_
   ·rw [e0,List.length_append,<-vq.length,<-vf.length,<-List.length_append];exact hz
   ·rw [e0] at e1
    by_cases z:vs=[]
    ·have:ps.length=0:=by rw [<-lp,z];rfl
     rw [e2 this];exact ⟨.ref q,H,I.kept (t':=tk) e4,rfl,q1 z⟩
    ·have:ps.length≠0:=by rw [<-lp];exact λw=>z (List.length_eq_zero_iff.mp w)
     exact ⟨.ref T',_,I.laid (t':=tk) e4 (e3 this) (show ObjOk X.prog X.w _ _ _ (.lst (ys++zss.flatten)) from ⟨hz,_,m',vq.append vf,e1⟩),rfl,q2 z _ (I.hok.fresh (e3 this))⟩
end
end L2
namespace MI
open PySem PySem.Spec L2
noncomputable def adh:List D->Hd->R D
 | [x,y],h=>(match qw x h,qw y h with
  | some xs,some ys=>(match za (λd=>qw d h) xs with
   | some zss=>if (ys++zss.flatten).length<=LINE then (if xs=[] then .ok y h else .ok (.ref h.length) (h++[.lst (ys++zss.flatten)])) else .no
   | none=>.no)
  | _,_=>.no)
 | _,_=>.no
theorem al3{K:PySem.W.Frag}{ι:List Addr}{H:Hp}{h:Hd}(hr:HRep K ι H h):∀ {vs:List V} {xs:List D} {zss:List (List D)},Reps K ι H vs xs->za (λd=>qw d h) xs=some zss->∃ wss:List (List V),Lss H vs wss/\Reps K ι H wss.flatten zss.flatten
 | _,_,_, .nil,e=>by cases e;exact ⟨[],trivial, .nil⟩
 | _,_,_, .cons (d:=d) (ds:=ds) r rs,e=>by
  unfold za at e
  cases e1:qw d h with
  | none=>rw [e1] at e;cases e
  | some ys =>
   cases e2:za (λd=>qw d h) ds with
   | none=>rw [e1,e2] at e;cases e
   | some yss =>
    rw [e1,e2] at e;cases e
    obtain ⟨a,ws,rfl,hw,rw'⟩:=yh r hr e1;obtain ⟨wss,hs,rr⟩:=al3 hr rs e2;exact ⟨ws::wss,⟨⟨a,rfl,hw⟩,hs⟩,by rw [List.flatten_cons,List.flatten_cons];exact rw'.app rr⟩
theorem abp{K:PySem.W.Frag}:aem K adh (λxs H Q=>∃ (p q:Addr) (vs ys:List V) (zss:List (List V)),xs=[.ref p, .ref q]/\Rd H p (.lst vs)/\Rd H q (.lst ys)/\Lss H vs zss/\(ys++zss.flatten).length<=sizeLine/\(vs=[]->Q (.ref q) H)/\(vs≠[]->∀ l,H l=none->Q (.ref l) (upd H l (.lst (ys++zss.flatten))))):=by
 intro E ι H h xs ds Q r hr o
 unfold adh at o
 split at o
 ·rename_i x y
  cases r with
  | cons r1 r =>
   cases r with
   | cons r2 r =>
    cases r
    cases e1:qw x h with
    | none=>simp only [e1] at o;exact o.elim
    | some xs =>
     cases e2:qw y h with
     | none=>simp only [e1,e2] at o;exact o.elim
     | some ys =>
      cases e3:za (λd=>qw d h) xs with
      | none=>simp only [e1,e2,e3] at o;exact o.elim
      | some zss =>
       simp only [e1,e2,e3] at o
       by_cases hl:(ys++zss.flatten).length<=LINE
       ·rw [if_pos hl] at o;obtain ⟨p,vs,rfl,hp,rp⟩:=yh r1 hr e1;obtain ⟨q,us,rfl,hq,rq⟩:=yh r2 hr e2;obtain ⟨wss,hw,rr⟩:=al3 hr rp e3;refine ⟨p,q,vs,us,wss,rfl,hp,hq,hw,?_,λz=>?_,λz=>?_⟩
        ·have a:=rq.len;have b:=rr.len;rw [List.length_append] at hl ⊢;rw [a,b];exact ll hl
        ·subst z;cases rp
         rw [if_pos rfl] at o;exact o ι H _ (.refl _ _) r2 hr
        ·rw [if_neg (λw=>z (by subst w;cases rp;rfl))] at o
         exact vg (rq.app rr) hr o
       ·rw [if_neg hl] at o;exact o.elim
 ·exact o.elim
end MI
namespace L2
open PySem PySem.Spec PyProof.Rows
theorem a5h:isSubtype (.type "range_iterator") (.type "reversed")=pure false:=by rw [isSubtype_type];kernel_rfl
section
variable{prog:Program}{w:World}{A:Around}{E:Value->Shared->Prop}{s:Shared}
abbrev aom(n:Int):Obj:={ cls:=.type "range_iterator",data:=.fields #[rawInt (n - 1),rawInt n,rawInt (-1)] }
theorem ang{j:Int}(h:0<=j):Builtin.Range.rangeSize 0 j 1=j:=by
 rw [rangeSize_one];split<;>omega
theorem agd{r:Addr}{j:Int}{t u v:Tok}{Q:Value->Shared->Prop}(hr:IsRange s.heap r 0 j 1 t u v)(j0:0<=j)(j1:j<2 ^ 62)(h:Q (.ref s.heap.objs.size) { s with heap:=s.heap.push (aom j) }) :
  wpAny (model prog w) A (call (.builtin "range.__reversed__") [.ref r]) Q E s:=by
 refine wpAny_call_entry F.slot_range_reversed ⟨_,hr,rfl⟩ F.entry_range_reversed ?_ (F.args_range_reversed_1 _);have sz:=ang j0;have sm:(Builtin.Range.rangeFitsLong 0 && Builtin.Range.rangeFitsLong j && Builtin.Range.rangeFitsLong 1 && Builtin.Range.rangeFitsLong (-1) && Builtin.Range.rangeFitsLong (0 - 1) && Builtin.Range.rangeFitsLong j)=true:=by
  have:Builtin.Range.rangeFitsLong j=true:=by unfold Builtin.Range.rangeFitsLong;simp;omega
  simp only [this,Bool.and_true]
  decide
 unfold Builtin.«range.__reversed__»;unfold IsRange at hr
 wp_walk
 simp only [sz];simp only [sm,Bool.not_true,Bool.false_eq_true,if_false,if_true];have e:(0:Int)+(j - 1)*1=j - 1:=by omega
 rw [e];refine wpAny_bind ?_;unfold newFields;exact wpAny_newObj_type (wpAny_pure ⟨_,rfl,h⟩)
theorem anh{r:Addr}{j:Int}{t u v:Tok}{Q₁:Value->Shared->Prop}(hr:IsRange s.heap r 0 j 1 t u v)(j0:0<=j)(j1:j<2 ^ 62)(h:Q₁ (.ref s.heap.objs.size) { s with heap:=s.heap.push (aom j) }) :
  codeAny (model prog w) A (.call (.builtin "reversed.__new__") ⟨[.type "reversed", .ref r],[]⟩) (wants Q₁ E) s:=by
 have ty:s.TypeIs (.ref r) "range":=⟨_,hr,rfl⟩
 apply codeAny_of_tree
 apply wpAny_bind
 refine wpAny_of_eq (F.newCall_reversed_1 _) ?_;refine wpAny_pure ⟨plainId_quiet F.plain_reversed_new _,codeAny_builtin F.entry_reversed_new ?_⟩;simp only [Around.under_plainId F.plain_reversed_new];unfold Builtin.«reversed.__new__»
 apply wpAny_bind
 refine wpAny_of_eq (newClass_reversed _) ?_
 try dsimp only
 apply wpAny_bind
 refine wpAny_of_eq (a:=()) (by first | rfl | kernel_rfl) ?_
 apply wpAny_bind
 refine wpAny_of_eq (a:=()) (by first | rfl | kernel_rfl) ?_
 try dsimp only
 apply wpAny_bind
 refine wpAny_specialOf ty F.slot_range_reversed.lookup ?_
 try dsimp only
 apply wpAny_bind
 refine wpAny_of_eq (F.slot_range_reversed.bind _) ?_
 try dsimp only
 have nn:¬ ((Value.builtin "range.__reversed__" == Value.none)=true):=Bool.false_ne_true
 first
  | rw [if_neg nn]
  | (show wpAny _ _ (if (Value.builtin "range.__reversed__" == Value.none)=true then _ else _) _ _ _;rw [if_neg nn])
 apply wpAny_bind
 apply wpAny_rule
 refine wpAny_bind (m:=runValue (.call (.builtin "range.__reversed__") ⟨[.ref r],[]⟩)) (show wpAny _ _ (call (.builtin "range.__reversed__") [.ref r]) _ _ _ from agd hr j0 j1 ?_)
 first
  | exact wpAny_pure h
  | exact wpAny_bind (wpAny_pure (wpAny_pure h))
theorem ajn{r:Addr}{j:Int}{t u v:Tok}{Q:Value->Shared->Prop}(hr:IsRange s.heap r 0 j 1 t u v)(j0:0<=j)(j1:j<2 ^ 62)(h:Q (.ref s.heap.objs.size) { s with heap:=s.heap.push (aom j) }):wpAny (model prog w) A (call (.type "reversed") [.ref r]) Q E s:=by
 refine callType_other (U := "range_iterator") (Q₁:=λobj s1=>obj = .ref s.heap.objs.size/\s1={ s with heap:=s.heap.push (aom j) }) (by decide +kernel) F.create_reversed ⟨_,_,F.mro_reversed⟩ F.made_reversed a5h (F.typeCall_reversed_1 _) (anh hr j0 j1 ⟨rfl,rfl⟩) ?_
 rintro obj s1 ⟨rfl,rfl⟩
 exact ⟨⟨_,Heap.get?_push_size _ rfl,rfl⟩,h⟩
end
section
variable{X:Cx}{tg:Expr}
def ax7(ta:TA):TI:=λσ H R=>ta σ H λvs H1=>∃ j:Int,vs=[.int j]/\0<=j/\j<2 ^ 62/\R (Itd (j - 1) j.toNat) H1
theorem aa9:bootBuiltins "reversed" = some (.type "reversed"):=by first | exact PySem.boot_reversed | exact PyProof.Rows.boot_reversed | kernel_rfl
theorem ar9{a:Expr}{ta:TA}{p p2 pos pos2:Pos}(hg:Gl X "reversed")(hm:X.mg "reversed" = none)(hg2:Gl X "range")(hm2:X.mg "range" = none)(ha:PA X [a] ta)(hs:starEach [a] X.env=[(false,eval a X.env)]:=by rfl)
  (hs2:starEach [Expr.Call (.Name "range" p2) [a] [] pos2] X.env=[(false,eval (.Call (.Name "range" p2) [a] [] pos2) X.env)]:=by rfl):PI X tg (.Call (.Name "reversed" p) [.Call (.Name "range" p2) [a] [] pos2] [] pos) (ax7 ta):=by
 intro pins s σ H R I h
 have inner:wpAny (model X.prog X.w) X.A (eval (.Call (.Name "range" p2) [a] [] pos2) X.env) (λv s1=>∃ (j:Int) (r:Addr) (t u w:Tok) (H1:Hp),v = .ref r/\IsRange s1.heap r 0 j 1 t u w/\Inv X pins σ H1 s1/\0<=j/\j<2 ^ 62/\R (Itd (j - 1) j.toNat) H1) X.xe s:=by
  refine Call_ (a4a I hg2 hm2 boot_range (PyProof.Rows.callWith_type1 (thn (ha pos2 pins s σ H _ I h) λus s1 ⟨vs,H1,I1,r1,q1⟩=>?_) hs rfl));obtain ⟨j,e,j0,j1,q⟩:=q1;subst e
  cases r1 with
  | cons r rr =>
   cases rr
   obtain ⟨t,rfl⟩:=r;exact call_range_1 ⟨j,_,_,_,_,H1,rfl,IsRange.new ..,I1.kept λb o e=>Heap.get?_push_of_some _ e,j0,j1,q⟩
 refine Call_ (a4a I hg hm aa9 (PyProof.Rows.callWith_type1 ?_ hs2 rfl));rw [hs2];show wpAny _ _ (spliced ((false,eval (.Call (.Name "range" p2) [a] [] pos2) X.env)::backTo pos (starEach [] X.env))) _ _ s;refine Calls.spliced_cons (thn inner λv s1 ⟨j,r,t,u,w,H1,ev,hr,I1,j0,j1,q⟩=>Calls.spliced_nil ?_);subst ev;refine ajn hr j0 j1 ?_;have I2:Inv X pins σ H1 { s1 with heap:=s1.heap.push (aom j) }:=I1.kept (t':=s1.toks) λb o e=>Heap.get?_push_of_some _ e
 have st:IsRangeIter (s1.heap.push (aom j)) s1.heap.objs.size (j - 1) j (-1):=Heap.get?_push_size _ rfl;refine wpAny_pyIter_rangeiter st ?_;refine ⟨s1.heap.objs.size,[s1.heap.objs.size],_,_,H1,rfl,I2,afk _ (j - 1) j.toNat,?_,λb hb=>?_,q⟩
 ·show IsRangeIter _ _ (j - 1 - ((0:Nat):Int)) ((j.toNat:Int) - ((0:Nat):Int)) (-1);rw [show j - 1 - ((0:Nat):Int)=j - 1 by omega,show (j.toNat:Int) - ((0:Nat):Int)=j by omega]
  exact st
 ·have e:b=s1.heap.objs.size:=by simpa using hb
  subst e;exact I1.fpOk (Nat.le_refl _) (I1.hok.fresh (Nat.le_refl _))
end
end L2
namespace MI
open PySem PySem.Spec L2
def Bz(j:Int):Prop:=0<=j/\j<2 ^ 62
instance (j:Int):Decidable (Bz j):=by unfold Bz;exact inferInstance
def ani(ds:List D)(h:Hd):R Itm:=match ds with
 | [.int j]=>if Bz j then .ok ⟨aiv (j - 1) j.toNat,λ_=>True⟩ h else .no
 | _=>.no
theorem ara{X:Cx}{E:XD}{tg a:Expr}{k:SA}{p p2 pos pos2:Pos}(hg:Gl X "reversed")(hm:X.mg "reversed" = none)(hg2:Gl X "range")(hm2:X.mg "range" = none)(ha:MA X E [a] k)(hs:starEach [a] X.env=[(false,eval a X.env)]:=by rfl)
  (hs2:starEach [Expr.Call (.Name "range" p2) [a] [] pos2] X.env=[(false,eval (.Call (.Name "range" p2) [a] [] pos2) X.env)]:=by rfl):MI X E tg (.Call (.Name "reversed" p) [.Call (.Name "range" p2) [a] [] pos2] [] pos) (sRg ani k):=by
 intro pins s σ H Rr I ⟨ι,τ,h,S,Rh,o⟩
 refine ar9 hg hm hg2 hm2 ha hs hs2 pins s σ H Rr I ⟨ι,τ,h,S,Rh,gm o λds h1 ι1 H1 vs g1 r1 hr1 o1=>?_⟩;unfold ani at o1
 split at o1
 ·rename_i j
  cases r1 with
  | cons r rs =>
   cases r;cases rs
   by_cases hb:Bz j
   ·rw [if_pos hb] at o1;exact ⟨j,rfl,hb.1,hb.2,o1 ι1 H1 _ (.refl _ _) (aqx (j - 1) j.toNat) hr1⟩
   ·rw [if_neg hb] at o1;exact o1.elim
 ·exact o1.elim
theorem age{n:Nat}(h:n<=LINE):Bz (n:Int):=by
 have:n<=16777216:=h
 unfold Bz;omega
theorem ajo(n:Nat):aiv ((n:Int) - 1) n=(List.range n).map λi:Nat=>D.int ((n - 1 - i:Nat)):=by
 unfold aiv;refine List.map_congr_left λi hi=>?_;have:=List.mem_range.mp hi;exact congrArg D.int (by omega)
theorem ajp{n:Nat}(h:Hd)(z:n<=LINE):ani [.int (n:Nat)] h = .ok ⟨(List.range n).map λi:Nat=>D.int ((n - 1 - i:Nat)),λ_=>True⟩ h:=by
 have e:ani [.int (n:Nat)] h=if Bz (n:Int) then R.ok (⟨aiv ((n:Int) - 1) (n:Int).toNat,λ_=>True⟩:Itm) h else .no:=rfl
 have b:=age z
 clear z
 rw [e,if_pos b,Int.toNat_natCast,ajo]
theorem arb{α β:Type}(a:α)(h:Hd)(k:α->Hd->R β):(R.ok a h).bind k=k a h:=rfl
theorem arc{f:SE}{τ:Sd}{h:Hd}{n:Nat}(e:f τ h = .ok (.int (n:Nat)) h)(z:n<=LINE):sRg ani (aj f dh) τ h = .ok ⟨(List.range n).map λi:Nat=>D.int ((n - 1 - i:Nat)),λ_=>True⟩ h:=by
 have a:aj f dh τ h = .ok [.int (n:Nat)] h:=by unfold aj dh;rw [e];rfl
 have q:=ajp h z;unfold sRg;rw [a];rw [arb,q]
end MI
namespace ENG
open PySem PySem.Spec L2 MI
noncomputable def a7d:SS :=
 (ju (sIf (sT (s2 hEq (s2 gIx (sV 0) (sC (.int 0))) (sC (.str "one"))))
 (ug (sA yc dh))
 sNx)
 (ju (sIf (sOr (sT (s2 hEq (s2 gIx (sV 0) (sC (.int 0))) (sC (.str "row")))) (sT (s2 hEq (s2 gIx (sV 0) (sC (.int 0))) (sC (.str "either")))))
 (ug (s2 gIx (sV 0) (sC (.int 1))))
 sNx)
 (ug (sA yc (aj (s2 gIx (sV 0) (sC (.int 1))) dh)))))
noncomputable def vh(gw:SF)(jg:SF)(p7:SF):SE :=
 (sA (kh false 2 gw) (aj (sV 0) (aj (sV 1) dh)))
noncomputable def a0f(gw:SF)(jg:SF)(p7:SF):SE :=
 (sV 0)
noncomputable def vm(gw:SF)(jg:SF)(p7:SF):SE :=
 (sA yg (aj (sA (kh false 4 jg) (aj (sV 1) (aj (sV 3) (aj (sV 2) (aj (sV 0) dh))))) dh))
noncomputable def wj(gw:SF)(jg:SF)(p7:SF):SS :=
 (ju (mq 2 (sZ (m8 (sIt (sA (kh false 1 p7) (aj (sV 0) dh))) t1 (vh gw jg p7) [1])))
 (ju (mq 3 (sZ (m8 (sIt (sV 2)) (tN 2) (a0f gw jg p7) [])))
 (ju (mq 4 (sZ (m8 (sRg rm (aj (s2 j5 (sA qg (aj (sV 1) dh)) (sC (.int 1))) dh)) t1 (vm gw jg p7) [0,1,3])))
 (ug (sA yc (aj (sA yg (aj (sV 4) dh)) (aj (sV 2) dh)))))))
noncomputable def a06(mz:SF)(n6:SF)(m7:SF):SS :=
 (ju (sIf (sT (s2 hEq (s2 gIx (sV 0) (sC (.int 0))) (sC (.str "one"))))
 (ug (ahj (a5o (sT (s2 gLt (sV 3) (sA qg (aj (sV 2) dh)))) (sT (s2 (gIn false) (s2 gIx (sV 2) (sV 3)) (s2 gIx (sV 0) (sC (.int 1)))))) (sA ue (aj (s2 j5 (sV 3) (sC (.int 1))) dh)) (sA ue dh)))
 sNx)
 (ju (sIf (sT (s2 hEq (s2 gIx (sV 0) (sC (.int 0))) (sC (.str "row"))))
 (ug (sA (kh false 2 mz) (aj (sV 1) (aj (sV 3) dh))))
 sNx)
 (ju (sIf (sT (s2 hEq (s2 gIx (sV 0) (sC (.int 0))) (sC (.str "either"))))
 (ug (ag3 (sIt (sV 1)) (sIt (s2 gIx (sV 0) (sV 2))) (sV 1) [3]))
 sNx)
 (ju (sIf (sT (s2 hEq (s2 gIx (sV 0) (sC (.int 0))) (sC (.str "many"))))
 (ug (sA (kh false 2 n6) (aj (s2 gIx (sV 1) (sC (.int 0))) (aj (sV 3) dh))))
 sNx)
 (ug (sA (kh false 4 m7) (aj (s2 gIx (sV 1) (sC (.int 0))) (aj (sV 3) (aj (s2 gIx (sV 0) (sC (.int 2))) (aj (s2 gIx (sV 0) (sC (.int 3))) dh))))))))))
noncomputable def a95:SS :=
 (ug (ag3 (sIt (sV 1)) (sIt (s2 gIx (sV 2) (sV 0))) (sV 1) [0]))
noncomputable def zm(j7:SF):SS :=
 (mq 2 (sA (kh false 2 j7) (aj (sV 3) (aj (sV 2) dh))))
noncomputable def uw(j7:SF):SS :=
 (ju (mq 2 (sZ (sA ue (aj (sV 1) dh))))
 (ju (a9r (sIt (sV 0)) (kN 3) (zm j7))
 (ug (sV 2))))
noncomputable def zp(j7:SF):ST :=
 (sT (s2 gGt (sA qg (aj (sV 3) dh)) (sA qg (aj (sV 2) dh))))
noncomputable def zr(j7:SF):SS :=
 (ju (mq 2 (sV 3))
 (mq 3 (sZ (sSU (sV 2) (sA (kh false 2 j7) (aj (sV 0) (aj (sV 2) dh)))))))
noncomputable def ux(j7:SF):SS :=
 (ju (mq 2 (sZ (sA ue dh)))
 (ju (mq 3 (sZ (sA ue (aj (sV 1) dh))))
 (ju (sWh (zp j7) (zr j7) 100000)
 (ug (sV 2)))))
noncomputable def uc(j7:SF):SS :=
 (ju (sIf (sT (s2 gGe (sV 6) (sV 2)))
 (a8n (sML ais (sV 4) (aj (sV 5) dh)))
 sNx)
 (mq 5 (sA (kh false 2 j7) (aj (sV 0) (aj (sV 5) dh)))))
noncomputable def ud(j7:SF):SS :=
 (ju (mq 4 (sA ue dh))
 (ju (mq 5 (sZ (sA ue (aj (sV 1) dh))))
 (ju (a9r (sRg rm (aj (s2 j5 (sV 3) (sC (.int 1))) dh)) (kN 6) (uc j7))
 (ug (s1 a5e (sV 4))))))
noncomputable def a07:SS :=
 (ju (sIf (sT (s2 hEq (s2 gIx (sV 0) (sC (.int 0))) (sC (.str "one"))))
 (ug sNo)
 sNx)
 (ju (sIf (sOr (sT (s2 hEq (s2 gIx (sV 0) (sC (.int 0))) (sC (.str "row")))) (sT (s2 hEq (s2 gIx (sV 0) (sC (.int 0))) (sC (.str "either")))))
 (ug (s2 gIx (sV 0) (sC (.int 1))))
 sNx)
 (ug (sA yc (aj (s2 gIx (sV 0) (sC (.int 1))) dh)))))
noncomputable def a08(aq:SF):SE :=
 (s2 gIx (sV 2) (sA (kh false 2 aq) (aj (sV 1) (aj (sA qg (aj (sV 2) dh)) dh))))
noncomputable def a1a(aq:SF):SS :=
 (ju (mq 3 (sA (kh false 2 aq) (aj (sV 0) (aj (s2 j5 (sV 2) (sC (.int 1))) dh))))
 (ug (sMS acx (sC (.str "")) (aj (sZ (m8 (sRg rm (aj (sV 3) dh)) t1 (a08 aq) [0,1])) dh))))
noncomputable def a3k:SS :=
 (mq 2 (sZ (s2 j5 (sV 2) (s2 gIx (sV 1) (sV 3)))))
noncomputable def a2d:SS :=
 (ju (mq 2 (sZ (sA ue dh)))
 (ju (a9r (sIt (sV 0)) (kN 3) a3k)
 (ug (s1 a5e (sV 2)))))
noncomputable def yr:SE :=
 (sZ (sA ue (aj (sV 0) dh)))
noncomputable def yt:SS :=
 (sIf (sT (s2 gGt (sV 3) (sV 2)))
 (aay (sZ (s2 j5 (s2 gIx (sV 1) (sV 2)) (s2 gIx (sV 1) (sV 3)))) (sV 1) (sV 2))
 sNx)
noncomputable def uy:SS :=
 (ju (a9r (sIt (s2 gIx (sV 0) (sV 2))) (kN 3) yt)
 (aay (sZ (s1 a5e (s2 gIx (sV 1) (sV 2)))) (sV 1) (sV 2)))
noncomputable def a09:SS :=
 (ju (mq 1 (m8 (sRg rm (aj (sA qg (aj (sV 0) dh)) dh)) t1 yr []))
 (ju (a9r (sRg ani (aj (sA qg (aj (sV 0) dh)) dh)) (kN 2) uy)
 (ug (sV 1))))
noncomputable def a5s(ie:SF):SE :=
 (sZ (sA ue (aj (sV 0) dh)))
noncomputable def a1k(ie:SF):SE :=
 (sZ (sA ue dh))
noncomputable def uz(ie:SF):SE :=
 (sZ (s1 a5e (sZ (s2 j5 (sV 0) (sV 1)))))
noncomputable def a1l(ie:SF):SE :=
 (sA (kh false 2 ie) (aj (sV 0) (aj (sV 1) dh)))
noncomputable def yu(ie:SF):SS :=
 (ju (sIf (sT (s2 gGe (sV 5) (sV 1)))
 (mq 4 (sZ (m8 (a9v (sV 4) (sV 3)) (tN 2) (uz ie) [])))
 sNx)
 (mq 3 (sZ (m8 (sIt (sV 3)) t1 (a1l ie) [0]))))
noncomputable def a0a(ie:SF):SS :=
 (ju (mq 3 (sZ (m8 (sRg rm (aj (sA qg (aj (sV 0) dh)) dh)) t1 (a5s ie) [])))
 (ju (mq 4 (sZ (m8 (sRg rm (aj (sA qg (aj (sV 0) dh)) dh)) t1 (a1k ie) [])))
 (ju (a9r (sRg rm (aj (s2 j5 (sV 2) (sC (.int 1))) dh)) (kN 5) (yu ie))
 (ug (sV 4)))))
noncomputable def a96(ie:SF):SE :=
 (sZ (sA ue (aj (sV 0) dh)))
noncomputable def a97(ie:SF):SE :=
 (sA (kh false 2 ie) (aj (sV 0) (aj (sV 1) dh)))
noncomputable def a3l(ie:SF):SS :=
 (mq 2 (sZ (m8 (sIt (sV 2)) t1 (a97 ie) [3])))
noncomputable def a2e(ie:SF):SS :=
 (ju (mq 2 (sZ (m8 (sRg rm (aj (s2 j5 (sV 1) (sC (.int 1))) dh)) t1 (a96 ie) [])))
 (ju (a9r (sIt (sV 0)) (kN 3) (a3l ie))
 (ug (sV 2))))
noncomputable def a0p(ik:SF)(cu:SF)(iy:SF)(ji:SF)(iw:SF):SE :=
 (sZ (ye (sZ (sA ue (aj (s2 j5 (sV 0) (sC (.int 1))) dh))) oN (oS (sA acw (aj (a2p (s2 hNe (ye (sV 2) (oS (sV 0)) (oS (s2 j5 (sV 0) (sC (.int 1))))) (sC (.str ""))) (s2 (gIn false) (ye (sV 2) (oS (sV 0)) (oS (s2 j5 (sV 0) (sC (.int 1))))) (s2 gIx (sV 1) (sC (.int 1))))) dh)))))
noncomputable def a0q(ik:SF)(cu:SF)(iy:SF)(ji:SF)(iw:SF):SE :=
 (sA (kh false 2 cu) (aj (sV 0) (aj (sV 1) dh)))
noncomputable def a0r(ik:SF)(cu:SF)(iy:SF)(ji:SF)(iw:SF):SE :=
 (s2 gIx (sV 0) (sC (.int 0)))
noncomputable def a0s(ik:SF)(cu:SF)(iy:SF)(ji:SF)(iw:SF):SE :=
 (s2 gIx (sV 0) (sV 1))
noncomputable def yj(ik:SF)(cu:SF)(iy:SF)(ji:SF)(iw:SF):SE :=
 (sZ (s1 a5e (sZ (sA adh (aj (sZ (m8 (sIt (sV 1)) t1 (a0s ik cu iy ji iw) [0])) (aj (sZ (sA ue dh)) dh))))))
noncomputable def a0t(ik:SF)(cu:SF)(iy:SF)(ji:SF)(iw:SF):SS :=
 (ju (mq 2 (sA qg (aj (sV 1) dh)))
 (ju (sIf (sT (s2 hEq (s2 gIx (sV 0) (sC (.int 0))) (sC (.str "one"))))
 (ug (sA ue (aj (sZ (m8 (sRg rm (aj (s2 j5 (sV 2) (sC (.int 1))) dh)) t1 (a0p ik cu iy ji iw) [0,1])) dh)))
 sNx)
 (ju (mq 3 (sZ (m8 (sIt (sA (kh false 1 iy) (aj (sV 0) dh))) t1 (a0q ik cu iy ji iw) [1])))
 (ju (mq 4 (sZ (m8 (sIt (sV 3)) t1 (a0r ik cu iy ji iw) [])))
 (ju (sIf (sT (s2 hEq (s2 gIx (sV 0) (sC (.int 0))) (sC (.str "many"))))
 (mq 5 (sA (kh false 1 ik) (aj (s2 gIx (sV 4) (sC (.int 0))) dh)))
 (sIf (sT (s2 hEq (s2 gIx (sV 0) (sC (.int 0))) (sC (.str "times"))))
 (mq 5 (sA (kh false 3 iw) (aj (s2 gIx (sV 4) (sC (.int 0))) (aj (s2 gIx (sV 0) (sC (.int 2))) (aj (s2 gIx (sV 0) (sC (.int 3))) dh)))))
 (sIf (sT (s2 hEq (s2 gIx (sV 0) (sC (.int 0))) (sC (.str "row"))))
 (mq 5 (sA (kh false 2 ji) (aj (sV 4) (aj (sV 2) dh))))
 (mq 5 (sZ (m8 (sRg rm (aj (s2 j5 (sV 2) (sC (.int 1))) dh)) t1 (yj ik cu iy ji iw) [4]))))))
 (ug (s2 j5 (sZ (sA ue (aj (sV 5) dh))) (sZ (sA adh (aj (sV 3) (aj (sZ (sA ue dh)) dh)))))))))))
end ENG
namespace L2
open PySem PySem.Spec PyProof.Rows
def cxD(X:Cx)(N:List Str)(scope:Scope)(cl:List (Str × Addr))(t:Str)(C:Addr)(fp:List Addr)(s:Shared)(H:Hp):Cx where
 prog:=X.prog
 w:=X.w
 K:=X.K
 mg:=X.mg
 base:=X.base
 A:=X.A
 N:=N
 s₀:=s
 H₀:=H
 env:=compEnvC scope ((t,C+1)::cl) C X.env
 outer:=X.stack
 stack:=X.stack
 ex:=fp
 fn:=λx=>x == t
 calm:=X.calm
 pn:=[]
 xe:=λ_ _=>False
structure CSd (X:Cx) (scope:Scope) (cl:List (Str × Addr)) (t:Str) (ts fr:List Str) (ix:List Nat):Prop where
 clos:closureFor scope X.env=pure cl
 kind:scope.kind = .function
 own:∀ a,cellsFrom a scope.names cl=(t,a)::cl
 push:∀ h,pushCells h scope.names=h.push { cls:=.type "cell",data:=.cell none }
 names:∀ y∈scope.names,y.2 = .local->scope.names.lookup y.1=some .local
 sub:∀ y c,cl.lookup y=some c->X.env.cells.lookup y=some c
 has:∀ y,((relabel scope X.env).names.lookup y=some .cell\/(relabel scope X.env).names.lookup y=some .free)->y=t\/∃ c,cl.lookup y=some c
 len:ix.length=fr.length
 vis:∀ (j:Nat) (y:Str),fr[j]? = some y->y≠t/\∃ i:Nat,ix[j]? = some i/\X.N[i]? = some y/\(X.env.kindOf y=some .cell\/X.env.kindOf y=some .free)/\((relabel scope X.env).names.lookup y=some .cell\/(relabel scope X.env).names.lookup y=some .free)
theorem look{t:Str}{a:Addr}{cl:List (Str × Addr)}{y:Str}{c:Addr}(e:((t,a)::cl).lookup y=some c):(y=t/\c=a)\/(y≠t/\cl.lookup y=some c):=by
 rw [List.lookup_cons] at e
 cases hb:y == t with
 | true=>rw [hb] at e;cases e;exact .inl ⟨beq_iff_eq.mp hb,rfl⟩
 | false=>rw [hb] at e;exact .inr ⟨λz=>by rw [z] at hb;simp at hb,e⟩
theorem agf{t:Str}{a:Addr}{cl:List (Str × Addr)}{y:Str}{c:Addr}(ne:y≠t)(e:cl.lookup y=some c):((t,a)::cl).lookup y=some c:=by
 rw [List.lookup_cons];have hb:(y == t)=false:=by rw [beq_eq_false_iff_ne];exact ne
 rw [hb];exact e
theorem al4{t:Str}{a:Addr}{cl:List (Str × Addr)}:((t,a)::cl).lookup t=some a:=by rw [List.lookup_cons];simp
theorem no1{C n:Nat}(h:C+1<n)(h':n<=C):False:=by omega
theorem no2{C n b:Nat}(h:b<n)(h':n<=C):C+1≠b:=by omega
theorem no3{C n:Nat}(h:C+1=n)(h':n<=C):False:=by omega
theorem anj{M:Model}{A:Around}{E:Value->Shared->Prop}{s:Shared}{scope:Scope}{globals:Addr}{cl:List (Str × Addr)}{t:Str}{qual:Str}{func:Option Addr}{code:Value}{outer:Env}{builtins:Addr}{Q:Env->Shared->Prop}
  (own:∀ a,cellsFrom a scope.names cl=(t,a)::cl) (push:∀ h,pushCells h scope.names=h.push { cls:=.type "cell",data:=.cell none }) (hk:scope.kind = .function)
  (hQ:∀ h':Heap,h'.Ns s.heap.objs.size (λ_=>none)->h'.IsCell (s.heap.objs.size+1) none->(∀ b o,s.heap.get? b=some o->h'.get? b=some o)->Q (newEnv scope s.heap.objs.size globals ((t,s.heap.objs.size+1)::cl) qual func code (some outer) builtins) { s with heap:=h' }) :
  wpAny M A (newFunctionEnv scope globals cl [] qual func code (some outer) builtins) Q E s:=by
 simp only [newFunctionEnv,Option.isSome_some,if_true];refine wpAny_bind (wpAny_alloc ?_);refine wpAny_bind (wpAny_layCells _ (λname kind cells=>by cases hkc:kind == NameKind.cell<;>simp [hkc]) _ _ _ _ ?_)
 rw [own,push];simp only [List.forIn_nil];refine wpAny_bind (wpAny_pure (wpAny_pure ?_));have sz:({ s with heap:=s.heap.push { cls:=.type "dict",data:=.dict #[] } }:Shared).heap.objs.size=s.heap.objs.size+1:=Heap.size_push ..
 rw [sz];refine hQ _ ((Heap.Ns.new s.heap (.type "dict")).keeps λb o e=>Heap.get?_push_of_some _ e) ⟨{ cls:=.type "cell",data:=.cell none },?_,rfl⟩ λb o e=>Heap.get?_push_of_some _ (Heap.get?_push_of_some _ e);rw [<-sz];exact Heap.get?_push_size _ rfl
section
variable{X:Cx}
theorem agg{pins:List (Addr × Obj)}{σ:St}{H:Hp}{s:Shared}{scope:Scope}{cl:List (Str × Addr)}{t:Str}{ts fr:List Str}{ix:List Nat}{C:Addr}{fp:List Addr}(S:CSd X scope cl t ts fr ix)(I:Inv X pins σ H s)
  (hf:∀ b∈fp,FpOk X pins H b) (hb:∀ b∈fp,b<s.heap.objs.size) (hC:s.heap.objs.size<=C):(cxD X (ts++fr) scope cl t C fp s H).Ok where
 mod:=I.ok.mod
 kind:=S.kind
 glob:=I.ok.glob
 blt:=I.ok.blt
 above:=hC
 inj:=λx y c h1 h2=>by
  have small:∀ z c,cl.lookup z=some c->c<s.heap.objs.size:=λz c e=>let ⟨_,q⟩:=I.cell z c (S.sub z c e);q.lt
  rcases look h1 with ⟨e1,rfl⟩ | ⟨_,e1⟩<;>rcases look h2 with ⟨e2,e3⟩ | ⟨_,e2⟩
  ·rw [e1,e2]
  ·exact (no1 (small y _ e2) hC).elim
  ·rw [e3] at e1;exact (no1 (small x _ e1) hC).elim
  ·exact I.ok.inj x y c (S.sub x c e1) (S.sub y c e2)
 has:=λy z=>by
  rcases S.has y z with rfl | ⟨c,e⟩
  ·exact ⟨_,al4⟩
  ·by_cases h:y=t
   ·subst h;exact ⟨_,al4⟩
   ·exact ⟨c,agf h e⟩
 cab:=λx c h e=>by
  rcases look e with ⟨_,rfl⟩ | ⟨ne,_⟩
  ·show s.heap.objs.size<=C+1;omega
  ·exact absurd (beq_iff_eq.mp h) ne
 hd:=I.ok.hd
 frames:=I.ok.frames
 stk:=.inl rfl
 exf:=λb hb'=>⟨Nat.ne_of_lt (Nat.lt_of_lt_of_le (hb b hb') hC),λx c e=>by
  rcases look e with ⟨_,rfl⟩ | ⟨_,e⟩
  ·exact no2 (hb b hb') hC
  ·exact (hf b hb').2.2.2.2.1 x c (S.sub x c e)⟩
 bs:=λb o e=>I.bs b o e
 bsz:=Nat.le_trans I.ok.bsz I.sz
 noex:=λb o e hb'=>by
  rcases (hf b hb').2.2.2.1 with z | z
  ·exact I.ok.noex b o e z
  ·exact absurd (Nat.lt_of_lt_of_le (Heap.lt_size e) (Nat.le_trans I.ok.bsz z)) (Nat.lt_irrefl _)
 exfs:=λb hb' z=>by
  rcases List.mem_cons.mp (I.stkSub b z) with e | e
  ·exact (hf b hb').2.1 e
  ·exact (hf b hb').2.2.1 e
 funs:=I.stack
 frf:=λb hb'=>I.stkFree b hb'
theorem ank{pins:List (Addr × Obj)}{σ:St}{H:Hp}{s s4:Shared}{scope:Scope}{cl:List (Str × Addr)}{t:Str}{ts fr:List Str}{ix:List Nat}{C:Addr}{fp:List Addr}{m:Str->Option Value}(S:CSd X scope cl t ts fr ix)(I:Inv X pins σ H s)
  (hf:∀ b∈fp,FpOk X pins H b) (hb:∀ b∈fp,b<s.heap.objs.size) (hC:s.heap.objs.size<=C)
  (k:∀ b o,s.heap.get? b=some o->s4.heap.get? b=some o) (hn:s4.heap.Ns C m) (hcl:s4.heap.IsCell (C+1) none) (ho:s4.os=s.os) (hg:s4.gens=s.gens) :
  Inv (cxD X (ts++fr) scope cl t C fp s H) [] (jz ts.length ix σ) H s4 where
 ok:=agg S I hf hb hC
 os:=ho
 bare:=by rw [hg];exact I.bare
 base:=Un.kept k
 loc:=by
  refine ⟨m,hn,λi x v e1 e2 e3=>?_⟩;have e1:(ts++fr)[i]? = some x:=e1
  by_cases hi:i<ts.length
  ·unfold jz at e2;rw [List.getElem?_append_left (by simpa using hi),List.getElem?_replicate,if_pos hi] at e2
   cases e2
  ·rw [List.getElem?_append_right (by omega)] at e1
   unfold jz at e2;rw [List.getElem?_append_right (by simpa using hi),List.length_replicate,List.getElem?_map] at e2
   obtain ⟨nt,j,h1,h2,h3,h4⟩:=S.vis _ x e1;rw [h1] at e2;have e2':(σ[j]?).join=some v:=Option.some.inj e2;have e5:σ[j]? = some (some v):=by
    cases q:σ[j]? with
    | none=>rw [q] at e2';cases e2'
    | some o=>rw [q] at e2';simp at e2';rw [e2']
   obtain ⟨m0,_,hl⟩:=I.loc;have vis:Vis X.env.scope x:=h3.elim (λz=>.inr (.inl z)) λz=>.inr (.inr z);obtain ⟨u,ru,l⟩:=hl j x v h2 e5 vis;refine ⟨u,ru,?_⟩
   rcases l with ⟨z,_⟩ | ⟨_,c,hc,hcell⟩
   ·rcases h3 with h3 | h3<;>rw [h3] at z<;>cases z
   ·rcases S.has x h4 with z | ⟨c',hc'⟩
    ·exact absurd z nt
    ·have e6:c'=c:=Option.some.inj ((S.sub x c' hc').symm.trans hc);subst e6;obtain ⟨o,ho,hd⟩:=hcell;exact .inr ⟨h4,c',agf nt hc',o,k _ _ ho,hd⟩
 cell:=λx c e=>by
  rcases look e with ⟨_,rfl⟩ | ⟨_,e⟩
  ·exact ⟨_,hcl⟩
  ·obtain ⟨v,o,ho,hd⟩:=I.cell x c (S.sub x c e);exact ⟨v,o,k _ _ ho,hd⟩
 free:=I.hok.fresh hC
 freeC:=λx c e=>by
  rcases look e with ⟨_,rfl⟩ | ⟨_,e⟩
  ·exact I.hok.fresh (by omega)
  ·exact I.freeC x c (S.sub x c e)
 pin:=λp hp=>absurd (show p∈([]:List (Addr × Obj)) from hp) (by simp)
 hok:=I.hok.kept k
 len:=by
  rw [a5z];show _=(ts++fr).length;rw [List.length_append,S.len]
theorem adi{pins:List (Addr × Obj)}{σ σ':St}{H H':Hp}{s s':Shared}{scope:Scope}{cl:List (Str × Addr)}{t:Str}{N:List Str}{C acc:Addr}{fp:List Addr}{h':Heap}{ys:List V}{its:List Value}{n:Nat}(I:Inv X pins σ H s)
  (hf:∀ b∈fp,FpOk X pins H b) (hC:s.heap.objs.size<=C) (hacc:s.heap.objs.size<=acc) (hCa:C≠acc)
  (J:Inv (cxD X N scope cl t C fp s H) [] σ' H' s') (hn:H' acc=none) (ha:s'.heap.get? acc=some { cls:=.type "list",data:=.seq its.toArray n }) (rv:Vals ys its) (hz:ys.length<=sizeLine) (sb:Heap.SameBut C s'.heap h') :
  Inv X pins σ (upd H' acc (.lst ys)) { s' with heap:=h' }:=by
 have k:∀ b o,b≠C->s'.heap.get? b=some o->h'.get? b=some o:=λb o hb e=>sb.extBut b o hb e;have old:∀ b o,s.heap.get? b=some o->b≠C/\b≠acc:=λb o e=>⟨Nat.ne_of_lt (Nat.lt_of_lt_of_le (Heap.lt_size e) hC),Nat.ne_of_lt (Nat.lt_of_lt_of_le (Heap.lt_size e) hacc)⟩;have u0:Un (frs X.stack) fp H H' s.heap s'.heap:=J.base;have fC:H' C=none:=J.free;have u:Un (frs X.stack) fp H (upd H' acc (.lst ys)) s.heap h':=by
  refine ⟨λb o e n' hb hx=>k b o (old b o e).1 (u0.keep b o e n' hb hx),λb o e n' hb hx=>?_,λb o e n' hx=>?_,λb o e hx=>?_,λb xs e=>?_,λb o v e=>?_,λb ps e=>?_⟩
  ·obtain ⟨sl,e1⟩:=u0.slot b o e n' hb hx;exact ⟨sl,k b _ (old b o e).1 e1⟩
  ·rw [j9 (old b o e).2];exact u0.free b o e n' hx
  ·obtain ⟨o',e1⟩:=u0.there b o e hx;exact ⟨o',k b _ (old b o e).1 e1⟩
  ·rw [j9 (gf (u0.tups b xs e) hn)];exact u0.tups b xs e
  ·rw [j9 (gf (u0.frzs b o v e) hn)];exact u0.frzs b o v e
  ·obtain ⟨more,e1⟩:=u0.tbls b ps e;exact ⟨more,by rw [j9 (gf e1 hn)];exact e1⟩
 have hok:HOk X.prog X.w (upd H' acc (.lst ys)) h':=λb o e=>by
  by_cases hb:b=acc
  ·subst hb;rw [nj] at e;cases e
   exact ⟨hz,its,n,rv,k _ _ (Ne.symm hCa) ha⟩
  ·rw [j9 hb] at e;refine (J.hok b o e).stay (λc v hc q=>k c v ?_ q) (λc q=>by rw [j9 (gf q hn)];exact q) λc xs q=>by rw [j9 (gf q hn)];exact q
   rcases hc with z | z
   ·rw [z];exact gf e fC
   ·exact gf z fC
 have J':=I.call (g':=s'.gens) (t':=s'.toks) (d':=s'.drawn) (ch:=fp) u hok J.bare λb hb=>⟨(hf b hb).2.2.2.1,(hf b hb).2.1,(hf b hb).2.2.2.2.1,(hf b hb).2.2.2.2.2⟩;have eo:s'.os=s.os:=J.os;obtain ⟨hp,g,d,t,o⟩:=s';have eo':o=s.os:=eo;subst eo';exact J'
theorem adk{elt tg iter:Expr}{scope:Scope}{pos ppos:Pos}{cl:List (Str × Addr)}{t:Str}{ts fr:List Str}{ix:List Nat}{wi:TI}{g:TG}{te:TE}(hc:X.calm=true)(S:CSd X scope cl t ts fr ix)(hi:PI X tg iter wi)
  (hg:∀ C fp s H,PG (cxD X (ts++fr) scope cl t C fp s H) tg g) (he:∀ C fp s H,PE (cxD X (ts++fr) scope cl t C fp s H) elt te) (hs:∀ x,foldedSetIterable iter X.env x=pure x)
  (use:Option (Value->Sem Unit)) {pins:List (Addr × Obj)} {s:Shared} {σ:St} {H:Hp} {Q:VK} {Qf:Value->Shared->Prop} (I:Inv X pins σ H s) (h:acn wi (jz ts.length ix) g te σ H Q) (fin:a4i X pins σ use Q Qf) :
  wpAny (model X.prog X.w) X.A (comprehension (.ListComp elt [⟨tg,iter,[],0⟩] scope pos) scope X.env ppos (newList []) false (eval iter X.env) use) Qf X.xe s:=by
 refine wpAny_comprehension_free (use:=use) rfl hs S.clos S.kind S.names (thn (hi pins s σ H _ I h) λv s1 h1=>thn h1 λitv s2 h2=>?_);obtain ⟨it,fp,tn,J,H2,e,I2,T,st2,f2,W,⟨m0,w0⟩,turn⟩:=h2;subst e;have hob:∀ b∈fp,b<s2.heap.objs.size:=λb hb=>let ⟨o,e,_⟩:=T.obj _ _ st2 b hb;Heap.lt_size e;refine wpAny_newObj_type (anj S.own S.push S.kind λh4 hns4 hc4 hsb4=>?_);dsimp only at hns4 hc4 hsb4 ⊢
 generalize hH2:s2.heap.push { cls:=.type "list",dict:=none,data:=.seq ([]:List Value).toArray }=G at hns4 hc4 hsb4 ⊢
 have hCs:G.objs.size=s2.heap.objs.size+1:=by rw [<-hH2,Heap.size_push]
 have hCle:s2.heap.objs.size<=G.objs.size:=by omega
 have hne:G.objs.size≠s2.heap.objs.size:=by omega
 have old:∀ b o,s2.heap.get? b=some o->h4.get? b=some o:=λb o e=>by
  have hlt:=Heap.lt_size e;exact hsb4 b o (hH2 ▸ Heap.get?_push_of_some _ e)
 have hacc:h4.get? s2.heap.objs.size=some { cls:=.type "list",data:=.seq ([]:List Value).toArray 0 } :=
  hsb4 _ _ (hH2 ▸ Heap.get?_push_size _ rfl)
 have K0:Inv (cxD X (ts++fr) scope cl t G.objs.size fp s2 H2) [] (jz ts.length ix σ) H2 { s2 with heap:=h4 } :=
  ank S I2 f2 hob hCle old hns4 hc4 rfl rfl
 have st4:tn 0 h4:=T.keep _ _ _ st2 λb _ o e=>old b o e;have accF:s2.heap.objs.size ∉ fp:=λz=>Nat.lt_irrefl _ (hob _ z);have stat:∀ {H':Hp},(∀ b∈fp,H' b=none)->∀ b∈fp,FpOk (cxD X (ts++fr) scope cl t G.objs.size fp s2 H2) [] H' b:=λhn b hb =>
  ⟨hn b hb,λz=>by have h1:=hob b hb;have z':b=G.objs.size:=z;exact Nat.ne_of_lt (Nat.lt_of_lt_of_le h1 hCle) z',λz=>(agg S I2 f2 hob hCle).exfs b hb z, .inl hb,λx c e=>by
   rcases look e with ⟨_,rfl⟩ | ⟨_,e⟩
   ·exact no2 (hob b hb) hCle
   ·exact (f2 b hb).2.2.2.2.1 x c (S.sub x c e),λp hp=>absurd (show p∈([]:List (Addr × Obj)) from hp) (by simp)⟩
 have statA:∀ {H':Hp},H' s2.heap.objs.size=none->FpOk (cxD X (ts++fr) scope cl t G.objs.size fp s2 H2) [] H' s2.heap.objs.size:=λhn =>
  ⟨hn,λz=>hne (show G.objs.size=s2.heap.objs.size from z.symm),λz=>by
   obtain ⟨_,o,ho,_⟩:=(agg S I2 f2 hob hCle).funs.mem z;exact Nat.lt_irrefl _ (Heap.lt_size ho), .inr (Nat.le_refl _),λx c e z=>by
   rcases look e with ⟨_,rfl⟩ | ⟨_,e⟩
   ·exact no3 z hCle
   ·obtain ⟨v,o,ho,_⟩:=I2.cell x c (S.sub x c e);rw [z] at ho;exact Nat.lt_irrefl _ (Heap.lt_size ho),λp hp=>absurd (show p∈([]:List (Addr × Obj)) from hp) (by simp)⟩
 have loop:∀ s4:Shared,s4={ s2 with heap:=h4 }->
   codeAny (model X.prog X.w) X.A (.compLoop (.ListComp elt [⟨tg,iter,[],0⟩] scope pos) 0 (.ref it) (.ref s2.heap.objs.size) (compEnvC scope ((t,G.objs.size+1)::cl) G.objs.size X.env))
    (compPost (model X.prog X.w) X.A X.xe use Qf (.ref s2.heap.objs.size) G.objs.size) s4:=by
  rintro s4 rfl
  refine a8i (λn s'=>∃ i σ' H' ys its k,Inv (cxD X (ts++fr) scope cl t G.objs.size fp s2 H2) [] σ' H' s'/\Ext (jz ts.length ix σ) σ'/\tn i s'.heap/\(∀ b∈fp,H' b=none)/\H' s2.heap.objs.size=none /\
   s'.heap.get? s2.heap.objs.size=some { cls:=.type "list",data:=.seq its.toArray k }/\Vals ys its/\ys.length<=sizeLine/\W i n ys H') ?_ m0
   ⟨0,_,H2,[],[],0,K0,⟨rfl,λ_ _ z=>z⟩,st4,λb hb=>(f2 b hb).1,I2.hok.fresh (Nat.le_refl _),hacc, .nil,Nat.zero_le _,w0⟩
  rintro n s5 ⟨i,σ5,H5,ys,its,k5,I5,x5,st5,fr5,fa5,ac5,rv5,hz5,w5⟩
  have I5':Inv (cxD X (ts++fr) scope cl t G.objs.size fp s2 H2) [] (jz ts.length ix σ) H5 s5:=I5.weak x5.1.symm x5.2
  rcases turn i n ys H5 w5 with ⟨stop,qn⟩ | ⟨go,hlt,step⟩
  ·refine thn (T.done (cxD X (ts++fr) scope cl t G.objs.size fp s2 H2) rfl rfl rfl hc i [(s2.heap.objs.size,{ cls:=.type "list",data:=.seq its.toArray k5 })] s5 _ H5 _ (I5'.pins_of λp hp=>?_) (λb hb=>?_) st5 stop) λr s6 ⟨hr,I6⟩=>?_
   ·have e:p=(s2.heap.objs.size,{ cls:=.type "list",data:=.seq its.toArray k5 }):=by simpa using hp
    subst e;obtain ⟨a0,a1,a2,_⟩:=statA fa5;exact ⟨ac5,a0,a1,a2,λv z=>by cases z⟩
   ·obtain ⟨b0,b1,b2,b3,b4,b5⟩:=stat fr5 b hb;refine ⟨b0,b1,b2,b3,b4,λp hp=>?_⟩;have e:p=(s2.heap.objs.size,{ cls:=.type "list",data:=.seq its.toArray k5 }):=by
     have hp':p∈[(s2.heap.objs.size,_)]:=hp;simpa using hp'
    subst e;exact λz=>accF (by have z':s2.heap.objs.size=b:=z;rw [z'];exact hb)
   ·subst hr;have e6:=(I6.pin (s2.heap.objs.size,{ cls:=.type "list",data:=.seq its.toArray k5 }) (by show _∈[]++[_];simp)).1
    obtain ⟨m6,hn6,_⟩:=I6.loc;exact fin _ _ s6 _ m6 hn6 (I2.fpOk hCle (by rw [j9 hne];exact I6.free)) (λh' sb=>adi I2 f2 hCle (Nat.le_refl _) hne I6.unpinned' fa5 e6 rv5 hz5 sb) (qn _ fa5)
  ·refine thn (T.item (cxD X (ts++fr) scope cl t G.objs.size fp s2 H2) rfl rfl rfl hc i [(s2.heap.objs.size,{ cls:=.type "list",data:=.seq its.toArray k5 })] s5 _ H5 _ (I5'.pins_of λp hp=>?_) (λb hb=>?_) st5 go) λr s6 ⟨u,hr,h6⟩=>?_
   ·have e:p=(s2.heap.objs.size,{ cls:=.type "list",data:=.seq its.toArray k5 }):=by simpa using hp
    subst e;obtain ⟨a0,a1,a2,_⟩:=statA fa5;exact ⟨ac5,a0,a1,a2,λv z=>by cases z⟩
   ·obtain ⟨b0,b1,b2,b3,b4,b5⟩:=stat fr5 b hb;refine ⟨b0,b1,b2,b3,b4,λp hp=>?_⟩;have e:p=(s2.heap.objs.size,{ cls:=.type "list",data:=.seq its.toArray k5 }):=by
     have hp':p∈[(s2.heap.objs.size,_)]:=hp;simpa using hp'
    subst e;exact λz=>accF (by have z':s2.heap.objs.size=b:=z;rw [z'];exact hb)
   ·subst hr;refine thn h6 λ_ s7 ⟨x,H7,I7,r7,y7,st7,fr7⟩=>?_;have fa7:H7 s2.heap.objs.size=none:=(I7.pin (s2.heap.objs.size,{ cls:=.type "list",data:=.seq its.toArray k5 }) (by show _∈[]++[_];simp)).2.1
    have ac7:=(I7.pin (s2.heap.objs.size,{ cls:=.type "list",data:=.seq its.toArray k5 }) (by show _∈[]++[_];simp)).1
    have I7':Inv (cxD X (ts++fr) scope cl t G.objs.size fp s2 H2) ([]++uf (s2.heap.objs.size::fp) s7.heap) (jz ts.length ix σ) H7 s7:=by
     refine Inv.pinned I7.unpinned' (λb hb=>?_) λb hb=>?_
     ·rcases List.mem_cons.mp hb with e | e
      ·subst e;exact statA fa7
      ·exact stat fr7 b e
     ·rcases List.mem_cons.mp hb with e | e
      ·subst e;exact ⟨_,ac7,λv z=>by cases z⟩
      ·exact T.obj _ _ st7 b e
    refine thn (hg G.objs.size fp s2 H2 _ s7 _ H7 x u _ I7' r7 (step x H7 y7)) λ_ s8 ⟨σ8,H8,I8,x8,q8⟩=>?_;refine thn (he G.objs.size fp s2 H2 _ s8 _ H8 _ I8 q8) λyv s9 ⟨y,H9,I9,r9,m',hm',w9⟩=>?_;obtain ⟨ac9,fa9,_⟩:=I9.pin (s2.heap.objs.size,{ cls:=.type "list",data:=.seq its.toArray k5 }) (by show _∈[]++([]++_);simp;exact jo List.mem_cons_self ac7)
    have keep9:∀ b∈fp,∀ o,s7.heap.get? b=some o->s9.heap.get? b=some o/\H9 b=none:=λb hb o e=>by
     obtain ⟨z1,z2,_⟩:=I9.pin (b,o) (by show _∈[]++([]++_);simp;exact jo (List.mem_cons_of_mem _ hb) e)
     exact ⟨z1,z2⟩
    have hl:=rv5.length;refine call_meets F.slot_list_append ⟨_,ac9,rfl⟩ F.entry_list_append (F.args_list_append_2 _ _) (PySem.list_append s2.heap.objs.size its.toArray k5 yv (by rw [List.size_toArray];omega)) ⟨ac9,?_⟩
    have q:=PySem.IsL.update ac9 (λa=>a.push yv);have qo:∀ b o,b≠s2.heap.objs.size->s9.heap.get? b=some o->(s9.heap.update s2.heap.objs.size (Obj.mapSeq (λa=>a.push yv))).get? b=some o:=λb o hb e=>(Heap.get?_update_other s9.heap _ (Ne.symm hb)).trans e;have q':∃ k,(s9.heap.update s2.heap.objs.size (Obj.mapSeq (λa=>a.push yv))).get? s2.heap.objs.size=some { cls:=.type "list",data:=.seq (its++[yv]).toArray k }:=⟨_,by rw [q];simp;rfl⟩
    obtain ⟨k9,q9⟩:=q';obtain ⟨a0,a1,a2,a3,a4,a5⟩:=statA (show H9 s2.heap.objs.size=none from fa9)
    refine ⟨m',hm',i+1,σ8,H9,ys++[y],its++[yv],k9,(I9.unpinned').turned qo a0 a1 a3 a4 a5,x8,?_,?_,fa9,q9,rv5.append (.cons r9 .nil),?_,w9⟩
    ·refine T.keep _ _ _ st7 λb hb o e=>qo b o (λz=>accF (z ▸ hb)) (keep9 b hb o e).1
    ·intro b hb
     obtain ⟨o,e,_⟩:=T.obj _ _ st7 b hb;exact (keep9 b hb o e).2
    ·rw [List.length_append,List.length_singleton];omega
 exact codeAny_compStart_list (loop _ rfl) (T.self _ 0 _ _ _ st4 (loop _ rfl))
end
section
variable{X:Cx}
theorem CSd.of{scope:Scope}{cl:List (Str × Addr)}{t:Str}{ts fr:List Str}{ix:List Nat}(clos:closureFor scope X.env=pure cl)(kind:scope.kind = .function)(own:∀ a,cellsFrom a scope.names cl=(t,a)::cl)(push:∀ h,pushCells h scope.names=h.push { cls:=.type "cell",data:=.cell none })
  (names:(scope.names.all λp=>p.2 != .local || scope.names.lookup p.1 == some .local)=true) (sub:∀ p∈cl,X.env.cells.lookup p.1=some p.2)
  (has:((relabel scope X.env).names.all λp => !(p.2 == .cell || p.2 == .free) || p.1 == t || (cl.lookup p.1).isSome)=true)
  (len:ix.length=fr.length) (vis:((fr.zip ix).all λp=>p.1 != t && X.N[p.2]? == some p.1 && (X.env.kindOf p.1 == some .cell || X.env.kindOf p.1 == some .free) && ((relabel scope X.env).names.lookup p.1 == some .cell || (relabel scope X.env).names.lookup p.1 == some .free))=true) :
  CSd X scope cl t ts fr ix:=by
 refine ⟨clos,kind,own,push,λy hy e=>?_,λy c e=>sub _ (PySem.mem_of_lookup e),λy z=>?_,len,λj y e=>?_⟩
 ·have:=List.all_eq_true.mp names y hy
  rw [e] at this;simpa using this
 ·have key:∀ k,(relabel scope X.env).names.lookup y=some k->(k == .cell || k == .free)=true->y=t\/∃ c,cl.lookup y=some c:=λk e hk=>by
   have:=List.all_eq_true.mp has _ (PySem.mem_of_lookup e)
   rw [hk] at this;simp only [Bool.not_true,Bool.false_or,Bool.or_eq_true,beq_iff_eq] at this;exact this.imp id λz=>Option.isSome_iff_exists.mp z
  rcases z with z | z
  ·exact key _ z rfl
  ·exact key _ z rfl
 ·obtain ⟨hj,_⟩:=List.getElem?_eq_some_iff.mp e;have hj2:j<ix.length:=by omega
  have hm:(y,ix[j])∈fr.zip ix:=by
   refine List.mem_of_getElem? (i:=j) ?_;rw [List.getElem?_zip_eq_some];exact ⟨e,List.getElem?_eq_getElem hj2⟩
  have:=List.all_eq_true.mp vis _ hm
  simp only [Bool.and_eq_true,Bool.or_eq_true,beq_iff_eq,bne_iff_ne,ne_eq] at this;obtain ⟨⟨⟨a,b⟩,c⟩,d⟩:=this;exact ⟨a,ix[j],List.getElem?_eq_getElem hj2,b,c,d⟩
theorem agh{elt tg iter:Expr}{scope:Scope}{pos:Pos}{cl:List (Str × Addr)}{t:Str}{ts fr:List Str}{ix:List Nat}{wi:TI}{g:TG}{te:TE}{i:Nat}{x:Str}{pos' spos:Pos}(hN:X.N.Nodup)(hi':X.N[i]? = some x)(hx:Loc X.env.scope x)(hc:X.calm=true)(S:CSd X scope cl t ts fr ix)(hi:PI X tg iter wi)
  (hg:∀ C fp s H,PG (cxD X (ts++fr) scope cl t C fp s H) tg g) (he:∀ C fp s H,PE (cxD X (ts++fr) scope cl t C fp s H) elt te)
  (hs:∀ x,foldedSetIterable iter X.env x=pure x:=by intro _;rfl) (hsw:swapsWith (.ListComp elt [⟨tg,iter,[],0⟩] scope pos) (some (.Name x pos')) spos.line X.env=pure true:=by rfl) (hf:X.fn x=true\/X.env.scope.names.lookup x=some .local:=by first | exact .inl rfl | exact .inr rfl | assumption) :
  PS X (.Assign [.Name x pos'] (.ListComp elt [⟨tg,iter,[],0⟩] scope pos) spos) (ap6 (acn wi (jz ts.length ix) g te) (a1r i)):=by
 intro pins s σ H D I h
 rw [exec_Assign_Name_used _ _ _ _ hsw];refine wpAny_bind (wpAny_standAt (wpAny_bind ?_));refine wpAny_bind (wpAny_mono (adk hc S hi hg he hs (some (assign (.Name x pos') X.env)) I h (a6q hN hi' hx hf)) (λ_ s' hq=>wpAny_pure (wpAny_pure hq)) λ_ _ e=>e)
end
end L2
namespace MI
open PySem PySem.Spec L2
section
variable{X:Cx}{E:XD}{elt tg iter cnd:Expr}{scope:Scope}{pos spos pos':Pos}{cl:List (Str × Addr)}{tt:Str}{ts fr:List Str}{ix:List Nat}{fi:SI}{g:TG}{t:D->Option Sd}{fe:SE}{fc:ST}{i:Nat}{x:Str}
theorem agi(hN:X.N.Nodup)(hi':X.N[i]? = some x)(hx:Loc X.env.scope x)(hc:X.calm=true)(S:CSd X scope cl tt ts fr ix)(hi:MI X E tg iter fi)(hg:∀ C fp s H,PG (cxD X (ts++fr) scope cl tt C fp s H) tg g)(ht:aet X.K ts.length g t)(he:∀ C fp s H,ME (cxD X (ts++fr) scope cl tt C fp s H) E elt fe)
  (hs:∀ x,foldedSetIterable iter X.env x=pure x:=by intro _;rfl) (hsw:swapsWith (.ListComp elt [⟨tg,iter,[],0⟩] scope pos) (some (.Name x pos')) spos.line X.env=pure true:=by rfl) (hf:X.fn x=true\/X.env.scope.names.lookup x=some .local:=by first | exact .inl rfl | exact .inr rfl | assumption) :
  MS X E (.Assign [.Name x pos'] (.ListComp elt [⟨tg,iter,[],0⟩] scope pos) spos) (mq i (sZ (m8 fi t fe ix))) :=
 PS.weak (afh (agh (te:=lift X.K E (xx X.K) fe) hN hi' hx hc S hi hg he hs hsw hf)) λN σ H q=>a9w ht (atj (ab8 q))
end
end MI
namespace L2
open PySem PySem.Spec PyProof.Rows
end L2
namespace MI
open PySem PySem.Spec L2
end MI
namespace L2
open PySem PySem.Spec PyProof.Rows
section
variable{prog:Program}{w:World}{A:Around}{E:Value->Shared->Prop}
theorem a98{it l:Addr}(ne:l≠it):∀ (rest pre:List Value) {s:Shared} {Q:List Value->Shared->Prop},s.heap.IsListIter it l pre.length->s.heap.IsList l (pre++rest).toArray->
  (∀ h',h'.IsListIter it l (pre++rest).length->Heap.SameBut it s.heap h'->Q rest { s with heap:=h' })->wpAny (model prog w) A (draw (.ref it) rest.length) Q E s
 | [],pre,s,Q,i0,_,q=>wpAny_pure (q s.heap (by rw [List.append_nil];exact i0) (Heap.SameBut.refl _ _))
 | v::rest,pre,s,Q,i0,l0,q=>by
  show wpAny (model prog w) A (pyNext (.ref it)>>=_) Q E s
  apply wpAny_bind
  refine wpAny_pyNext_list_item i0 l0 (x:=v) (by simp) λh1 i1 s1=>?_
  apply wpAny_bind
  apply wpAny_holding
  have l1:h1.IsList l ((pre++[v])++rest).toArray:=by
   rw [List.append_assoc];exact l0.at λo e=>s1.extBut l o ne e
  refine a98 ne rest (pre++[v]) (s:={ s with heap:=h1 }) (by rw [List.length_append];exact i1) l1 λh2 i2 s2=>wpAny_pure (q h2 ?_ (s1.trans s2))
  rw [List.append_assoc] at i2;exact i2
theorem adl{l:Addr}{us:List Value}{s:Shared}{Q:List Value->Shared->Prop}(hh:A.handled=none)(hl:s.heap.IsList l us.toArray)
  (q:∀ h',(∀ b o,s.heap.get? b=some o->h'.get? b=some o)->Q us { s with heap:=h' }):wpAny (model prog w) A (unpackItems (.ref l) us.length none) Q E s:=by
 have ll:l<s.heap.objs.size:=by obtain ⟨o,ho,_⟩:=hl;exact Heap.lt_size ho
 unfold unpackItems notIterableAtAll
 apply wpAny_bind
 apply wpAny_bind
 refine wpAny_specialOf hl.typeIs F.slot_list_iter.lookup (wpAny_pure ?_);simp only [Bool.false_eq_true,if_false]
 apply wpAny_bind
 apply wpAny_holding
 refine wpAny_pyIter_list hl ?_;have il:=hl.at (h':=s.heap.push { cls:=.type "list_iterator",data:=.fields #[.ref l, .int 0 0] }) λo e=>Heap.get?_push_of_some _ e
 apply wpAny_bind
 apply wpAny_holding
 refine a98 (Nat.ne_of_lt ll) us [] (s:={ s with heap:=s.heap.push { cls:=.type "list_iterator",data:=.fields #[.ref l, .int 0 0] } }) ⟨_,Heap.get?_push_size _ rfl,rfl,rfl⟩ il λh1 i1 s1=>?_
 rw [if_neg (Nat.lt_irrefl _)]
 apply wpAny_bind
 apply wpAny_holding
 refine wpAny_pyNext_list_end (s:={ s with heap:=h1 }) hh i1 (il.at λo e=>s1.extBut l o (Nat.ne_of_lt ll) e) (by simp) λh2 e2=>?_
 simp only [Option.isSome_none,Bool.false_eq_true,if_false];refine wpAny_pure (q h2 λb o e=>?_);have nb:b≠s.heap.objs.size:=Nat.ne_of_lt (Heap.lt_size e);exact e2 b o nb (s1.extBut b o nb (Heap.get?_push_of_some _ e))
end
section
variable{X:Cx}{pos:Pos}
def auv(K:PySem.W.Frag)(n:Nat)(t:TGs):TG:=λv σ H Q=>∃ a xs,v = .ref a/\SqL K H a xs/\xs.length=n/\t xs σ H Q
theorem anl{es:List Expr}{k:Nat}{t:TGs}{n:Nat}(hc:X.calm=true)(h:PGs X es t)
  (hn:(assignEach es X.env).length=n:=by rfl) (hst:(assignEach es X.env).findIdx? (·.1)=none:=by rfl):PG X (.Tuple es k pos) (auv X.K n t):=by
 intro pins s σ H v u Q I r ⟨a,xs,ev,hq,hl,hw⟩
 subst ev;cases r
 obtain ⟨its,rv,pl,hz⟩:=I.list hq;rw [assign_Tuple];refine wpAny_bind (wpAny_standAt ?_);unfold unpack;rw [hst,hn,<-hl,rv.length];refine wpAny_bind (wpAny_holding (adl (I.ok.hd hc) pl.isList λh' k1=>?_));exact h pins _ σ H xs _ Q (I.kept (t':=s.toks) k1) rv hw
end
end L2
namespace MI
open PySem PySem.Spec L2
def adm(n:Nat)(k:SGs):SG:=λd τ h=>match d with
 | .tup ds=>if ds.length=n then k ds τ h else .no
 | d=>match qw d h with
  | some ds=>if ds.length=n then k ds τ h else .no
  | none=>.no
section
variable{X:Cx}{E:XD}{es:List Expr}{pos:Pos}{ks:SGs}
theorem anm{k n:Nat}(hc:X.calm=true)(h:MGs X E es ks)(hn:(assignEach es X.env).length=n:=by rfl)(hst:(assignEach es X.env).findIdx? (·.1)=none:=by rfl):MG X E (.Tuple es k pos) (adm n ks):=by
 intro pins s σ H v u Q I rv hw
 obtain ⟨ι,τ,hd,d,r,S,Rh,o⟩:=hw;have both:(∃ a xs,d = .tup xs/\v = .ref a)\/∃ xs,qw d hd=some xs/\∀ ys,d≠.tup ys:=by
  cases r with
  | @tup a vs xs e rs=>exact .inl ⟨a,xs,rfl,rfl⟩
  | _ =>
   refine .inr ?_;simp only [adm] at o
   split at o
   ·exact ⟨_,by assumption,λys z=>by cases z⟩
   ·exact o.elim
 rcases both with ⟨a,xs,rfl,rfl⟩ | ⟨xs,e,nt⟩
 ·refine aes hc h hn hst pins s σ H (.ref a) u Q I rv ⟨ι,τ,hd, .tup xs,r,S,Rh,?_⟩;exact o
 ·obtain ⟨a,vs,ev,h1,h2⟩:=yh r Rh e;refine anl hc h hn hst pins s σ H v u Q I rv ⟨a,vs,ev, .inl h1,?_⟩;have eq:adm n ks d τ hd=if xs.length=n then ks xs τ hd else .no:=by
   unfold adm
   cases d<;>first | exact (nt _ rfl).elim | (simp only [e])
  have o':=o;rw [eq] at o'
  by_cases hl:xs.length=n
  ·rw [if_pos hl] at o';exact ⟨by rw [h2.len];exact hl,ι,τ,hd,xs,h2,S,Rh,o'⟩
  ·rw [if_neg hl] at o';exact o'.elim
end
end MI
namespace K08
open PySem PySem.Spec L2 MI
noncomputable def a7e(gw:SF):SS :=
 (ju (ai8 (sA (kh false 2 gw) (aj (sV 0) (aj (sV 1) dh))) (ahk 2 (a02 (kN 2) (a02 (kN 3) aer))))
 (ug (s2 (gIn false) (sA qg (aj (sV 1) dh)) (s2 gIx (sV 2) (sC (.int 0))))))
noncomputable def a3v:SS :=
 (ug (a2p (sA afn (aj (sV 0) (aj (sC (.ty "bool")) dh))) (s2 hEq (sV 0) (sV 1))))
noncomputable def a1b(aq:SF)(qz:SF):SS :=
 (ju (mq 3 (sA (kh false 2 aq) (aj (sV 0) (aj (sA a8p (aj (sC (.int 1)) (aj (sA qg (aj (sV 2) dh)) dh))) dh))))
 (ju (mq 4 (s2 gIx (sV 1) (sA (kh false 2 aq) (aj (sV 0) (aj (sA qg (aj (sV 1) dh)) dh)))))
 (ju (mq 5 (sZ (sA ue (aj (s2 j5 (s2 j5 (ye (sV 2) oN (oS (sV 3))) (sV 4)) (ye (sV 2) (oS (s2 j5 (sV 3) (sC (.int 1)))) oN)) (aj (s2 j5 (s2 j5 (ye (sV 2) oN (oS (sV 3))) (sV 4)) (ye (sV 2) (oS (sV 3)) oN)) (aj (s2 j5 (ye (sV 2) oN (oS (sV 3))) (ye (sV 2) (oS (s2 j5 (sV 3) (sC (.int 1)))) oN)) dh))))))
 (ug (ye (s2 gIx (sZ (s2 j5 (sV 5) (sZ (sA ue (aj (s2 j5 (ye (sV 2) (oS (sV 3)) oN) (ye (sV 2) oN (oS (sV 3)))) (aj (sA (kh false 3 qz) (aj (sV 0) (aj (sV 1) (aj (sC (.int 6)) dh)))) dh)))))) (sA (kh false 2 aq) (aj (sV 0) (aj (sC (.int 5)) dh)))) oN (oS (sC (.int 16))))))))
noncomputable def wu(jb:SF):SS :=
 (ju (sIf (sOr (sT (s2 yf (sA (kh false 2 jb) (aj (sA yc (aj (sC (.str "either")) (aj (sV 0) dh))) (aj (sV 5) dh))) (sC (.bl true)))) (sT (s2 yf (sA (kh false 2 jb) (aj (sA yc (aj (sC (.str "times")) (aj (sV 4) (aj (sC (.int 0)) (aj (sC (.int 1)) dh))))) (aj (sC (.str "")) dh))) (sC (.bl true)))))
 ail
 sNx)
 (ju (sIf (a5o (sT (s2 gLt (sA qg (aj (sV 5) dh)) (sC (.int 9)))) (sT (s2 yf (sA (kh false 2 jb) (aj (sA yc (aj (sC (.str "times")) (aj (sV 4) (aj (sC (.int 2)) (aj (sC (.int 3)) dh))))) (aj (s2 j5 (sV 5) (sV 5)) dh))) (sC (.bl true)))))
 ail
 sNx)
 (sIf (a5o (sT (s2 gLt (sA qg (aj (sV 5) dh)) (sC (.int 9)))) (sT (s2 yf (sA (kh false 2 jb) (aj (sA yc (aj (sC (.str "many")) (aj (sV 4) dh))) (aj (s2 j5 (sV 5) (sV 5)) dh))) (sC (.bl true)))))
 ail
 sNx)))
noncomputable def a1c(jb:SF):SS :=
 (ju (ai8 (sV 1) (adm 2 (a02 (kN 2) (a02 (kN 3) aer))))
 (ju (sIf (a5o (sT (s2 gLt (sA qg (aj (s2 j5 (sV 2) (sV 3)) dh)) (sC (.int 17)))) (sT (s2 yf (sA (kh false 2 jb) (aj (sA yc (aj (sC (.str "row")) (aj (sV 0) dh))) (aj (s2 j5 (sV 2) (sV 3)) dh))) (sC (.bl true)))))
 ail
 sNx)
 (ju (a9r (a9v (sV 0) (sV 1)) (ahk 2 (a02 (kN 4) (a02 (kN 5) aer))) (wu jb))
 (ug (s2 gIs (sA (kh false 2 jb) (aj (sA yc (aj (sC (.str "many")) (aj (s2 gIx (sV 0) (sC (.int 0))) dh))) (aj (sC (.str "")) dh))) (sC (.bl true)))))))
noncomputable def a7f(cu:SF)(jf:SF)(jy:SF)(je:SF)(cj:SF)(jl:SF)(gj:SF)(bz:SF)(ig:SF)(fu:SF)(aq:SF)(jb:SF):SS :=
 (ju (mq 4 (sA (kh false 4 bz) (aj (sV 1) (aj (sA ue (aj (s2 gIx (sZ (sA ue (aj (sC (.int 7)) (aj (sC (.int 23)) dh)))) (sA (kh false 2 aq) (aj (sV 1) (aj (sC (.int 2)) dh)))) dh)) (aj (sC (.int 5)) (aj (sV 2) dh))))))
 (ju (mq 5 (sA (kh false 1 gj) (aj (sA (kh false 2 cj) (aj (sV 1) (aj (sV 4) dh))) dh)))
 (ju (sIf (a5o (sT (s2 gLt (sA qg (aj (sV 5) dh)) (sC (.int 17)))) (sT (s2 yf (sA (kh false 2 jb) (aj (sV 4) (aj (sV 5) dh))) (sC (.bl true)))))
 ail
 sNx)
 (ju (mq 6 (sA (kh false 3 je) (aj (sV 1) (aj (sV 2) (aj (ye (sV 5) oN (oS (sC (.int 16)))) dh)))))
 (ju (mq 7 (s2 (gIn false) (sA qg (aj (sV 6) dh)) (s2 gIx (s2 gIx (sA (kh false 2 cu) (aj (sV 4) (aj (sV 6) dh))) (sC (.int 0))) (sC (.int 0)))))
 (ju (sIf (sOr (aen (ai4 (sA (kh false 2 jy) (aj (sA (kh false 2 jb) (aj (sV 4) (aj (sV 6) dh))) (aj (sV 7) dh))))) (aen (ai4 (sA (kh false 2 jy) (aj (sA (kh false 2 jb) (aj (sV 4) (aj (sC (.str "")) dh))) (aj (s2 (gIn false) (sC (.int 0)) (s2 gIx (s2 gIx (sA (kh false 2 cu) (aj (sV 4) (aj (sC (.str "")) dh))) (sC (.int 0))) (sC (.int 0)))) dh))))))
 ail
 sNx)
 (sIf (a5o (sT (s2 gLt (sA qg (aj (sV 5) dh)) (sC (.int 17)))) (sT (s2 yf (sA (kh false 2 jb) (aj (sV 4) (aj (sV 5) dh))) (sC (.bl true)))))
 ail
 sNx)))))))
noncomputable def a7g(cu:SF)(jf:SF)(jy:SF)(je:SF)(cj:SF)(jl:SF)(gj:SF)(bz:SF)(ig:SF)(fu:SF)(aq:SF)(jb:SF):SE :=
 (ye (sA (kh false 1 gj) (aj (sA (kh false 2 cj) (aj (sV 1) (aj (sV 0) dh))) dh)) oN (oS (sC (.int 16))))
noncomputable def a7h(cu:SF)(jf:SF)(jy:SF)(je:SF)(cj:SF)(jl:SF)(gj:SF)(bz:SF)(ig:SF)(fu:SF)(aq:SF)(jb:SF):SE :=
 (sV 1)
noncomputable def a2f(cu:SF)(jf:SF)(jy:SF)(je:SF)(cj:SF)(jl:SF)(gj:SF)(bz:SF)(ig:SF)(fu:SF)(aq:SF)(jb:SF):ST :=
 (sT (s2 (gIn false) (sA qg (aj (sV 1) dh)) (s2 gIx (s2 gIx (sA (kh false 2 cu) (aj (sV 0) (aj (sV 1) dh))) (sC (.int 0))) (sC (.int 0)))))
noncomputable def ajq(cu:SF)(jf:SF)(jy:SF)(je:SF)(cj:SF)(jl:SF)(gj:SF)(bz:SF)(ig:SF)(fu:SF)(aq:SF)(jb:SF):SS :=
 (ju (mq 1 (sA (kh true 1 jl) (aj (sV 0) dh)))
 (ju (mq 2 (sA (kh false 3 fu) (aj (sV 1) (aj (sA (kh false 0 ig) dh) (aj (s2 gIx (sZ (sA ue (aj (sC (.int 3)) (aj (sC (.int 3)) (aj (sC (.int 3)) (aj (sC (.int 6)) dh)))))) (sA (kh false 2 aq) (aj (sV 1) (aj (sC (.int 4)) dh)))) dh)))))
 (ju (a9r (sRg rm (aj (sC (.int 2)) dh)) (kN 3) (a7f cu jf jy je cj jl gj bz ig fu aq jb))
 (ju (mq 8 (sA yc (aj (sA (kh false 4 bz) (aj (sV 1) (aj (sA ue (aj (sC (.int 7)) dh)) (aj (sC (.int 4)) (aj (sV 2) dh))))) (aj (sA (kh false 4 bz) (aj (sV 1) (aj (sA ue (aj (sC (.int 7)) dh)) (aj (sC (.int 4)) (aj (sV 2) dh))))) dh))))
 (ju (mq 9 (sZ (m8 (sIt (sV 8)) t1 (a7g cu jf jy je cj jl gj bz ig fu aq jb) [1])))
 (ju (mq 9 (sZ (a66 (a9v (sV 8) (sV 9)) (tN 2) (a2f cu jf jy je cj jl gj bz ig fu aq jb) (a7h cu jf jy je cj jl gj bz ig fu aq jb) [])))
 (ug (ahi (s2 gLt (sA qg (aj (sV 9) dh)) (sC (.int 2))) (sA (kh false 2 jf) (aj (sV 8) (aj (sV 9) dh)))))))))))
def top(i:Nat):Stmt:=PySem.Challenge.pw_nearreach_k08_whole_words_taken.main.body.getD i (.Pass ⟨0,0,0,0⟩)
structure Nm (mg:Str->Option Value):Prop where
 abs:mg "abs" = none
 bool:mg "bool" = none
 int:mg "int" = none
 isinstance:mg "isinstance" = none
 len:mg "len" = none
 max:mg "max" = none
 min:mg "min" = none
 range:mg "range" = none
 reversed:mg "reversed" = none
 set:mg "set" = none
 sorted:mg "sorted" = none
 sum:mg "sum" = none
 tuple:mg "tuple" = none
 zip:mg "zip" = none
section
variable{P:Program}{w:World}{K:PySem.W.Frag}{mg:Str->Option Value}{base:Heap}{f:Addr}
theorem aw2:FnScope ["shape"] ["shape"] (bf (top 1)):=⟨rfl,rfl,rfl,by decide +kernel,rfl,by decide +kernel,by decide +kernel⟩
theorem m_0{k:Nat}(cdv:Value)(A:Around)(outer:List Env)(s:Shared)(H:Hp)(E:XK)(hr:Room k (A.deeper (PyProof.Rows.envOfC "inner" (bf (top 1)) s.heap.objs.size f cdv))):MSs (a0w CX0 P w K mg base ["shape"] "inner" (bf (top 1)) f cdv A outer s H E).nox X0 (jh (top 1)) (ENG.a7d) :=
 have SC:=aw2
 (az (ph (gk (o7 hr.u) kj (bw (bh 0) bc (λ_ _=>rfl)) jk (j8 _))
 (dg (jj (qi au)))
 jm)
 (az (ph (PW.pt (acs (gk (o7 hr.u) kj (bw (bh 0) bc (λ_ _=>rfl)) jk (j8 _)) (a8m (gk (o7 hr.u) kj (bw (bh 0) bc (λ_ _=>rfl)) jk (j8 _)))))
 (dg (jj (bw (bh 0) bc (λ_ _=>rfl))))
 jm)
 (dg (jj (qi (aa (bw (bh 0) bc (λ_ _=>rfl)) au))))))
theorem aw3:FnScope ["shape", "word", "row", "under"] ["shape", "word"] (bf (top 3)):=⟨rfl,rfl,rfl,by decide +kernel,rfl,by decide +kernel,by decide +kernel⟩
theorem m_1{k:Nat}(M:Nm mg){a_2:Addr}{d_2:FuncData}{k_2:Nat}{F_2:SF}(D_2:Dn P w K mg base k_2 "ending_tree" ["shape", "word"] (o6 K 2 F_2) a_2 d_2)(h_2:k_2<=k)(cdv:Value)(A:Around)(outer:List Env)(s:Shared)(H:Hp)(E:XK)(hr:Room k (A.deeper (PyProof.Rows.envOfC "takes" (bf (top 3)) s.heap.objs.size f cdv))):MSs (a0w CX0 P w K mg base ["shape", "word", "row", "under"] "takes" (bf (top 3)) f cdv A outer s H E).nox X0 (jh (top 3)) (a7e F_2) :=
 have SC:=aw3
 (az (akn (bj false D_2 (hr.mono h_2) rfl (aa (bh 0) (aa (bh 1) au))) (aes rfl (a0x (qp (i:=2) SC.nd rfl (Or.inl rfl)) (a0x (qp (i:=3) SC.nd rfl (Or.inl rfl)) a9q))))
 (dg (jj (yo (a2o.or yx) a2q (pq (L2.CallR.or dj dq) jw rfl M.len n8 (aa (bh 1) au)) (bw (bh 2) bc (λ_ _=>rfl)) (by with_unfolding_all rfl)))))
theorem aw4:FnScope ["shape", "word", "under", "rows", "row"] ["shape", "word"] (bf (top 4)):=⟨rfl,rfl,rfl,by decide +kernel,rfl,by decide +kernel,by decide +kernel⟩
theorem m_2{k:Nat}(M:Nm mg){a_2:Addr}{d_2:FuncData}{k_2:Nat}{F_2:SF}(D_2:Dn P w K mg base k_2 "ending_tree" ["shape", "word"] (o6 K 2 F_2) a_2 d_2)(h_2:k_2<=k){a_3:Addr}{d_3:FuncData}{k_3:Nat}{F_3:SF}(D_3:Dn P w K mg base k_3 "ends_from" ["shape", "rows", "word", "at"] (o6 K 4 F_3) a_3 d_3)(h_3:k_3<=k){a_0:Addr}{d_0:FuncData}{k_0:Nat}{F_0:SF}(D_0:Dn P w K mg base k_0 "inner" ["shape"] (o6 K 1 F_0) a_0 d_0)(h_0:k_0<=k)(cdv:Value)(A:Around)(outer:List Env)(s:Shared)(H:Hp)(E:XK)(hr:Room k (A.deeper (PyProof.Rows.envOfC "ending_tree" (bf (top 4)) s.heap.objs.size f cdv))):MSs (a0w CX0 P w K mg base ["shape", "word", "under", "rows", "row"] "ending_tree" (bf (top 4)) f cdv A outer s H E).nox X0 (jh (top 4)) (ENG.wj F_2 F_3 F_0) :=
 have SC:=aw4
 (az (uq (i:=2) SC.nd rfl (Or.inl rfl) rfl (CSc.of (ts:=["part"]) (fr:=["word"]) (ix:=[1]) rfl rfl rfl rfl (by intro p hp;cases List.mem_singleton.mp hp;rfl) rfl rfl rfl rfl) (uh (bj false D_0 (hr.mono h_0) rfl (aa (bh 0) au))) (λ_ _ _ _=>(jq (i:=0) (show (["part", "word"]:List Str).Nodup by decide +kernel) rfl (Or.inl rfl) (.inr rfl))) tu (λ_ _ _ _=>(bj false D_2 (hr.mono h_2) rfl (aa (bh 0) (aa (bh 1) au)))))
 (az (jc (i:=3) SC.nd rfl (Or.inr rfl) (zx (a03 rfl (CSc.noFree (ts:=["row", "deeper"]) rfl (by decide +kernel) (by decide +kernel) (by decide +kernel)) (uh (bh 2)) (λ_ _ _ _=>aaq rfl (zy (jq (i:=0) (show (["row", "deeper"]:List Str).Nodup by decide +kernel) rfl (Or.inl rfl) (.inr rfl)) (zy (jq (i:=1) (show (["row", "deeper"]:List Str).Nodup by decide +kernel) rfl (Or.inl rfl) (.inr rfl)) a6k))) aeu (λ_ _ _ _=>(bh 0)))))
 (az (uq (i:=4) SC.nd rfl (Or.inl rfl) rfl (CSc.of (ts:=["at"]) (fr:=["shape", "word", "rows"]) (ix:=[0,1,3]) rfl rfl rfl rfl (by intro p hp;simp only [List.mem_cons,List.not_mem_nil,or_false] at hp;rcases hp with rfl | rfl | rfl<;>rfl) rfl rfl rfl rfl) (sy rfl M.range (aa (j6 (pq (L2.CallR.or dj dq) jw rfl M.len n8 (aa (bh 1) au)) bc) au)) (λ_ _ _ _=>(jq (i:=0) (show (["at", "shape", "word", "rows"]:List Str).Nodup by decide +kernel) rfl (Or.inl rfl) (.inr rfl))) tu (λ_ _ _ _=>(a0k (L2.CallR.or rn (v6 rfl)) a0m rfl M.tuple a1t (aa (bj false D_3 (hr.mono h_3) rfl (aa (bh 1) (aa (bh 3) (aa (bh 2) (aa (bh 0) au))))) au))))
 (dg (jj (qi (aa (a0k (L2.CallR.or rn (v6 rfl)) a0m rfl M.tuple a1t (aa (bh 4) au)) (aa (bh 2) au))))))))
theorem aw5:FnScope ["shape", "rows", "word", "at"] ["shape", "rows", "word", "at"] (bf (top 5)):=⟨rfl,rfl,rfl,by decide +kernel,rfl,by decide +kernel,by decide +kernel⟩
theorem m_3{k:Nat}(M:Nm mg){a_5:Addr}{d_5:FuncData}{k_5:Nat}{F_5:SF}(D_5:Dn P w K mg base k_5 "ends_in_turn" ["rows", "at"] (o6 K 2 F_5) a_5 d_5)(h_5:k_5<=k){a_6:Addr}{d_6:FuncData}{k_6:Nat}{F_6:SF}(D_6:Dn P w K mg base k_6 "ends_of_many" ["row", "at"] (o6 K 2 F_6) a_6 d_6)(h_6:k_6<=k){a_7:Addr}{d_7:FuncData}{k_7:Nat}{F_7:SF}(D_7:Dn P w K mg base k_7 "ends_of_times" ["row", "at", "low", "high"] (o6 K 4 F_7) a_7 d_7)(h_7:k_7<=k)(cdv:Value)(A:Around)(outer:List Env)(s:Shared)(H:Hp)(E:XK)(hr:Room k (A.deeper (PyProof.Rows.envOfC "ends_from" (bf (top 5)) s.heap.objs.size f cdv))):MSs (a0w CX0 P w K mg base ["shape", "rows", "word", "at"] "ends_from" (bf (top 5)) f cdv A outer s H E).nox X0 (jh (top 5)) (ENG.a06 F_5 F_6 F_7) :=
 have SC:=aw5
 (az (ph (gk (o7 hr.u) kj (bw (bh 0) bc (λ_ _=>rfl)) jk (j8 _))
 (dg (jj (apz (PW.pt (a1u (gk (a2l.or nq) yz (bh 3) (pq (L2.CallR.or dj dq) jw rfl M.len n8 (aa (bh 2) au)) (j8 _)) (a01 (gk (a2o.or yx) a2q (bw (bh 2) (bh 3) (λ_ _=>rfl)) (bw (bh 0) bc (λ_ _=>rfl)) (by with_unfolding_all rfl))))) (nu (aa (j6 (bh 3) bc) au)) (nu au))))
 jm)
 (az (ph (gk (o7 hr.u) kj (bw (bh 0) bc (λ_ _=>rfl)) jk (j8 _))
 (dg (jj (bj false D_5 (hr.mono h_5) rfl (aa (bh 1) (aa (bh 3) au)))))
 jm)
 (az (ph (gk (o7 hr.u) kj (bw (bh 0) bc (λ_ _=>rfl)) jk (j8 _))
 (dg (jj (ag4 rfl M.sorted rfl (CSc.of (ts:=["row", "end"]) (fr:=["at"]) (ix:=[3]) rfl rfl rfl rfl (by intro p hp;cases List.mem_singleton.mp hp;rfl) rfl rfl rfl rfl) (uh (bh 1)) (λ_ _ _ _=>jq (i:=0) (show (["row", "end", "at"]:List Str).Nodup by decide +kernel) rfl (Or.inl rfl) (.inr rfl)) (λ_ _ _ _=>(uh (bw (bh 0) (bh 2) (λ_ _=>rfl)))) (λ_ _ _ _=>jq (i:=1) (show (["row", "end", "at"]:List Str).Nodup by decide +kernel) rfl (Or.inl rfl) (.inr rfl)) (λ_ _ _ _=>(bh 1)))))
 jm)
 (az (ph (gk (o7 hr.u) kj (bw (bh 0) bc (λ_ _=>rfl)) jk (j8 _))
 (dg (jj (bj false D_6 (hr.mono h_6) rfl (aa (bw (bh 1) bc (λ_ _=>rfl)) (aa (bh 3) au)))))
 jm)
 (dg (jj (bj false D_7 (hr.mono h_7) rfl (aa (bw (bh 1) bc (λ_ _=>rfl)) (aa (bh 3) (aa (bw (bh 0) bc (λ_ _=>rfl)) (aa (bw (bh 0) bc (λ_ _=>rfl)) au)))))))))))
theorem aw6:FnScope ["row", "places"] ["row", "places"] (bf (top 6)):=⟨rfl,rfl,rfl,by decide +kernel,rfl,by decide +kernel,by decide +kernel⟩
theorem m_4{k:Nat}(M:Nm mg)(cdv:Value)(A:Around)(outer:List Env)(s:Shared)(H:Hp)(E:XK)(hr:Room k (A.deeper (PyProof.Rows.envOfC "stepped" (bf (top 6)) s.heap.objs.size f cdv))):MSs (a0w CX0 P w K mg base ["row", "places"] "stepped" (bf (top 6)) f cdv A outer s H E).nox X0 (jh (top 6)) (ENG.a95) :=
 have SC:=aw6
 (dg (jj (ag4 rfl M.sorted rfl (CSc.of (ts:=["at", "end"]) (fr:=["row"]) (ix:=[0]) rfl rfl rfl rfl (by intro p hp;cases List.mem_singleton.mp hp;rfl) rfl rfl rfl rfl) (uh (bh 1)) (λ_ _ _ _=>jq (i:=0) (show (["at", "end", "row"]:List Str).Nodup by decide +kernel) rfl (Or.inl rfl) (.inr rfl)) (λ_ _ _ _=>(uh (bw (bh 2) (bh 0) (λ_ _=>rfl)))) (λ_ _ _ _=>jq (i:=1) (show (["at", "end", "row"]:List Str).Nodup by decide +kernel) rfl (Or.inl rfl) (.inr rfl)) (λ_ _ _ _=>(bh 1)))))
theorem aw7:FnScope ["rows", "at", "places", "row"] ["rows", "at"] (bf (top 7)):=⟨rfl,rfl,rfl,by decide +kernel,rfl,by decide +kernel,by decide +kernel⟩
theorem m_5{k:Nat}{a_4:Addr}{d_4:FuncData}{k_4:Nat}{F_4:SF}(D_4:Dn P w K mg base k_4 "stepped" ["row", "places"] (o6 K 2 F_4) a_4 d_4)(h_4:k_4<=k)(cdv:Value)(A:Around)(outer:List Env)(s:Shared)(H:Hp)(E:XK)(hr:Room k (A.deeper (PyProof.Rows.envOfC "ends_in_turn" (bf (top 7)) s.heap.objs.size f cdv))):MSs (a0w CX0 P w K mg base ["rows", "at", "places", "row"] "ends_in_turn" (bf (top 7)) f cdv A outer s H E).nox X0 (jh (top 7)) (ENG.uw F_4) :=
 have SC:=aw7
 (az (jc (i:=2) SC.nd rfl (Or.inl rfl) (zx (nu (aa (bh 1) au))))
 (az (a1g PassesOwn.never rfl (uh (bh 0)) (qp (i:=3) SC.nd rfl (Or.inl rfl)) (dg (jc (i:=2) SC.nd rfl (Or.inl rfl) (bj false D_4 (hr.mono h_4) rfl (aa (bh 3) (aa (bh 2) au))))))
 (dg (jj (bh 2)))))
theorem aw8:FnScope ["row", "at", "places", "more"] ["row", "at"] (bf (top 8)):=⟨rfl,rfl,rfl,by decide +kernel,rfl,by decide +kernel,by decide +kernel⟩
theorem m_6{k:Nat}(M:Nm mg){a_4:Addr}{d_4:FuncData}{k_4:Nat}{F_4:SF}(D_4:Dn P w K mg base k_4 "stepped" ["row", "places"] (o6 K 2 F_4) a_4 d_4)(h_4:k_4<=k)(cdv:Value)(A:Around)(outer:List Env)(s:Shared)(H:Hp)(E:XK)(hr:Room k (A.deeper (PyProof.Rows.envOfC "ends_of_many" (bf (top 8)) s.heap.objs.size f cdv))):MSs (a0w CX0 P w K mg base ["row", "at", "places", "more"] "ends_of_many" (bf (top 8)) f cdv A outer s H E).nox X0 (jh (top 8)) (ENG.ux F_4) :=
 have SC:=aw8
 (az (jc (i:=2) SC.nd rfl (Or.inl rfl) (zx (nu au)))
 (az (jc (i:=3) SC.nd rfl (Or.inl rfl) (zx (nu (aa (bh 1) au))))
 (az (ai6 100000 PassesOwn.never (gk ae5 a8o (pq (L2.CallR.or dj dq) jw rfl M.len n8 (aa (bh 3) au)) (pq (L2.CallR.or dj dq) jw rfl M.len n8 (aa (bh 2) au)) (j8 _)) (az (jc (i:=2) SC.nd rfl (Or.inl rfl) (bh 3))
 (dg (jc (i:=3) SC.nd rfl (Or.inl rfl) (zx (aga rfl M.sorted rfl M.set rfl (bh 2) (bj false D_4 (hr.mono h_4) rfl (aa (bh 0) (aa (bh 2) au)))))))))
 (dg (jj (bh 2))))))
theorem aw9:FnScope ["row", "at", "low", "high", "found", "places", "count"] ["row", "at", "low", "high"] (bf (top 9)):=⟨rfl,rfl,rfl,by decide +kernel,rfl,by decide +kernel,by decide +kernel⟩
theorem m_7{k:Nat}(M:Nm mg){a_4:Addr}{d_4:FuncData}{k_4:Nat}{F_4:SF}(D_4:Dn P w K mg base k_4 "stepped" ["row", "places"] (o6 K 2 F_4) a_4 d_4)(h_4:k_4<=k)(cdv:Value)(A:Around)(outer:List Env)(s:Shared)(H:Hp)(E:XK)(hr:Room k (A.deeper (PyProof.Rows.envOfC "ends_of_times" (bf (top 9)) s.heap.objs.size f cdv))):MSs (a0w CX0 P w K mg base ["row", "at", "low", "high", "found", "places", "count"] "ends_of_times" (bf (top 9)) f cdv A outer s H E).nox X0 (jh (top 9)) (ENG.ud F_4) :=
 have SC:=aw9
 (az (jc (i:=4) SC.nd rfl (Or.inl rfl) (nu au))
 (az (jc (i:=5) SC.nd rfl (Or.inl rfl) (zx (nu (aa (bh 1) au))))
 (az (a1g PassesOwn.never rfl (sy rfl M.range (aa (j6 (bh 3) bc) au)) (qp (i:=6) SC.nd rfl (Or.inl rfl)) (az (ph (gk alq af0 (bh 6) (bh 2) (j8 _))
 (dg (ama (aum PySem.F.slot_list_extend PySem.F.type_list_extend (MtR.or ad1 acq) ait (bh 4) (aa (bh 5) au))))
 jm)
 (dg (jc (i:=5) SC.nd rfl (Or.inl rfl) (bj false D_4 (hr.mono h_4) rfl (aa (bh 0) (aa (bh 5) au)))))))
 (dg (jj (a5f rfl M.sorted rfl M.set rfl (bh 4)))))))
theorem awa:FnScope ["_law_script"] ["_law_script"] (bf (top 11)):=⟨rfl,rfl,rfl,by decide +kernel,rfl,by decide +kernel,by decide +kernel⟩
theorem m_8{k:Nat}(cdv:Value)(A:Around)(outer:List Env)(s:Shared)(H:Hp)(E:XK)(hr:Room k (A.deeper (PyProof.Rows.envOfC "_law_pen" (bf (top 11)) s.heap.objs.size f cdv))):MSs (a0w CX0 P w K mg base ["_law_script"] "_law_pen" (bf (top 11)) f cdv A outer s H E).nox X0 (jh (top 11)) (PN.a1z) :=
 have SC:=awa
 (dg (jj (nu (aa (zx (km (bh 0) qu (oh bc))) (aa bc (aa bc au))))))
theorem awb:FnScope ["_law_pen_here", "_law_many", "_law_found", "_law_at", "_law_cell", "_law_great", "_law_number"] ["_law_pen_here", "_law_many"] (bf (top 12)):=⟨rfl,rfl,rfl,by decide +kernel,rfl,by decide +kernel,by decide +kernel⟩
theorem m_9{k:Nat}(M:Nm mg)(cdv:Value)(A:Around)(outer:List Env)(s:Shared)(H:Hp)(E:XK)(hr:Room k (A.deeper (PyProof.Rows.envOfC "_law_take" (bf (top 12)) s.heap.objs.size f cdv))):MSs (a0w CX0 P w K mg base ["_law_pen_here", "_law_many", "_law_found", "_law_at", "_law_cell", "_law_great", "_law_number"] "_law_take" (bf (top 12)) f cdv A outer s H E).nox X0 (jh (top 12)) (PN.a2u) :=
 have SC:=awb
 (az (ph (gk ae5 a8o (bw (bh 0) bc (λ_ _=>rfl)) bc (j8 _))
 (az (jc (i:=2) SC.nd rfl (Or.inl rfl) (a4n (bw (bh 0) bc (λ_ _=>rfl)) (bh 1)))
 (az (a4l (aez (bw (bh 0) bc (λ_ _=>rfl)) (bh 1)) (bh 0) bc)
 (dg (jj (bh 2)))))
 jm)
 (az (jc (i:=3) SC.nd rfl (Or.inl rfl) (bw (bh 0) bc (λ_ _=>rfl)))
 (az (a4l (j6 (bh 3) bc) (bh 0) bc)
 (az (jc (i:=4) SC.nd rfl (Or.inl rfl) bc)
 (az (ph (gk ae5 a8o (pq (L2.CallR.or dj dq) jw rfl M.len n8 (aa (bw (bh 0) bc (λ_ _=>rfl)) au)) bc (j8 _))
 (dg (jc (i:=4) SC.nd rfl (Or.inl rfl) (bw (bw (bh 0) bc (λ_ _=>rfl)) (a4n (bh 3) (pq (L2.CallR.or dj dq) jw rfl M.len n8 (aa (bw (bh 0) bc (λ_ _=>rfl)) au))) (λ_ _=>rfl))))
 jm)
 (az (ph (PW.pt (a1u (gk (a2l.or nq) yz (bh 3) (pq (L2.CallR.or dj dq) jw rfl M.len n8 (aa (bw (bh 0) bc (λ_ _=>rfl)) au)) (j8 _)) (a01 (gk alq af0 (pq aar af2 rfl M.abs akj (aa (bh 4) au)) (akq bc bc) (j8 _)))))
 (az (jc (i:=5) SC.nd rfl (Or.inl rfl) (j6 (a74 bc (pq aar af2 rfl M.abs akj (aa (bh 4) au))) (a0k a4c a9t rfl M.int aei (aa (yo (a2l.or nq) yz (bh 4) bc (j8 _)) au))))
 (az (a4l (aez (bh 5) (bh 1)) (bh 0) bc)
 (dg (jj (a4n (bh 5) (bh 1))))))
 jm)
 (az (jc (i:=6) SC.nd rfl (Or.inl rfl) (a4n (akq (j6 (j6 (a4n (bh 4) bc) (a74 bc (bh 3))) bc) bc) bc))
 (az (jc (i:=6) SC.nd rfl (Or.inl rfl) (a4n (j6 (j6 (a74 (bh 6) (bh 6)) (a74 bc (bh 6))) (bh 3)) bc))
 (dg (jj (a4n (aez (bh 6) bc) (bh 1))))))))))))
theorem ard:FnScope ["_law_some_here"] [] (bf (top 13)):=⟨rfl,rfl,rfl,by decide +kernel,rfl,by decide +kernel,by decide +kernel⟩
theorem ax8{k:Nat}(cdv:Value)(A:Around)(outer:List Env)(s:Shared)(H:Hp)(E:XK)(hr:Room k (A.deeper (PyProof.Rows.envOfC "_law_signs" (bf (top 13)) s.heap.objs.size f cdv))):MSs (a0w CX0 P w K mg base ["_law_some_here"] "_law_signs" (bf (top 13)) f cdv A outer s H E).nox X0 (jh (top 13)) (PN.xg) :=
 have SC:=ard
 (az (jc (i:=0) SC.nd rfl (Or.inl rfl) jk)
 (dg (jj (j6 (bh 0) jk))))
theorem arf:FnScope ["_law_pen_here", "_law_rest", "_law_most", "_law_found", "_law_k", "_law_at"] ["_law_pen_here", "_law_rest", "_law_most"] (bf (top 14)):=⟨rfl,rfl,rfl,by decide +kernel,rfl,by decide +kernel,by decide +kernel⟩
theorem ax9{k:Nat}(M:Nm mg){a_9:Addr}{d_9:FuncData}{k_9:Nat}{F_9:SF}(D_9:Dn P w K mg base k_9 "_law_take" ["_law_pen_here", "_law_many"] (o6 K 2 F_9) a_9 d_9)(h_9:k_9<=k)(cdv:Value)(A:Around)(outer:List Env)(s:Shared)(H:Hp)(E:XK)(hr:Room k (A.deeper (PyProof.Rows.envOfC "_law_some" (bf (top 14)) s.heap.objs.size f cdv))):MSs (a0w CX0 P w K mg base ["_law_pen_here", "_law_rest", "_law_most", "_law_found", "_law_k", "_law_at"] "_law_some" (bf (top 14)) f cdv A outer s H E).nox X0 (jh (top 14)) (PN.a2v F_9) :=
 have SC:=arf
 (az (jc (i:=3) SC.nd rfl (Or.inl rfl) jk)
 (az (a1g PassesOwn.never rfl (sy rfl M.range (aa (j6 bc (bj false D_9 (hr.mono h_9) rfl (aa (bh 0) (aa (bh 2) au)))) au)) (qp (i:=4) SC.nd rfl (Or.inl rfl)) (az (jc (i:=5) SC.nd rfl (Or.inl rfl) (bj false D_9 (hr.mono h_9) rfl (aa (bh 0) (aa (pq (L2.CallR.or dj dq) jw rfl M.len n8 (aa (bh 1) au)) au))))
 (az (jc (i:=3) SC.nd rfl (Or.inl rfl) (j6 (bh 3) (bw (bh 1) (bh 5) (λ_ _=>rfl))))
 (dg (jc (i:=1) SC.nd rfl (Or.inl rfl) (j6 (km (bh 1) qu (oh (bh 5))) (km (bh 1) (oh (j6 (bh 5) bc)) qu)))))))
 (dg (jj (bh 3)))))
theorem arh:FnScope ["_law_pen_here", "_law_purse", "_law_deep", "_law_tongue", "_law_road", "_law_part", "_law_low", "_law_size", "_law_parts"] ["_law_pen_here", "_law_purse", "_law_deep", "_law_tongue"] (bf (top 15)):=⟨rfl,rfl,rfl,by decide +kernel,rfl,by decide +kernel,by decide +kernel⟩
theorem axa{k:Nat}(M:Nm mg){a_12:Addr}{at5:FuncData}{k_12:Nat}{F_12:SF}(D_12:Dn P w K mg base k_12 "_law_shape" ["_law_pen_here", "_law_purse", "_law_deep", "_law_tongue"] (o6 K 4 F_12) a_12 at5)(h_12:k_12<=k){a_11:Addr}{d_11:FuncData}{k_11:Nat}{F_11:SF}(D_11:Dn P w K mg base k_11 "_law_some" ["_law_pen_here", "_law_rest", "_law_most"] (o6 K 3 F_11) a_11 d_11)(h_11:k_11<=k){a_9:Addr}{d_9:FuncData}{k_9:Nat}{F_9:SF}(D_9:Dn P w K mg base k_9 "_law_take" ["_law_pen_here", "_law_many"] (o6 K 2 F_9) a_9 d_9)(h_9:k_9<=k)(cdv:Value)(A:Around)(outer:List Env)(s:Shared)(H:Hp)(E:XK)(hr:Room k (A.deeper (PyProof.Rows.envOfC "_law_shape" (bf (top 15)) s.heap.objs.size f cdv))):MSs (a0w CX0 P w K mg base ["_law_pen_here", "_law_purse", "_law_deep", "_law_tongue", "_law_road", "_law_part", "_law_low", "_law_size", "_law_parts"] "_law_shape" (bf (top 15)) f cdv A outer s H E).nox X0 (jh (top 15)) (SHD.xj F_12 F_11 F_9) :=
 have SC:=arh
 (az (jc (i:=4) SC.nd rfl (Or.inl rfl) (bj false D_9 (hr.mono h_9) rfl (aa (bh 0) (aa bc au))))
 (az (ph (PW.pt (a1u (gk (o7 hr.u) kj (bh 2) bc (j8 _)) (a01 (gk (a2l.or nq) yz (bh 4) bc (j8 _)))))
 (dg (jc (i:=4) SC.nd rfl (Or.inl rfl) (j6 (bh 4) bc)))
 jm)
 (az (ph (PW.pt (a1u (gk (o7 hr.u) kj (bh 4) bc (j8 _)) (a01 (gk (o7 hr.u) kj (bj false D_9 (hr.mono h_9) rfl (aa (bh 0) (aa bc au))) bc (j8 _)))))
 (dg (jj (qi (aa jk (aa (qi au) au)))))
 jm)
 (az (ph (PW.pt (acs (gk (o7 hr.u) kj (bh 2) bc (j8 _)) (acs (gk (a2l.or nq) yz (bw (bh 1) bc (λ_ _=>rfl)) bc (j8 _)) (a8m (gk (a2l.or nq) yz (bh 4) bc (j8 _))))))
 (dg (jj (qi (aa jk (aa (bj false D_11 (hr.mono h_11) rfl (aa (bh 0) (aa (bh 3) (aa (pq (L2.CallR.or dj dq) jw rfl M.len n8 (aa (bh 3) au)) au)))) au)))))
 jm)
 (az (ph (gk (a2l.or nq) yz (bh 4) bc (j8 _))
 (az (a4l (a67 (bw (bh 1) bc (λ_ _=>rfl)) bc) (bh 1) bc)
 (az (jc (i:=5) SC.nd rfl (Or.inl rfl) (bj false D_12 (hr.mono h_12) rfl (aa (bh 0) (aa (bh 1) (aa (a67 (bh 2) bc) (aa (bh 3) au))))))
 (az (ph (gk (o7 hr.u) kj (bh 4) bc (j8 _))
 (dg (jj (qi (aa jk (aa (bh 5) au)))))
 jm)
 (az (jc (i:=6) SC.nd rfl (Or.inl rfl) (bj false D_9 (hr.mono h_9) rfl (aa (bh 0) (aa bc au))))
 (dg (jj (qi (aa jk (aa (bh 5) (aa (bh 6) (aa (j6 (bh 6) (bj false D_9 (hr.mono h_9) rfl (aa (bh 0) (aa (a67 bc (bh 6)) au)))) au)))))))))))
 jm)
 (az (jc (i:=7) SC.nd rfl (Or.inl rfl) (pq (ae8 rfl) aid rfl M.min aqm (aa (bw (bh 1) bc (λ_ _=>rfl)) (aa (j6 bc (bj false D_9 (hr.mono h_9) rfl (aa (bh 0) (aa (bw (zx (nu (aa bc (aa bc (aa bc au))))) (bj false D_9 (hr.mono h_9) rfl (aa (bh 0) (aa bc au))) (λ_ _=>rfl)) au)))) au))))
 (az (a4l (a67 (bw (bh 1) bc (λ_ _=>rfl)) (bh 7)) (bh 1) bc)
 (az (jc (i:=8) SC.nd rfl (Or.inl rfl) (a0k (L2.CallR.or rn (v6 rfl)) a0m rfl M.tuple a1t (aa (zx (a03 rfl (CSc.of (ts:=["_law_k"]) (fr:=["_law_pen_here", "_law_purse", "_law_deep", "_law_tongue"]) (ix:=[0,1,2,3]) rfl rfl rfl rfl (by intro p hp;simp only [List.mem_cons,List.not_mem_nil,or_false] at hp;rcases hp with rfl | rfl | rfl | rfl<;>rfl) rfl rfl rfl rfl) (sy rfl M.range (aa (bh 7) au)) (λ_ _ _ _=>(jq (i:=0) (show (["_law_k", "_law_pen_here", "_law_purse", "_law_deep", "_law_tongue"]:List Str).Nodup by decide +kernel) rfl (Or.inl rfl) (.inr rfl))) tu (λ_ _ _ _=>(bj false D_12 (hr.mono h_12) rfl (aa (bh 1) (aa (bh 2) (aa (a67 (bh 3) bc) (aa (bh 4) au)))))))) au)))
 (dg (jj (qi (aa (bw (zx (nu (aa jk (aa jk au)))) (a0k a4c a9t rfl M.int aei (aa (yo ae5 a8o (bh 4) bc (j8 _)) au)) (λ_ _=>rfl)) (aa (bh 8) au)))))))))))))
theorem ari:FnScope ["_law_shape_here"] ["_law_shape_here"] (bf (top 16)):=⟨rfl,rfl,rfl,by decide +kernel,rfl,by decide +kernel,by decide +kernel⟩
theorem axb{k:Nat}(cdv:Value)(A:Around)(outer:List Env)(s:Shared)(H:Hp)(E:XK)(hr:Room k (A.deeper (PyProof.Rows.envOfC "_law_inner" (bf (top 16)) s.heap.objs.size f cdv))):MSs (a0w CX0 P w K mg base ["_law_shape_here"] "_law_inner" (bf (top 16)) f cdv A outer s H E).nox X0 (jh (top 16)) (ENG.a07) :=
 have SC:=ari
 (az (ph (gk (o7 hr.u) kj (bw (bh 0) bc (λ_ _=>rfl)) jk (j8 _))
 (dg (jj aup))
 jm)
 (az (ph (PW.pt (acs (gk (o7 hr.u) kj (bw (bh 0) bc (λ_ _=>rfl)) jk (j8 _)) (a8m (gk (o7 hr.u) kj (bw (bh 0) bc (λ_ _=>rfl)) jk (j8 _)))))
 (dg (jj (bw (bh 0) bc (λ_ _=>rfl))))
 jm)
 (dg (jj (qi (aa (bw (bh 0) bc (λ_ _=>rfl)) au))))))
theorem arj:FnScope ["_law_pen_here", "_law_tongue", "_law_most", "_law_size"] ["_law_pen_here", "_law_tongue", "_law_most"] (bf (top 17)):=⟨rfl,rfl,rfl,by decide +kernel,rfl,by decide +kernel,by decide +kernel⟩
theorem axc{k:Nat}(M:Nm mg){a_9:Addr}{d_9:FuncData}{k_9:Nat}{F_9:SF}(D_9:Dn P w K mg base k_9 "_law_take" ["_law_pen_here", "_law_many"] (o6 K 2 F_9) a_9 d_9)(h_9:k_9<=k)(cdv:Value)(A:Around)(outer:List Env)(s:Shared)(H:Hp)(E:XK)(hr:Room k (A.deeper (PyProof.Rows.envOfC "_law_word" (bf (top 17)) s.heap.objs.size f cdv))):MSs (a0w CX0 P w K mg base ["_law_pen_here", "_law_tongue", "_law_most", "_law_size"] "_law_word" (bf (top 17)) f cdv A outer s H E).nox X0 (jh (top 17)) (ENG.a1a F_9) :=
 have SC:=arj
 (az (jc (i:=3) SC.nd rfl (Or.inl rfl) (bj false D_9 (hr.mono h_9) rfl (aa (bh 0) (aa (j6 (bh 2) bc) au))))
 (dg (jj (aqg PySem.F.slot_str_join PySem.F.type_str_join aek ab3 jk (aa (zx (a03 rfl (CSc.of (ts:=["_law_k"]) (fr:=["_law_pen_here", "_law_tongue"]) (ix:=[0,1]) rfl rfl rfl rfl (by intro p hp;simp only [List.mem_cons,List.not_mem_nil,or_false] at hp;rcases hp with rfl | rfl<;>rfl) rfl rfl rfl rfl) (sy rfl M.range (aa (bh 3) au)) (λ_ _ _ _=>(jq (i:=0) (show (["_law_k", "_law_pen_here", "_law_tongue"]:List Str).Nodup by decide +kernel) rfl (Or.inl rfl) (.inr rfl))) tu (λ_ _ _ _=>(bw (bh 2) (bj false D_9 (hr.mono h_9) rfl (aa (bh 1) (aa (pq (L2.CallR.or dj dq) jw rfl M.len n8 (aa (bh 2) au)) au))) (λ_ _=>rfl))))) au)))))
theorem ark:FnScope ["_law_ends", "_law_rows", "_law_found", "_law_at"] ["_law_ends", "_law_rows"] (bf (top 18)):=⟨rfl,rfl,rfl,by decide +kernel,rfl,by decide +kernel,by decide +kernel⟩
theorem axd{k:Nat}(M:Nm mg)(cdv:Value)(A:Around)(outer:List Env)(s:Shared)(H:Hp)(E:XK)(hr:Room k (A.deeper (PyProof.Rows.envOfC "_law_led" (bf (top 18)) s.heap.objs.size f cdv))):MSs (a0w CX0 P w K mg base ["_law_ends", "_law_rows", "_law_found", "_law_at"] "_law_led" (bf (top 18)) f cdv A outer s H E).nox X0 (jh (top 18)) (ENG.a2d) :=
 have SC:=ark
 (az (jc (i:=2) SC.nd rfl (Or.inl rfl) (zx (nu au)))
 (az (a1g PassesOwn.never rfl (uh (bh 0)) (qp (i:=3) SC.nd rfl (Or.inl rfl)) (dg (jc (i:=2) SC.nd rfl (Or.inl rfl) (zx (j6 (bh 2) (bw (bh 1) (bh 3) (λ_ _=>rfl)))))))
 (dg (jj (a5f rfl M.sorted rfl M.set rfl (bh 2))))))
theorem arl:FnScope ["_law_rows", "_law_found", "_law_at", "_law_end"] ["_law_rows"] (bf (top 19)):=⟨rfl,rfl,rfl,by decide +kernel,rfl,by decide +kernel,by decide +kernel⟩
theorem axe{k:Nat}(M:Nm mg)(cdv:Value)(A:Around)(outer:List Env)(s:Shared)(H:Hp)(E:XK)(hr:Room k (A.deeper (PyProof.Rows.envOfC "_law_again" (bf (top 19)) s.heap.objs.size f cdv))):MSs (a0w CX0 P w K mg base ["_law_rows", "_law_found", "_law_at", "_law_end"] "_law_again" (bf (top 19)) f cdv A outer s H E).nox X0 (jh (top 19)) (ENG.a09) :=
 have SC:=arl
 (az (ams (i:=1) SC.nd rfl (Or.inl rfl) rfl (CSc.noFree (ts:=["_law_at"]) rfl (by decide +kernel) (by decide +kernel) (by decide +kernel)) (sy rfl M.range (aa (pq (L2.CallR.or dj dq) jw rfl M.len n8 (aa (bh 0) au)) au)) (λ_ _ _ _=>(jq (i:=0) (show (["_law_at"]:List Str).Nodup by decide +kernel) rfl (Or.inl rfl) (.inr rfl))) tu (λ_ _ _ _=>(zx (nu (aa (bh 0) au)))))
 (az (a1g PassesOwn.never rfl (ara rfl M.reversed rfl M.range (aa (pq (L2.CallR.or dj dq) jw rfl M.len n8 (aa (bh 0) au)) au)) (qp (i:=2) SC.nd rfl (Or.inl rfl)) (az (a1g PassesOwn.never rfl (uh (bw (bh 0) (bh 2) (λ_ _=>rfl))) (qp (i:=3) SC.nd rfl (Or.inl rfl)) (dg (ph (gk ae5 a8o (bh 3) (bh 2) (j8 _))
 (dg (a4l (zx (j6 (bw (bh 1) (bh 2) (λ_ _=>rfl)) (bw (bh 1) (bh 3) (λ_ _=>rfl)))) (bh 1) (bh 2)))
 jm)))
 (dg (a4l (zx (a5f rfl M.sorted rfl M.set rfl (bw (bh 1) (bh 2) (λ_ _=>rfl)))) (bh 1) (bh 2)))))
 (dg (jj (bh 1)))))
theorem arn:FnScope ["_law_rows", "_law_low", "_law_high", "_law_now", "_law_found", "_law_many"] ["_law_rows", "_law_low", "_law_high"] (bf (top 20)):=⟨rfl,rfl,rfl,by decide +kernel,rfl,by decide +kernel,by decide +kernel⟩
theorem axf{k:Nat}(M:Nm mg){a_15:Addr}{d_15:FuncData}{k_15:Nat}{F_15:SF}(D_15:Dn P w K mg base k_15 "_law_led" ["_law_ends", "_law_rows"] (o6 K 2 F_15) a_15 d_15)(h_15:k_15<=k)(cdv:Value)(A:Around)(outer:List Env)(s:Shared)(H:Hp)(E:XK)(hr:Room k (A.deeper (PyProof.Rows.envOfC "_law_times" (bf (top 20)) s.heap.objs.size f cdv))):MSs (a0w CX0 P w K mg base ["_law_rows", "_law_low", "_law_high", "_law_now", "_law_found", "_law_many"] "_law_times" (bf (top 20)) f cdv A outer s H E).nox X0 (jh (top 20)) (ENG.a0a F_15) :=
 have SC:=arn
 (az (uq (i:=3) SC.nd rfl (Or.inl rfl) rfl (CSc.noFree (ts:=["_law_at"]) rfl (by decide +kernel) (by decide +kernel) (by decide +kernel)) (sy rfl M.range (aa (pq (L2.CallR.or dj dq) jw rfl M.len n8 (aa (bh 0) au)) au)) (λ_ _ _ _=>(jq (i:=0) (show (["_law_at"]:List Str).Nodup by decide +kernel) rfl (Or.inl rfl) (.inr rfl))) tu (λ_ _ _ _=>(zx (nu (aa (bh 0) au)))))
 (az (uq (i:=4) SC.nd rfl (Or.inl rfl) rfl (CSc.noFree (ts:=["_law_at"]) rfl (by decide +kernel) (by decide +kernel) (by decide +kernel)) (sy rfl M.range (aa (pq (L2.CallR.or dj dq) jw rfl M.len n8 (aa (bh 0) au)) au)) (λ_ _ _ _=>(jq (i:=0) (show (["_law_at"]:List Str).Nodup by decide +kernel) rfl (Or.inl rfl) (.inr rfl))) tu (λ_ _ _ _=>(zx (nu au))))
 (az (a1g PassesOwn.never rfl (sy rfl M.range (aa (j6 (bh 2) bc) au)) (qp (i:=5) SC.nd rfl (Or.inl rfl)) (az (ph (gk alq af0 (bh 5) (bh 1) (j8 _))
 (dg (uq (i:=4) SC.nd rfl (Or.inl rfl) rfl (CSc.noFree (ts:=["_law_old", "_law_ends"]) rfl (by decide +kernel) (by decide +kernel) (by decide +kernel)) (af8 rfl M.zip af9 (bh 4) (bh 3)) (λ_ _ _ _=>aaq rfl (zy (jq (i:=0) (show (["_law_old", "_law_ends"]:List Str).Nodup by decide +kernel) rfl (Or.inl rfl) (.inr rfl)) (zy (jq (i:=1) (show (["_law_old", "_law_ends"]:List Str).Nodup by decide +kernel) rfl (Or.inl rfl) (.inr rfl)) a6k))) aeu (λ_ _ _ _=>(zx (a5f rfl M.sorted rfl M.set rfl (zx (j6 (bh 0) (bh 1))))))))
 jm)
 (dg (uq (i:=3) SC.nd rfl (Or.inl rfl) rfl (CSc.of (ts:=["_law_ends"]) (fr:=["_law_rows"]) (ix:=[0]) rfl rfl rfl rfl (by intro p hp;cases List.mem_singleton.mp hp;rfl) rfl rfl rfl rfl) (uh (bh 3)) (λ_ _ _ _=>(jq (i:=0) (show (["_law_ends", "_law_rows"]:List Str).Nodup by decide +kernel) rfl (Or.inl rfl) (.inr rfl))) tu (λ_ _ _ _=>(bj false D_15 (hr.mono h_15) rfl (aa (bh 0) (aa (bh 1) au))))))))
 (dg (jj (bh 4))))))
theorem aro:FnScope ["_law_parts", "_law_size", "_law_now", "_law_rows"] ["_law_parts", "_law_size"] (bf (top 21)):=⟨rfl,rfl,rfl,by decide +kernel,rfl,by decide +kernel,by decide +kernel⟩
theorem axg{k:Nat}(M:Nm mg){a_15:Addr}{d_15:FuncData}{k_15:Nat}{F_15:SF}(D_15:Dn P w K mg base k_15 "_law_led" ["_law_ends", "_law_rows"] (o6 K 2 F_15) a_15 d_15)(h_15:k_15<=k)(cdv:Value)(A:Around)(outer:List Env)(s:Shared)(H:Hp)(E:XK)(hr:Room k (A.deeper (PyProof.Rows.envOfC "_law_row" (bf (top 21)) s.heap.objs.size f cdv))):MSs (a0w CX0 P w K mg base ["_law_parts", "_law_size", "_law_now", "_law_rows"] "_law_row" (bf (top 21)) f cdv A outer s H E).nox X0 (jh (top 21)) (ENG.a2e F_15) :=
 have SC:=aro
 (az (uq (i:=2) SC.nd rfl (Or.inl rfl) rfl (CSc.noFree (ts:=["_law_at"]) rfl (by decide +kernel) (by decide +kernel) (by decide +kernel)) (sy rfl M.range (aa (j6 (bh 1) bc) au)) (λ_ _ _ _=>(jq (i:=0) (show (["_law_at"]:List Str).Nodup by decide +kernel) rfl (Or.inl rfl) (.inr rfl))) tu (λ_ _ _ _=>(zx (nu (aa (bh 0) au)))))
 (az (a1g PassesOwn.never rfl (uh (bh 0)) (qp (i:=3) SC.nd rfl (Or.inr rfl)) (dg (uq (i:=2) SC.nd rfl (Or.inl rfl) rfl (CSc.of (ts:=["_law_ends"]) (fr:=["_law_rows"]) (ix:=[3]) rfl rfl rfl rfl (by intro p hp;cases List.mem_singleton.mp hp;rfl) rfl rfl rfl rfl) (uh (bh 2)) (λ_ _ _ _=>(jq (i:=0) (show (["_law_ends", "_law_rows"]:List Str).Nodup by decide +kernel) rfl (Or.inl rfl) (.inr rfl))) tu (λ_ _ _ _=>(bj false D_15 (hr.mono h_15) rfl (aa (bh 0) (aa (bh 1) au)))))))
 (dg (jj (bh 2)))))
theorem arp:FnScope ["_law_shape_here", "_law_word_here", "_law_size", "_law_below", "_law_firsts", "_law_own"] ["_law_shape_here", "_law_word_here"] (bf (top 22)):=⟨rfl,rfl,rfl,by decide +kernel,rfl,by decide +kernel,by decide +kernel⟩
theorem axh{k:Nat}(M:Nm mg){a_16:Addr}{d_16:FuncData}{k_16:Nat}{F_16:SF}(D_16:Dn P w K mg base k_16 "_law_again" ["_law_rows"] (o6 K 1 F_16) a_16 d_16)(h_16:k_16<=k){a_19:Addr}{at6:FuncData}{k_19:Nat}{F_19:SF}(D_19:Dn P w K mg base k_19 "_law_all" ["_law_shape_here", "_law_word_here"] (o6 K 2 F_19) a_19 at6)(h_19:k_19<=k){a_13:Addr}{d_13:FuncData}{k_13:Nat}{F_13:SF}(D_13:Dn P w K mg base k_13 "_law_inner" ["_law_shape_here"] (o6 K 1 F_13) a_13 d_13)(h_13:k_13<=k){a_18:Addr}{d_18:FuncData}{k_18:Nat}{F_18:SF}(D_18:Dn P w K mg base k_18 "_law_row" ["_law_parts", "_law_size"] (o6 K 2 F_18) a_18 d_18)(h_18:k_18<=k){a_17:Addr}{d_17:FuncData}{k_17:Nat}{F_17:SF}(D_17:Dn P w K mg base k_17 "_law_times" ["_law_rows", "_law_low", "_law_high"] (o6 K 3 F_17) a_17 d_17)(h_17:k_17<=k)(cdv:Value)(A:Around)(outer:List Env)(s:Shared)(H:Hp)(E:XK)(hr:Room k (A.deeper (PyProof.Rows.envOfC "_law_all" (bf (top 22)) s.heap.objs.size f cdv))):MSs (a0w CX0 P w K mg base ["_law_shape_here", "_law_word_here", "_law_size", "_law_below", "_law_firsts", "_law_own"] "_law_all" (bf (top 22)) f cdv A outer s H E).nox X0 (jh (top 22)) (ENG.a0t F_16 F_19 F_13 F_18 F_17) :=
 have SC:=arp
 (az (jc (i:=2) SC.nd rfl (Or.inl rfl) (pq (L2.CallR.or dj dq) jw rfl M.len n8 (aa (bh 1) au)))
 (az (ph (gk (o7 hr.u) kj (bw (bh 0) bc (λ_ _=>rfl)) jk (j8 _))
 (dg (jj (nu (aa (zx (a03 rfl (CSc.of (ts:=["_law_at"]) (fr:=["_law_shape_here", "_law_word_here"]) (ix:=[0,1]) rfl rfl rfl rfl (by intro p hp;simp only [List.mem_cons,List.not_mem_nil,or_false] at hp;rcases hp with rfl | rfl<;>rfl) rfl rfl rfl rfl) (sy rfl M.range (aa (j6 (bh 2) bc) au)) (λ_ _ _ _=>(jq (i:=0) (show (["_law_at", "_law_shape_here", "_law_word_here"]:List Str).Nodup by decide +kernel) rfl (Or.inl rfl) (.inr rfl))) tu (λ_ _ _ _=>(zx (km (zx (nu (aa (j6 (bh 0) bc) au))) qu (oh (a0k a4c a9t rfl M.int aei (aa (akm (yo (aqk hr.u) amk (km (bh 2) (oh (bh 0)) (oh (j6 (bh 0) bc))) jk (j8 _)) (aeo (yo (a2o.or yx) a2q (km (bh 2) (oh (bh 0)) (oh (j6 (bh 0) bc))) (bw (bh 1) bc (λ_ _=>rfl)) (by with_unfolding_all rfl)))) au)))))))) au))))
 jm)
 (az (uq (i:=3) SC.nd rfl (Or.inl rfl) rfl (CSc.of (ts:=["_law_part"]) (fr:=["_law_word_here"]) (ix:=[1]) rfl rfl rfl rfl (by intro p hp;cases List.mem_singleton.mp hp;rfl) rfl rfl rfl rfl) (uh (bj false D_13 (hr.mono h_13) rfl (aa (bh 0) au))) (λ_ _ _ _=>(jq (i:=0) (show (["_law_part", "_law_word_here"]:List Str).Nodup by decide +kernel) rfl (Or.inl rfl) (.inr rfl))) tu (λ_ _ _ _=>(bj false D_19 (hr.mono h_19) rfl (aa (bh 0) (aa (bh 1) au)))))
 (az (jc (i:=4) SC.nd rfl (Or.inr rfl) (zx (a03 rfl (CSc.noFree (ts:=["_law_rows"]) rfl (by decide +kernel) (by decide +kernel) (by decide +kernel)) (uh (bh 3)) (λ_ _ _ _=>(jq (i:=0) (show (["_law_rows"]:List Str).Nodup by decide +kernel) rfl (Or.inl rfl) (.inr rfl))) tu (λ_ _ _ _=>(bw (bh 0) bc (λ_ _=>rfl))))))
 (az (ph (gk (o7 hr.u) kj (bw (bh 0) bc (λ_ _=>rfl)) jk (j8 _))
 (dg (jc (i:=5) SC.nd rfl (Or.inl rfl) (bj false D_16 (hr.mono h_16) rfl (aa (bw (bh 4) bc (λ_ _=>rfl)) au))))
 (dg (ph (gk (o7 hr.u) kj (bw (bh 0) bc (λ_ _=>rfl)) jk (j8 _))
 (dg (jc (i:=5) SC.nd rfl (Or.inl rfl) (bj false D_17 (hr.mono h_17) rfl (aa (bw (bh 4) bc (λ_ _=>rfl)) (aa (bw (bh 0) bc (λ_ _=>rfl)) (aa (bw (bh 0) bc (λ_ _=>rfl)) au))))))
 (dg (ph (gk (o7 hr.u) kj (bw (bh 0) bc (λ_ _=>rfl)) jk (j8 _))
 (dg (jc (i:=5) SC.nd rfl (Or.inl rfl) (bj false D_18 (hr.mono h_18) rfl (aa (bh 4) (aa (bh 2) au)))))
 (dg (agi (i:=5) SC.nd rfl (Or.inl rfl) rfl (CSd.of (t := "_law_at") (ts:=["_law_at"]) (fr:=["_law_firsts"]) (ix:=[4]) rfl rfl (λ_=>rfl) (λ_=>rfl) rfl (by intro p hp;cases List.mem_singleton.mp hp;rfl) rfl rfl rfl) (sy rfl M.range (aa (j6 (bh 2) bc) au)) (λ_ _ _ _=>(jq (i:=0) (show (["_law_at", "_law_firsts"]:List Str).Nodup by decide +kernel) rfl (Or.inr rfl) (.inl (beq_self_eq_true _)))) tu (λ_ _ _ _=>(zx (a5f rfl M.sorted rfl M.set rfl (zx (pq (a94 rfl) abp rfl M.sum aks (aa (zx (a03 rfl (CSc.of (ts:=["_law_rows"]) (fr:=["_law_at"]) (ix:=[0]) rfl rfl rfl rfl (by intro p hp;cases List.mem_singleton.mp hp;rfl) rfl rfl rfl rfl) (uh (bh 1)) (λ_ _ _ _=>(jq (i:=0) (show (["_law_rows", "_law_at"]:List Str).Nodup by decide +kernel) rfl (Or.inl rfl) (.inr rfl))) tu (λ_ _ _ _=>(bw (bh 0) (bh 1) (λ_ _=>rfl))))) (aa (zx (nu au)) au))))))))))))))
 (dg (jj (j6 (zx (nu (aa (bh 5) au))) (zx (pq (a94 rfl) abp rfl M.sum aks (aa (bh 3) (aa (zx (nu au)) au))))))))))))
theorem arq:FnScope ["_law_pen_here", "_law_shape_here", "_law_number", "_law_low", "_law_high", "_law_size"] ["_law_pen_here", "_law_shape_here"] (bf (top 23)):=⟨rfl,rfl,rfl,by decide +kernel,rfl,by decide +kernel,by decide +kernel⟩
theorem axi{k:Nat}(M:Nm mg){a_20:Addr}{at7:FuncData}{k_20:Nat}{F_20:SF}(D_20:Dn P w K mg base k_20 "_law_paper" ["_law_pen_here", "_law_shape_here"] (o6 K 2 F_20) a_20 at7)(h_20:k_20<=k){a_9:Addr}{d_9:FuncData}{k_9:Nat}{F_9:SF}(D_9:Dn P w K mg base k_9 "_law_take" ["_law_pen_here", "_law_many"] (o6 K 2 F_9) a_9 d_9)(h_9:k_9<=k)(cdv:Value)(A:Around)(outer:List Env)(s:Shared)(H:Hp)(E:XK)(hr:Room k (A.deeper (PyProof.Rows.envOfC "_law_paper" (bf (top 23)) s.heap.objs.size f cdv))):MSs (a0w CX0 P w K mg base ["_law_pen_here", "_law_shape_here", "_law_number", "_law_low", "_law_high", "_law_size"] "_law_paper" (bf (top 23)) f cdv A outer s H E).nox X0 (jh (top 23)) (SHD.um F_20 F_9) :=
 have SC:=arq
 (az (ph (gk (o7 hr.u) kj (bw (bh 1) bc (λ_ _=>rfl)) jk (j8 _))
 (dg (jj (qi (aa jk (aa (bw (bw (bh 1) bc (λ_ _=>rfl)) (bj false D_9 (hr.mono h_9) rfl (aa (bh 0) (aa (pq (L2.CallR.or dj dq) jw rfl M.len n8 (aa (bw (bh 1) bc (λ_ _=>rfl)) au)) au))) (λ_ _=>rfl)) au)))))
 jm)
 (az (ph (gk (o7 hr.u) kj (bw (bh 1) bc (λ_ _=>rfl)) jk (j8 _))
 (az (jc (i:=2) SC.nd rfl (Or.inl rfl) (bj false D_9 (hr.mono h_9) rfl (aa (bh 0) (aa (pq (L2.CallR.or dj dq) jw rfl M.len n8 (aa (bw (bh 1) bc (λ_ _=>rfl)) au)) au))))
 (dg (jj (qi (aa jk (aa (bh 2) (aa (bj false D_20 (hr.mono h_20) rfl (aa (bh 0) (aa (bw (bw (bh 1) bc (λ_ _=>rfl)) (bh 2) (λ_ _=>rfl)) au))) au)))))))
 jm)
 (az (ph (gk (o7 hr.u) kj (bw (bh 1) bc (λ_ _=>rfl)) jk (j8 _))
 (dg (jj (qi (aa jk (aa (a0k (L2.CallR.or rn (v6 rfl)) a0m rfl M.tuple a1t (aa (zx (a03 rfl (CSc.of (ts:=["_law_part"]) (fr:=["_law_pen_here"]) (ix:=[0]) rfl rfl rfl rfl (by intro p hp;cases List.mem_singleton.mp hp;rfl) rfl rfl rfl rfl) (uh (bw (bh 1) bc (λ_ _=>rfl))) (λ_ _ _ _=>(jq (i:=0) (show (["_law_part", "_law_pen_here"]:List Str).Nodup by decide +kernel) rfl (Or.inl rfl) (.inr rfl))) tu (λ_ _ _ _=>(bj false D_20 (hr.mono h_20) rfl (aa (bh 1) (aa (bh 0) au)))))) au)) au)))))
 jm)
 (az (jc (i:=3) SC.nd rfl (Or.inl rfl) bc)
 (az (jc (i:=4) SC.nd rfl (Or.inl rfl) bc)
 (az (ph (gk (o7 hr.u) kj (bw (bh 1) bc (λ_ _=>rfl)) jk (j8 _))
 (az (jc (i:=3) SC.nd rfl (Or.inl rfl) (bw (bh 1) bc (λ_ _=>rfl)))
 (dg (jc (i:=4) SC.nd rfl (Or.inl rfl) (bw (bh 1) bc (λ_ _=>rfl)))))
 jm)
 (az (jc (i:=5) SC.nd rfl (Or.inl rfl) (j6 (bh 3) (bj false D_9 (hr.mono h_9) rfl (aa (bh 0) (aa (j6 (a67 (bh 4) (bh 3)) bc) au)))))
 (dg (jj (qi (aa (bw (bh 1) bc (λ_ _=>rfl)) (aa (a0k (L2.CallR.or rn (v6 rfl)) a0m rfl M.tuple a1t (aa (zx (a03 rfl (CSc.of (ts:=["_law_k"]) (fr:=["_law_pen_here", "_law_shape_here"]) (ix:=[0,1]) rfl rfl rfl rfl (by intro p hp;simp only [List.mem_cons,List.not_mem_nil,or_false] at hp;rcases hp with rfl | rfl<;>rfl) rfl rfl rfl rfl) (sy rfl M.range (aa (bh 5) au)) (λ_ _ _ _=>(jq (i:=0) (show (["_law_k", "_law_pen_here", "_law_shape_here"]:List Str).Nodup by decide +kernel) rfl (Or.inl rfl) (.inr rfl))) tu (λ_ _ _ _=>(bj false D_20 (hr.mono h_20) rfl (aa (bh 1) (aa (bw (bh 2) bc (λ_ _=>rfl)) au)))))) au)) au))))))))))))
theorem ars:FnScope ["_law_paper_here"] ["_law_paper_here"] (bf (top 24)):=⟨rfl,rfl,rfl,by decide +kernel,rfl,by decide +kernel,by decide +kernel⟩
theorem axj{k:Nat}{a_21:Addr}{at8:FuncData}{k_21:Nat}{F_21:SF}(D_21:Dn P w K mg base k_21 "_law_said" ["_law_paper_here"] (o6 K 1 F_21) a_21 at8)(h_21:k_21<=k)(cdv:Value)(A:Around)(outer:List Env)(s:Shared)(H:Hp)(E:XK)(hr:Room k (A.deeper (PyProof.Rows.envOfC "_law_said" (bf (top 24)) s.heap.objs.size f cdv))):MSs (a0w CX0 P w K mg base ["_law_paper_here"] "_law_said" (bf (top 24)) f cdv A outer s H E).nox X0 (jh (top 24)) (SHD.zg F_21) :=
 have SC:=ars
 (az (ph (gk (o7 hr.u) kj (bw (bh 0) bc (λ_ _=>rfl)) jk (j8 _))
 (dg (jj (bw (bh 0) bc (λ_ _=>rfl))))
 jm)
 (az (ph (gk (o7 hr.u) kj (bw (bh 0) bc (λ_ _=>rfl)) jk (j8 _))
 (dg (jj (bj false D_21 (hr.mono h_21) rfl (aa (bw (bh 0) bc (λ_ _=>rfl)) au))))
 jm)
 (dg (jj (aqg PySem.F.slot_str_join PySem.F.type_str_join aek ab3 jk (aa (zx (a03 rfl (CSc.noFree (ts:=["_law_one"]) rfl (by decide +kernel) (by decide +kernel) (by decide +kernel)) (uh (bw (bh 0) bc (λ_ _=>rfl))) (λ_ _ _ _=>(jq (i:=0) (show (["_law_one"]:List Str).Nodup by decide +kernel) rfl (Or.inl rfl) (.inr rfl))) tu (λ_ _ _ _=>(bj false D_21 (hr.mono h_21) rfl (aa (bh 0) au))))) au))))))
theorem art:FnScope ["_law_found", "_law_due"] ["_law_found", "_law_due"] (bf (top 25)):=⟨rfl,rfl,rfl,by decide +kernel,rfl,by decide +kernel,by decide +kernel⟩
theorem axk{k:Nat}(M:Nm mg)(cdv:Value)(A:Around)(outer:List Env)(s:Shared)(H:Hp)(E:XK)(hr:Room k (A.deeper (PyProof.Rows.envOfC "_law_is" (bf (top 25)) s.heap.objs.size f cdv))):MSs (a0w CX0 P w K mg base ["_law_found", "_law_due"] "_law_is" (bf (top 25)) f cdv A outer s H E).nox X0 (jh (top 25)) (a3v) :=
 have SC:=art
 (dg (jj (akm (pq (L2.CallR.or a9m a8x) aiz rfl M.isinstance a6r (aa (bh 0) (aa (aui rfl M.bool amm) au))) (aeo (yo (o7 hr.u) kj (bh 0) (bh 1) (j8 _))))))
theorem aru:FnScope ["_law_pen_here", "_law_some_here", "_law_word_here", "_law_at", "_law_sign", "_law_words"] ["_law_pen_here", "_law_some_here", "_law_word_here"] (bf (top 26)):=⟨rfl,rfl,rfl,by decide +kernel,rfl,by decide +kernel,by decide +kernel⟩
theorem axl{k:Nat}(M:Nm mg){a_9:Addr}{d_9:FuncData}{k_9:Nat}{F_9:SF}(D_9:Dn P w K mg base k_9 "_law_take" ["_law_pen_here", "_law_many"] (o6 K 2 F_9) a_9 d_9)(h_9:k_9<=k){a_14:Addr}{d_14:FuncData}{k_14:Nat}{F_14:SF}(D_14:Dn P w K mg base k_14 "_law_word" ["_law_pen_here", "_law_tongue", "_law_most"] (o6 K 3 F_14) a_14 d_14)(h_14:k_14<=k)(cdv:Value)(A:Around)(outer:List Env)(s:Shared)(H:Hp)(E:XK)(hr:Room k (A.deeper (PyProof.Rows.envOfC "_law_near" (bf (top 26)) s.heap.objs.size f cdv))):MSs (a0w CX0 P w K mg base ["_law_pen_here", "_law_some_here", "_law_word_here", "_law_at", "_law_sign", "_law_words"] "_law_near" (bf (top 26)) f cdv A outer s H E).nox X0 (jh (top 26)) (a1b F_9 F_14) :=
 have SC:=aru
 (az (jc (i:=3) SC.nd rfl (Or.inl rfl) (bj false D_9 (hr.mono h_9) rfl (aa (bh 0) (aa (pq (ae7 rfl) aic rfl M.max aql (aa bc (aa (pq (L2.CallR.or dj dq) jw rfl M.len n8 (aa (bh 2) au)) au))) au))))
 (az (jc (i:=4) SC.nd rfl (Or.inl rfl) (bw (bh 1) (bj false D_9 (hr.mono h_9) rfl (aa (bh 0) (aa (pq (L2.CallR.or dj dq) jw rfl M.len n8 (aa (bh 1) au)) au))) (λ_ _=>rfl)))
 (az (jc (i:=5) SC.nd rfl (Or.inl rfl) (zx (nu (aa (j6 (j6 (km (bh 2) qu (oh (bh 3))) (bh 4)) (km (bh 2) (oh (j6 (bh 3) bc)) qu)) (aa (j6 (j6 (km (bh 2) qu (oh (bh 3))) (bh 4)) (km (bh 2) (oh (bh 3)) qu)) (aa (j6 (km (bh 2) qu (oh (bh 3))) (km (bh 2) (oh (j6 (bh 3) bc)) qu)) au))))))
 (dg (jj (km (bw (zx (j6 (bh 5) (zx (nu (aa (j6 (km (bh 2) (oh (bh 3)) qu) (km (bh 2) qu (oh (bh 3)))) (aa (bj false D_14 (hr.mono h_14) rfl (aa (bh 0) (aa (bh 1) (aa bc au)))) au)))))) (bj false D_9 (hr.mono h_9) rfl (aa (bh 0) (aa bc au))) (λ_ _=>rfl)) qu (oh bc)))))))
theorem arv:FnScope ["_law_shapes", "_law_words", "_law_first", "_law_second", "_law_shape_here", "_law_word_here"] ["_law_shapes", "_law_words"] (bf (top 27)):=⟨rfl,rfl,rfl,by decide +kernel,rfl,by decide +kernel,by decide +kernel⟩
theorem axm{k:Nat}(M:Nm mg){a_1:Addr}{d_1:FuncData}{k_1:Nat}{F_1:SF}(D_1:Dn P w K mg base k_1 "takes" ["shape", "word"] (o6 K 2 F_1) a_1 d_1)(h_1:k_1<=k)(cdv:Value)(A:Around)(outer:List Env)(s:Shared)(H:Hp)(E:XK)(hr:Room k (A.deeper (PyProof.Rows.envOfC "_law_both" (bf (top 27)) s.heap.objs.size f cdv))):MSs (a0w CX0 P w K mg base ["_law_shapes", "_law_words", "_law_first", "_law_second", "_law_shape_here", "_law_word_here"] "_law_both" (bf (top 27)) f cdv A outer s H E).nox X0 (jh (top 27)) (a1c F_1) :=
 have SC:=arv
 (az (akn (bh 1) (anm rfl (a0x (qp (i:=2) SC.nd rfl (Or.inl rfl)) (a0x (qp (i:=3) SC.nd rfl (Or.inl rfl)) a9q))))
 (az (ph (PW.pt (a1u (gk (a2l.or nq) yz (pq (L2.CallR.or dj dq) jw rfl M.len n8 (aa (j6 (bh 2) (bh 3)) au)) bc (j8 _)) (a01 (gk (a1n.or qm) xf (bj false D_1 (hr.mono h_1) rfl (aa (qi (aa jk (aa (bh 0) au))) (aa (j6 (bh 2) (bh 3)) au))) a8l (j8 _)))))
 a4p
 jm)
 (az (a1g PassesOwn.never rfl (af8 rfl M.zip af9 (bh 0) (bh 1)) (aes rfl (a0x (qp (i:=4) SC.nd rfl (Or.inl rfl)) (a0x (qp (i:=5) SC.nd rfl (Or.inl rfl)) a9q))) (az (ph (PW.pt (acs (gk (a1n.or qm) xf (bj false D_1 (hr.mono h_1) rfl (aa (qi (aa jk (aa (bh 0) au))) (aa (bh 5) au))) a8l (j8 _)) (a8m (gk (a1n.or qm) xf (bj false D_1 (hr.mono h_1) rfl (aa (qi (aa jk (aa (bh 4) (aa bc (aa bc au))))) (aa jk au))) a8l (j8 _)))))
 a4p
 jm)
 (az (ph (PW.pt (a1u (gk (a2l.or nq) yz (pq (L2.CallR.or dj dq) jw rfl M.len n8 (aa (bh 5) au)) bc (j8 _)) (a01 (gk (a1n.or qm) xf (bj false D_1 (hr.mono h_1) rfl (aa (qi (aa jk (aa (bh 4) (aa bc (aa bc au))))) (aa (j6 (bh 5) (bh 5)) au))) a8l (j8 _)))))
 a4p
 jm)
 (dg (ph (PW.pt (a1u (gk (a2l.or nq) yz (pq (L2.CallR.or dj dq) jw rfl M.len n8 (aa (bh 5) au)) bc (j8 _)) (a01 (gk (a1n.or qm) xf (bj false D_1 (hr.mono h_1) rfl (aa (qi (aa jk (aa (bh 4) au))) (aa (j6 (bh 5) (bh 5)) au))) a8l (j8 _)))))
 a4p
 jm)))))
 (dg (jj (yo (aph.or ai2) aq8 (bj false D_1 (hr.mono h_1) rfl (aa (qi (aa jk (aa (bw (bh 0) bc (λ_ _=>rfl)) au))) (aa jk au))) a8l (j8 _)))))))
theorem arw:FnScope ["_law_script", "_law_pen_here", "_law_some_here", "_law_turn", "_law_shape_here", "_law_word_here", "_law_other", "_law_due", "_law_shapes", "_law_words"] ["_law_script"] (bf (top 28)):=⟨rfl,rfl,rfl,by decide +kernel,rfl,by decide +kernel,by decide +kernel⟩
theorem axn{k:Nat}(M:Nm mg){a_19:Addr}{at6:FuncData}{k_19:Nat}{F_19:SF}(D_19:Dn P w K mg base k_19 "_law_all" ["_law_shape_here", "_law_word_here"] (o6 K 2 F_19) a_19 at6)(h_19:k_19<=k){a_24:Addr}{d_24:FuncData}{k_24:Nat}{F_24:SF}(D_24:Dn P w K mg base k_24 "_law_both" ["_law_shapes", "_law_words"] (o6 K 2 F_24) a_24 d_24)(h_24:k_24<=k){a_22:Addr}{d_22:FuncData}{k_22:Nat}{F_22:SF}(D_22:Dn P w K mg base k_22 "_law_is" ["_law_found", "_law_due"] (o6 K 2 F_22) a_22 d_22)(h_22:k_22<=k){a_23:Addr}{d_23:FuncData}{k_23:Nat}{F_23:SF}(D_23:Dn P w K mg base k_23 "_law_near" ["_law_pen_here", "_law_some_here", "_law_word_here"] (o6 K 3 F_23) a_23 d_23)(h_23:k_23<=k){a_20:Addr}{at7:FuncData}{k_20:Nat}{F_20:SF}(D_20:Dn P w K mg base k_20 "_law_paper" ["_law_pen_here", "_law_shape_here"] (o6 K 2 F_20) a_20 at7)(h_20:k_20<=k){a_8:Addr}{d_8:FuncData}{k_8:Nat}{F_8:SF}(D_8:Dn P w K mg base k_8 "_law_pen" ["_law_script"] (o6 K 1 F_8) a_8 d_8)(h_8:k_8<=k){a_21:Addr}{at8:FuncData}{k_21:Nat}{F_21:SF}(D_21:Dn P w K mg base k_21 "_law_said" ["_law_paper_here"] (o6 K 1 F_21) a_21 at8)(h_21:k_21<=k){a_12:Addr}{at5:FuncData}{k_12:Nat}{F_12:SF}(D_12:Dn P w K mg base k_12 "_law_shape" ["_law_pen_here", "_law_purse", "_law_deep", "_law_tongue"] (o6 K 4 F_12) a_12 at5)(h_12:k_12<=k){a_10:Addr}{d_10:FuncData}{k_10:Nat}{F_10:SF}(D_10:Dn P w K mg base k_10 "_law_signs" [] (o6 K 0 F_10) a_10 d_10)(h_10:k_10<=k){a_11:Addr}{d_11:FuncData}{k_11:Nat}{F_11:SF}(D_11:Dn P w K mg base k_11 "_law_some" ["_law_pen_here", "_law_rest", "_law_most"] (o6 K 3 F_11) a_11 d_11)(h_11:k_11<=k){a_9:Addr}{d_9:FuncData}{k_9:Nat}{F_9:SF}(D_9:Dn P w K mg base k_9 "_law_take" ["_law_pen_here", "_law_many"] (o6 K 2 F_9) a_9 d_9)(h_9:k_9<=k){a_1:Addr}{d_1:FuncData}{k_1:Nat}{F_1:SF}(D_1:Dn P w K mg base k_1 "takes" ["shape", "word"] (o6 K 2 F_1) a_1 d_1)(h_1:k_1<=k)(cdv:Value)(A:Around)(outer:List Env)(s:Shared)(H:Hp)(E:XK)(hr:Room k (A.deeper (PyProof.Rows.envOfC "law" (bf (top 28)) s.heap.objs.size f cdv))):MSs (a0w CX0 P w K mg base ["_law_script", "_law_pen_here", "_law_some_here", "_law_turn", "_law_shape_here", "_law_word_here", "_law_other", "_law_due", "_law_shapes", "_law_words"] "law" (bf (top 28)) f cdv A outer s H E).nox X0 (jh (top 28)) (ajq F_19 F_24 F_22 F_23 F_20 F_8 F_21 F_12 F_10 F_11 F_9 F_1) :=
 have SC:=arw
 (az (jc (i:=1) SC.nd rfl (Or.inr rfl) (bj true D_8 (hr.mono h_8) rfl (aa (bh 0) au)))
 (az (jc (i:=2) SC.nd rfl (Or.inl rfl) (bj false D_11 (hr.mono h_11) rfl (aa (bh 1) (aa (afg false D_10 (hr.mono h_10) rfl) (aa (bw (zx (nu (aa bc (aa bc (aa bc (aa bc au)))))) (bj false D_9 (hr.mono h_9) rfl (aa (bh 1) (aa bc au))) (λ_ _=>rfl)) au)))))
 (az (a1g PassesOwn.never rfl (sy rfl M.range (aa bc au)) (qp (i:=3) SC.nd rfl (Or.inl rfl)) (az (jc (i:=4) SC.nd rfl (Or.inl rfl) (bj false D_12 (hr.mono h_12) rfl (aa (bh 1) (aa (nu (aa (bw (zx (nu (aa bc (aa bc au)))) (bj false D_9 (hr.mono h_9) rfl (aa (bh 1) (aa bc au))) (λ_ _=>rfl)) au)) (aa bc (aa (bh 2) au))))))
 (az (jc (i:=5) SC.nd rfl (Or.inl rfl) (bj false D_21 (hr.mono h_21) rfl (aa (bj false D_20 (hr.mono h_20) rfl (aa (bh 1) (aa (bh 4) au))) au)))
 (az (ph (PW.pt (a1u (gk (a2l.or nq) yz (pq (L2.CallR.or dj dq) jw rfl M.len n8 (aa (bh 5) au)) bc (j8 _)) (a01 (gk (a1n.or qm) xf (bj false D_1 (hr.mono h_1) rfl (aa (bh 4) (aa (bh 5) au))) a8l (j8 _)))))
 a4p
 jm)
 (az (jc (i:=6) SC.nd rfl (Or.inl rfl) (bj false D_23 (hr.mono h_23) rfl (aa (bh 1) (aa (bh 2) (aa (km (bh 5) qu (oh bc)) au)))))
 (az (jc (i:=7) SC.nd rfl (Or.inl rfl) (yo (a2o.or yx) a2q (pq (L2.CallR.or dj dq) jw rfl M.len n8 (aa (bh 6) au)) (bw (bw (bj false D_19 (hr.mono h_19) rfl (aa (bh 4) (aa (bh 6) au))) bc (λ_ _=>rfl)) bc (λ_ _=>rfl)) (by with_unfolding_all rfl)))
 (az (ph (PW.pt (acs (akl (akk (bj false D_22 (hr.mono h_22) rfl (aa (bj false D_1 (hr.mono h_1) rfl (aa (bh 4) (aa (bh 6) au))) (aa (bh 7) au))))) (a8m (akl (akk (bj false D_22 (hr.mono h_22) rfl (aa (bj false D_1 (hr.mono h_1) rfl (aa (bh 4) (aa jk au))) (aa (yo (a2o.or yx) a2q bc (bw (bw (bj false D_19 (hr.mono h_19) rfl (aa (bh 4) (aa jk au))) bc (λ_ _=>rfl)) bc (λ_ _=>rfl)) (by with_unfolding_all rfl)) au))))))))
 a4p
 jm)
 (dg (ph (PW.pt (a1u (gk (a2l.or nq) yz (pq (L2.CallR.or dj dq) jw rfl M.len n8 (aa (bh 5) au)) bc (j8 _)) (a01 (gk (a1n.or qm) xf (bj false D_1 (hr.mono h_1) rfl (aa (bh 4) (aa (bh 5) au))) a8l (j8 _)))))
 a4p
 jm)))))))))
 (az (jc (i:=8) SC.nd rfl (Or.inl rfl) (qi (aa (bj false D_12 (hr.mono h_12) rfl (aa (bh 1) (aa (nu (aa bc au)) (aa bc (aa (bh 2) au))))) (aa (bj false D_12 (hr.mono h_12) rfl (aa (bh 1) (aa (nu (aa bc au)) (aa bc (aa (bh 2) au))))) au))))
 (az (uq (i:=9) SC.nd rfl (Or.inl rfl) rfl (CSc.of (ts:=["_law_one"]) (fr:=["_law_pen_here"]) (ix:=[1]) rfl rfl rfl rfl (by intro p hp;cases List.mem_singleton.mp hp;rfl) rfl rfl rfl rfl) (uh (bh 8)) (λ_ _ _ _=>(jq (i:=0) (show (["_law_one", "_law_pen_here"]:List Str).Nodup by decide +kernel) rfl (Or.inl rfl) (.inr rfl))) tu (λ_ _ _ _=>(km (bj false D_21 (hr.mono h_21) rfl (aa (bj false D_20 (hr.mono h_20) rfl (aa (bh 1) (aa (bh 0) au))) au)) qu (oh bc))))
 (az (ain (i:=9) SC.nd rfl (Or.inl rfl) rfl (CSc.noFree (ts:=["_law_one", "_law_word_here"]) rfl (by decide +kernel) (by decide +kernel) (by decide +kernel)) (af8 rfl M.zip af9 (bh 8) (bh 9)) (λ_ _ _ _=>aaq rfl (zy (jq (i:=0) (show (["_law_one", "_law_word_here"]:List Str).Nodup by decide +kernel) rfl (Or.inl rfl) (.inr rfl)) (zy (jq (i:=1) (show (["_law_one", "_law_word_here"]:List Str).Nodup by decide +kernel) rfl (Or.inl rfl) (.inr rfl)) a6k))) aeu (λ_ _ _ _=>(bh 1)) (λ_ _ _ _=>(gk (a2o.or yx) a2q (pq (L2.CallR.or dj dq) jw rfl M.len n8 (aa (bh 1) au)) (bw (bw (bj false D_19 (hr.mono h_19) rfl (aa (bh 0) (aa (bh 1) au))) bc (λ_ _=>rfl)) bc (λ_ _=>rfl)) (by with_unfolding_all rfl))))
 (dg (jj (auk (yo (a2l.or nq) yz (pq (L2.CallR.or dj dq) jw rfl M.len n8 (aa (bh 9) au)) bc (j8 _)) (aeo (bj false D_24 (hr.mono h_24) rfl (aa (bh 8) (aa (bh 9) au)))))))))))))
end
end K08
namespace SRC
open PySem PySem.Spec L2 MI
end SRC
namespace HND
open PySem PySem.Spec L2 MI
noncomputable def xg:SS :=
 (ju (mq 0 (sC (.str " !\"#$&'()*+,-./0123456789:;<=>?@ABCDEFGHIJKLMNOPQRSTUVWXYZ[\\]^_`")))
 (ug (s2 j5 (sV 0) (sC (.str "abcdefghijklmnopqrstuvwxyz{|}~\n")))))
end HND
namespace MI
open PySem PySem.Spec L2
abbrev S(l:List Nat):Str:=⟨l.toArray⟩
theorem aaa(l:List Nat):(S l).cps.toList=l:=by simp
theorem a7i(l:List Nat):(S l).length=l.length:=by simp [Str.length]
theorem ano(x:Str):S x.cps.toList=x:=by cases x;simp
theorem anp(a b:List Nat):S a++S b=S (a++b):=by rw [<-ano (S a++S b),auf]
theorem auw{a b:List Nat}(h:S a=S b):a=b:=by
 have:=congrArg (λx:Str=>x.cps.toList) h
 simpa using this
theorem auy(a b:List Nat):(S a == S b)=decide (a=b):=by
 by_cases h:a=b
 ·subst h;simp
 ·have:¬ S a=S b:=λz=>h (auw z)
  simp [h]
section
variable{h:Hd}{a b l:List Nat}{i:Nat}{c:Nat}
theorem arx(hl:l.length<=LINE)(e:l[i]? = some c):gIx (.str (S l)) (.int (i:Nat)) h = .ok (.str (S [c])) h:=by
 unfold gIx;simp only [a7i,if_pos hl,aaa,ul e]
theorem a5t(hl:a.length+b.length<=LINE):j5 (.str (S a)) (.str (S b)) h = .ok (.str (S (a++b))) h:=by
 unfold j5;simp only [a7i,if_pos hl,anp]
theorem a1q(hl:l.length<=LINE):qg [.str (S l)] h = .ok (.int l.length) h:=by
 unfold qg;simp only [a7i,if_pos hl]
theorem arz(k:Nat)(hl:l.length<=LINE):a69 (.str (S l)) none (some (k:Int)) h = .ok (.str (S (l.take k))) h:=by
 show gSl (.str (S l)) none (some (k:Int)) h=_;unfold gSl;simp only [a7i,if_pos hl,aaa,a6s]
theorem agj(k:Nat)(hl:l.length<=LINE):a69 (.str (S l)) (some (k:Int)) none h = .ok (.str (S (l.drop k))) h:=by
 show gSl (.str (S l)) (some (k:Int)) none h=_;unfold gSl;simp only [a7i,if_pos hl,aaa,a8k]
theorem axo(j k:Nat)(hl:l.length<=LINE):a69 (.str (S l)) (some (j:Int)) (some (k:Int)) h = .ok (.str (S ((l.drop j).take (k - j)))) h:=by
 show gSl (.str (S l)) (some (j:Int)) (some (k:Int)) h=_;unfold gSl;simp only [a7i,if_pos hl,aaa,am5]
end
section
variable{h:Hd}{i j:Int}{xs ys:List D}
theorem a4e:gIx (.tup xs) (.int i) h=(match atI xs i with | some d=>.ok d h | none=>.no):=rfl
theorem a99:gIx (.rol xs) (.int i) h=(match atI xs i with | some d=>.ok d h | none=>.no):=rfl
theorem a9a{k:Nat}:gIx (.ref k) (.int i) h=(match a1h (.ref k) h with | some xs=>(match atI xs i with | some d=>.ok d h | none=>.no) | none=>.no):=rfl
theorem a7j:qg [.tup xs] h = .ok (.int xs.length) h:=rfl
theorem a7k:qg [.rol xs] h = .ok (.int xs.length) h:=rfl
theorem a7l{k:Nat}:qg [.ref k] h=(match a1h (.ref k) h with | some xs=>.ok (.int xs.length) h | none=>.no):=rfl
theorem abq:j5 (.int i) (.int j) h = .ok (.int (i+j)) h:=rfl
theorem a7m:aun (.int i) (.int j) h = .ok (.int (i+j)) h:=rfl
open Classical in
theorem abr:a1x (.int i) (.int j) h=if CMul i j then .ok (.int (i*j)) h else .no:=by unfold a1x;rfl
theorem a2g(b:Bool):tru (.bl b) h = .ok b h:=rfl
theorem a7n:tru (.int i) h = .ok (i != 0) h:=rfl
theorem a7o:tru (.rol xs) h = .ok (!xs.isEmpty) h:=rfl
theorem a7p:tru (.tup xs) h = .ok (!xs.isEmpty) h:=rfl
theorem a7q:tru .non h = .ok false h:=rfl
theorem adn:hEq (.int i) (.int j) h = .ok (.bl (i == j)) h:=rfl
theorem ado:hNe (.int i) (.int j) h = .ok (.bl (!(i == j))) h:=rfl
theorem as3(a b:Str):hEq (.str a) (.str b) h = .ok (.bl (a == b)) h:=rfl
theorem anq(a b:Str):hNe (.str a) (.str b) h = .ok (.bl (!(a == b))) h:=rfl
theorem agk(a b:Bool):hEq (.bl a) (.bl b) h = .ok (.bl (a == b)) h:=rfl
theorem ajr(a b:Bool):hNe (.bl a) (.bl b) h = .ok (.bl (!(a == b))) h:=rfl
theorem abt(x:D):gIs x .non h = .ok (.bl (a5r x)) h:=by cases x<;>rfl
theorem a2h(x:D):yf x .non h = .ok (.bl (!a5r x)) h:=by cases x<;>rfl
theorem ajs(a b:Bool):gIs (.bl a) (.bl b) h = .ok (.bl (a == b)) h:=rfl
theorem a3w(a b:Bool):yf (.bl a) (.bl b) h = .ok (.bl (a != b)) h:=rfl
theorem atk:a5r (.int i)=false:=rfl
theorem atl(x:Str):a5r (.str x)=false:=rfl
theorem atm:a5r .non=true:=rfl
theorem atn:a5r (.tup xs)=false:=rfl
end
end MI
namespace HND
open PySem PySem.Spec L2 MI AT
local macro_rules | `(tactic| walk_at "ev") => `(tactic| simp only [ur,a3g,ab9,a8u,aba,mq,ate,aip,sIf,ug,a8n,aay,put,aiu,ai8,ahk,a02,aer,kN,sV,sC,s2,s1,sA,aj,dh,sNx,sT,asB,ai4,a2g,a7n,a7o,a7p,a7q,a5o,sOr,aen,a2p,ahi,ai5,sCh,ahj,gh,a4q,MI.a4e,MI.a99,MI.a9a,aqq,a1h,gLt,gGt,gGe,gLe,adn,ado,agk,ajr,abt,a2h,ajs,a3w,atk,atl,atm,atn,abq,MI.a8b,a9s,aex,abr,AT.aj8,AT.p18,a7j,a7k,a7l,acw,a7m,aq7,a8q,a8p,MI.yc,MI.ue,sML,isL,ath,oN,oS,ye,qw,sIt,amd,sRg,List.length_map,List.length_cons,List.length_nil,List.length_append,List.getElem?_cons_zero,List.getElem?_cons_succ,List.set_cons_zero,List.set_cons_succ,List.nil_append,List.cons_append,AT.aj0,AT.aj1,AT.aj2,AT.aj3,AT.aj4,AT.aj5,AT.aj6,AT.aj7,AT.x10,AT.x20,AT.x21,AT.x30,AT.x31,AT.x32,AT.x40,AT.x41,AT.x42,AT.x43,AT.x50,AT.x51,AT.x52,AT.x53,AT.x54,AT.x60,AT.x61,AT.x62,AT.x63,AT.x64,AT.x65,AT.x70,AT.x71,AT.x72,AT.x73,AT.x74,AT.x75,AT.x76,decide_true,decide_false,reduceIte,Bool.true_and,Bool.and_self,Bool.not_true,Bool.not_false,and_self,true_and,and_true,beq_self_eq_true,Nat.reduceAdd,Nat.reduceLeDiff,Nat.reduceLT,Nat.reducePow,Int.reduceLT,Int.reduceLE,Int.reduceNeg,Int.reduceEq,Int.reduceBEq,Bool.false_eq_true,Bool.true_eq_false,ite_true,ite_false,if_true,if_false, *])
end HND
namespace HND
open PySem PySem.Spec L2 MI AT
local macro_rules | `(tactic| walk_at "ev") => `(tactic| simp only [ur,a3g,ab9,a8u,aba,mq,ate,aip,sIf,ug,a8n,aay,put,aiu,ai8,ahk,a02,aer,kN,sV,sC,s2,s1,sA,aj,dh,sNx,sT,asB,ai4,a2g,a7n,a7o,a7p,a7q,a5o,sOr,aen,a2p,ahi,ai5,sCh,ahj,gh,a4q,MI.a4e,MI.a99,MI.a9a,aqq,a1h,gLt,gGt,gGe,gLe,adn,ado,agk,ajr,abt,a2h,ajs,a3w,atk,atl,atm,atn,abq,MI.a8b,a9s,aex,abr,AT.aj8,AT.p18,a7j,a7k,a7l,acw,a7m,aq7,a8q,a8p,MI.yc,MI.ue,sML,isL,ath,oN,oS,ye,qw,sIt,amd,sRg,a9r,rm,aq2,aqw,aqv,amz,a9v,ati,srcOf,  List.length_map,List.length_cons,List.length_nil,List.length_append,List.getElem?_cons_zero,List.getElem?_cons_succ,List.set_cons_zero,List.set_cons_succ,List.nil_append,List.cons_append,AT.aj0,AT.aj1,AT.aj2,AT.aj3,AT.aj4,AT.aj5,AT.aj6,AT.aj7,AT.x10,AT.x20,AT.x21,AT.x30,AT.x31,AT.x32,AT.x40,AT.x41,AT.x42,AT.x43,AT.x50,AT.x51,AT.x52,AT.x53,AT.x54,AT.x60,AT.x61,AT.x62,AT.x63,AT.x64,AT.x65,AT.x70,AT.x71,AT.x72,AT.x73,AT.x74,AT.x75,AT.x76,decide_true,decide_false,reduceIte,Bool.true_and,Bool.and_self,Bool.not_true,Bool.not_false,and_self,true_and,and_true,beq_self_eq_true,Nat.reduceAdd,Nat.reduceLeDiff,Nat.reduceLT,Nat.reducePow,Int.reduceLT,Int.reduceLE,Int.reduceNeg,Int.reduceEq,Int.reduceBEq,Bool.false_eq_true,Bool.true_eq_false,ite_true,ite_false,if_true,if_false, *])
def ato:Str := " !\"#$&'()*+,-./0123456789:;<=>?@ABCDEFGHIJKLMNOPQRSTUVWXYZ[\\]^_`"
def atp:Str := "abcdefghijklmnopqrstuvwxyz{|}~\n"
def sig:List Nat:=ato.cps.toList++atp.cps.toList
theorem agl:sig.length=95:=by decide +kernel
theorem as4:sig.Nodup:=by decide +kernel
noncomputable def ig:SF:=qb xg 1
theorem lits{h:Hd}:j5 (.str ato) (.str atp) h = .ok (.str (S sig)) h:=by
 rw [<-ano ato,<-ano atp,a5t (by decide +kernel)]
 rfl
theorem a7r:Pu ig 0 [] (.str (S sig)):=by
 refine Pu.of rfl (by simp) (r:=.ok (.str (S sig)) []) ?_ (by rw [a04 (j4 _) (by simp)];rfl) (j4 _)
 unfold ig;rw [jn];unfold xg;have e:=@lits [];unfold ato atp at e;show toR (ju (mq 0 _) _ [none] [])=_;simp only [ur,mq,sC,a4q,a3g,ug,s2,sV,List.set_cons_zero,List.getElem?_cons_zero,gh,e,a8u]
theorem agm(a r:List Nat)(i:Nat)(c:Nat)(e:r[i]? = some c):List.Perm (a++r) ((a++[c])++(r.take i++r.drop (i+1))):=by
 obtain ⟨hi,e⟩:=List.getElem?_eq_some_iff.mp e;have:r=r.take i++c::r.drop (i+1):=by rw [<-e];simp
 rw [List.append_assoc];refine List.Perm.append_left a ?_;rw [List.singleton_append]
 conv=>lhs;rw [this]
 exact List.perm_middle
end HND
namespace MI
open PySem PySem.Spec L2
theorem auz(n:Nat):rng 0 n=(List.range n).map λi:Nat=>D.int (i:Nat):=by
 unfold rng;exact List.map_congr_left λi _=>by rw [Int.zero_add]
theorem anr{n:Nat}(h:n<=LINE):B62 (n:Int):=by
 have:n<=16777216:=h
 unfold B62;omega
theorem as5{n:Nat}(h:Hd)(z:n<=LINE):rm [.int (n:Nat)] h = .ok ⟨(List.range n).map λi:Nat=>D.int (i:Nat),λ_=>True⟩ h:=by
 unfold rm;simp only [anr z,if_true,Int.toNat_natCast,auz]
theorem av0{f:SE}{τ:Sd}{h:Hd}{d:D}(e:f τ h = .ok d h):aj f dh τ h = .ok [d] h:=by unfold aj dh;rw [e];rfl
theorem uo{f:SE}{τ:Sd}{h:Hd}{n:Nat}(e:f τ h = .ok (.int (n:Nat)) h)(z:n<=LINE):sRg rm (aj f dh) τ h = .ok ⟨(List.range n).map λi:Nat=>D.int (i:Nat),λ_=>True⟩ h:=by
 unfold sRg;rw [av0 e,gh];exact as5 h z
theorem di{i:Nat}{τ:Sd}{h:Hd}{d:D}(e:τ[i]? = some (some d)):sV i τ h = .ok d h:=by unfold sV;rw [e]
theorem m9{fi:SI}{t:D->Option Sd}{fe:SE}{ix:List Nat}{τ:Sd}{h:Hd}{α:Type}(g F:α->D)(xs:List α)(e:fi τ h = .ok ⟨xs.map g,λ_=>True⟩ h)(z:xs.length<=LINE)
  (st:∀ x∈xs,a4m t fe (frs' ix τ) (g x) h = .ok (F x) h):m8 fi t fe ix τ h = .ok (.ref h.length) (h++[.lst (xs.map F)]):=by
 unfold m8;rw [e,gh];dsimp only;rw [if_pos (by rw [List.length_map];exact z),a8v g F st]
 rfl
theorem agn{fi:SI}{t:D->Option Sd}{c:ST}{fe:SE}{ix:List Nat}{τ:Sd}{h:Hd}{α:Type}(g:α->D)(F:α->Option D)(xs:List α)(e:fi τ h = .ok ⟨xs.map g,λ_=>True⟩ h)(z:xs.length<=LINE)
  (st:∀ x∈xs,acu t c fe (frs' ix τ) (g x) h = .ok (F x) h):a66 fi t c fe ix τ h = .ok (.ref h.length) (h++[.lst (xs.filterMap F)]):=by
 unfold a66;rw [e,gh];dsimp only;rw [if_pos (by rw [List.length_map];exact z),a8w g F st]
 rfl
theorem qd(fe:SE)(r:Sd)(x:D)(h:Hd):a4m t1 fe r x h=fe (some x::r) h:=rfl
section
variable{f k f1 f2 f3:SE}{c c1 c2:ST}{g p q:SS}{τ τ1:Sd}{h h1 h2 h3 h4:Hd}{a b d v:D}{i:Nat}{t u:Bool}
theorem jx(d:D)(τ:Sd)(h:Hd):sC d τ h = .ok d h:=rfl
theorem awc{G:List D->Hd->R D}(e3:G [] h = .ok v h1):sA G dh τ h = .ok v h1:=e3
theorem vo{G:List D->Hd->R D}(e1:f τ h = .ok a h1)(e3:G [a] h1 = .ok v h2):sA G (aj f dh) τ h = .ok v h2:=by
 have:aj f dh τ h = .ok [a] h1:=by unfold aj;rw [e1];rfl
 unfold sA;rw [this,gh,e3]
theorem xq{G:List D->Hd->R D}(e1:f τ h = .ok a h1)(e2:k τ h1 = .ok b h2)(e3:G [a,b] h2 = .ok v h3):sA G (aj f (aj k dh)) τ h = .ok v h3:=by
 have:aj f (aj k dh) τ h = .ok [a,b] h2:=by unfold aj;rw [e1,gh,e2];rfl
 unfold sA;rw [this,gh,e3]
theorem as6{G:List D->Hd->R D}(e0:f1 τ h = .ok d h1)(e1:f τ h1 = .ok a h2)(e2:k τ h2 = .ok b h3)(e3:G [d,a,b] h3 = .ok v h4):sA G (aj f1 (aj f (aj k dh))) τ h = .ok v h4:=by
 have:aj f1 (aj f (aj k dh)) τ h = .ok [d,a,b] h3:=by unfold aj;rw [e0,gh,e1,gh,e2];rfl
 unfold sA;rw [this,gh,e3]
theorem mj(e:f τ h = .ok d h1):ju (mq i f) g τ h=g (τ.set i (some d)) h1:=by
 rw [ur];unfold mq;rw [e];rfl
theorem abu(e:f τ h = .ok d h1):mq i f τ h = .nx (τ.set i (some d)) h1:=by
 unfold mq;rw [e];rfl
theorem a5u(e:p τ h = .nx τ1 h1):ju p g τ h=g τ1 h1:=by rw [ur,e];rfl
theorem yw(e:p τ h = .rt d h1):ju p g τ h = .rt d h1:=by rw [ur,e];rfl
theorem ifT(e:c τ h = .ok true h1):sIf c p q τ h=p τ h1:=by unfold sIf;rw [e];rfl
theorem ifF(e:c τ h = .ok false h1):sIf c p q τ h=q τ h1:=by unfold sIf;rw [e];rfl
theorem ifN(e:c τ h = .ok false h1):ju (sIf c p sNx) g τ h=g τ h1:=by rw [ur,ifF e];rfl
theorem tof(e:f τ h = .ok (.bl t) h1):sT f τ h = .ok t h1:=by unfold sT;rw [e];rfl
theorem ago(e:f τ h = .ok d h1)(e':tru d h1 = .ok t h2):ai4 f τ h = .ok t h2:=by unfold ai4;rw [e,gh,e']
theorem ajt(e:c1 τ h = .ok true h1)(e':c2 τ h1 = .ok t h2):a5o c1 c2 τ h = .ok t h2:=by unfold a5o;rw [e,gh,if_pos rfl,e']
theorem ahm(e:c1 τ h = .ok false h1):a5o c1 c2 τ h = .ok false h1:=by unfold a5o;rw [e,gh,if_neg (by simp)]
theorem orT(e:c1 τ h = .ok true h1):sOr c1 c2 τ h = .ok true h1:=by unfold sOr;rw [e,gh,if_pos rfl]
theorem orF(e:c1 τ h = .ok false h1)(e':c2 τ h1 = .ok t h2):sOr c1 c2 τ h = .ok t h2:=by unfold sOr;rw [e,gh,if_neg (by simp),e']
theorem as7(e:c τ h = .ok t h1):aen c τ h = .ok (!t) h1:=by unfold aen;rw [e];rfl
theorem as8(e:c τ h = .ok true h1):aen c τ h = .ok false h1:=as7 e
theorem av1(e:c τ h = .ok false h1):aen c τ h = .ok true h1:=as7 e
theorem m5(e:f τ h = .ok d h1):ug f τ h = .rt d h1:=by unfold ug;rw [e];rfl
theorem ant(e:f τ h = .ok (.bl true) h1)(e':k τ h1 = .ok d h2):a2p f k τ h = .ok d h2:=by unfold a2p;rw [e,gh];exact e'
theorem as9{G:D->List D->Hd->R D}{A:SA}{ds:List D}(e1:f τ h = .ok d h1)(l:isL d h1=true)(e2:A τ h1 = .ok ds h2)(e3:G d ds h2 = .ok v h3):a8n (sML G f A) τ h = .nx τ h3:=by
 unfold a8n sML;rw [e1,gh,if_pos l,e2,gh,e3];rfl
theorem arg1(e:f τ h = .ok d h1):aj f dh τ h = .ok [d] h1:=by unfold aj dh;rw [e];rfl
theorem jr{G:D->D->Hd->R D}(e1:f τ h = .ok a h1)(e2:k τ h1 = .ok b h2)(e3:G a b h2 = .ok v h3):s2 G f k τ h = .ok v h3:=by
 unfold s2;rw [e1,gh,e2,gh,e3]
theorem aon{G:D->Hd->R D}(e1:f τ h = .ok a h1)(e3:G a h1 = .ok v h2):s1 G f τ h = .ok v h2:=by
 unfold s1;rw [e1,gh,e3]
theorem asa{G:SG}(e:f τ h = .ok d h1)(e2:G d τ h1 = .nx τ1 h2):ai8 f G τ h = .nx τ1 h2:=by
 unfold ai8;rw [e,a4q,e2]
theorem aju(e1:f1 τ h = .ok v h1)(e2:f2 τ h1 = .ok a h2)(e3:f3 τ h2 = .ok b h3)(e4:put a b v h3=some h4):aay f1 f2 f3 τ h = .nx τ h4:=by
 unfold aay;rw [e1,a4q,e2,a4q,e3,a4q,e4]
theorem a7s{fi:SI}{G:SG}{b:SS}{xs:List D}{ck:Hd->Prop}(e:fi τ h = .ok ⟨xs,ck⟩ h1):ju (a9r fi G b) g τ h=thn (forL ck G b xs τ h1) g:=by
 rw [ur];unfold a9r;rw [e];rfl
theorem a89{xs:List D}{ck:Hd->Prop}(e:f τ h = .ok d h1)(e2:amd d h1 = .ok ⟨xs,ck⟩ h1):sIt f τ h = .ok ⟨xs,ck⟩ h1:=by
 unfold sIt;rw [e,gh,e2]
theorem asb{xs:List D}{j:Nat}(e:h[i]? = some (.lst xs))(hj:j<xs.length):put (.ref i) (.int (j:Nat)) v h=some (h.set i (.lst (xs.set j v))):=by
 have:ixN xs.length (j:Int)=some j:=by unfold ixN;rw [if_pos (by omega),if_pos (by omega)];simp
 unfold put;simp only [e,this]
theorem agp{xs:List D}{j:Nat}{y:D}(e:h[i]? = some (.lst xs))(hj:xs[j]? = some y):gIx (.ref i) (.int (j:Nat)) h = .ok y h:=by
 rw [a9a];unfold a1h;simp only [e,ul hj]
theorem ahn{xs:List D}{j:Nat}{y:D}(hj:xs[j]? = some y):gIx (.rol xs) (.int (j:Nat)) h = .ok y h:=by
 rw [a99];simp only [ul hj]
theorem anu{xs:List D}{j:Nat}{y:D}(hj:xs[j]? = some y):gIx (.tup xs) (.int (j:Nat)) h = .ok y h:=by
 rw [a4e];simp only [ul hj]
theorem aoo{x y:Int}(c:y<x):gGt (.int x) (.int y) h = .ok (.bl true) h:=by unfold gGt;simp only [c,decide_true]
theorem aop{x y:Int}(c:¬ y<x):gGt (.int x) (.int y) h = .ok (.bl false) h:=by unfold gGt;simp only [c,decide_false]
theorem aho{x y:Int}(c:x<y):gLt (.int x) (.int y) h = .ok (.bl true) h:=by unfold gLt;simp only [c,decide_true]
theorem ajv{x y:Int}(c:¬ x<y):gLt (.int x) (.int y) h = .ok (.bl false) h:=by unfold gLt;simp only [c,decide_false]
theorem anv{x y:Int}(c:x=y):hEq (.int x) (.int y) h = .ok (.bl true) h:=by rw [adn,c,beq_self_eq_true]
theorem anw{x y:Int}(c:¬ x=y):hEq (.int x) (.int y) h = .ok (.bl false) h:=by rw [adn,beq_eq_false_iff_ne.mpr c]
theorem anx{x y:Int}(c:x=y):hNe (.int x) (.int y) h = .ok (.bl false) h:=by rw [ado,c,beq_self_eq_true];rfl
theorem anz{x y:Int}(c:¬ x=y):hNe (.int x) (.int y) h = .ok (.bl true) h:=by rw [ado,beq_eq_false_iff_ne.mpr c];rfl
theorem ao0(x:Int):aq7 (.int x) h = .ok (.int (-x)) h:=rfl
theorem abv(x y:Int):MI.a8b (.int x) (.int y) h = .ok (.int (x - y)) h:=rfl
theorem du{n:Nat}(h:n<=1000000):n<=LINE:=by show n<=16777216;omega
theorem adp:MI.yc [a,b] h = .ok (.tup [a,b]) h:=by unfold MI.yc;rw [if_pos (du (by simp))]
theorem av2:MI.yc [a,b,v] h = .ok (.tup [a,b,v]) h:=by unfold MI.yc;rw [if_pos (du (by simp))]
end
end MI
namespace SRC
open PySem PySem.Spec L2 MI AT
end SRC
namespace EVX
open PySem PySem.Spec L2 MI
section
variable{i:Nat}{cs:Str->Bool}{fb fs p g:SS}{τ τ1 τ2:Sd}{h h1 h2:Hd}{c:Str}{f:SE}{ka:SA}{ds:List D}{F:SF}{n:Nat}
theorem al5:MI.yc [] h = .ok (.tup []) h:=by unfold MI.yc;rw [if_pos (du (by simp))]
theorem a3m:sZ aml τ [] = .ok (.rod [] []) []:=by
 unfold sZ;show a72 0 (.ok (.ref 0) [.dK []])=_;refine a4s (h1:=[.dK []]) ?_ (by simp)
 unfold FU a5p;rw [if_neg (by simp only [MI.clo];omega)]
 rfl
end
end EVX
namespace SRC
open PySem PySem.Spec L2 MI AT HND EVX
end SRC
namespace HND
open PySem PySem.Spec L2 MI AT
abbrev dw(i:Nat):D:=.int (i:Nat)
structure Table where
 tg:List Nat
 go:List (List Nat)
 ks:List Int
end HND
namespace MI
open PySem PySem.Spec L2
end MI
namespace PAP
open PySem PySem.Spec L2 MI AT HND
theorem av3{b:Bool}{h:Hd}:afn [.bl b, .ty "bool"] h = .ok (.bl true) h:=by simp [afn,atf,tyD,aoj]
theorem av4{f k:SE}{τ:Sd}{h h1:Hd}(e:f τ h = .ok (.bl false) h1):a2p f k τ h = .ok (.bl false) h1:=by unfold a2p;rw [e,gh]
theorem abw{f:SE}{τ:Sd}{h h1:Hd}{i:Int}(e:f τ h = .ok (.int i) h1):oS f τ h = .ok (some i) h1:=by unfold oS;rw [e];rfl
theorem adq{f:SE}{lo hi:SO}{τ:Sd}{h h1 h2 h3 h4:Hd}{d v:D}{a b:Option Int}(e:f τ h = .ok d h1)(e1:lo τ h1 = .ok a h2)(e2:hi τ h2 = .ok b h3)(e3:a69 d a b h3 = .ok v h4):ye f lo hi τ h = .ok v h4:=by
 unfold ye;rw [e,gh,e1,gh,e2,gh,e3]
theorem av5(xs:List D)(lo hi:Option Int)(h:Hd):a69 (.tup xs) lo hi h = .ok (.tup (a3e xs lo hi)) h:=by
 unfold a69;dsimp only
 split
 ·rename_i w;obtain ⟨a,b⟩:=w
  congr 2
  unfold a3e;rw [a,b,List.drop_zero,List.take_of_length_le (by omega)]
 ·rfl
theorem av6(xs:List D)(k:Nat)(h:Hd):a69 (.tup xs) none (some (k:Int)) h = .ok (.tup (xs.take k)) h:=by rw [av5,a6s]
theorem agq(xs:List D)(k:Nat)(h:Hd):a69 (.tup xs) (some (k:Int)) none h = .ok (.tup (xs.drop k)) h:=by rw [av5,a8k]
theorem ao1{xs ys:List D}{h:Hd}(z:xs.length+ys.length<=1000000):j5 (.tup xs) (.tup ys) h = .ok (.tup (xs++ys)) h:=by
 cases xs with
 | nil=>rfl
 | cons x xs =>
  show (if (x::xs).length+ys.length<=LINE then R.ok (D.tup (x::xs++ys)) h else .no)=_
  rw [if_pos (du z)]
theorem ahp{a:D}{h:Hd}:MI.yc [a] h = .ok (.tup [a]) h:=by unfold MI.yc;rw [if_pos (du (by simp))]
theorem al5{h:Hd}:MI.yc [] h = .ok (.tup []) h:=by unfold MI.yc;rw [if_pos (du (by simp))]
theorem jd{f:SE}{k:SA}{τ:Sd}{h h1 h2:Hd}{d:D}{ds:List D}(e:f τ h = .ok d h1)(e2:k τ h1 = .ok ds h2):aj f k τ h = .ok (d::ds) h2:=by
 unfold aj;rw [e,gh,e2,gh]
theorem aof{G:List D->Hd->R D}{k:SA}{τ:Sd}{h h1 h2:Hd}{ds:List D}{v:D}(e:k τ h = .ok ds h1)(e2:G ds h1 = .ok v h2):sA G k τ h = .ok v h2:=by
 unfold sA;rw [e,gh,e2]
theorem a3m{τ:Sd}:sZ aml τ [] = .ok (.rod [] []) []:=by
 unfold sZ;show a72 0 (.ok (.ref 0) [.dK []])=_;refine a4s (h1:=[.dK []]) ?_ (by simp)
 unfold FU a5p;rw [if_neg (by simp only [MI.clo];omega)]
 rfl
theorem abx{f:SE}{τ:Sd}{h h':Hd}{xs:List D}(hl:h'.length=h.length)(e:f τ h = .ok (.ref h'.length) (h'++[.lst xs]))(cx:clos h.length xs)(c:∀ o∈h',qt h.length o):sZ f τ h = .ok (.rol xs) h':=by
 unfold sZ;rw [e,a0z (by omega) (by simp) cx (by rw [<-hl];simpa [hl] using c)]
 rw [<-hl];simp
end PAP
namespace SRC
open PySem PySem.Spec L2 MI AT HND EVX
end SRC
namespace BF
section
variable(s:Nat)(step:Nat->Nat->Nat)(K:Nat->Bool)
def fl:Nat->Nat->Bool
 | 0,r=>K r
 | k+1,r=>(List.range s).any λc=>fl k (step r c)
variable{s step K}
end
theorem aby:∀ (n:Nat) (l:List Nat),l.Nodup->(∀ x∈l,x<n)->l.length<=n
 | 0,l,_,h=>by
  cases l with
  | nil=>exact Nat.le_refl _
  | cons x l=>exact absurd (h x List.mem_cons_self) (by omega)
 | n+1,l,nd,h=>by
  have:=aby n (l.erase n) (nd.erase n) λx hx=>by
   have h1:=h x (List.mem_of_mem_erase hx);have h2:x≠n:=λz=>by subst z;exact (List.Nodup.not_mem_erase nd) hx
   omega
  have:=List.length_erase (a:=n) (l:=l)
  split at this<;>omega
end BF
namespace SRC
open PySem PySem.Spec L2 MI AT HND EVX
abbrev cst(l:List Nat):List Int:=l.map λx:Nat=>(x:Int)
theorem a7t(l:List Nat):l.map dw=(cst l).map D.int:=by unfold cst;rw [List.map_map];rfl
theorem a2z(l:List Nat):∃ m:List Nat,PySem.W.sortI (cst l)=cst m/\m.Perm l/\m.Pairwise (·<=·):=by
 have p:=PySem.W.sortI_perm (cst l);have s:=PySem.W.sortI_rises (cst l);refine ⟨(PySem.W.sortI (cst l)).map Int.toNat,?_,?_,?_⟩
 ·unfold cst;rw [List.map_map];have:∀ x∈PySem.W.sortI (l.map λx:Nat=>(x:Int)),((λx:Nat=>(x:Int)) ∘ Int.toNat) x=x:=λx hx=>by
   have:=p.mem_iff.mp hx
   obtain ⟨y,_,rfl⟩:=List.mem_map.mp this;simp
  rw [List.map_congr_left this];simp
 ·have:=p.map Int.toNat
  have e:(cst l).map Int.toNat=l:=by
   unfold cst;rw [List.map_map];exact (List.map_congr_left λx _=>by simp).trans (List.map_id l)
  rwa [e] at this
 ·rw [List.pairwise_map];exact s.imp λh=>by omega
def pos(m:List Nat)(x:Nat):Nat:=(ixI (x:Int) (cst m)).getD 0
end SRC
namespace MI
open PySem PySem.Spec L2 SRC HND
theorem agr{l:List Nat}{y:Nat}:(y:Int)∈cst l↔y∈l:=by
 unfold cst;rw [List.mem_map]
 constructor
 ·rintro ⟨x,hx,e⟩;have:x=y:=by omega
  subst this;exact hx
 ·intro h;exact ⟨y,h,rfl⟩
theorem a9b(l:List Nat)(y:Nat):stepK (cst l) (y:Int)=cst (stepK l y):=by
 unfold L2.stepK
 by_cases h:y∈l
 ·rw [if_pos h,if_pos (agr.mpr h)]
 ·rw [if_neg h,if_neg λz=>h (agr.mp z)];unfold cst;rw [List.map_append];rfl
structure Fw (n:Nat) (l:List Nat):Prop where
 nd:l.Nodup
 lt:∀ x∈l,x<n
theorem Fw.nil{n:Nat}:Fw n []:=⟨List.nodup_nil,by simp⟩
theorem Fw.len{n:Nat}{l:List Nat}(h:Fw n l):l.length<=n:=BF.aby n l h.nd h.lt
theorem Fw.step{n x:Nat}{l:List Nat}(M:Fw n l)(hx:x<n):Fw n (stepK l x):=by
 unfold L2.stepK
 by_cases h:x∈l
 ·rw [if_pos h];exact M
 rw [if_neg h];refine ⟨?_,λy hy=>?_⟩
 ·rw [List.nodup_append];refine ⟨M.nd,by simp,λa ha b hb=>?_⟩
  rw [List.mem_singleton] at hb;subst hb;exact λe=>h (e ▸ ha)
 ·rcases List.mem_append.mp hy with z | z
  ·exact M.lt y z
  ·rw [List.mem_singleton] at z;subst z;exact hx
theorem ajw{l:List Nat}{x y:Nat}:y∈stepK l x↔y∈l\/y=x:=by
 unfold L2.stepK
 by_cases h:x∈l
 ·rw [if_pos h];exact ⟨.inl,λz=>z.elim id λe=>e ▸ h⟩
 ·rw [if_neg h,List.mem_append,List.mem_singleton]
theorem Fw.fold{n:Nat}:∀ {r l:List Nat},Fw n l->(∀ x∈r,x<n)->Fw n (r.foldl stepK l)
 | [],_,h,_=>h
 | x::r,l,h,k=>Fw.fold (r:=r) (h.step (k x List.mem_cons_self)) λy hy=>k y (List.mem_cons_of_mem _ hy)
theorem a1d{y:Nat}:∀ {r l:List Nat},y∈r.foldl stepK l↔y∈l\/y∈r
 | [],l=>by simp
 | x::r,l=>by
  rw [List.foldl_cons,a1d (r:=r),ajw,List.mem_cons]
  constructor
  ·rintro ((h | h) | h)
   ·exact .inl h
   ·exact .inr (.inl h)
   ·exact .inr (.inr h)
  ·rintro (h | h | h)
   ·exact .inl (.inl h)
   ·exact .inl (.inr h)
   ·exact .inr h
theorem a9c{n:Nat}(hn:n<=60){x:D}{rd:Sd}{h:Hd}:∀ {r l:List Nat},Fw n l->(∀ y∈r,y<n)->setIn (λ_=>True) (sV 1) x rd (r.map dw) (cst l) h = .ok (cst (r.foldl stepK l)) h
 | [],l,_,_=>by rw [List.map_nil,setIn,if_pos True.intro];rfl
 | y::r,l,M,k=>by
  rw [List.map_cons,setIn,if_pos True.intro];have e:sV 1 (some x::some (dw y)::rd) h = .ok (dw y) h:=di rfl;rw [e,gh];have hl:=M.len;show (if (cst l).length<63 then setIn (λ_=>True) (sV 1) x rd (r.map dw) (stepK (cst l) (y:Int)) h else .no)=_
  rw [if_pos (by unfold cst;rw [List.length_map];omega),a9b]
  exact a9c hn (M.step (k y List.mem_cons_self)) λz hz=>k z (List.mem_cons_of_mem _ hz)
theorem a6f{n:Nat}(hn:n<=60){fj:SI}{rd:Sd}{h:Hd}{α:Type}(g:α->D)(row:α->List Nat):∀ {xs:List α} {l:List Nat},Fw n l->(∀ x∈xs,∀ y∈row x,y<n)->(∀ x∈xs,fj (some (g x)::none::rd) h = .ok ⟨(row x).map dw,λ_=>True⟩ h)->
  a1i (λ_=>True) fj (sV 1) rd (xs.map g) (cst l) h = .ok (cst (xs.foldl (λl x=>(row x).foldl stepK l) l)) h
 | [],l,_,_,_=>by rw [List.map_nil,a1i,if_pos True.intro];rfl
 | x::xs,l,M,k,e=>by
  rw [List.map_cons,a1i,if_pos True.intro,e x List.mem_cons_self,gh];dsimp only;have kx:=k x List.mem_cons_self;rw [a9c hn M kx,gh];exact a6f hn g row (M.fold kx) (λz hz=>k z (List.mem_cons_of_mem _ hz)) λz hz=>e z (List.mem_cons_of_mem _ hz)
theorem Fw.folds{n:Nat}{α:Type}(row:α->List Nat):∀ {xs:List α} {l:List Nat},Fw n l->(∀ x∈xs,∀ y∈row x,y<n)->Fw n (xs.foldl (λl x=>(row x).foldl stepK l) l)
 | [],_,h,_=>h
 | x::xs,l,h,k=>Fw.folds row (xs:=xs) (h.fold (k x List.mem_cons_self)) λy hy=>k y (List.mem_cons_of_mem _ hy)
theorem a9d{y:Nat}{α:Type}(row:α->List Nat):∀ {xs:List α} {l:List Nat},y∈xs.foldl (λl x=>(row x).foldl stepK l) l↔y∈l\/∃ x∈xs,y∈row x
 | [],l=>by simp
 | x::xs,l=>by
  rw [List.foldl_cons,a9d row (xs:=xs),a1d]
  constructor
  ·rintro ((h | h) | ⟨z,hz,h⟩)
   ·exact .inl h
   ·exact .inr ⟨x,List.mem_cons_self,h⟩
   ·exact .inr ⟨z,List.mem_cons_of_mem _ hz,h⟩
  ·rintro (h | ⟨z,hz,h⟩)
   ·exact .inl (.inl h)
   ·rcases List.mem_cons.mp hz with rfl | hz
    ·exact .inl (.inr h)
    ·exact .inr ⟨z,hz,h⟩
theorem abz{fi fj:SI}{ix:List Nat}{τ:Sd}{h:Hd}{α:Type}(g:α->D)(xs:List α)(row:α->List Nat){n:Nat}(hn:n<=60)(e:fi τ h = .ok ⟨xs.map g,λ_=>True⟩ h)
  (ej:∀ x∈xs,fj (some (g x)::none::frs' ix τ) h = .ok ⟨(row x).map dw,λ_=>True⟩ h) (lt:∀ x∈xs,∀ y∈row x,y<n) :
  ∃ ts:List Nat,Fw n ts/\ts.Pairwise (·<=·)/\(∀ y,y∈ts↔∃ x∈xs,y∈row x)/\ag3 fi fj (sV 1) ix τ h = .ok (.ref h.length) (h++[.lst (ts.map dw)]):=by
 obtain ⟨m,em,pm,sm⟩:=a2z (xs.foldl (λl x=>(row x).foldl stepK l) []);have F:=Fw.folds row (l:=[]) (n:=n) .nil lt;refine ⟨m,⟨pm.nodup_iff.mpr F.nd,λx hx=>F.lt x (pm.mem_iff.mp hx)⟩,sm,λy=>?_,?_⟩
 ·rw [pm.mem_iff,a9d];simp
 ·unfold ag3;rw [e,gh];dsimp only;have:=a6f hn (fj:=fj) (rd:=frs' ix τ) (h:=h) g row (xs:=xs) (l:=[]) .nil lt ej;rw [show cst []=([]:List Int) from rfl] at this
  rw [this,gh];unfold adf;have fl:=F.len;rw [if_pos (by unfold cst;rw [List.length_map];omega),em,<-a7t]
end MI
namespace ENG
open PySem PySem.Spec L2 MI
abbrev Rl:=Nat->Nat->Prop
open Classical in
noncomputable def fl(n:Nat)(R:Rl)(a:Nat):List Nat:=(List.range (n+1)).filter λe=>decide (R a e)
theorem lu{n a e:Nat}{R:Rl}:e∈fl n R a↔e<=n/\R a e:=by
 unfold fl;simp only [List.mem_filter,List.mem_range,decide_eq_true_eq];exact ⟨λ⟨h1,h2⟩=>⟨by omega,h2⟩,λ⟨h1,h2⟩=>⟨by omega,h2⟩⟩
theorem a7u{n a:Nat}{R:Rl}:∀ e∈fl n R a,e<n+1:=λe h=>by have:=(lu.mp h).1;omega
theorem asd{n a:Nat}{R:Rl}:(fl n R a).Nodup:=List.Pairwise.filter _ List.nodup_range
theorem ags{n a:Nat}{R:Rl}:(fl n R a).Pairwise (·<=·):=by
 refine List.Pairwise.filter _ ?_;exact (List.pairwise_lt_range (n:=n+1)).imp λh=>Nat.le_of_lt h
theorem a1m{n a:Nat}{R:Rl}:(fl n R a).length<=n+1:=by
 have:=List.length_filter_le (λe=>@decide (R a e) (Classical.propDecidable _)) (List.range (n+1))
 rw [List.length_range] at this;exact this
theorem a0i{n a:Nat}{R:Rl}{ts:List Nat}(nd:ts.Nodup)(st:ts.Pairwise (·<=·))(m:∀ e,e∈ts↔e<=n/\R a e):ts=fl n R a:=by
 have p:ts.Perm (fl n R a):=(List.perm_ext_iff_of_nodup nd asd).mpr λe=>by rw [m,lu]
 exact p.eq_of_pairwise (λx y _ _ h1 h2=>Nat.le_antisymm h1 h2) st ags
theorem aab{n a b:Nat}{R T:Rl}(h:∀ e,e<=n->(R a e↔T b e)):fl n R a=fl n T b:=a0i asd ags λe=>by
 rw [lu]
 constructor
 ·rintro ⟨h1,h2⟩;exact ⟨h1,(h e h1).mp h2⟩
 ·rintro ⟨h1,h2⟩;exact ⟨h1,(h e h1).mpr h2⟩
noncomputable def rw_(n:Nat)(R:Rl):List (List Nat):=(List.range (n+1)).map (fl n R)
theorem av7{n a:Nat}{R:Rl}(h:a<=n):(rw_ n R)[a]? = some (fl n R a):=by
 unfold rw_;rw [List.getElem?_map,List.getElem?_range (by omega)]
 rfl
def cmp(P R:Rl):Rl:=λa e=>∃ b,P a b/\R b e
def chn(Rs:List Rl):Rl:=Rs.foldl cmp (· = ·)
theorem ac0(Rs:List Rl)(R:Rl):chn (Rs++[R])=cmp (chn Rs) R:=by unfold chn;rw [List.foldl_append];rfl
def pw(R:Rl):Nat->Rl
 | 0=>(· = ·)
 | k+1=>cmp (pw R k) R
def star(R:Rl):Rl:=λa e=>∃ k,pw R k a e
def upto(R:Rl)(j:Nat):Rl:=λa e=>∃ k,k<=j/\pw R k a e
def btw(R:Rl)(lo hi:Nat):Rl:=λa e=>∃ k,lo<=k/\k<=hi/\pw R k a e
def Bd(n:Nat)(R:Rl):Prop:=∀ a e,R a e->a<=n->a<=e/\e<=n
theorem ase{n:Nat}:Bd n (· = ·):=λa e h ha=>by subst h;exact ⟨Nat.le_refl _,ha⟩
theorem al6{n:Nat}{P R:Rl}(p:Bd n P)(r:Bd n R):Bd n (cmp P R):=λa e ⟨b,h1,h2⟩ ha=>by
 obtain ⟨q1,q2⟩:=p a b h1 ha;obtain ⟨q3,q4⟩:=r b e h2 q2;exact ⟨by omega,q4⟩
theorem agt{n:Nat}:∀ {Rs:List Rl} {P:Rl},Bd n P->(∀ R∈Rs,Bd n R)->Bd n (Rs.foldl cmp P)
 | [],_,p,_=>p
 | R::Rs,_,p,h=>agt (Rs:=Rs) (al6 p (h R List.mem_cons_self)) λT hT=>h T (List.mem_cons_of_mem _ hT)
theorem agu{n:Nat}{Rs:List Rl}(h:∀ R∈Rs,Bd n R):Bd n (chn Rs):=agt ase h
theorem adt{n:Nat}{R:Rl}(r:Bd n R):∀ k,Bd n (pw R k)
 | 0=>ase
 | k+1=>al6 (adt r k) r
theorem ao2{n:Nat}{R:Rl}(r:Bd n R):Bd n (star R):=λa e ⟨k,h⟩ ha=>adt r k a e h ha
theorem asf{n lo hi:Nat}{R:Rl}(r:Bd n R):Bd n (btw R lo hi):=λa e ⟨k,_,_,h⟩ ha=>adt r k a e h ha
theorem a7v{R:Rl}:∀ (k:Nat) {a e:Nat},cmp R (pw R k) a e↔pw R (k+1) a e
 | 0,a,e=>by
  constructor
  ·rintro ⟨b,h,rfl⟩;exact ⟨a,rfl,h⟩
  ·rintro ⟨b,rfl,h⟩;exact ⟨e,h,rfl⟩
 | k+1,a,e=>by
  constructor
  ·rintro ⟨b,h,c,h1,h2⟩;exact ⟨c,(a7v k).mp ⟨b,h,h1⟩,h2⟩
  ·rintro ⟨c,h1,h2⟩
   obtain ⟨b,h,h3⟩:=(a7v k).mpr h1;exact ⟨b,h,c,h3,h2⟩
theorem agv{n:Nat}{R:Rl}(r:Bd n R){a e:Nat}(ha:a<=n):star R a e↔e=a\/∃ b,a<b/\R a b/\star R b e:=by
 constructor
 ·rintro ⟨k,h⟩
  induction k with
  | zero=>exact .inl h.symm
  | succ k ih =>
   obtain ⟨b,h1,h2⟩:=(a7v k).mpr h;have:=(r a b h1 ha).1
   by_cases q:a=b
   ·subst q;exact ih h2
   ·exact .inr ⟨b,by omega,h1,k,h2⟩
 ·rintro (rfl | ⟨b,_,h1,k,h2⟩)
  ·exact ⟨0,rfl⟩
  ·exact ⟨k+1,(a7v k).mp ⟨b,h1,h2⟩⟩
theorem a5i{R:Rl}{j a e:Nat}:upto R (j+1) a e↔upto R j a e\/∃ b,upto R j a b/\R b e:=by
 constructor
 ·rintro ⟨k,hk,h⟩
  by_cases q:k<=j
  ·exact .inl ⟨k,q,h⟩
  ·have:k=j+1:=by omega
   subst this;obtain ⟨b,h1,h2⟩:=h;exact .inr ⟨b,⟨j,Nat.le_refl _,h1⟩,h2⟩
 ·rintro (⟨k,hk,h⟩ | ⟨b,⟨k,hk,h⟩,h2⟩)
  ·exact ⟨k,by omega,h⟩
  ·exact ⟨k+1,by omega,b,h,h2⟩
theorem ajx{R:Rl}{j a:Nat}(c:∀ b e,upto R j a b->R b e->upto R j a e){e:Nat}:star R a e↔upto R j a e:=by
 constructor
 ·rintro ⟨k,h⟩
  induction k generalizing e with
  | zero=>exact ⟨0,Nat.zero_le _,h⟩
  | succ k ih =>
   obtain ⟨b,h1,h2⟩:=h;exact c b e (ih h1) h2
 ·rintro ⟨k,_,h⟩;exact ⟨k,h⟩
end ENG
namespace MI
open PySem PySem.Spec L2 SRC HND
theorem a0u:∀ (r l:List Nat),(cst r).foldl stepK (cst l)=cst (r.foldl stepK l)
 | [],l=>rfl
 | x::r,l=>by
  show (cst r).foldl stepK (stepK (cst l) (x:Int))=_;rw [a9b];exact a0u r _
theorem a2i{l:List Nat}{d:D}{n:Nat}(hn:n<=60)(lt:∀ y∈l,y<n)(ll:l.length<=4000){h:Hd}(e:a5d d h=some (cst l)) :
  ∃ ts:List Nat,Fw n ts/\ts.Pairwise (·<=·)/\(∀ y,y∈ts↔y∈l)/\a5e d h = .ok (.ref h.length) (h++[.lst (ts.map dw)]):=by
 obtain ⟨m,em,pm,sm⟩:=a2z (l.foldl stepK []);have F:Fw n (l.foldl stepK []):=Fw.fold .nil lt;refine ⟨m,⟨pm.nodup_iff.mpr F.nd,λx hx=>F.lt x (pm.mem_iff.mp hx)⟩,sm,λy=>?_,?_⟩
 ·rw [pm.mem_iff,a1d];simp
 ·unfold a5e;rw [e];have fl:=F.len;have cl:(cst l).length<=4000:=by unfold cst;rw [List.length_map];exact ll
  simp only [if_pos cl];have:(cst l).foldl stepK []=cst (l.foldl stepK []):=a0u l [];rw [this];unfold adf;rw [if_pos (by unfold cst;rw [List.length_map];omega),em,<-a7t]
theorem a5j:∀ l:List Nat,a6w (l.map dw)=some (cst l)
 | []=>rfl
 | x::l=>by
  show (a6w (l.map dw)).map _=_;rw [a5j l];rfl
theorem zu(l:List Nat)(h:Hd):a5d (.rol (l.map dw)) h=some (cst l):=a5j l
theorem ac1(h:Hd):∀ zss:List (List D),za (λd=>qw d h) (zss.map D.rol)=some zss
 | []=>rfl
 | z::zss=>by
  rw [List.map_cons,za,ac1 h zss];rfl
theorem ac2{f g:SE}{τ:Sd}{h:Hd}{zss:List (List D)}(e1:f τ h = .ok (.rol (zss.map D.rol)) h)(e2:g τ h = .ok (.rol []) h)(ll:zss.flatten.length<=LINE)(c:clos h.length zss.flatten)(ch:∀ o∈h,qt h.length o):sZ (sA adh (aj f (aj g dh))) τ h = .ok (.rol zss.flatten) h:=by
 have e3:adh [.rol (zss.map D.rol), .rol []] h=if zss=[] then .ok (.rol []) h else .ok (.ref h.length) (h++[.lst zss.flatten]):=by
  have e4:=ac1 h zss;show (match za (λd=>qw d h) (zss.map D.rol) with
   | some zss'=>if ([]++zss'.flatten).length<=LINE then (if zss.map D.rol=[] then R.ok (D.rol []) h else .ok (.ref h.length) (h++[O.lst ([]++zss'.flatten)])) else .no
   | none=>.no)=_
  rw [e4];simp only [List.nil_append];rw [if_pos ll]
  by_cases z:zss=[]
  ·subst z;rfl
  ·rw [if_neg (by simpa using z),if_neg z]
 by_cases z:zss=[]
 ·rw [if_pos z] at e3;subst z;exact auq (xq e1 e2 e3) (qx gq) ch
 ·rw [if_neg z] at e3;exact a0n (xq e1 e2 e3) c ch
end MI
namespace PN
open PySem PySem.Spec L2 MI AT HND EVX
local macro_rules | `(tactic| walk_at "ev") => `(tactic| simp only [ur,a3g,ab9,a8u,aba,mq,ate,aip,sIf,ug,a8n,aay,put,aiu,ai8,ahk,a02,aer,kN,sV,sC,s2,s1,sA,aj,dh,sNx,sT,asB,ai4,a2g,a7n,a7o,a7p,a7q,a5o,sOr,aen,a2p,ahi,ai5,sCh,ahj,gh,a4q,MI.a4e,MI.a99,MI.a9a,aqq,a1h,gLt,gGt,gGe,gLe,adn,ado,agk,ajr,abt,a2h,ajs,a3w,atk,atl,atm,atn,abq,MI.a8b,a9s,aex,abr,AT.aj8,AT.p18,a7j,a7k,a7l,acw,a7m,aq7,a8q,a8p,MI.yc,MI.ue,sML,isL,ath,oN,oS,ye,qw,sIt,amd,sRg,List.length_map,List.length_cons,List.length_nil,List.length_append,List.getElem?_cons_zero,List.getElem?_cons_succ,List.set_cons_zero,List.set_cons_succ,List.nil_append,List.cons_append,AT.aj0,AT.aj1,AT.aj2,AT.aj3,AT.aj4,AT.aj5,AT.aj6,AT.aj7,AT.x10,AT.x20,AT.x21,AT.x30,AT.x31,AT.x32,AT.x40,AT.x41,AT.x42,AT.x43,AT.x50,AT.x51,AT.x52,AT.x53,AT.x54,AT.x60,AT.x61,AT.x62,AT.x63,AT.x64,AT.x65,AT.x70,AT.x71,AT.x72,AT.x73,AT.x74,AT.x75,AT.x76,decide_true,decide_false,reduceIte,Bool.true_and,Bool.and_self,Bool.not_true,Bool.not_false,and_self,true_and,and_true,beq_self_eq_true,Nat.reduceAdd,Nat.reduceLeDiff,Nat.reduceLT,Nat.reducePow,Int.reduceLT,Int.reduceLE,Int.reduceNeg,Int.reduceEq,Int.reduceBEq,Bool.false_eq_true,Bool.true_eq_false,ite_true,ite_false,if_true,if_false, *])
structure Pen (o:O) (N:Nat):Prop where
 ex:∃ (cells:List Int) (a l:Int),o = .lst [.rol (cells.map D.int), .int a, .int l]/\0<=a/\a<=N/\0<=l
theorem Pen.clo{o:O}{N:Nat}(P:Pen o N):qt 0 o:=by
 obtain ⟨cells,a,l,rfl,_⟩:=P.ex;exact bx (qx (iz λx _=>iu x)) (bx (iu _) (bx (iu _) gq))
theorem Pen.up{o:O}{N M:Nat}(P:Pen o N)(h:N<=M):Pen o M:=by
 obtain ⟨cells,a,l,e,h1,h2,h3⟩:=P.ex;exact ⟨cells,a,l,e,h1,by omega,h3⟩
noncomputable def aq:SF:=qb a2u 7
theorem agw{o:O}{N:Nat}{m:Int}(P:Pen o N)(hN:N<=1000000000)(m0:0<m)(m1:m<1073741824):∃ r o',aq [.ref 0, .int m] [o] = .ok (.int r) [o']/\0<=r/\r<m/\Pen o' (N+1):=by
 obtain ⟨cells,a,l,rfl,a0,a1,l0⟩:=P.ex;unfold aq;rw [jn];unfold a2u a1v;simp only [List.map_cons,List.map_nil,List.length_cons,List.length_nil,Nat.reduceSub,Nat.reduceAdd,List.replicate,List.cons_append,List.nil_append];have k3:(0<m/\m<1073741824)=True:=by simp [m0,m1]
 have k3':(0<m)=True:=by simp [m0]
 by_cases hl:0<l
 ·have kl:decide (0<l)=true:=decide_eq_true hl;refine ⟨l % m,_,?_,Int.emod_nonneg _ (by omega),Int.emod_lt_of_pos _ m0,⟨cells,a,l / m,rfl,a0,by omega,Int.ediv_nonneg (by omega) (by omega)⟩⟩
  walk_at "ev"
 ·have:l=0:=by omega
  subst this;have last:∀ c:Int,∃ r q q2,0<=r/\r<m/\(c % 2147483587+40709*a+31) ^ (3:Int).toNat % 2147483647=q/\(q*q+48271*q+a) % 2147483629=q2/\q2 / 64 % m=r/\CMul 40709 a/\CMul q q/\CMul 48271 q /\
    (∀ h,aey (.int (c % 2147483587+40709*a+31)) (.int 3) h = .ok (.int ((c % 2147483587+40709*a+31) ^ (3:Int).toNat)) h):=λc=>by
   have p0:0<=c % 2147483587:=Int.emod_nonneg _ (by decide)
   have p1:c % 2147483587<2147483587:=Int.emod_lt_of_pos _ (by decide)
   have q0:0<=(c % 2147483587+40709*a+31) ^ (3:Int).toNat % 2147483647:=Int.emod_nonneg _ (by decide)
   have q1:(c % 2147483587+40709*a+31) ^ (3:Int).toNat % 2147483647<2147483647:=Int.emod_lt_of_pos _ (by decide)
   refine ⟨_,_,_,Int.emod_nonneg _ (by omega),Int.emod_lt_of_pos _ m0,rfl,rfl,rfl, .inl ⟨by decide,by decide⟩, .inl ⟨by omega,by omega⟩, .inl ⟨by decide,by decide⟩,λh=>aus ⟨by decide,by decide,by omega⟩⟩
  obtain ⟨n,rfl⟩:=Int.eq_ofNat_of_zero_le a0
  by_cases hc:0<(cells.length:Int)
  ·have kc:decide (0<(cells.length:Int))=true:=decide_eq_true hc;have ic:(0<(cells.length:Int))=True:=by simpa using hc
   have im:((n:Int) % (cells.length:Int))=((n % cells.length:Nat):Int):=by omega
   have hj:n % cells.length<cells.length:=Nat.mod_lt _ (by omega)
   have hat:atI (cells.map D.int) ((n % cells.length:Nat):Int)=some (.int cells[n % cells.length]):=ul (by simp [hj])
   generalize cells[n % cells.length]=x at hat
   by_cases hA:(n:Int)<(cells.length:Int)
   ·have ka:decide ((n:Int)<(cells.length:Int))=true:=decide_eq_true hA
    by_cases hB:(1000000000000000000:Int)<=akx x
    ·have kb:decide ((1000000000000000000:Int)<=akx x)=true:=decide_eq_true hB;have cm:CMul 2 (akx x):=.inl ⟨by decide,by decide⟩
     have g0:0<=2*akx x+(if decide (x<0)=true then 1 else 0):=by split<;>omega
     refine ⟨(2*akx x+(if decide (x<0)=true then 1 else 0)) % m,_,?_,Int.emod_nonneg _ (by omega),Int.emod_lt_of_pos _ m0,⟨cells,(n:Int)+1,(2*akx x+(if decide (x<0)=true then 1 else 0)) / m,rfl,by omega,by omega,Int.ediv_nonneg g0 (by omega)⟩⟩
     walk_at "ev"
    ·have kb:decide ((1000000000000000000:Int)<=akx x)=false:=decide_eq_false hB;obtain ⟨r,q,q2,r0,r1,eq,eq2,er,d1,d2,d3,d4⟩:=last x;refine ⟨r,_,?_,r0,r1,⟨cells,(n:Int)+1,0,rfl,by omega,by omega,by omega⟩⟩
     walk_at "ev"
   ·have ka:decide ((n:Int)<(cells.length:Int))=false:=decide_eq_false hA;obtain ⟨r,q,q2,r0,r1,eq,eq2,er,d1,d2,d3,d4⟩:=last x;refine ⟨r,_,?_,r0,r1,⟨cells,(n:Int)+1,0,rfl,by omega,by omega,by omega⟩⟩
    walk_at "ev"
  ·have kc:decide (0<(cells.length:Int))=false:=decide_eq_false hc;have ka:decide ((n:Int)<(cells.length:Int))=false:=decide_eq_false (by omega)
   obtain ⟨r,q,q2,r0,r1,eq,eq2,er,d1,d2,d3,d4⟩:=last 5;refine ⟨r,_,?_,r0,r1,⟨cells,(n:Int)+1,0,rfl,by omega,by omega,by omega⟩⟩
   walk_at "ev"
theorem ou{o:O}{N:Nat}{m:Int}(P:Pen o N)(hN:N<=1000000000)(m0:0<m)(m1:m<1073741824):∃ r o',Dr aq 2 [.int m] o (.int r) o'/\0<=r/\r<m/\Pen o' (N+1):=by
 obtain ⟨r,o',e,r0,r1,P'⟩:=agw P hN m0 m1;refine ⟨r,o',Dr.of rfl (by simp [iu]) P.clo e (a04 (iu _) ?_) (iu _) P'.clo,r0,r1,P'⟩
 intro u hu
 simp at hu
 subst hu;exact a2t (by omega) P'.clo
noncomputable def jl:SF:=qb a1z 1
theorem ash(ns:List Int)(h:Hd):∃ o,Pen o 0/\kh true 1 jl [.scr (ns.map D.int)] h = .ok (.ref h.length) (h++[o]):=by
 have cl:clos 0 ((ns.take 63).map D.int):=iz λx _=>iu x;have z1:sZ (ye (sV 0) oN (oS (sC (.int 63)))) [some (.scr (ns.map D.int))] [] = .ok (.rol ((ns.take 63).map D.int)) []:=by
  refine a0n (by
   show gSl (.scr (ns.map D.int)) none (some ((63:Nat):Int)) []=_;unfold gSl;simp only [a6s,List.map_take]) cl (by simp)
 have e:jl [.scr (ns.map D.int)] [] = .ok (.ref 0) [.lst [.rol ((ns.take 63).map D.int), .int 0, .int 0]]:=by
  unfold jl;rw [jn];show toR (a1z [some (.scr (ns.map D.int))] [])=_;unfold a1z;exact congrArg toR (m5 (as6 z1 (jx _ _ _) (jx _ _ _) rfl))
 have P:Pen (.lst [.rol ((ns.take 63).map D.int), .int 0, .int 0]) 0:=⟨_,0,0,rfl,by decide,by decide,by decide⟩
 exact ⟨_,P,aqy rfl (by simpa [MI.clo] using (iz λx _=>iu x:clos 0 (ns.map D.int))) e rfl P.clo h⟩
noncomputable def ig:SF:=qb xg 1
theorem a7r:Pu ig 0 [] (.str (S sig)):=HND.a7r
end PN
namespace SRC
open PySem PySem.Spec L2 MI AT HND EVX
end SRC
namespace K21
open PySem PySem.Spec L2 MI
end K21
namespace K23
open PySem PySem.Spec L2 MI
end K23
namespace K22
open PySem PySem.Spec L2 MI
end K22
namespace K22
open PySem PySem.Spec L2 MI AT HND
section
variable(T:Table)
def knd(r:Nat):Bool:=decide ((T.ks[r]?).getD (-1) ≠ -1)
end
end K22
namespace K23
open PySem PySem.Spec L2 MI AT HND K22
end K23
namespace K21
open PySem PySem.Spec L2 MI AT HND K22 K23 EVX
section
variable{T:Table}
theorem av8{a b:D}(ha:MI.clo 0 a)(hb:MI.clo 0 b):∀ x∈[a,b],MI.clo 0 x:=by
 intro x hx
 simp only [List.mem_cons,List.not_mem_nil,or_false] at hx
 rcases hx with rfl | rfl
 ·exact ha
 ·exact hb
end
end K21
namespace SRC
open PySem PySem.Spec L2 MI AT HND EVX K22 K23 K21
end SRC
namespace PN
open PySem PySem.Spec L2 MI AT HND EVX K22 K23 K21
local macro_rules | `(tactic| walk_at "ev") => `(tactic| simp only [ur,a3g,ab9,a8u,aba,mq,ate,aip,sIf,ug,a8n,aay,put,aiu,ai8,ahk,a02,aer,kN,sV,sC,s2,s1,sA,aj,dh,sNx,sT,asB,ai4,a2g,a7n,a7o,a7p,a7q,a5o,sOr,aen,a2p,ahi,ai5,sCh,ahj,gh,a4q,MI.a4e,MI.a99,MI.a9a,aqq,a1h,gLt,gGt,gGe,gLe,adn,ado,agk,ajr,abt,a2h,ajs,a3w,atk,atl,atm,atn,abq,MI.a8b,a9s,aex,abr,AT.aj8,AT.p18,a7j,a7k,a7l,acw,a7m,aq7,a8q,a8p,MI.yc,MI.ue,sML,isL,ath,oN,oS,ye,qw,sIt,amd,sRg,a9r,rm,aq2,aqw,aqv,amz,a9v,ati,srcOf,  List.length_map,List.length_cons,List.length_nil,List.length_append,List.getElem?_cons_zero,List.getElem?_cons_succ,List.set_cons_zero,List.set_cons_succ,List.nil_append,List.cons_append,AT.aj0,AT.aj1,AT.aj2,AT.aj3,AT.aj4,AT.aj5,AT.aj6,AT.aj7,AT.x10,AT.x20,AT.x21,AT.x30,AT.x31,AT.x32,AT.x40,AT.x41,AT.x42,AT.x43,AT.x50,AT.x51,AT.x52,AT.x53,AT.x54,AT.x60,AT.x61,AT.x62,AT.x63,AT.x64,AT.x65,AT.x70,AT.x71,AT.x72,AT.x73,AT.x74,AT.x75,AT.x76,decide_true,decide_false,reduceIte,Bool.true_and,Bool.and_self,Bool.not_true,Bool.not_false,and_self,true_and,and_true,beq_self_eq_true,Nat.reduceAdd,Nat.reduceLeDiff,Nat.reduceLT,Nat.reducePow,Int.reduceLT,Int.reduceLE,Int.reduceNeg,Int.reduceEq,Int.reduceBEq,Bool.false_eq_true,Bool.true_eq_false,ite_true,ite_false,if_true,if_false, *])
noncomputable def fu:SF:=qb (a2v aq) 6
theorem agx{o:O}{N most:Nat}{all:List Nat}(P:Pen o N)(hN:N<=999999000)(m1:1<=most)(m2:most<=all.length)(al:all.length<=95)(nd0:all.Nodup) :
  ∃ l o',1<=l.length/\l.length<=most/\l.Nodup/\(∀ c∈l,c∈all)/\Dr fu 3 [.str (S all),dw most] o (.str (S l)) o'/\Pen o' (N+1+most):=by
 obtain ⟨r0,o1,e1,r0a,r0b,P1⟩:=ou (m:=(most:Int)) P (by omega) (by omega) (by omega)
 have lo:=ut (g:=kN 4) (b:=wg aq) (λi:Nat=>D.int (0+(i:Nat)))
  (λpre τ h=>∃ (rest told:List Nat) (u:O) (t4 t5:Option D),τ=[some (.ref 0),some (.str (S rest)),some (dw most),some (.str (S told)),t4,t5]/\h=[u]/\Pen u (N+1+pre.length)/\told.length=pre.length/\(told++rest).length=all.length/\(told++rest).Nodup/\∀ c∈told++rest,c∈all)
  (List.range (1+r0).toNat) [some (.ref 0),some (.str (S all)),some (dw most),some (.str (S [])),none,none] [o1] ?_
  ⟨all,[],o1,none,none,rfl,rfl,P1,rfl,by simp,by simpa using nd0,by simp⟩
 ·obtain ⟨τ',h',e2,rest,told,u,t4,t5,rfl,rfl,P2,l1,l2,nd,sb⟩:=lo;rw [List.length_range] at P2 l1;refine ⟨told,u,by omega,by omega,(List.nodup_append.mp nd).1,λc hc=>sb c (List.mem_append_left _ hc),Dr.of rfl (av8 (j4 _) (iu _)) P.clo (r:=.ok (.str (S told)) [u]) ?_ (a04 (j4 _) (by simpa using a2t (by omega) P2.clo)) (j4 _) P2.clo,P2.up (by omega)⟩
  unfold fu;rw [jn];unfold a2v a1v;simp only [List.map_cons,List.map_nil,List.length_cons,List.length_nil,Nat.reduceSub,Nat.reduceAdd,List.replicate,List.cons_append,List.nil_append];have c2:kh false 2 aq [.ref 0, .int (most:Nat)] [o]=_:=e1 0 [o] rfl;have em:("" : Str)=S []:=rfl;have bd:B62 (1+r0):=by unfold B62;omega
  have e2:forL (λ_=>True) (kN 4) (wg aq) (rng 0 (1+r0).toNat) [some (D.ref 0),some (D.str (S all)),some (dw most),some (D.str (S [])),none,none] [o1]=_:=e2
  walk_at "ev"
 ·rintro pre i post τ h al' ⟨rest,told,u,t4,t5,rfl,rfl,P2,l1,l2,nd,sb⟩
  have hlen:pre.length<(1+r0).toNat:=by
   have:=congrArg List.length al'
   simp at this;omega
  rw [List.length_append] at l2;obtain ⟨r,u',e2,ra,rb,P3⟩:=ou (m:=(rest.length:Nat)) P2 (by omega) (by omega) (by omega)
  obtain ⟨j,rfl⟩:=Int.eq_ofNat_of_zero_le ra;have hj:j<rest.length:=by omega
  have gx:rest[j]? = some rest[j]:=List.getElem?_eq_getElem hj;have pp:=agm told rest j rest[j] gx;refine ⟨_,_,rfl,_,_,?_,rest.take j++rest.drop (j+1),told++[rest[j]],u',some (.int (0+(i:Nat))),some (.int (j:Nat)),rfl,rfl,by simpa [Nat.add_assoc] using P3,by simp [l1],?_,pp.nodup_iff.mp nd,λc hc=>sb c (pp.mem_iff.mpr hc)⟩
  ·unfold wg;have L:∀ n:Nat,n<=95->n<=LINE:=λn hn=>by show n<=16777216;omega
   have c2:=e2 0 [u] rfl;have x1:∀ h,gIx (.str (S rest)) (.int (j:Nat)) h = .ok (.str (S [rest[j]])) h:=λh=>arx (L _ (by omega)) gx
   have x2:∀ h,qg [.str (S rest)] h = .ok (.int rest.length) h:=λh=>a1q (L _ (by omega))
   have x3:∀ h,j5 (.str (S told)) (.str (S [rest[j]])) h = .ok (.str (S (told++[rest[j]]))) h:=λh=>a5t (L _ (by simp;omega))
   have x4:∀ h,a69 (.str (S rest)) none (some (j:Int)) h = .ok (.str (S (rest.take j))) h:=λh=>arz j (L _ (by omega))
   have x5:∀ h,a69 (.str (S rest)) (some ((j:Int)+1)) none h = .ok (.str (S (rest.drop (j+1)))) h:=λh=>agj (j+1) (L _ (by omega))
   have x6:∀ h,j5 (.str (S (rest.take j))) (.str (S (rest.drop (j+1)))) h = .ok (.str (S (rest.take j++rest.drop (j+1)))) h:=λh=>a5t (L _ (by simp;omega))
   clear al' hlen
   walk_at "ev"
  ·rw [<-pp.length_eq];simpa using l2
end PN
namespace EVT
open PySem PySem.Spec L2 MI AT HND
section
variable{f g k f1 f2 f3:SE}{ka:SA}{c c1 c2:ST}{τ:Sd}{h h1 h2 h3:Hd}{a b d v:D}{i:Nat}{t u:Bool}{xs ys ds:List D}
theorem xr:dh τ h = .ok [] h:=rfl
theorem ady:oN τ h = .ok none h:=rfl
theorem PuE{F:SF}{n:Nat}(p:Pu F n ds d):kh false n F ds h = .ok d h:=p h
theorem av9{F:SF}{n:Nat}{o o':O}(p:Dr F n ds o d o'):kh false n F (.ref 0::ds) (o::h) = .ok d (o'::h):=p 0 (o::h) rfl
theorem ao3{n:Nat}(hv:n<xs.length):gIx (.rol xs) (.int (n:Nat)) h = .ok (xs.getD n .non) h:=ahn (by rw [List.getD_eq_getElem?_getD,List.getElem?_eq_getElem hv];rfl)
theorem ao4{n:Nat}(hv:n<xs.length):gIx (.tup xs) (.int (n:Nat)) h = .ok (xs.getD n .non) h:=anu (by rw [List.getD_eq_getElem?_getD,List.getElem?_eq_getElem hv];rfl)
theorem ac3:qg [.tup xs] h = .ok (dw xs.length) h:=rfl
theorem a6g:qg [.rol xs] h = .ok (dw xs.length) h:=rfl
theorem axq(e:f τ h = .ok (.bl true) h1):ahi f g τ h = .ok (.bl true) h1:=by unfold ahi;rw [e,gh]
theorem axr(e:f τ h = .ok (.bl false) h1)(e':g τ h1 = .ok d h2):ahi f g τ h = .ok d h2:=by unfold ahi;rw [e,gh];exact e'
theorem axs(e:c τ h = .ok true h1)(e':f τ h1 = .ok d h2):ahj c f g τ h = .ok d h2:=by unfold ahj;rw [e,gh,if_pos rfl,e']
theorem awd(e:c τ h = .ok false h1)(e':g τ h1 = .ok d h2):ahj c f g τ h = .ok d h2:=by unfold ahj;rw [e,gh,if_neg (by simp),e']
theorem ajy(e:f τ h=R.ok (D.ref h1.length) (h1++[.lst xs]))(hl:h1.length=h.length)(cx:clos 0 xs)(co:∀ o∈h1,qt 0 o):sZ f τ h = .ok (.rol xs) h1 :=
 PAP.abx hl e (yp (Nat.zero_le _) cx) λo ho=>a2t (Nat.zero_le _) (co o ho)
theorem ql(e:ka τ h = .ok ds h1)(hl:h1.length=h.length)(cd:clos 0 ds)(co:∀ o∈h1,qt 0 o)(z:ds.length<=1000000):sZ (sA MI.ue ka) τ h = .ok (.rol ds) h1:=by
 refine ajy ?_ hl cd co;unfold sA;rw [e,gh];unfold MI.ue;exact if_pos (du z)
theorem aac(e:f τ h = .ok (.tup xs) h1)(hl:h1.length=h.length)(cd:clos 0 xs)(co:∀ o∈h1,qt 0 o):sZ (sA aqh (aj f dh)) τ h = .ok (.rol xs) h1:=ajy (vo e rfl) hl cd co
theorem aad{l:List Nat}(e:f τ h = .ok (.str (S l)) h1)(hl:h1.length=h.length)(co:∀ o∈h1,qt 0 o)(z:l.length<=1000000):sZ (sA aqh (aj f dh)) τ h = .ok (.rol (l.map λc=>.str (S [c]))) h1:=by
 refine ajy (vo e ?_) hl (iz λ_ _=>j4 _) co;show (if (S l).length<=LINE then R.ok (D.ref h1.length) (h1++[O.lst (a0l (S l))]) else R.no)=_
 rw [if_pos (du (by rw [a7i];exact z))]
 unfold a0l;rw [aaa]
theorem a9e(e1:f τ h = .ok (.rol xs) h1)(e2:g τ h1 = .ok (.rol ys) h2)(hl:h2.length=h.length)(c1:clos 0 xs)(c2:clos 0 ys)(co:∀ o∈h2,qt 0 o)(z:xs.length+ys.length<=1000000):sZ (s2 j5 f g) τ h = .ok (.rol (xs++ys)) h2:=by
 refine ajy (jr e1 e2 ?_) hl (lz.mpr λx hx=>(List.mem_append.mp hx).elim (lz.mp c1 x) (lz.mp c2 x)) co;rw [a9x (xs:=xs) (ys:=ys) rfl rfl,if_pos (du z)]
theorem agy{k:Int}(e1:f τ h = .ok (.rol xs) h1)(e2:g τ h1 = .ok (.int k) h2)(hl:h2.length=h.length)(c1:clos 0 xs)(co:∀ o∈h2,qt 0 o)(z:xs.length*k.toNat<=1000000)(zn : -1000000<=k/\k<=1000000):sZ (s2 a1x f g) τ h = .ok (.rol (List.replicate k.toNat xs).flatten) h2:=by
 refine ajy (jr e1 e2 ?_) hl (lz.mpr λx hx=>?_) co
 ·have:a1x (.rol xs) (.int k) h2=if (-(2 ^ 63)<=k/\k<2 ^ 63)/\xs.length*k.toNat<=LINE then .ok (.ref h2.length) (h2++[.lst (List.replicate k.toNat xs).flatten]) else .no:=rfl
  rw [this,if_pos ⟨by omega,du z⟩]
 ·obtain ⟨l,hl,hx⟩:=List.mem_flatten.mp hx;rw [(List.mem_replicate.mp hl).2] at hx;exact lz.mp c1 x hx
theorem a3m(co:∀ o∈h,qt 0 o):sZ aml τ h = .ok (.rod [] []) h:=by
 unfold sZ;show a72 h.length (.ok (.ref h.length) (h++[.dK []]))=_;rw [a4s (d':=.rod [] []) ?_ ?_]
 ·simp
 ·unfold FU a5p;rw [if_neg (by simp only [MI.clo];omega)]
  simp [za]
 ·simp only [List.take_left'];exact λo ho=>a2t (Nat.zero_le _) (co o ho)
theorem aae{n:Nat}:(List.replicate n xs).flatten.length=n*xs.length:=by simp
theorem a1e(c1:clos i xs)(c2:clos i ys):clos i (xs++ys):=lz.mpr λx hx=>(List.mem_append.mp hx).elim (lz.mp c1 x) (lz.mp c2 x)
theorem a2j{n:Nat}(c:clos i xs):clos i (xs.take n):=lz.mpr λx hx=>lz.mp c x (List.mem_of_mem_take hx)
theorem a2k{n:Nat}(c:clos i xs):clos i (xs.drop n):=lz.mpr λx hx=>lz.mp c x (List.mem_of_mem_drop hx)
theorem a7w{n:Nat}(c:clos i xs):clos i (List.replicate n xs).flatten:=lz.mpr λx hx=>by
 obtain ⟨l,hl,hx⟩:=List.mem_flatten.mp hx;rw [(List.mem_replicate.mp hl).2] at hx;exact lz.mp c x hx
theorem a7x{n:Nat}(c:clos i xs):clo i (xs.getD n .non):=by
 rw [List.getD_eq_getElem?_getD]
 cases e:xs[n]? with
 | none=>exact a4r
 | some x=>exact lz.mp c x (List.mem_of_getElem? e)
theorem a7y:clo i (.rod [] []):=by simp [clo,clos]
theorem aaf:∀ u∈([]:List O),qt 0 u:=λu hu=>by cases hu
theorem a0b{o:O}(c:qt 0 o):∀ u∈[o],qt 0 u:=λu hu=>by rw [List.mem_singleton] at hu;subst hu;exact c
end
def wth(ws:List D)(k:Nat)(d:D):List D:=ws.take k++[d]++ws.drop (k+1)
theorem a7z{ws:List D}{k i:Nat}{d:D}(c:clos i ws)(cd:clo i d):clos i (wth ws k d):=a1e (a1e (a2j c) (bx cd gq)) (a2k c)
theorem asi{α:Type}(l:List α):a3e l none (some (-1))=l.take (l.length - 1):=by
 unfold a3e;rw [HT.a6l,List.drop_zero,Nat.sub_zero]
 congr 1
 unfold HT.sIx;simp;omega
theorem ao5(ys:List D)(hh:Hd):a69 (.tup ys) none (some (-1)) hh = .ok (.tup (ys.take (ys.length - 1))) hh:=by rw [PAP.av5,asi]
end EVT
namespace K76
open PySem PySem.Spec L2 MI
end K76
namespace K76
open PySem PySem.Spec L2 MI AT HND
theorem asj:∀ ls:List (List Nat),Txt.join (S []) (ls.map S)=S ls.flatten:=by
 have e:∀ zs:List Str,Txt.join (S []) zs=Str.join (S []) zs:=PySem.StrLaws.glued_eq_join (S []);have st:∀ (x y:Str) (r:List Str),Str.join (S []) (x::y::r)=x++S []++Str.join (S []) (y::r):=λ_ _ _=>rfl
 intro ls
 rw [e]
 induction ls with
 | nil=>rfl
 | cons l ls ih =>
  cases ls with
  | nil=>rw [List.map_cons,List.map_nil,List.flatten_cons,List.flatten_nil,List.append_nil];rfl
  | cons m ls =>
   rw [List.map_cons,List.map_cons,st,<-List.map_cons,ih,anp,anp,List.append_nil,List.flatten_cons (l:=l)]
theorem al7:∀ ls:List (List Nat),a9u (ls.map λl=>D.str (S l))=some (ls.map S)
 | []=>rfl
 | l::ls=>by
  show (a9u (ls.map λl=>D.str (S l))).map _=_;rw [al7 ls];rfl
theorem axt(ls:List (List Nat)):((ls.map S).map (·.length)).sum=ls.flatten.length:=by
 induction ls with
 | nil=>rfl
 | cons l ls ih=>rw [List.map_cons,List.map_cons,List.sum_cons,ih,List.flatten_cons,List.length_append,a7i]
theorem al8{ls:List (List Nat)}{h:Hd}(z:ls.flatten.length<=1000000):acx (.str (S [])) [.rol (ls.map λl=>.str (S l))] h = .ok (.str (S ls.flatten)) h:=by
 unfold acx;simp only [al7,axt,a7i,List.length_nil,Nat.mul_zero,Nat.add_zero,asj];rw [if_pos (by omega)]
theorem awe{g:D->List D->Hd->R D}{f:SE}{k:SA}{τ:Sd}{h h1 h2 h3:Hd}{z:Str}{ds:List D}{v:D}(e1:f τ h = .ok (.str z) h1)(e2:k τ h1 = .ok ds h2)(e3:g (.str z) ds h2 = .ok v h3):sMS g f k τ h = .ok v h3:=by
 unfold sMS;rw [e1,gh];dsimp only;rw [e2,gh,e3]
end K76
namespace SHD
open PySem PySem.Spec L2 MI AT HND EVX
open PAP hiding jd ahp al5 a3m abx aof
local macro_rules | `(tactic| walk_at "c") => `(tactic| first | assumption | exact iu _ | (with_reducible exact EVT.a7y) | exact j4 _ | exact a3h _ | exact a4r | exact gq | ((with_reducible apply bx)<;>walk_at "c") | ((with_reducible apply my);walk_at "c") | ((with_reducible apply qx);walk_at "c") | ((with_reducible apply EVT.a1e)<;>walk_at "c") | ((with_reducible apply EVT.a2j);walk_at "c") | ((with_reducible apply EVT.a2k);walk_at "c") | ((with_reducible apply EVT.a7w);walk_at "c") | ((with_reducible apply EVT.a7x);walk_at "c") | ((with_reducible apply EVT.a7z)<;>walk_at "c") | exact iz fun _ _=>iu _ | exact iz fun _ _=>j4 _)
local macro_rules | `(tactic| walk_at "h") => `(tactic| first | assumption | exact EVT.aaf | exact EVT.a0b (by assumption))
local macro_rules | `(tactic| walk_at "z") => `(tactic| first | assumption | omega | (simp only [List.length_cons,List.length_nil,List.length_append,List.length_take,List.length_drop,List.length_map,List.length_singleton,EVT.aae,Int.reduceToNat]<;>omega))
local macro_rules | `(tactic| walk_at "l") => `(tactic| first
 | (with_reducible assumption)
 | (with_reducible exact al5) | (with_reducible exact ahp) | (with_reducible exact adp) | (with_reducible exact av2)
 | (with_reducible exact EVT.ac3) | (with_reducible exact EVT.a6g)
 | ((with_reducible apply EVT.PuE);with_reducible assumption)
 | ((with_reducible apply EVT.av9);with_reducible assumption)
 | (with_reducible exact EVT.ao5 _ _) | (with_reducible exact PAP.av6 _ _ _) | (with_reducible exact PAP.agq _ _ _)
 | ((with_reducible apply PAP.ao1);walk_at "z")
 | ((with_reducible apply EVT.ao3);walk_at "z")
 | ((with_reducible apply EVT.ao4);walk_at "z")
 | (with_reducible exact abv _ _) | (with_reducible exact ao0 _) | (with_reducible exact a2g _)
 | ((with_reducible apply aho);walk_at "z") | ((with_reducible apply ajv);walk_at "z")
 | ((with_reducible apply aoo);walk_at "z") | ((with_reducible apply aop);walk_at "z")
 | ((with_reducible apply anv);walk_at "z") | ((with_reducible apply anw);walk_at "z")
 | ((with_reducible apply anz);walk_at "z") | ((with_reducible apply anx);walk_at "z")
 | exact rfl)
local macro_rules | `(tactic| walk_at "x") => `(tactic| first
 | (with_reducible assumption)
 | (with_reducible exact jx _ _ _)
 | ((with_reducible apply di);exact rfl)
 | (with_reducible exact EVT.xr) | (with_reducible exact EVT.ady)
 | ((with_reducible apply EVT.ql);walk_at "x";exact rfl;walk_at "c";walk_at "h";walk_at "z")
 | ((with_reducible apply EVT.aac);walk_at "x";exact rfl;walk_at "c";walk_at "h")
 | ((with_reducible apply EVT.aad);walk_at "x";exact rfl;walk_at "h";walk_at "z")
 | ((with_reducible apply EVT.a9e);walk_at "x";walk_at "x";exact rfl;walk_at "c";walk_at "c";walk_at "h";walk_at "z")
 | ((with_reducible apply EVT.agy);walk_at "x";walk_at "x";exact rfl;walk_at "c";walk_at "h";walk_at "z";walk_at "z")
 | ((with_reducible apply EVT.a3m);walk_at "h")
 | ((with_reducible apply jr);walk_at "x";walk_at "x";walk_at "l")
 | ((with_reducible apply aon);walk_at "x";walk_at "l")
 | ((with_reducible apply PAP.aof);walk_at "x";walk_at "l")
 | ((with_reducible apply PAP.jd);walk_at "x";walk_at "x")
 | ((with_reducible apply adq);walk_at "x";walk_at "x";walk_at "x";walk_at "l")
 | ((with_reducible apply abw);walk_at "x")
 | ((with_reducible apply tof);walk_at "x")
 | ((with_reducible apply ago);walk_at "x";walk_at "l")
 | ((with_reducible apply as8);walk_at "x") | ((with_reducible apply av1);walk_at "x")
 | ((with_reducible apply ajt);walk_at "x";walk_at "x") | ((with_reducible apply ahm);walk_at "x")
 | ((with_reducible apply orT);walk_at "x") | ((with_reducible apply orF);walk_at "x";walk_at "x"))
def Dr2(F:SF)(n:Nat)(ds:List D)(o p:O)(d:D)(o' p':O):Prop:=∀ i j h,i≠j->h[i]? = some o->h[j]? = some p->kh false n F (.ref i::.ref j::ds) h = .ok d ((h.set i o').set j p')
theorem Dr2.of{F:SF}{n:Nat}{ds:List D}{o o' p p':O}{r:R D}{d:D}(hn:ds.length+2=n)(cd:∀ x∈ds,clo 0 x)(co:qt 0 o)(cp:qt 0 p)(e:F (.ref 0::.ref 1::ds) [o,p]=r)(z:a72 2 r = .ok d [o',p'])(c:clo 0 d)(co':qt 0 o')(cp':qt 0 p'):Dr2 F n ds o p d o' p':=λi j h ne hi hj=>by
 obtain ⟨p1,_,p3⟩:=a1y cd;have e1:a0h (.ref i::.ref j::ds)=[i,j]:=by
  have:a0h (.ref i::.ref j::ds)=i::j::a0h ds:=rfl
  rw [this,p1]
 have e2:zb 0 (.ref i::.ref j::ds) = .ref 0::.ref 1::ds:=by
  have:zb 0 (.ref i::.ref j::ds) = .ref 0::.ref 1::zb 2 ds:=rfl
  rw [this,p3]
 unfold kh;rw [if_pos (by simpa using hn)]
 unfold aol;rw [e1];simp only [za,hi,hj,List.length_cons,List.length_nil,Bool.false_eq_true,if_false,Nat.zero_add,Nat.reduceAdd];have all:∀ x∈(D.ref i::.ref j::ds),clo 0 x\/isRef x:=λx hx=>by
  rcases List.mem_cons.mp hx with rfl | hx
  ·exact .inr ⟨i,rfl⟩
  rcases List.mem_cons.mp hx with rfl | hx
  ·exact .inr ⟨j,rfl⟩
  ·exact .inl (cd x hx)
 rw [if_pos ⟨by simp [ne],all,λu hu=>by simp only [List.mem_cons,List.not_mem_nil,or_false] at hu;rcases hu with rfl | rfl;exact co;exact cp⟩,e2,e,z]
 simp [c,co',cp',u9]
theorem ava{F:SF}{n:Nat}{ds:List D}{o o' p p':O}{d:D}{h:Hd}(q:Dr2 F n ds o p d o' p'):kh false n F (.ref 0::.ref 1::ds) (o::p::h) = .ok d (o'::p'::h):=q 0 1 (o::p::h) (by decide) rfl rfl
inductive Sh where
 | one (s:List Nat) | row (ps:List Sh) | eit (ps:List Sh) | many (p:Sh) | tim (p:Sh) (lo hi:Nat)
mutual
def sd:Sh->D
 | .one s=>.tup [.str "one", .str (S s)]
 | .row ps=>.tup [.str "row", .tup (sds ps)]
 | .eit ps=>.tup [.str "either", .tup (sds ps)]
 | .many p=>.tup [.str "many",sd p]
 | .tim p lo hi=>.tup [.str "times",sd p,dw lo,dw hi]
def sds:List Sh->List D
 | []=>[]
 | p::ps=>sd p::sds ps
end
theorem qe:∀ ps,sds ps=ps.map sd
 | []=>by rw [sds];rfl
 | p::ps=>by rw [sds,qe ps];rfl
def a0v(tg:List Nat):Nat->Sh->Prop
 | 0,_=>False
 | n+1,s=>match s with
  | .one s=>1<=s.length/\s.length<=6/\∀ c∈s,c∈tg
  | .row ps=>ps.length<=6/\∀ p∈ps,a0v tg n p
  | .eit ps=>1<=ps.length/\ps.length<=6/\∀ p∈ps,a0v tg n p
  | .many p=>a0v tg n p
  | .tim p lo hi=>lo<=hi/\hi<=4/\a0v tg n p
mutual
theorem vy:∀ p,MI.clo 0 (sd p)
 | .one s=>by rw [sd];exact my (bx (j4 _) (bx (j4 _) gq))
 | .row ps=>by rw [sd];exact my (bx (j4 _) (bx (my (a80 ps)) gq))
 | .eit ps=>by rw [sd];exact my (bx (j4 _) (bx (my (a80 ps)) gq))
 | .many p=>by rw [sd];exact my (bx (j4 _) (bx (vy p) gq))
 | .tim p lo hi=>by rw [sd];exact my (bx (j4 _) (bx (vy p) (bx (iu _) (bx (iu _) gq))))
theorem a80:∀ ps,clos 0 (sds ps)
 | []=>by rw [sds];exact gq
 | p::ps=>by rw [sds];exact bx (vy p) (a80 ps)
end
def bnd:Nat->Nat
 | 0=>200
 | d+1=>7*bnd d
theorem agz:∀ d,200<=bnd d
 | 0=>by decide
 | d+1=>by have:=agz d;rw [bnd];omega
noncomputable def bz:Nat->SF
 | 0=>λ_ _=>.no
 | n+1=>qb (xj (bz n) PN.fu PN.aq) 9
theorem adu{tg:List Nat}:∀ {n:Nat} {s:Sh},a0v tg n s->a0v tg (n+1) s
 | 0,_,h=>h.elim
 | n+1, .one s,h=>h
 | n+1, .row ps,h=>⟨h.1,λp hp=>adu (h.2 p hp)⟩
 | n+1, .eit ps,h=>⟨h.1,h.2.1,λp hp=>adu (h.2.2 p hp)⟩
 | n+1, .many p,h=>adu (n:=n) (s:=p) h
 | n+1, .tim p lo hi,h=>⟨h.1,h.2.1,adu h.2.2⟩
theorem a0c(x:Int):qt 0 (.lst [.int x]):=bx (iu _) gq
theorem a5k{o p:O}(c:qt 0 o)(c':qt 0 p):∀ u∈[o,p],qt 0 u:=λu hu=>by
 simp only [List.mem_cons,List.not_mem_nil,or_false] at hu
 rcases hu with rfl | rfl
 ·exact c
 ·exact c'
theorem axu{d:D}{o p:O}{h:Hd}(c:MI.clo 0 d)(co:qt 0 o)(cp:qt 0 p):a72 2 (.ok d (o::p::h)) = .ok d [o,p]:=a04 (afl (by omega) c) (by
 intro u hu
 simp only [List.take_succ_cons,List.take_zero] at hu;exact a2t (by omega) (a5k co cp u hu))
theorem avb{a b c d:D}{h:Hd}:MI.yc [a,b,c,d] h = .ok (.tup [a,b,c,d]) h:=by unfold MI.yc;rw [if_pos (du (by simp))]
theorem a3a{xs:List D}{h:Hd}:yg [.rol xs] h = .ok (.tup xs) h:=rfl
theorem ixp{o:O}{v:D}{h:Hd}:gIx (.ref 1) (.int 0) (o::.lst [v]::h) = .ok v (o::.lst [v]::h):=rfl
theorem putp{o:O}{v w:D}{h:Hd}:put (.ref 1) (.int 0) v (o::.lst [w]::h)=some (o::.lst [v]::h):=rfl
theorem subn{n:Nat}{h:Hd}:MI.a8b (.int ((n+1:Nat):Int)) (.int 1) h = .ok (dw n) h:=by
 rw [abv,show ((n+1:Nat):Int) - 1=(n:Int) by omega]
theorem a9h{x y:Int}{h:Hd}:j5 (.int x) (.int y) h = .ok (.int (x+y)) h:=rfl
local macro_rules | `(tactic| walk_at "l") => `(tactic| first | ((with_reducible apply ava);with_reducible assumption) | (with_reducible exact ixp) | (with_reducible exact subn) | (with_reducible exact a9h))
def Drawn(tg:List Nat)(n d:Nat):Prop:=∀ (o:O) (N:Nat) (x:Int),PN.Pen o N->N+bnd d<=900000000->0<=x->x<=23->∃ s o' x',a0v tg d s/\Dr2 (bz n) 4 [dw d, .str (S tg)] o (.lst [.int x]) (sd s) o' (.lst [.int x'])/\PN.Pen o' (N+bnd d)/\0<=x'/\x'<=23
def Res(tg:List Nat)(d N:Nat)(r:R D):Prop:=∃ s o' x',r = .ok (sd s) [o', .lst [.int x']]/\a0v tg d s/\PN.Pen o' N/\0<=x'/\x'<=23
theorem Res.tr{tg:List Nat}{d N:Nat}{r r':R D}(e:r=r')(q:Res tg d N r'):Res tg d N r:=e ▸ q
def ResF(tg:List Nat)(d N:Nat)(r:Fl):Prop:=∃ s o' x',r = .rt (sd s) [o', .lst [.int x']]/\a0v tg d s/\PN.Pen o' N/\0<=x'/\x'<=23
theorem ResF.tr{tg:List Nat}{d N:Nat}{r r':Fl}(e:r=r')(q:ResF tg d N r'):ResF tg d N r:=e ▸ q
theorem Res.br{tg:List Nat}{d N:Nat}{c:ST}{p q g:SS}{τ:Sd}{h h1:Hd}(e:c τ h = .ok true h1)(z:ResF tg d N (p τ h1)):Res tg d N (toR (ju (sIf c p q) g τ h)):=by
 obtain ⟨s,o',x',e',k⟩:=z;exact ⟨s,o',x',congrArg toR (yw (Eq.trans (ifT e) e')),k⟩
theorem Res.to{tg:List Nat}{d N n:Nat}{o:O}{x:Int}{r:R D}(co:qt 0 o)(e:bz n [.ref 0, .ref 1,dw d, .str (S tg)] [o, .lst [.int x]]=r)(q:Res tg d N r):∃ s o' x',a0v tg d s/\Dr2 (bz n) 4 [dw d, .str (S tg)] o (.lst [.int x]) (sd s) o' (.lst [.int x'])/\PN.Pen o' N/\0<=x'/\x'<=23:=by
 obtain ⟨s,o',x',e',k,P,x0,x1⟩:=q;exact ⟨s,o',x',k,Dr2.of rfl (by simp [iu,j4]) co (a0c _) (e.trans e') (axu (vy s) P.clo (a0c _)) (vy s) P.clo (a0c _),P,x0,x1⟩
theorem ajz{tg:List Nat}{n d:Nat}{o:O}{x:Int}:bz (n+1) [.ref 0, .ref 1,dw d, .str (S tg)] [o, .lst [.int x]]=toR (xj (bz n) PN.fu PN.aq [some (.ref 0),some (.ref 1),some (dw d),some (.str (S tg)),none,none,none,none,none] [o, .lst [.int x]]):=by
 show qb (xj (bz n) PN.fu PN.aq) 9 [.ref 0, .ref 1,dw d, .str (S tg)] [o, .lst [.int x]]=_;rw [jn];rfl
theorem third{tg:List Nat}{d N M:Nat}{o1:O}{x r':Int}{τ:Sd}{g:SS}(P1:PN.Pen o1 (N+1))(hN:N<=900000000)(x0:0<=x)(x1:x<=23)(hM:N+2<=M)
  (st4:∀ o2,PN.Pen o2 (N+2)->Res tg (d+1) M (toR (g (some (.ref 0)::some (.ref 1)::some (dw (d+1))::some (.str (S tg))::some (.int r')::τ) [o2, .lst [.int x]]))) :
  Res tg (d+1) M (toR (ju (sIf (a5o (sT (s2 hEq (sV 4) (sC (.int 9)))) (sT (s2 hEq (sA (kh false 2 PN.aq) (aj (sV 0) (aj (sC (.int 2)) dh))) (sC (.int 0))))) (ug (sA MI.yc (aj (sC (.str "row")) (aj (sA MI.yc dh) dh)))) sNx) g (some (.ref 0)::some (.ref 1)::some (dw (d+1))::some (.str (S tg))::some (.int r')::τ) [o1, .lst [.int x]])):=by
 by_cases h9:r'=9
 ·obtain ⟨q,o2,e2,q0,q1,P2⟩:=PN.ou (m:=2) P1 (by omega) (by decide) (by decide)
  by_cases hq:q=0
  ·refine Res.tr (congrArg toR (yw (Eq.trans (ifT (by walk_at "x")) (m5 (by walk_at "x"))))) ?_
   exact ⟨.row [],o2,x,rfl,⟨by simp,by simp⟩,P2.up (by omega),x0,x1⟩
  ·exact Res.tr (congrArg toR (ifN (by walk_at "x"))) (st4 o2 P2)
 ·exact Res.tr (congrArg toR (ifN (ahm (by walk_at "x")))) (st4 o1 (P1.up (by omega)))
theorem a6h{tg:List Nat}(t1:1<=tg.length)(t6:tg.length<=6)(nd:tg.Nodup){n d:Nat}(hd:d<=4)(ih:0<d->Drawn tg n d):Drawn tg (n+1) (d+1):=by
 intro o N x P hN x0 x1
 have bl:=agz d;have be:bnd (d+1)=7*bnd d:=rfl;refine Res.to P.clo ajz ?_;unfold xj;have ln:∀ h,qg [.str (S tg)] h = .ok (dw tg.length) h:=λh=>a1q (du (by omega))
 obtain ⟨r,o1,e1,r0,r1,P1⟩:=PN.ou (m:=10) P (by omega) (by decide) (by decide)
 refine Res.tr (congrArg toR (mj (by walk_at "x"))) ?_
 have st2:∃ r':Int,0<=r'/\r'<10/\∀ g:SS,ju (sIf (a5o (sT (s2 hEq (sV 2) (sC (.int 5)))) (sT (s2 gLt (sV 4) (sC (.int 2))))) (mq 4 (s2 j5 (sV 4) (sC (.int 4)))) sNx) g [some (.ref 0),some (.ref 1),some (dw (d+1)),some (.str (S tg)),some (.int r),none,none,none,none] [o1, .lst [.int x]]=g [some (.ref 0),some (.ref 1),some (dw (d+1)),some (.str (S tg)),some (.int r'),none,none,none,none] [o1, .lst [.int x]]:=by
  by_cases h5:((d+1:Nat):Int)=5/\r<2
  ·obtain ⟨h5,h2⟩:=h5;exact ⟨r+4,by omega,by omega,λg=>a5u (Eq.trans (ifT (by walk_at "x")) (abu (by walk_at "x")))⟩
  ·by_cases h6:((d+1:Nat):Int)=5
   ·have h2:¬ r<2:=λz=>h5 ⟨h6,z⟩;exact ⟨r,r0,r1,λg=>ifN (by walk_at "x")⟩
   ·exact ⟨r,r0,r1,λg=>ifN (ahm (by walk_at "x"))⟩
 obtain ⟨r',r0',r1',st2⟩:=st2;refine Res.tr (congrArg toR (st2 _)) ?_
 clear st2
 refine third P1 (by omega) x0 x1 (by omega) λo2 P2=>?_
 by_cases h1:d=0\/x<1\/r'<2
 ·obtain ⟨l,o3,l1,l2,l3,l4,e3,P3⟩:=PN.agx (most:=tg.length) P2 (by omega) t1 (Nat.le_refl _) (by omega) nd
  have c:sOr (sT (s2 hEq (sV 2) (sC (.int 1)))) (sOr (sT (s2 gLt (s2 gIx (sV 1) (sC (.int 0))) (sC (.int 1)))) (sT (s2 gLt (sV 4) (sC (.int 2))))) [some (.ref 0),some (.ref 1),some (dw (d+1)),some (.str (S tg)),some (.int r'),none,none,none,none] [o2, .lst [.int x]] = .ok true [o2, .lst [.int x]]:=by
   by_cases a:d=0
   ·exact orT (by walk_at "x")
   ·by_cases b:x<1
    ·exact orF (by walk_at "x") (orT (by walk_at "x"))
    ·have:r'<2:=by omega
     exact orF (by walk_at "x") (orF (by walk_at "x") (by walk_at "x"))
  have lg:=ln [o2, .lst [.int x]];refine Res.tr (congrArg toR (yw (Eq.trans (ifT c) (m5 (by walk_at "x"))))) ?_
  exact ⟨.one l,o3,x,rfl,⟨l1,by omega,l4⟩,P3.up (by omega),x0,x1⟩
 ·have d0:¬ d=0:=λz=>h1 (.inl z);have xp:¬ x<1:=λz=>h1 (.inr (.inl z));have rp:¬ r'<2:=λz=>h1 (.inr (.inr z));refine Res.tr (congrArg toR (ifN (orF (by walk_at "x") (orF (by walk_at "x") (by walk_at "x"))))) ?_
  have ih:=ih (by omega)
  obtain ⟨d,rfl⟩:∃ d',d=d'+1:=⟨d - 1,by omega⟩
  by_cases h4:r'<4
  ·obtain ⟨s,o3,x3,k3,e3,P3,y0,y1⟩:=ih o2 (N+2) (x - 1) P2 (by omega) (by omega) (by omega)
   refine Res.br (by walk_at "x") ?_
   refine ResF.tr (a5u (aju (by walk_at "x") (di rfl) (jx _ _ _) putp)) ?_
   refine ResF.tr (mj (by walk_at "x")) ?_
   by_cases h2:r'=2
   ·exact ⟨.many s,o3,x3,yw (Eq.trans (ifT (by walk_at "x")) (m5 (by rw [sd];walk_at "x"))),k3,P3.up (by omega),y0,y1⟩
   ·refine ResF.tr (ifN (by walk_at "x")) ?_
    obtain ⟨lo,o4,e4,a0,a1,P4⟩:=PN.ou (m:=5) P3 (by omega) (by decide) (by decide)
    refine ResF.tr (mj (by walk_at "x")) ?_
    obtain ⟨hi,o5,e5,b0,b1,P5⟩:=PN.ou (m:=5 - lo) P4 (by omega) (by omega) (by omega)
    obtain ⟨lo,rfl⟩:=Int.eq_ofNat_of_zero_le a0;obtain ⟨hi,rfl⟩:=Int.eq_ofNat_of_zero_le b0;refine ⟨.tim s lo (lo+hi),o5,x3,m5 ?_,⟨by omega,by omega,k3⟩,P5.up (by omega),y0,y1⟩
    have c1:sA (kh false 2 PN.aq) (aj (sV 0) (aj (s2 MI.a8b (sC (.int 5)) (sV 6)) dh)) [some (.ref 0),some (.ref 1),some (dw (d+1+1)),some (.str (S tg)),some (.int r'),some (sd s),some (.int lo),none,none] [o4, .lst [.int x3]] = .ok (.int hi) [o5, .lst [.int x3]]:=by walk_at "x"
    rw [sd];exact PAP.aof (PAP.jd (jx _ _ _) (PAP.jd (di rfl) (PAP.jd (di rfl) (PAP.jd (jr (di rfl) c1 a9h) EVT.xr)))) avb
  ·refine Res.tr (congrArg toR (ifN (by walk_at "x"))) ?_
   obtain ⟨q,o3,e3,q0,q1,P3⟩:=PN.ou (m:=3) P2 (by omega) (by decide) (by decide)
   obtain ⟨q,rfl⟩:=Int.eq_ofNat_of_zero_le q0;have x3:∃ m:Int,1<m/\m<=6/\gIx (.rol [.int 2, .int 3, .int 6]) (.int (q:Nat)) [o3, .lst [.int x]] = .ok (.int m) [o3, .lst [.int x]]:=by
    rcases q with _ | _ | _ | q
    ·exact ⟨2,by decide,by decide,rfl⟩
    ·exact ⟨3,by decide,by decide,rfl⟩
    ·exact ⟨6,by decide,by decide,rfl⟩
    ·omega
   obtain ⟨m,m0,m1,x3⟩:=x3;obtain ⟨z,o4,e4,z0,z1,P4⟩:=PN.ou (m:=m) P3 (by omega) (by omega) (by omega)
   obtain ⟨k,hk,k0,k1⟩:∃ k:Nat,a8q [.int x, .int (1+z)] [o4, .lst [.int x]] = .ok (dw k) [o4, .lst [.int x]]/\1<=k/\k<=6/\(k:Int)<=x:=by
    refine ⟨(if 1+z<x then 1+z else x).toNat,?_,?_⟩
    ·show R.ok (D.int (if 1+z<x then 1+z else x)) _=_
     rw [show dw (if 1+z<x then 1+z else x).toNat=D.int (if 1+z<x then 1+z else x) from congrArg D.int (by split<;>omega)]
    ·split<;>omega
   have hx:=k1.2;have k1:=k1.1;have cc:clos 0 [.int 2, .int 3, .int 6]:=bx (iu _) (bx (iu _) (bx (iu _) gq));have hc:∀ u∈[o2, .lst [.int x]],qt 0 u:=a5k P2.clo (a0c _);refine Res.tr (congrArg toR (mj (by walk_at "x"))) ?_
   refine Res.tr (congrArg toR (a5u (aju (by walk_at "x") (di rfl) (jx _ _ _) putp))) ?_
   have mp:=a75 (f:=a4m MI.t1 (qj (bz n) PN.fu PN.aq) [some (.ref 0),some (.ref 1),some (dw (d+1+1)),some (.str (S tg))]) dw
    (λpre ys h=>∃ (ss:List Sh) (o':O) (x':Int),ys=ss.map sd/\h=[o', .lst [.int x']]/\PN.Pen o' (N+2+1+1+pre.length*bnd (d+1))/\(∀ s∈ss,a0v tg (d+1) s)/\ss.length=pre.length/\0<=x'/\x'<=23)
    (List.range k) [] [] [o4, .lst [.int (x - k)]] ?_ ⟨[],o4,x - k,rfl,rfl,by simpa using P4,by simp,rfl,by omega,by omega⟩
   ·obtain ⟨zs,h',mp,ss,o5,x5,zq,rfl,P5,ks,sl,y0,y1⟩:=mp;simp only [List.nil_append] at zq;subst zq;simp only [List.nil_append,List.length_range] at P5 sl;have kb:k*bnd (d+1)<=6*bnd (d+1):=Nat.mul_le_mul_right _ k1;have zz:sZ (m8 (sRg rm (aj (sV 7) dh)) MI.t1 (qj (bz n) PN.fu PN.aq) [0,1,2,3]) [some (.ref 0),some (.ref 1),some (dw (d+1+1)),some (.str (S tg)),some (.int r'),none,none,some (dw k),none] [o4, .lst [.int (x - k)]] = .ok (.rol (ss.map sd)) [o5, .lst [.int x5]]:=by
     refine EVT.ajy ?_ rfl (qe ss ▸ a80 ss) (a5k P5.clo (a0c _));unfold m8;rw [uo (n:=k) (di rfl) (du (by omega)),gh]
     dsimp only;rw [if_pos (du (by simp;omega))]
     show R.bind (mapR (λ_=>True) (a4m MI.t1 (qj (bz n) PN.fu PN.aq) [some (.ref 0),some (.ref 1),some (dw (d+1+1)),some (.str (S tg))]) ((List.range k).map dw) [o4, .lst [.int (x - k)]]) _=_;rw [mp];rfl
    refine Res.tr (congrArg toR (mj (vo zz a3a))) ?_
    by_cases h6:r' > 6
    ·refine ⟨.eit ss,o5,x5,congrArg toR (m5 ?_),⟨by omega,by omega,ks⟩,P5.up (by omega),y0,y1⟩
     rw [sd,qe];have g1:sA acw (aj (s2 gGt (sV 4) (sC (.int 6))) dh) [some (.ref 0),some (.ref 1),some (dw (d+1+1)),some (.str (S tg)),some (.int r'),none,none,some (dw k),some (.tup (ss.map sd))] [o5, .lst [.int x5]] = .ok (.int ((1:Nat):Int)) [o5, .lst [.int x5]]:=vo (jr (di rfl) (jx _ _ _) (aoo h6)) rfl;exact xq (jr (EVT.ql (PAP.jd (jx _ _ _) (PAP.jd (jx _ _ _) EVT.xr)) rfl (bx (j4 _) (bx (j4 _) gq)) (a5k P5.clo (a0c _)) (by decide)) g1 rfl) (di rfl) adp
    ·refine ⟨.row ss,o5,x5,congrArg toR (m5 ?_),⟨by omega,ks⟩,P5.up (by omega),y0,y1⟩
     rw [sd,qe];have g1:sA acw (aj (s2 gGt (sV 4) (sC (.int 6))) dh) [some (.ref 0),some (.ref 1),some (dw (d+1+1)),some (.str (S tg)),some (.int r'),none,none,some (dw k),some (.tup (ss.map sd))] [o5, .lst [.int x5]] = .ok (.int ((0:Nat):Int)) [o5, .lst [.int x5]]:=vo (jr (di rfl) (jx _ _ _) (aop h6)) rfl;exact xq (jr (EVT.ql (PAP.jd (jx _ _ _) (PAP.jd (jx _ _ _) EVT.xr)) rfl (bx (j4 _) (bx (j4 _) gq)) (a5k P5.clo (a0c _)) (by decide)) g1 rfl) (di rfl) adp
   ·rintro pre i post ys h al ⟨ss,o',x',rfl,rfl,P',ks,sl,y0,y1⟩
    have hl:pre.length<k:=by
     have:=congrArg List.length al
     simp at this;omega
    have kb:(pre.length+1)*bnd (d+1)<=6*bnd (d+1):=Nat.mul_le_mul_right _ (by omega)
    rw [Nat.succ_mul] at kb;obtain ⟨s,o5,x5,k5,e5,P5,w0,w1⟩:=ih o' _ x' P' (by omega) y0 y1
    refine ⟨sd s,[o5, .lst [.int x5]],?_,ss++[s],o5,x5,by simp,rfl,?_,?_,by simp [sl],w0,w1⟩
    ·rw [qd];unfold qj
     walk_at "x"
    ·rw [List.length_append,List.length_singleton,Nat.succ_mul];exact P5.up (by omega)
    ·intro u hu
     rcases List.mem_append.mp hu with hu | hu
     ·exact ks u hu
     ·rw [List.mem_singleton.mp hu];exact k5
theorem a81{tg:List Nat}(t1:1<=tg.length)(t6:tg.length<=6)(nd:tg.Nodup):∀ (d n:Nat),d<=4->d<=n->Drawn tg (n+1) (d+1)
 | 0,n,_,_=>a6h t1 t6 nd (by omega) λz=>absurd z (by omega)
 | d+1,0,_,h=>absurd h (by omega)
 | d+1,n+1,h,h'=>a6h t1 t6 nd h λ_=>a81 t1 t6 nd d n (by omega) (by omega)
section
variable{a b c d:D}{xs:List D}{h:Hd}
theorem ix0:gIx (.tup (a::xs)) (.int 0) h = .ok a h:=anu (j:=0) rfl
theorem ix1:gIx (.tup (a::b::xs)) (.int 1) h = .ok b h:=anu (j:=1) rfl
theorem ix2:gIx (.tup (a::b::c::xs)) (.int 2) h = .ok c h:=anu (j:=2) rfl
theorem ix3:gIx (.tup (a::b::c::d::xs)) (.int 3) h = .ok d h:=anu (j:=3) rfl
theorem avc{x:Str}:hEq (.str x) (.str x) h = .ok (.bl true) h:=by rw [as3,beq_self_eq_true]
theorem aoq{x y:Str}(e:(x == y)=false):hEq (.str x) (.str y) h = .ok (.bl false) h:=by rw [as3,e]
theorem avd{x y:Str}(e:(x == y)=false):hNe (.str x) (.str y) h = .ok (.bl true) h:=by rw [anq,e];rfl
theorem atq{x:Str}:hNe (.str x) (.str x) h = .ok (.bl false) h:=by rw [anq,beq_self_eq_true];rfl
end
local macro_rules | `(tactic| walk_at "l") => `(tactic| first | (with_reducible exact SHD.ix0) | (with_reducible exact SHD.ix1) | (with_reducible exact SHD.ix2) | (with_reducible exact SHD.ix3) | (with_reducible exact SHD.avc) | ((with_reducible apply SHD.aoq);exact (by decide)) | (with_reducible exact SHD.atq) | ((with_reducible apply SHD.avd);exact (by decide)) | (with_reducible exact SHD.a9h) | (with_reducible exact SHD.a3a))
inductive All2 {α β:Type} (Q:α->β->Prop):List α->List β->Prop
 | nil:All2 Q [] []
 | cons {x:α} {y:β} {xs:List α} {ys:List β} (h:Q x y) (t:All2 Q xs ys):All2 Q (x::xs) (y::ys)
theorem All2.snoc{α β:Type}{Q:α->β->Prop}{x:α}{y:β}(h:Q x y):∀ {xs:List α} {ys:List β},All2 Q xs ys->All2 Q (xs++[x]) (ys++[y])
 | _,_, .nil=>.cons h .nil
 | _,_, .cons q t=>.cons q (All2.snoc h t)
theorem All2.len{α β:Type}{Q:α->β->Prop}:∀ {xs:List α} {ys:List β},All2 Q xs ys->ys.length=xs.length
 | _,_, .nil=>rfl
 | _,_, .cons _ t=>by rw [List.length_cons,List.length_cons,t.len]
theorem All2.rt{α β:Type}{Q:α->β->Prop}:∀ {xs:List α} {ys:List β},All2 Q xs ys->∀ y∈ys,∃ x∈xs,Q x y
 | _,_, .nil,y,hy=>by cases hy
 | _,_, .cons q t,y,hy=>by
  rcases List.mem_cons.mp hy with rfl | hy
  ·exact ⟨_,List.mem_cons_self,q⟩
  ·obtain ⟨x,hx,q⟩:=t.rt y hy;exact ⟨x,List.mem_cons_of_mem _ hx,q⟩
theorem All2.imp{α β:Type}{Q R:α->β->Prop}(i:∀ x y,Q x y->R x y):∀ {xs:List α} {ys:List β},All2 Q xs ys->All2 R xs ys
 | _,_, .nil=>.nil
 | _,_, .cons q t=>.cons (i _ _ q) (t.imp i)
theorem a3x{α β:Type}{fi:SI}{t:D->Option Sd}{fe:SE}{ix:List Nat}{τ:Sd}{o:O}{hs:Hd}(xs:List α)(g:α->D)(k:β->D)(Q:α->β->Prop){N B M:Nat}(P:PN.Pen o N)(hM:N+xs.length*B<=M)(z:xs.length<=1000000)(ch:∀ u∈hs,qt 0 u)
  (e:fi τ (o::hs) = .ok ⟨xs.map g,λ_=>True⟩ (o::hs)) (st:∀ x∈xs,∀ o N,PN.Pen o N->N+B<=M->∃ y o',a4m t fe (frs' ix τ) (g x) (o::hs) = .ok (k y) (o'::hs)/\MI.clo 0 (k y)/\Q x y/\PN.Pen o' (N+B)) :
  ∃ ys o',sZ (m8 fi t fe ix) τ (o::hs) = .ok (.rol (ys.map k)) (o'::hs)/\All2 Q xs ys/\PN.Pen o' (N+xs.length*B)/\clos 0 (ys.map k):=by
 have mp:=a75 (f:=a4m t fe (frs' ix τ)) g (λpre zs h=>∃ (ys:List β) (o':O),zs=ys.map k/\h=o'::hs/\PN.Pen o' (N+pre.length*B)/\All2 Q pre ys/\clos 0 (ys.map k)) xs [] [] (o::hs) ?_ ⟨[],o,rfl,rfl,by simpa using P, .nil,gq⟩
 ·obtain ⟨zs,h',mp,ys,o',zq,rfl,P',q,cl⟩:=mp;simp only [List.nil_append] at zq P' q;subst zq;refine ⟨ys,o',EVT.ajy ?_ rfl cl (λu hu=>?_),q,P',cl⟩
  ·unfold m8;rw [e,gh];dsimp only;rw [if_pos (du (by rw [List.length_map];exact z)),mp]
   rfl
  ·rcases List.mem_cons.mp hu with rfl | hu
   ·exact P'.clo
   ·exact ch u hu
 ·rintro pre x post zs h al ⟨ys,o',rfl,rfl,P',q,cl⟩
  have al:xs=pre++x::post:=al;have hl:pre.length+1<=xs.length:=by rw [al];simp
  have kb:(pre.length+1)*B<=xs.length*B:=Nat.mul_le_mul_right _ hl;rw [Nat.succ_mul] at kb;obtain ⟨y,o'',e',cy,qy,P''⟩:=st x (by rw [al];simp) o' _ P' (by omega)
  refine ⟨k y,o''::hs,e',ys++[y],o'',by simp,rfl,?_,q.snoc qy,?_⟩
  ·rw [List.length_append,List.length_singleton,Nat.succ_mul];exact P''.up (by omega)
  ·rw [List.map_append];exact EVT.a1e cl (bx cy gq)
def ao6(y:Str):D->Bool
 | .str x=>x == y
 | _=>false
def wks(f:Sh->D->Option (List Nat)):List Sh->List D->Option (List Nat)
 | [],[]=>some []
 | p::ps,q::qs=>match f p q,wks f ps qs with
  | some x,some y=>some (x++y)
  | _,_=>none
 | _,_=>none
def atr(s:List Nat):D->Option (List Nat)
 | .str x=>match x.cps.toList with
  | [c]=>if c∈s then some [c] else none
  | _=>none
 | _=>none
def asl(f:List D->Option (List Nat)):D->Option (List Nat)
 | .tup qs=>f qs
 | _=>none
def ave(f:Nat->D->Option (List Nat))(n:Nat)(k:D)(q:D):Option (List Nat):=match k with
 | .int i=>if 0<=i/\i<(n:Int) then f i.toNat q else none
 | _=>none
def two(y:Str)(f:D->Option (List Nat)):D->Option (List Nat)
 | .tup [a,b]=>if ao6 y a=true then f b else none
 | _=>none
def three(y:Str)(f:D->D->Option (List Nat)):D->Option (List Nat)
 | .tup [a,b,c]=>if ao6 y a=true then f b c else none
 | _=>none
def wk:Nat->Sh->D->Option (List Nat)
 | 0,_,_=>none
 | n+1,s,p=>match s with
  | .one s=>two "one" (atr s) p
  | .row ps=>two "row" (asl λqs=>wks (wk n) ps qs) p
  | .eit ps=>three "either" (ave (λi q=>(ps[i]?).bind λs=>wk n s q) ps.length) p
  | .many s=>two "many" (asl λqs=>wks (wk n) (List.replicate qs.length s) qs) p
  | .tim s lo hi=>two "times" (asl λqs=>if lo<=qs.length/\qs.length<=hi then wks (wk n) (List.replicate qs.length s) qs else none) p
inductive Pa where
 | one (c:Nat) | eit (k:Nat) (p:Pa) | lst (h:Nat) (ps:List Pa)
def hn:Nat->Str
 | 0 => "row"
 | 1 => "many"
 | _ => "times"
mutual
def pd:Pa->D
 | .one c=>.tup [.str "one", .str (S [c])]
 | .eit k p=>.tup [.str "either",dw k,pd p]
 | .lst h ps=>.tup [.str (hn h), .tup (pds ps)]
def pds:List Pa->List D
 | []=>[]
 | p::ps=>pd p::pds ps
end
mutual
def sw:Pa->List Nat
 | .one c=>[c]
 | .eit _ p=>sw p
 | .lst _ ps=>sws ps
def sws:List Pa->List Nat
 | []=>[]
 | p::ps=>sw p++sws ps
end
theorem a3b:∀ ps,pds ps=ps.map pd
 | []=>by rw [pds];rfl
 | p::ps=>by rw [pds,a3b ps];rfl
theorem a82:∀ ps,sws ps=(ps.map sw).flatten
 | []=>by rw [sws];rfl
 | p::ps=>by rw [sws,a82 ps];rfl
mutual
theorem a6i:∀ p,MI.clo 0 (pd p)
 | .one s=>by rw [pd];exact my (bx (j4 _) (bx (j4 _) gq))
 | .eit k p=>by rw [pd];exact my (bx (j4 _) (bx (iu _) (bx (a6i p) gq)))
 | .lst h ps=>by rw [pd];exact my (bx (j4 _) (bx (my (ah0 ps)) gq))
theorem ah0:∀ ps,clos 0 (pds ps)
 | []=>by rw [pds];exact gq
 | p::ps=>by rw [pds];exact bx (a6i p) (ah0 ps)
end
def POk(tg:List Nat):Nat->Pa->Prop
 | 0,_=>False
 | n+1,p=>match p with
  | .one c=>c∈tg
  | .eit k p=>k<=5/\POk tg n p
  | .lst h ps=>h<=2/\ps.length<=6/\∀ p∈ps,POk tg n p
theorem ac4{f:Sh->D->Option (List Nat)}:∀ {ss:List Sh} {ps:List Pa},All2 (λs p=>f s (pd p)=some (sw p)) ss ps->wks f ss (pds ps)=some (sws ps)
 | _,_, .nil=>by rw [pds,sws];rfl
 | _,_, .cons q t=>by
  rw [pds,sws,wks,q,ac4 t]
theorem a83{α β:Type}{Q:α->β->Prop}{x:α}:∀ {ys:List β},(∀ y∈ys,Q x y)->All2 Q (List.replicate ys.length x) ys
 | [],_=>.nil
 | y::ys,h=>by
  rw [List.length_cons,List.replicate_succ];exact .cons (h y List.mem_cons_self) (a83 λz hz=>h z (List.mem_cons_of_mem _ hz))
theorem ah1(ps:List Pa):(pds ps).length=ps.length:=by rw [a3b,List.length_map]
noncomputable def cj:Nat->SF
 | 0=>λ_ _=>.no
 | n+1=>qb (um (cj n) PN.aq) 6
def a84(tg:List Nat)(n d:Nat):Prop:=∀ s,a0v tg d s->∀ (o:O) (N:Nat),PN.Pen o N->N+bnd d<=900000000->∃ p o',Dr (cj n) 2 [sd s] o (pd p) o'/\POk tg d p/\wk d s (pd p)=some (sw p)/\PN.Pen o' (N+bnd d)
theorem ak0{n:Nat}{s:D}{o:O}:cj (n+1) [.ref 0,s] [o]=toR (um (cj n) PN.aq [some (.ref 0),some s,none,none,none,none] [o]):=by
 show qb (um (cj n) PN.aq) 6 [.ref 0,s] [o]=_;rw [jn];rfl
theorem axv{d:D}{o:O}(c:MI.clo 0 d)(co:qt 0 o):a72 1 (.ok d [o]) = .ok d [o]:=a04 (afl (by omega) c) (by
 intro u hu
 simp only [List.take_succ_cons,List.take_zero,List.mem_singleton] at hu;subst hu;exact a2t (by omega) co)
theorem dr1{F:SF}{n:Nat}{ds:List D}{o o':O}{d:D}(hn:ds.length+1=n)(cd:∀ x∈ds,MI.clo 0 x)(co:qt 0 o)(e:F (.ref 0::ds) [o] = .ok d [o'])(c:MI.clo 0 d)(co':qt 0 o'):Dr F n ds o d o':=Dr.of hn cd co e (axv c co') c co'
theorem again{tg:List Nat}{n d N k:Nat}{s:Sh}{o1:O}{h:Str}{rest:List D}{r hi:Int}(ih:a84 tg n d)(k6:k<=6)(ks:a0v tg d s)(P1:PN.Pen o1 N)(hN:N+6*bnd d<=900000000) :
  ∃ bs o2,sZ (m8 (sRg rm (aj (sV 5) dh)) MI.t1 (uv (cj n) PN.aq) [0,1]) [some (.ref 0),some (.tup (.str h::sd s::rest)),none,some (.int r),some (.int hi),some (dw k)] [o1] = .ok (.rol (bs.map pd)) [o2]/\All2 (λ(_:Nat) p=>POk tg d p/\wk d s (pd p)=some (sw p)) (List.range k) bs/\PN.Pen o2 (N+k*bnd d)/\clos 0 (bs.map pd):=by
 obtain ⟨bs,o2,e,q,P2,cl⟩:=a3x (hs:=[]) (fi:=sRg rm (aj (sV 5) dh)) (t:=MI.t1) (fe:=uv (cj n) PN.aq) (ix:=[0,1]) (τ:=[some (.ref 0),some (.tup (.str h::sd s::rest)),none,some (.int r),some (.int hi),some (dw k)]) (B:=bnd d) (M:=N+6*bnd d) (List.range k) dw pd (λ_ p=>POk tg d p/\wk d s (pd p)=some (sw p)) P1 (by rw [List.length_range];exact Nat.add_le_add_left (Nat.mul_le_mul_right _ k6) _) (by rw [List.length_range];omega) (by simp)
  (uo (n:=k) (di rfl) (du (by omega))) (λx hx o N P' hN'=>by
   obtain ⟨p,o2,e2,k',w',P2⟩:=ih s ks o N P' (by omega)
   refine ⟨p,o2,?_,a6i p,⟨k',w'⟩,P2⟩;rw [qd];unfold uv;show sA (kh false 2 (cj n)) (aj (sV 1) (aj (s2 gIx (sV 2) (sC (.int 1))) dh)) [some (dw x),some (.ref 0),some (.tup (.str h::sd s::rest))] [o]=_
   walk_at "x")
 rw [List.length_range] at P2;exact ⟨bs,o2,e,q,P2,cl⟩
theorem adv{tg:List Nat}{n d:Nat}(ih:a84 tg n d):a84 tg (n+1) (d+1):=by
 intro s ks o N P hN
 have bl:=agz d;have be:bnd (d+1)=7*bnd d:=rfl;have one1:∀ x∈[sd s],MI.clo 0 x:=λx hx=>by rw [List.mem_singleton.mp hx];exact vy s
 suffices q:∃ p o',toR (um (cj n) PN.aq [some (.ref 0),some (sd s),none,none,none,none] [o]) = .ok (pd p) [o']/\POk tg (d+1) p/\wk (d+1) s (pd p)=some (sw p)/\PN.Pen o' (N+bnd (d+1)) by
  obtain ⟨p,o',e,k,w,P'⟩:=q;exact ⟨p,o',dr1 rfl one1 P.clo (ak0.trans e) (a6i p) P'.clo,k,w,P'⟩
 clear one1
 unfold um
 cases s with
 | one s =>
  obtain ⟨k1,k2,k3⟩:=ks;rw [sd];obtain ⟨r,o1,e1,r0,r1,P1⟩:=PN.ou (m:=(s.length:Int)) P (by omega) (by omega) (by omega)
  obtain ⟨r,rfl⟩:=Int.eq_ofNat_of_zero_le r0;have hr:r<s.length:=by omega
  have ln:qg [.str (S s)] [o] = .ok (dw s.length) [o]:=a1q (du (by omega))
  have x1:gIx (.str (S s)) (.int (r:Nat)) [o1] = .ok (.str (S [s[r]])) [o1]:=arx (du (by omega)) (List.getElem?_eq_getElem hr)
  refine ⟨.one s[r],o1,congrArg toR (yw (Eq.trans (ifT (by walk_at "x")) (m5 (by rw [pd];walk_at "x")))),k3 _ (List.getElem_mem hr),?_,P1.up (by omega)⟩
  rw [pd,sw];show (if ao6 "one" (.str "one")=true then atr s (.str (S [s[r]])) else none)=_
  rw [if_pos (by decide)]
  show (if s[r]∈s then some [s[r]] else none)=_
  rw [if_pos (List.getElem_mem hr)]
 | eit ps =>
  obtain ⟨k1,k2,k3⟩:=ks;rw [sd,qe];obtain ⟨r,o1,e1,r0,r1,P1⟩:=PN.ou (m:=(ps.length:Int)) P (by omega) (by omega) (by omega)
  obtain ⟨r,rfl⟩:=Int.eq_ofNat_of_zero_le r0;have hr:r<ps.length:=by omega
  obtain ⟨p,o2,e2,k',w',P2⟩:=ih ps[r] (k3 _ (List.getElem_mem hr)) o1 _ P1 (by omega)
  have ln:qg [.tup (ps.map sd)] [o] = .ok (dw ps.length) [o]:=by rw [EVT.ac3,List.length_map]
  have x1:gIx (.tup (ps.map sd)) (.int (r:Nat)) [o1] = .ok (sd ps[r]) [o1]:=anu (by rw [List.getElem?_map,List.getElem?_eq_getElem hr];rfl)
  refine ⟨.eit r p,o2,?_,⟨by omega,k'⟩,?_,P2.up (by omega)⟩
  ·refine Eq.trans (congrArg toR (ifN (by walk_at "x"))) (congrArg toR (yw (Eq.trans (ifT (by walk_at "x")) (Eq.trans (mj (by walk_at "x")) (m5 (by rw [pd];walk_at "x"))))))
  ·rw [pd,sw];show (if ao6 "either" (.str "either")=true then ave (λi q=>(ps[i]?).bind λs=>wk d s q) ps.length (dw r) (pd p) else none)=_
   rw [if_pos (by decide)]
   show (if 0<=(r:Int)/\(r:Int)<(ps.length:Int) then (ps[(r:Int).toNat]?).bind λs=>wk d s (pd p) else none)=_
   rw [if_pos ⟨by omega,by omega⟩,Int.toNat_natCast,List.getElem?_eq_getElem hr]
   exact w'
 | row ps =>
  obtain ⟨k1,k2⟩:=ks;rw [sd,qe];obtain ⟨bs,o1,e1,q,P1,cl⟩:=a3x (hs:=[]) (fi:=sIt (s2 gIx (sV 1) (sC (.int 1)))) (t:=MI.t1) (fe:=yq (cj n) PN.aq) (ix:=[0]) (τ:=[some (.ref 0),some (.tup [.str "row", .tup (ps.map sd)]),none,none,none,none]) (B:=bnd d) (M:=N+6*bnd d) ps sd pd (λs p=>POk tg d p/\wk d s (pd p)=some (sw p)) P (Nat.add_le_add_left (Nat.mul_le_mul_right _ k1) _) (by omega) (by simp)
   (a89 (by walk_at "x") rfl) (λx hx o N P' hN'=>by
    obtain ⟨p,o2,e2,k',w',P2⟩:=ih x (k2 x hx) o N P' (by omega)
    refine ⟨p,o2,?_,a6i p,⟨k',w'⟩,P2⟩;rw [qd];unfold yq;show sA (kh false 2 (cj n)) (aj (sV 1) (aj (sV 0) dh)) [some (sd x),some (.ref 0)] [o]=_
    walk_at "x")
  refine ⟨.lst 0 bs,o1,?_,⟨by omega,by rw [q.len];exact k1,λp hp=>by obtain ⟨x,_,k,_⟩:=q.rt p hp;exact k⟩,?_,P1.up (by have:=Nat.mul_le_mul_right (bnd d) k1;omega)⟩
  ·refine Eq.trans (congrArg toR (ifN (by walk_at "x"))) (Eq.trans (congrArg toR (ifN (by walk_at "x"))) (congrArg toR (yw (Eq.trans (ifT (by walk_at "x")) (m5 (by rw [pd,a3b];show _=R.ok (D.tup [.str "row", .tup (bs.map pd)]) _;walk_at "x"))))))
  ·rw [pd,sw];show (if ao6 "row" (.str "row")=true then wks (wk d) ps (pds bs) else none)=_
   rw [if_pos (by decide)]
   exact ac4 (q.imp λ_ _ z=>z.2)
 | many s =>
  rw [sd];obtain ⟨r,o1,e1,r0,r1,P1⟩:=PN.ou (m:=3 - 0+1) P (by omega) (by decide) (by decide)
  obtain ⟨k,hk⟩:∃ k:Nat,0+r=(k:Int):=⟨r.toNat,by omega⟩
  obtain ⟨bs,o2,e2,q,P2,cl⟩:=again ih (by omega) (h := "many") (rest:=[]) (r:=0) (hi:=3) (k:=k) ks P1 (by omega)
  refine ⟨.lst 1 bs,o2,?_,⟨by omega,by rw [q.len,List.length_range];omega,λp hp=>by obtain ⟨x,_,k,_⟩:=q.rt p hp;exact k⟩,?_,P2.up (by have:=Nat.mul_le_mul_right (bnd d) (show k<=6 by omega);omega)⟩
  ·refine Eq.trans (congrArg toR (ifN (by walk_at "x"))) (Eq.trans (congrArg toR (ifN (by walk_at "x"))) (Eq.trans (congrArg toR (ifN (by walk_at "x"))) (Eq.trans (congrArg toR (mj (by walk_at "x"))) (Eq.trans (congrArg toR (mj (by walk_at "x"))) (Eq.trans (congrArg toR (ifN (by walk_at "x"))) (Eq.trans (congrArg toR (mj (by walk_at "x"))) ?_))))))
   rw [hk];rw [pd,a3b];exact congrArg toR (m5 (xq (jr (di rfl) (jx _ _ _) ix0) (vo e2 a3a) adp))
  ·rw [pd,sw];show (if ao6 "many" (.str "many")=true then wks (wk d) (List.replicate (pds bs).length s) (pds bs) else none)=_
   rw [if_pos (by decide),ah1]
   exact ac4 (a83 λy hy=>by obtain ⟨x,_,_,w⟩:=q.rt y hy;exact w)
 | tim s lo hi =>
  obtain ⟨k1,k2,k3⟩:=ks;rw [sd];obtain ⟨r,o1,e1,r0,r1,P1⟩:=PN.ou (m:=(hi:Int) - (lo:Int)+1) P (by omega) (by omega) (by omega)
  obtain ⟨k,hk⟩:∃ k:Nat,(lo:Int)+r=(k:Int):=⟨(lo+r).toNat,by omega⟩
  obtain ⟨bs,o2,e2,q,P2,cl⟩:=again ih (by omega) (h := "times") (rest:=[dw lo,dw hi]) (r:=(lo:Int)) (hi:=(hi:Int)) (k:=k) k3 P1 (by omega)
  refine ⟨.lst 2 bs,o2,?_,⟨by omega,by rw [q.len,List.length_range];omega,λp hp=>by obtain ⟨x,_,k,_⟩:=q.rt p hp;exact k⟩,?_,P2.up (by have:=Nat.mul_le_mul_right (bnd d) (show k<=6 by omega);omega)⟩
  ·refine Eq.trans (congrArg toR (ifN (by walk_at "x"))) (Eq.trans (congrArg toR (ifN (by walk_at "x"))) (Eq.trans (congrArg toR (ifN (by walk_at "x"))) (Eq.trans (congrArg toR (mj (by walk_at "x"))) (Eq.trans (congrArg toR (mj (by walk_at "x"))) (Eq.trans (congrArg toR (a5u (Eq.trans (ifT (by walk_at "x")) (Eq.trans (mj (by walk_at "x")) (abu (by walk_at "x")))))) (Eq.trans (congrArg toR (mj (by walk_at "x"))) ?_))))))
   rw [hk];rw [pd,a3b];exact congrArg toR (m5 (xq (jr (di rfl) (jx _ _ _) ix0) (vo e2 a3a) adp))
  ·rw [pd,sw];have lb:bs.length=k:=by rw [q.len,List.length_range]
   show (if ao6 "times" (.str "times")=true then (if lo<=(pds bs).length/\(pds bs).length<=hi then wks (wk d) (List.replicate (pds bs).length s) (pds bs) else none) else none)=_
   rw [if_pos (by decide),ah1,if_pos (by omega)]
   exact ac4 (a83 λy hy=>by obtain ⟨x,_,_,w⟩:=q.rt y hy;exact w)
theorem a85{tg:List Nat}:∀ (d n:Nat),d<=n->a84 tg n d
 | 0,_,_=>λ_ k=>k.elim
 | d+1,0,h=>absurd h (by omega)
 | d+1,n+1,h=>adv (a85 d n (by omega))
theorem ac6{tg:List Nat}:∀ {n:Nat} {p:Pa},POk tg n p->(sw p).length<=6 ^ n
 | 0,_,h=>h.elim
 | n+1, .one c,_=>by rw [sw];exact Nat.pow_pos (by decide)
 | n+1, .eit k p,h=>by rw [sw,Nat.pow_succ];have:=ac6 (n:=n) (p:=p) h.2;omega
 | n+1, .lst x ps,h=>by
  rw [sw,a82,List.length_flatten,List.map_map,Nat.pow_succ];have:∀ l:List Pa,(∀ p∈l,POk tg n p)->(l.map (List.length ∘ sw)).sum<=6 ^ n*l.length:=λl=>by
   induction l with
   | nil=>intro _;simp
   | cons a l ih =>
    intro hl
    have:=ac6 (hl a List.mem_cons_self)
    have:=ih λp hp=>hl p (List.mem_cons_of_mem _ hp)
    rw [List.map_cons,List.sum_cons,List.length_cons,Nat.mul_succ];show (sw a).length+_<=_;omega
  exact Nat.le_trans (this ps h.2.2) (Nat.mul_le_mul_left _ h.2.1)
noncomputable def gj:Nat->SF
 | 0=>λ_ _=>.no
 | n+1=>qb (zg (gj n)) 1
theorem ao7{n:Nat}{s:D}:gj (n+1) [s] []=toR (zg (gj n) [some s] []):=by
 show qb (zg (gj n)) 1 [s] []=_;rw [jn];rfl
theorem pu1{F:SF}{n:Nat}{ds:List D}{d:D}(hn:ds.length=n)(ca:∀ x∈ds,MI.clo 0 x)(c:MI.clo 0 d)(e:F ds [] = .ok d []):Pu F n ds d:=Pu.of hn ca e (a04 c (by simp)) c
theorem ak1{x:D}(c:MI.clo 0 x):∀ y∈[x],MI.clo 0 y:=λy hy=>by rw [List.mem_singleton.mp hy];exact c
theorem asm(h:Nat):(hn h == "one")=false/\(hn h == "either")=false:=by
 rcases h with _ | _ | h
 ·exact ⟨by decide,by decide⟩
 ·exact ⟨by decide,by decide⟩
 ·show (("times" : Str) == "one")=false/\(("times" : Str) == "either")=false;exact ⟨by decide,by decide⟩
theorem a86{tg:List Nat}:∀ (d n:Nat),d<=n->d<=6->∀ p,POk tg d p->Pu (gj n) 1 [pd p] (.str (S (sw p)))
 | 0,_,_,_,_,k=>k.elim
 | d+1,0,h,_,_,_=>absurd h (by omega)
 | d+1,n+1,h,h6,p,k=>by
  refine pu1 rfl (ak1 (a6i p)) (j4 _) (ao7.trans ?_);unfold zg;have z6:∀ {q:Pa},POk tg (d+1) q->(sw q).length<=46656:=λhq=>Nat.le_trans (ac6 hq) (Nat.le_trans (Nat.pow_le_pow_right (by decide) h6) (by decide))
  cases p with
  | one c =>
   rw [pd,sw];exact congrArg toR (yw (Eq.trans (ifT (by walk_at "x")) (m5 (by walk_at "x"))))
  | eit j p =>
   have e:=a86 d n (by omega) (by omega) p k.2
   rw [pd,sw];exact Eq.trans (congrArg toR (ifN (by walk_at "x"))) (congrArg toR (yw (Eq.trans (ifT (by walk_at "x")) (m5 (by walk_at "x")))))
  | lst x ps =>
   have z:=z6 k;have e:∀ p∈ps,Pu (gj n) 1 [pd p] (.str (S (sw p))):=λp hp=>a86 d n (by omega) (by omega) p (k.2.2 p hp)
   have kl:ps.length<=6:=k.2.1;rw [sw,a82] at z;rw [pd,a3b,sw,a82];obtain ⟨h1,h2⟩:=asm x;refine Eq.trans (congrArg toR (ifN (tof (jr (jr (di rfl) (jx _ _ _) ix0) (jx _ _ _) (aoq h1))))) (Eq.trans (congrArg toR (ifN (tof (jr (jr (di rfl) (jx _ _ _) ix0) (jx _ _ _) (aoq h2))))) (congrArg toR (m5 ?_)));refine K76.awe (z:=S []) (jx _ _ _) (arg1 (a0n (m9 pd (λp=>.str (S (sw p))) ps (a89 (jr (di rfl) (jx _ _ _) ix1) rfl) (du (by omega)) λp hp=>?_) (iz λ_ _=>j4 _) (by simp))) ?_
   ·rw [qd];unfold a2a;exact vo (di rfl) (e p hp _)
   ·have:=K76.al8 (ls:=ps.map sw) (h:=[]) (by omega)
    rw [List.map_map] at this;exact this
theorem a3y{y:Str}{f:D->Option (List Nat)}{p:D}{x:List Nat}(e:two y f p=some x):∃ a b,p = .tup [a,b]/\f b=some x:=by
 unfold two at e
 split at e
 ·split at e
  ·exact ⟨_,_,rfl,e⟩
  ·cases e
 ·cases e
theorem adw{y:Str}{f:D->D->Option (List Nat)}{p:D}{x:List Nat}(e:three y f p=some x):∃ a b c,p = .tup [a,b,c]/\f b c=some x:=by
 unfold three at e
 split at e
 ·split at e
  ·exact ⟨_,_,_,rfl,e⟩
  ·cases e
 ·cases e
theorem a5l{f:List D->Option (List Nat)}{p:D}{x:List Nat}(e:asl f p=some x):∃ qs,p = .tup qs/\f qs=some x:=by
 unfold asl at e
 split at e
 ·exact ⟨_,rfl,e⟩
 ·cases e
def hdS:Sh->Str
 | .one _ => "one"
 | .row _ => "row"
 | .eit _ => "either"
 | .many _ => "many"
 | .tim _ _ _ => "times"
theorem avf(s:Sh)(h:Hd):gIx (sd s) (.int 0) h = .ok (.str (hdS s)) h:=by cases s<;>(rw [sd];exact ix0)
theorem ak2(c:Nat)(t:List Nat)(h:Hd):gIn false (.str (S [c])) (.str (S t)) h = .ok (.bl (decide (c∈t))) h:=by
 show (match (S [c]).cps.toList with | [c]=>R.ok (D.bl (if false=true then !decide (c∈(S t).cps.toList) else decide (c∈(S t).cps.toList))) h | _=>.no)=_
 rw [aaa,aaa];rfl
end SHD
namespace ENG
open PySem PySem.Spec L2 MI AT HND EVX SHD
open PAP hiding jd ahp al5 a3m abx aof
open SRC (cst a7t)
local macro_rules | `(tactic| walk_at "c") => `(tactic| first | assumption | exact iu _ | (with_reducible exact EVT.a7y) | exact j4 _ | exact a3h _ | exact a4r | exact gq | ((with_reducible apply bx)<;>walk_at "c") | ((with_reducible apply my);walk_at "c") | ((with_reducible apply qx);walk_at "c") | ((with_reducible apply EVT.a1e)<;>walk_at "c") | ((with_reducible apply EVT.a2j);walk_at "c") | ((with_reducible apply EVT.a2k);walk_at "c") | ((with_reducible apply EVT.a7w);walk_at "c") | ((with_reducible apply EVT.a7x);walk_at "c") | ((with_reducible apply EVT.a7z)<;>walk_at "c") | exact iz fun _ _=>iu _ | exact iz fun _ _=>j4 _)
local macro_rules | `(tactic| walk_at "h") => `(tactic| first | assumption | exact EVT.aaf | exact EVT.a0b (by assumption))
local macro_rules | `(tactic| walk_at "z") => `(tactic| first | assumption | omega | (simp only [List.length_cons,List.length_nil,List.length_append,List.length_take,List.length_drop,List.length_map,List.length_singleton,EVT.aae,Int.reduceToNat]<;>omega))
local macro_rules | `(tactic| walk_at "l") => `(tactic| first
 | (with_reducible assumption)
 | (with_reducible exact al5) | (with_reducible exact ahp) | (with_reducible exact adp) | (with_reducible exact av2)
 | (with_reducible exact EVT.ac3) | (with_reducible exact EVT.a6g)
 | ((with_reducible apply EVT.PuE);with_reducible assumption)
 | ((with_reducible apply EVT.av9);with_reducible assumption)
 | (with_reducible exact EVT.ao5 _ _) | (with_reducible exact PAP.av6 _ _ _) | (with_reducible exact PAP.agq _ _ _)
 | ((with_reducible apply PAP.ao1);walk_at "z")
 | ((with_reducible apply EVT.ao3);walk_at "z")
 | ((with_reducible apply EVT.ao4);walk_at "z")
 | (with_reducible exact abv _ _) | (with_reducible exact ao0 _) | (with_reducible exact a2g _)
 | ((with_reducible apply aho);walk_at "z") | ((with_reducible apply ajv);walk_at "z")
 | ((with_reducible apply aoo);walk_at "z") | ((with_reducible apply aop);walk_at "z")
 | ((with_reducible apply anv);walk_at "z") | ((with_reducible apply anw);walk_at "z")
 | ((with_reducible apply anz);walk_at "z") | ((with_reducible apply anx);walk_at "z")
 | exact rfl)
local macro_rules | `(tactic| walk_at "x") => `(tactic| first
 | (with_reducible assumption)
 | (with_reducible exact jx _ _ _)
 | ((with_reducible apply di);exact rfl)
 | (with_reducible exact EVT.xr) | (with_reducible exact EVT.ady)
 | ((with_reducible apply EVT.ql);walk_at "x";exact rfl;walk_at "c";walk_at "h";walk_at "z")
 | ((with_reducible apply EVT.aac);walk_at "x";exact rfl;walk_at "c";walk_at "h")
 | ((with_reducible apply EVT.aad);walk_at "x";exact rfl;walk_at "h";walk_at "z")
 | ((with_reducible apply EVT.a9e);walk_at "x";walk_at "x";exact rfl;walk_at "c";walk_at "c";walk_at "h";walk_at "z")
 | ((with_reducible apply EVT.agy);walk_at "x";walk_at "x";exact rfl;walk_at "c";walk_at "h";walk_at "z";walk_at "z")
 | ((with_reducible apply EVT.a3m);walk_at "h")
 | ((with_reducible apply jr);walk_at "x";walk_at "x";walk_at "l")
 | ((with_reducible apply aon);walk_at "x";walk_at "l")
 | ((with_reducible apply PAP.aof);walk_at "x";walk_at "l")
 | ((with_reducible apply PAP.jd);walk_at "x";walk_at "x")
 | ((with_reducible apply adq);walk_at "x";walk_at "x";walk_at "x";walk_at "l")
 | ((with_reducible apply abw);walk_at "x")
 | ((with_reducible apply tof);walk_at "x")
 | ((with_reducible apply ago);walk_at "x";walk_at "l")
 | ((with_reducible apply as8);walk_at "x") | ((with_reducible apply av1);walk_at "x")
 | ((with_reducible apply ajt);walk_at "x";walk_at "x") | ((with_reducible apply ahm);walk_at "x")
 | ((with_reducible apply orT);walk_at "x") | ((with_reducible apply orF);walk_at "x";walk_at "x"))
local macro_rules | `(tactic| walk_at "l") => `(tactic| first | (with_reducible exact SHD.ix0) | (with_reducible exact SHD.ix1) | (with_reducible exact SHD.ix2) | (with_reducible exact SHD.ix3) | (with_reducible exact SHD.avc) | ((with_reducible apply SHD.aoq);exact (by decide)) | (with_reducible exact SHD.atq) | ((with_reducible apply SHD.avd);exact (by decide)) | (with_reducible exact SHD.a9h) | (with_reducible exact SHD.a3a))
abbrev lsD(l:List Nat):D:=.rol (l.map dw)
abbrev rwD(L:List (List Nat)):D:=.tup (L.map λl=>.tup (l.map dw))
theorem v7(l:List Nat):MI.clo 0 (lsD l):=qx (iz λ_ _=>iu _)
theorem a3n(l:List Nat):clos 0 (l.map dw):=iz λ_ _=>iu _
theorem a5m(L:List (List Nat)):MI.clo 0 (rwD L):=my (iz λl _=>my (a3n l))
theorem puL{F:SF}{k:Nat}{ds:List D}{ts:List Nat}{h1:Hd}{i:Nat}(hk:ds.length=k)(ca:∀ x∈ds,MI.clo 0 x)(e:F ds [] = .ok (.ref i) h1)(hi:h1[i]? = some (.lst (ts.map dw))):Pu F k ds (lsD ts) :=
 Pu.of hk ca e (a0z (Nat.zero_le _) hi (a3n ts) (by simp)) (v7 ts)
theorem ym{x y:D}(a:MI.clo 0 x)(b:MI.clo 0 y):∀ z∈[x,y],MI.clo 0 z:=λz hz=>by
 simp only [List.mem_cons,List.not_mem_nil,or_false] at hz;rcases hz with rfl | rfl;exact a;exact b
theorem ac8{x y w:D}(a:MI.clo 0 x)(b:MI.clo 0 y)(c:MI.clo 0 w):∀ z∈[x,y,w],MI.clo 0 z:=λz hz=>by
 rcases List.mem_cons.mp hz with rfl | hz;exact a;exact ym b c z hz
theorem ah2{x y w v:D}(a:MI.clo 0 x)(b:MI.clo 0 y)(c:MI.clo 0 w)(e:MI.clo 0 v):∀ z∈[x,y,w,v],MI.clo 0 z:=λz hz=>by
 rcases List.mem_cons.mp hz with rfl | hz;exact a;exact ac8 b c e z hz
theorem geT{x y:Int}{h:Hd}(c:y<=x):gGe (.int x) (.int y) h = .ok (.bl true) h:=by
 show MI.R.ok (D.bl (decide (y<=x))) h=_;rw [decide_eq_true c]
theorem geF{x y:Int}{h:Hd}(c:¬ y<=x):gGe (.int x) (.int y) h = .ok (.bl false) h:=by
 show MI.R.ok (D.bl (decide (y<=x))) h=_;rw [decide_eq_false c]
section
variable{n a:Nat}{R P:Rl}
theorem ao8(h:Hd)(ha:a<=n):gIx (rwD (rw_ n R)) (dw a) h = .ok (.tup ((fl n R a).map dw)) h:=anu (by rw [List.getElem?_map,av7 ha];rfl)
theorem aag(ha:a<=n):fl n (· = ·) a=[a]:=(a0i (ts:=[a]) (by simp) (by simp) λe=>by
 rw [List.mem_singleton];exact ⟨λh=>by subst h;exact ⟨ha,rfl⟩,λh=>h.2.symm⟩).symm
noncomputable def j7:SF:=qb a95 2
theorem a3c(hn:n+1<=60)(bp:Bd n P)(ha:a<=n):Pu j7 2 [rwD (rw_ n R),lsD (fl n P a)] (lsD (fl n (cmp P R) a)):=by
 obtain ⟨ts,fw,st,mem,e⟩:=abz (fi:=sIt (sV 1)) (fj:=sIt (s2 gIx (sV 2) (sV 0))) (ix:=[0]) (τ:=[some (rwD (rw_ n R)),some (lsD (fl n P a))]) (h:=[]) dw (fl n P a) (fl n R) hn (a89 (di rfl) rfl) (λx hx=>a89 (jr (di rfl) (di rfl) (ao8 _ (lu.mp hx).1)) rfl) (λx _ y hy=>a7u y hy);have et:ts=fl n (cmp P R) a:=a0i fw.nd st λy=>by
  rw [mem]
  constructor
  ·rintro ⟨x,hx,hy⟩;exact ⟨(lu.mp hy).1,x,(lu.mp hx).2,(lu.mp hy).2⟩
  ·rintro ⟨hy,x,h1,h2⟩;exact ⟨x,lu.mpr ⟨(bp a x h1 ha).2,h1⟩,lu.mpr ⟨hy,h2⟩⟩
 rw [et] at e;refine puL rfl (ym (a5m _) (v7 _)) (h1:=[.lst ((fl n (cmp P R) a).map dw)]) (i:=0) ?_ rfl;unfold j7;rw [jn];exact congrArg toR (m5 e)
noncomputable def mz:SF:=qb (uw j7) 4
theorem ao9(hn:n+1<=60)(ha:a<=n){Rs:List Rl}(bs:∀ R∈Rs,Bd n R):Pu mz 2 [.rol (Rs.map λR=>rwD (rw_ n R)),dw a] (lsD (fl n (chn Rs) a)):=by
 refine pu1 rfl (ym (qx (iz λR _=>a5m _)) (iu _)) (v7 _) ?_;unfold mz;rw [jn];show toR (uw j7 [some (.rol (Rs.map λR=>rwD (rw_ n R))),some (dw a),none,none] [])=_;unfold uw;have c0:sZ (sA MI.ue (aj (sV 1) dh)) [some (.rol (Rs.map λR=>rwD (rw_ n R))),some (dw a),none,none] [] = .ok (lsD [a]) []:=EVT.ql (arg1 (di rfl)) rfl (bx (iu _) gq) (by simp) (by simp)
 rw [<-aag ha] at c0;refine Eq.trans (congrArg toR (mj c0)) ?_;refine Eq.trans (congrArg toR (a7s (a89 (di rfl) rfl))) ?_;obtain ⟨τ',h',e,t3,rfl,rfl⟩:=ut (g:=kN 3) (b:=zm j7) (λR:Rl=>rwD (rw_ n R)) (λpre τ h=>∃ t3:Option D,τ=[some (.rol (Rs.map λR=>rwD (rw_ n R))),some (dw a),some (lsD (fl n (chn pre) a)),t3]/\h=[]) Rs [some (.rol (Rs.map λR=>rwD (rw_ n R))),some (dw a),some (lsD (fl n (chn []) a)),none] []
  (by
   rintro pre R post τ h al ⟨t3,rfl,rfl⟩
   refine ⟨_,_,rfl,_,_,abu (xq (di rfl) (di rfl) (a3c hn (agu λT hT=>bs T (by rw [al];simp [hT])) ha _)),some (rwD (rw_ n R)),?_,rfl⟩
   rw [ac0]
   rfl) ⟨none,rfl,rfl⟩
 exact Eq.trans (congrArg toR (congrArg (λz=>MI.thn z _) e)) (congrArg toR (m5 (di rfl)))
theorem ah3{p q:Nat->Bool}:∀ {l:List Nat},(∀ x∈l,p x=true->q x=true)->(l.filter p).length<=(l.filter q).length
 | [],_=>Nat.le_refl _
 | x::l,h=>by
  have ih:=ah3 (l:=l) λy hy=>h y (List.mem_cons_of_mem _ hy)
  by_cases hp:p x=true
  ·rw [List.filter_cons_of_pos hp,List.filter_cons_of_pos (h x List.mem_cons_self hp)];exact Nat.succ_le_succ ih
  ·rw [List.filter_cons_of_neg hp]
   by_cases hq:q x=true
   ·rw [List.filter_cons_of_pos hq];exact Nat.le_succ_of_le ih
   ·rw [List.filter_cons_of_neg hq];exact ih
theorem aah{p q:Nat->Bool}:∀ {l:List Nat},(∀ x∈l,p x=true->q x=true)->(l.filter q).length<=(l.filter p).length->∀ x∈l,q x=true->p x=true
 | [],_,_,x,hx,_=>by cases hx
 | y::l,h,hl,x,hx,hq=>by
  have h':∀ x∈l,p x=true->q x=true:=λz hz=>h z (List.mem_cons_of_mem _ hz);have le:=ah3 h'
  by_cases hp:p y=true
  ·rw [List.filter_cons_of_pos hp,List.filter_cons_of_pos (h y List.mem_cons_self hp)] at hl
   rcases List.mem_cons.mp hx with rfl | hx
   ·exact hp
   ·exact aah h' (Nat.le_of_succ_le_succ hl) x hx hq
  ·rw [List.filter_cons_of_neg hp] at hl
   by_cases hy:q y=true
   ·rw [List.filter_cons_of_pos hy,List.length_cons] at hl;omega
   ·rw [List.filter_cons_of_neg hy] at hl
    rcases List.mem_cons.mp hx with rfl | hx
    ·exact absurd hq hy
    ·exact aah h' hl x hx hq
theorem aoa{T:Rl}(h:∀ e,R a e->T a e)(hl:(fl n T a).length<=(fl n R a).length){e:Nat}(he:e<=n)(ht:T a e):R a e:=by
 have:=aah (l:=List.range (n+1)) (p:=λe=>@decide (R a e) (Classical.propDecidable _)) (q:=λe=>@decide (T a e) (Classical.propDecidable _)) (λx _ hx=>by simpa using h x (by simpa using hx)) hl e (List.mem_range.mpr (by omega)) (by simpa using ht)
 simpa using this
theorem ah4{f g:SE}{τ:Sd}{l1 l2:List Nat}(hn:n+1<=60)(e1:f τ [] = .ok (lsD l1) [])(e2:g τ [] = .ok (lsD l2) [])(h1:∀ x∈l1,x<n+1)(h2:∀ x∈l2,x<n+1)(z1:l1.length<=2000)(z2:l2.length<=2000) :
  ∃ ts:List Nat,ts.Nodup/\ts.Pairwise (·<=·)/\(∀ y,y∈ts↔y∈l1\/y∈l2)/\sZ (sSU f g) τ [] = .ok (lsD ts) []:=by
 obtain ⟨m,em,pm,sm⟩:=SRC.a2z ((l2.foldl stepK []).foldl stepK (l1.foldl stepK []));have F:Fw (n+1) ((l2.foldl stepK []).foldl stepK (l1.foldl stepK [])):=Fw.fold (Fw.fold .nil h1) λx hx=>(Fw.fold .nil h2).lt x hx;have c1:a5d (lsD l1) []=some (cst l1):=zu l1 [];have c2:a5d (lsD l2) []=some (cst l2):=zu l2 [];have fl:=F.len;refine ⟨m,pm.nodup_iff.mpr F.nd,sm,λy=>?_,a0n ?_ (iz λ_ _=>iu _) (by simp)⟩
 ·rw [pm.mem_iff,a1d,a1d,a1d];simp
 ·unfold sSU;rw [e1,gh,c1];simp only;rw [if_pos (by unfold cst;rw [List.length_map];exact z1),e2,gh,c2]
  simp only;rw [if_pos (by unfold cst;rw [List.length_map];exact z2)]
  have x1:(cst l1).foldl stepK []=cst (l1.foldl stepK []):=a0u l1 [];have x2:(cst l2).foldl stepK []=cst (l2.foldl stepK []):=a0u l2 [];rw [x1,x2,a0u];unfold adf;rw [if_pos (by unfold cst;rw [List.length_map];omega),em,<-a7t]
noncomputable def n6:SF:=qb (ux j7) 4
theorem aob(hn:n+1<=60)(ha:a<=n)(r:Bd n R):Pu n6 2 [rwD (rw_ n R),dw a] (lsD (fl n (star R) a)):=by
 refine pu1 rfl (ym (a5m _) (iu _)) (v7 _) ?_;unfold n6;rw [jn];show toR (ux j7 [some (rwD (rw_ n R)),some (dw a),none,none] [])=_;unfold ux;have c1:sZ (sA MI.ue dh) [some (rwD (rw_ n R)),some (dw a),none,none] [] = .ok (lsD []) []:=EVT.ql EVT.xr rfl gq (by simp) (by simp)
 refine Eq.trans (congrArg toR (mj c1)) ?_;have c0:sZ (sA MI.ue (aj (sV 1) dh)) [some (rwD (rw_ n R)),some (dw a),some (lsD []),none] [] = .ok (lsD [a]) []:=EVT.ql (arg1 (di rfl)) rfl (bx (iu _) gq) (by simp) (by simp)
 have u0:[a]=fl n (upto R 0) a:=a0i (by simp) (by simp) λe=>by
  rw [List.mem_singleton]
  constructor
  ·intro h;subst h;exact ⟨ha,0,Nat.le_refl _,rfl⟩
  ·rintro ⟨_,k,hk,h⟩
   have:k=0:=by omega
   subst this;exact h.symm
 rw [u0] at c0;refine Eq.trans (congrArg toR (mj c0)) ?_;have bu:∀ j,Bd n (upto R j):=λj a e ⟨k,_,h⟩ ha=>adt r k a e h ha;have lenl:∀ (l:List Nat) (h:Hd),qg [lsD l] h = .ok (dw l.length) h:=λl h=>by rw [EVT.a6g,List.length_map]
 have w:=aur (c:=zp j7) (f:=zr j7)
  (λm τ h=>∃ (j:Nat) (pl:List Nat),m+pl.length=n+2/\(j=0/\pl=[]\/∃ i,j=i+1/\pl=fl n (upto R i) a)/\τ=[some (rwD (rw_ n R)),some (dw a),some (lsD pl),some (lsD (fl n (upto R j) a))]/\h=[])
  (λτ h=>h=[]/\∃ t,τ=[some (rwD (rw_ n R)),some (dw a),some (lsD (fl n (star R) a)),t]) (λ_ _=>False) ?_ (n+2) 100000 _ [] (by omega) ⟨0,[],by simp, .inl ⟨rfl,rfl⟩,rfl,rfl⟩
 ·rcases w with ⟨τ',h',e,rfl,t,rfl⟩ | ⟨_,_,_,z⟩
  ·exact Eq.trans (congrArg toR (a5u e)) (congrArg toR (m5 (di rfl)))
  ·exact z.elim
 ·rintro m τ h ⟨j,pl,hm,hj,rfl,rfl⟩
  have fll:=a1m (n:=n) (a:=a) (R:=upto R j)
  by_cases gt:pl.length<(fl n (upto R j) a).length
  ·refine .inr ⟨[],tof (jr (vo (di rfl) (lenl _ _)) (vo (di rfl) (lenl _ _)) (aoo (by omega))), .inl ?_⟩
   have st:=a3c (R:=R) hn (bu j) ha;obtain ⟨ts,nd,srt,mem,eu⟩:=ah4 (n:=n) (f:=sV 2) (g:=sA (kh false 2 j7) (aj (sV 0) (aj (sV 2) dh))) (τ:=[some (rwD (rw_ n R)),some (dw a),some (lsD (fl n (upto R j) a)),some (lsD (fl n (upto R j) a))]) hn (di rfl) (xq (di rfl) (di rfl) (st _)) a7u a7u (by omega) (by have:=a1m (n:=n) (a:=a) (R:=cmp (upto R j) R);omega)
   have et:ts=fl n (upto R (j+1)) a:=a0i nd srt λy=>by
    rw [mem,lu,lu,a5i]
    constructor
    ·rintro (⟨h1,h2⟩ | ⟨h1,h2⟩)
     ·exact ⟨h1, .inl h2⟩
     ·exact ⟨h1, .inr h2⟩
    ·rintro ⟨h1,h2 | h2⟩
     ·exact .inl ⟨h1,h2⟩
     ·exact .inr ⟨h1,h2⟩
   rw [et] at eu;refine ⟨_,[],n+2 - (fl n (upto R j) a).length,Eq.trans (mj (di rfl)) (abu eu),by omega,j+1,fl n (upto R j) a,by omega, .inr ⟨j,rfl,rfl⟩,rfl,rfl⟩
  ·refine .inl ⟨[],tof (jr (vo (di rfl) (lenl _ _)) (vo (di rfl) (lenl _ _)) (aop (by omega))),rfl,?_⟩
   rcases hj with ⟨rfl,rfl⟩ | ⟨i,rfl,rfl⟩
   ·rw [<-u0] at gt;simp at gt
   ·have clos:∀ b e,upto R i a b->R b e->upto R i a e:=λb e h1 h2 =>
     aoa (T:=upto R (i+1)) (λe h=>a5i.mpr (.inl h)) (by omega) ((r b e h2 ((bu i a b h1 ha).2)).2) (a5i.mpr (.inr ⟨b,h1,h2⟩))
    rw [aab (T:=star R) (b:=a) λe _=>(ajx clos).symm];exact ⟨_,rfl⟩
noncomputable def m7:SF:=qb (ud j7) 7
theorem asn{i:Nat}{h:Hd}{xs ys:List D}(e:h[i]? = some (.lst xs))(z:xs.length+ys.length<=1000000):ais (.ref i) [.rol ys] h = .ok .non (h.set i (.lst (xs++ys))):=by
 show (match h[i]?,qw (.rol ys) h with | some (.lst xs),some ys=>if xs.length+ys.length<=LINE then R.ok D.non (h.set i (.lst (xs++ys))) else .no | _,_=>.no)=_
 rw [e];show (if xs.length+ys.length<=LINE then R.ok D.non (h.set i (.lst (xs++ys))) else .no)=_
 rw [if_pos (du z)]
theorem ak3(hn:n+1<=60)(ha:a<=n)(r:Bd n R){lo hi:Nat}(h4:hi<=4):Pu m7 4 [rwD (rw_ n R),dw a,dw lo,dw hi] (lsD (fl n (btw R lo hi) a)):=by
 have c1:∀ t4,sZ (sA MI.ue (aj (sV 1) dh)) [some (rwD (rw_ n R)),some (dw a),some (dw lo),some (dw hi),t4,none,none] [.lst []] = .ok (lsD [a]) [.lst []]:=λt4=>EVT.ql (arg1 (di rfl)) rfl (bx (iu _) gq) (EVT.a0b (show qt 0 (.lst []) from gq (n:=0))) (by simp)
 rw [<-aag ha] at c1;obtain ⟨τ',h',e,fd,t6,rfl,rfl,fm,fll⟩:=ut (g:=kN 6) (b:=uc j7) dw (λpre τ h=>∃ (fd:List Nat) (t6:Option D),τ=[some (rwD (rw_ n R)),some (dw a),some (dw lo),some (dw hi),some (.ref 0),some (lsD (fl n (pw R pre.length) a)),t6]/\h=[.lst (fd.map dw)]/\(∀ e,e∈fd↔e<=n/\∃ k,lo<=k/\k<pre.length/\pw R k a e)/\fd.length<=pre.length*(n+1)) (List.range (hi+1)) [some (rwD (rw_ n R)),some (dw a),some (dw lo),some (dw hi),some (.ref 0),some (lsD (fl n (pw R 0) a)),none] [.lst []]
  (by
   rintro pre i post τ h al ⟨fd,t6,rfl,rfl,fm,fll⟩
   have hi':i=pre.length/\pre.length<=hi:=by
    have h1:(List.range (hi+1))[pre.length]? = some i:=by rw [al,List.getElem?_append_right (Nat.le_refl _),Nat.sub_self];rfl
    obtain ⟨h2,h3⟩:=List.getElem?_eq_some_iff.mp h1;rw [List.length_range] at h2;rw [List.getElem_range] at h3;omega
   obtain ⟨rfl,hp⟩:=hi';have lp:=a1m (n:=n) (a:=a) (R:=pw R pre.length);have fll':fd.length<=4*(n+1):=Nat.le_trans fll (Nat.mul_le_mul_right _ (by omega))
   have st:=a3c (R:=R) hn (adt r pre.length) ha;refine ⟨_,_,rfl,?_⟩;unfold uc
   by_cases hl:lo<=pre.length
   ·refine ⟨_,_,Eq.trans (a5u (Eq.trans (ifT (tof (jr (di rfl) (di rfl) (geT (by omega))))) (as9 (di rfl) rfl (arg1 (di rfl)) (asn (xs:=fd.map dw) rfl (by rw [List.length_map,List.length_map];omega))))) (abu (xq (di rfl) (di rfl) (st _))),fd++fl n (pw R pre.length) a,some (dw pre.length),?_,?_,λe=>?_,?_⟩
    ·rw [List.length_append,List.length_singleton];rfl
    ·rw [List.map_append];rfl
    ·rw [List.mem_append,fm,lu,List.length_append,List.length_singleton]
     constructor
     ·rintro (⟨h1,k,h2,h3,h4⟩ | ⟨h1,h2⟩)
      ·exact ⟨h1,k,h2,by omega,h4⟩
      ·exact ⟨h1,pre.length,hl,by omega,h2⟩
     ·rintro ⟨h1,k,h2,h3,h4⟩
      by_cases q:k<pre.length
      ·exact .inl ⟨h1,k,h2,q,h4⟩
      ·have:k=pre.length:=by omega
       subst this;exact .inr ⟨h1,h4⟩
    ·rw [List.length_append,List.length_append,List.length_singleton,Nat.succ_mul];omega
   ·refine ⟨_,_,Eq.trans (ifN (tof (jr (di rfl) (di rfl) (geF (by omega))))) (abu (xq (di rfl) (di rfl) (st _))),fd,some (dw pre.length),?_,rfl,λe=>?_,?_⟩
    ·rw [List.length_append,List.length_singleton];rfl
    ·rw [fm,List.length_append,List.length_singleton]
     constructor
     ·rintro ⟨h1,k,h2,h3,h4⟩;exact ⟨h1,k,h2,by omega,h4⟩
     ·rintro ⟨h1,k,h2,h3,h4⟩;exact ⟨h1,k,h2,by omega,h4⟩
    ·rw [List.length_append,List.length_singleton,Nat.succ_mul];omega) ⟨[],none,rfl,rfl,λe=>by simp,by simp⟩
 rw [List.length_range] at fm fll;have fll':fd.length<=5*(n+1):=Nat.le_trans fll (Nat.mul_le_mul_right _ (by omega))
 obtain ⟨ts,fw,srt,mem,es⟩:=a2i (l:=fd) (d:=.ref 0) (h:=[.lst (fd.map dw)]) hn (λy hy=>by have:=((fm y).mp hy).1;omega) (by omega) (a5j fd)
 have et:ts=fl n (btw R lo hi) a:=a0i fw.nd srt λy=>by
  rw [mem,fm]
  constructor
  ·rintro ⟨h1,k,h2,h3,h4⟩;exact ⟨h1,k,h2,by omega,h4⟩
  ·rintro ⟨h1,k,h2,h3,h4⟩;exact ⟨h1,k,h2,by omega,h4⟩
 rw [et] at es;refine puL rfl (ah2 (a5m _) (iu _) (iu _) (iu _)) (h1:=[.lst (fd.map dw), .lst ((fl n (btw R lo hi) a).map dw)]) (i:=1) ?_ rfl;unfold m7;rw [jn];show toR (ud j7 [some (rwD (rw_ n R)),some (dw a),some (dw lo),some (dw hi),none,none,none] [])=_;unfold ud;refine Eq.trans (congrArg toR (mj (show sA MI.ue dh _ [] = .ok (.ref 0) [.lst []] from rfl))) ?_
 refine Eq.trans (congrArg toR (mj (c1 _))) ?_;have rg:∀ t6 t5,sRg rm (aj (s2 j5 (sV 3) (sC (.int 1))) dh) [some (rwD (rw_ n R)),some (dw a),some (dw lo),some (dw hi),some (.ref 0),t5,t6] [.lst []] = .ok ⟨(List.range (hi+1)).map dw,λ_=>True⟩ [.lst []]:=λt6 t5=>uo (n:=hi+1) (jr (di rfl) (jx _ _ _) a9h) (du (by omega))
 refine Eq.trans (congrArg toR (a7s (rg _ _))) ?_;exact Eq.trans (congrArg toR (congrArg (λz=>MI.thn z _) e)) (congrArg toR (m5 (aon (di rfl) es)))
end
def En(w:List Nat):Nat->Sh->Rl
 | 0,_=>λ_ _=>False
 | d+1,s=>match s with
  | .one sg=>λa e=>∃ c,w[a]? = some c/\c∈sg/\e=a+1
  | .row ps=>chn (ps.map (En w d))
  | .eit ps=>λa e=>∃ p∈ps,En w d p a e
  | .many p=>star (En w d p)
  | .tim p lo hi=>btw (En w d p) lo hi
theorem a5v(w:List Nat):∀ (d:Nat) (s:Sh),Bd w.length (En w d s)
 | 0,_=>λ_ _ h=>h.elim
 | d+1, .one sg=>λa e ⟨c,h1,_,h3⟩ ha=>by
  have:=(List.getElem?_eq_some_iff.mp h1).1
  omega
 | d+1, .row ps=>agu λR hR=>by obtain ⟨p,_,rfl⟩:=List.mem_map.mp hR;exact a5v w d p
 | d+1, .eit ps=>λa e ⟨p,_,h⟩ ha=>a5v w d p a e h ha
 | d+1, .many p=>ao2 (a5v w d p)
 | d+1, .tim p lo hi=>asf (a5v w d p)
def kids:Sh->List Sh
 | .one _=>[]
 | .row ps=>ps
 | .eit ps=>ps
 | .many p=>[p]
 | .tim p _ _=>[p]
theorem aai{tg:List Nat}{d:Nat}{s:Sh}(k:a0v tg (d+1) s):(kids s).length<=6/\∀ p∈kids s,a0v tg d p:=by
 cases s with
 | one s=>exact ⟨by simp [kids],by simp [kids]⟩
 | row ps=>exact k
 | eit ps=>exact ⟨k.2.1,k.2.2⟩
 | many p=>exact ⟨by simp [kids],λq hq=>by rw [List.mem_singleton.mp hq];exact k⟩
 | tim p lo hi=>exact ⟨by simp [kids],λq hq=>by rw [List.mem_singleton.mp hq];exact k.2.2⟩
theorem ah5(l:List Sh):clos 0 (l.map sd):=iz λp _=>vy p
noncomputable def p7:SF:=qb a7d 1
theorem ak4(s:Sh):Pu p7 1 [sd s] (.tup ((kids s).map sd)):=by
 refine pu1 rfl (ak1 (vy s)) (my (ah5 _)) ?_;unfold p7;rw [jn];show toR (a7d [some (sd s)] [])=_;unfold a7d
 cases s with
 | one s=>rw [sd];exact congrArg toR (yw (Eq.trans (ifT (by walk_at "x")) (m5 (awc PAP.al5))))
 | row ps =>
  rw [sd,qe];exact Eq.trans (congrArg toR (ifN (by walk_at "x"))) (congrArg toR (yw (Eq.trans (ifT (orT (by walk_at "x"))) (m5 (jr (di rfl) (jx _ _ _) ix1)))))
 | eit ps =>
  rw [sd,qe];exact Eq.trans (congrArg toR (ifN (by walk_at "x"))) (congrArg toR (yw (Eq.trans (ifT (orF (by walk_at "x") (by walk_at "x"))) (m5 (jr (di rfl) (jx _ _ _) ix1)))))
 | many p =>
  rw [sd];exact Eq.trans (congrArg toR (ifN (by walk_at "x"))) (Eq.trans (congrArg toR (ifN (orF (by walk_at "x") (by walk_at "x")))) (congrArg toR (m5 (vo (jr (di rfl) (jx _ _ _) ix1) PAP.ahp))))
 | tim p lo hi =>
  rw [sd];exact Eq.trans (congrArg toR (ifN (by walk_at "x"))) (Eq.trans (congrArg toR (ifN (orF (by walk_at "x") (by walk_at "x")))) (congrArg toR (m5 (vo (jr (di rfl) (jx _ _ _) ix1) PAP.ahp))))
section
variable{w:List Nat}{tg:List Nat}
noncomputable abbrev rwE(w:List Nat)(d:Nat)(s:Sh):D:=rwD (rw_ w.length (En w d s))
noncomputable def jg:SF:=qb (a06 mz n6 m7) 4
theorem aoc(hw:w.length+1<=60){d a:Nat}{s:Sh}(k:a0v tg (d+1) s)(ha:a<=w.length):Pu jg 4 [sd s, .rol ((kids s).map (rwE w d)), .str (S w),dw a] (lsD (fl w.length (En w (d+1) s) a)):=by
 have cl:∀ x∈[sd s, .rol ((kids s).map (rwE w d)), .str (S w),dw a],MI.clo 0 x:=ah2 (vy s) (qx (iz λ_ _=>a5m _)) (j4 _) (iu _);have go:jg [sd s, .rol ((kids s).map (rwE w d)), .str (S w),dw a] []=toR (a06 mz n6 m7 [some (sd s),some (.rol ((kids s).map (rwE w d))),some (.str (S w)),some (dw a)] []):=by
  unfold jg;rw [jn];rfl
 unfold a06 at go
 cases s with
 | one sg =>
  have lw:qg [.str (S w)] [] = .ok (dw w.length) []:=a1q (du (by omega))
  rw [sd] at go cl ⊢
  by_cases h1:a<w.length
  ·have x1:gIx (.str (S w)) (dw a) [] = .ok (.str (S [w[a]])) []:=arx (du (by omega)) (List.getElem?_eq_getElem h1)
   by_cases h2:w[a]∈sg
   ·have et:[a+1]=fl w.length (En w (d+1) (.one sg)) a:=a0i (by simp) (by simp) λe=>by
     rw [List.mem_singleton]
     constructor
     ·rintro rfl;exact ⟨by omega,w[a],List.getElem?_eq_getElem h1,h2,rfl⟩
     ·rintro ⟨_,c,_,_,h⟩;exact h
    rw [<-et];refine puL rfl cl (h1:=[.lst ([a+1].map dw)]) (i:=0) (go.trans ?_) rfl;exact congrArg toR (yw (Eq.trans (ifT (by walk_at "x")) (m5 (EVT.axs (ajt (tof (jr (di rfl) (vo (di rfl) lw) (aho (by omega)))) (tof (jr (jr (di rfl) (di rfl) x1) (jr (di rfl) (jx _ _ _) ix1) ((ak2 _ _ []).trans (by rw [decide_eq_true h2]))))) (show sA MI.ue (aj (s2 j5 (sV 3) (sC (.int 1))) dh) _ [] = .ok (.ref 0) [.lst ([a+1].map dw)] from PAP.aof (arg1 (jr (di rfl) (jx _ _ _) a9h)) rfl)))))
   ·have et:([]:List Nat)=fl w.length (En w (d+1) (.one sg)) a:=a0i (by simp) (by simp) λe=>by
     constructor
     ·intro h;cases h
     ·rintro ⟨_,c,hc,h,_⟩
      rw [List.getElem?_eq_getElem h1] at hc;cases hc
      exact absurd h h2
    rw [<-et];refine puL rfl cl (h1:=[.lst (([]:List Nat).map dw)]) (i:=0) (go.trans ?_) rfl;exact congrArg toR (yw (Eq.trans (ifT (by walk_at "x")) (m5 (EVT.awd (ajt (tof (jr (di rfl) (vo (di rfl) lw) (aho (by omega)))) (tof (jr (jr (di rfl) (di rfl) x1) (jr (di rfl) (jx _ _ _) ix1) ((ak2 _ _ []).trans (by rw [decide_eq_false h2]))))) rfl))))
  ·have et:([]:List Nat)=fl w.length (En w (d+1) (.one sg)) a:=a0i (by simp) (by simp) λe=>by
    constructor
    ·intro h;cases h
    ·rintro ⟨_,c,hc,h,_⟩
     exact absurd (List.getElem?_eq_some_iff.mp hc).1 h1
   rw [<-et];refine puL rfl cl (h1:=[.lst (([]:List Nat).map dw)]) (i:=0) (go.trans ?_) rfl;exact congrArg toR (yw (Eq.trans (ifT (by walk_at "x")) (m5 (EVT.awd (ahm (tof (jr (di rfl) (vo (di rfl) lw) (ajv (by omega))))) rfl))))
 | row ps =>
  have t:=ao9 (n:=w.length) (a:=a) hw ha (Rs:=ps.map (En w d)) λR hR=>by obtain ⟨p,_,rfl⟩:=List.mem_map.mp hR;exact a5v w d p
  rw [List.map_map] at t;rw [sd,qe] at go cl ⊢;refine pu1 rfl cl (v7 _) (go.trans ?_);exact Eq.trans (congrArg toR (ifN (by walk_at "x"))) (congrArg toR (yw (Eq.trans (ifT (by walk_at "x")) (m5 (xq (di rfl) (di rfl) (t _))))))
 | eit ps =>
  obtain ⟨ts,fw,st,mem,e⟩:=abz (fi:=sIt (sV 1)) (fj:=sIt (s2 gIx (sV 0) (sV 2))) (ix:=[3]) (τ:=[some (.tup [.str "either", .tup (ps.map sd)]),some (.rol (ps.map (rwE w d))),some (.str (S w)),some (dw a)]) (h:=[]) (rwE w d) ps (λp=>fl w.length (En w d p) a) hw (a89 (di rfl) rfl) (λx hx=>a89 (jr (di rfl) (di rfl) (ao8 _ ha)) rfl) (λx _ y hy=>a7u y hy);have et:ts=fl w.length (En w (d+1) (.eit ps)) a:=a0i fw.nd st λy=>by
   rw [mem]
   constructor
   ·rintro ⟨p,hp,h⟩;exact ⟨(lu.mp h).1,p,hp,(lu.mp h).2⟩
   ·rintro ⟨h1,p,hp,h⟩;exact ⟨p,hp,lu.mpr ⟨h1,h⟩⟩
  rw [et] at e;rw [sd,qe] at go cl ⊢;refine puL rfl cl (h1:=[.lst ((fl w.length (En w (d+1) (.eit ps)) a).map dw)]) (i:=0) (go.trans ?_) rfl;exact Eq.trans (congrArg toR (ifN (by walk_at "x"))) (Eq.trans (congrArg toR (ifN (by walk_at "x"))) (congrArg toR (yw (Eq.trans (ifT (by walk_at "x")) (m5 e)))))
 | many p =>
  have t:=aob (n:=w.length) (a:=a) hw ha (a5v w d p);have x0:gIx (.rol ((kids (.many p)).map (rwE w d))) (.int 0) [] = .ok (rwE w d p) []:=ahn (j:=0) rfl;rw [sd] at go cl ⊢;refine pu1 rfl cl (v7 _) (go.trans ?_);exact Eq.trans (congrArg toR (ifN (by walk_at "x"))) (Eq.trans (congrArg toR (ifN (by walk_at "x"))) (Eq.trans (congrArg toR (ifN (by walk_at "x"))) (congrArg toR (yw (Eq.trans (ifT (by walk_at "x")) (m5 (xq (jr (di rfl) (jx _ _ _) x0) (di rfl) (t _))))))))
 | tim p lo hi =>
  have t:=ak3 (n:=w.length) (a:=a) hw ha (a5v w d p) (lo:=lo) (hi:=hi) k.2.1;have x0:gIx (.rol ((kids (.tim p lo hi)).map (rwE w d))) (.int 0) [] = .ok (rwE w d p) []:=ahn (j:=0) rfl;rw [sd] at go cl ⊢;refine pu1 rfl cl (v7 _) (go.trans ?_);exact Eq.trans (congrArg toR (ifN (by walk_at "x"))) (Eq.trans (congrArg toR (ifN (by walk_at "x"))) (Eq.trans (congrArg toR (ifN (by walk_at "x"))) (Eq.trans (congrArg toR (ifN (by walk_at "x"))) (congrArg toR (m5 (PAP.aof (PAP.jd (jr (di rfl) (jx _ _ _) x0) (PAP.jd (di rfl) (PAP.jd (jr (di rfl) (jx _ _ _) ix2) (PAP.jd (jr (di rfl) (jx _ _ _) ix3) EVT.xr)))) (t _)))))))
noncomputable def tr(w:List Nat):Nat->Sh->D
 | 0,_=>.non
 | d+1,s=>.tup [rwE w (d+1) s, .rol ((kids s).map (tr w d))]
theorem ah6(w:List Nat):∀ (d:Nat) (s:Sh),MI.clo 0 (tr w d s)
 | 0,_=>a4r
 | d+1,s=>my (bx (a5m _) (bx (qx (iz λp _=>ah6 w d p)) gq))
noncomputable def gw:Nat->SF
 | 0=>λ_ _=>.no
 | n+1=>qb (wj (gw n) jg p7) 5
theorem ah7(hw:w.length+1<=60):∀ (d n:Nat),d<=n->∀ s,a0v tg d s->Pu (gw n) 2 [sd s, .str (S w)] (tr w d s)
 | 0,_,_,_,k=>k.elim
 | d+1,0,h,_,_=>absurd h (by omega)
 | d+1,n+1,h,s,k=>by
  obtain ⟨kl,kk⟩:=aai k;refine pu1 rfl (ym (vy s) (j4 _)) (ah6 w _ s) ?_;rw [gw,jn];show toR (wj (gw n) jg p7 [some (sd s),some (.str (S w)),none,none,none] [])=_;unfold wj;have c1:sZ (m8 (sIt (sA (kh false 1 p7) (aj (sV 0) dh))) MI.t1 (vh (gw n) jg p7) [1]) [some (sd s),some (.str (S w)),none,none,none] [] = .ok (.rol ((kids s).map (tr w d))) []:=by
   refine a0n (m9 sd (tr w d) (kids s) (a89 (vo (di rfl) (ak4 s _)) rfl) (du (by omega)) λp hp=>?_) (iz λp _=>ah6 w d p) (by simp)
   rw [qd];unfold vh;exact xq (di rfl) (di rfl) (ah7 hw d n (by omega) p (kk p hp) _)
  refine Eq.trans (congrArg toR (mj c1)) ?_;have c2:sZ (m8 (sIt (sV 2)) (tN 2) (a0f (gw n) jg p7) []) [some (sd s),some (.str (S w)),some (.rol ((kids s).map (tr w d))),none,none] [] = .ok (.rol ((kids s).map (rwE w d))) []:=by
   refine a0n (m9 (tr w d) (rwE w d) (kids s) (a89 (di rfl) rfl) (du (by omega)) λp hp=>?_) (iz λp _=>a5m _) (by simp)
   cases d with
   | zero=>exact (kk p hp).elim
   | succ d=>rfl
  refine Eq.trans (congrArg toR (mj c2)) ?_;have lw:qg [.str (S w)] [] = .ok (dw w.length) []:=a1q (du (by omega))
  have c3:sZ (m8 (sRg rm (aj (s2 j5 (sA qg (aj (sV 1) dh)) (sC (.int 1))) dh)) MI.t1 (vm (gw n) jg p7) [0,1,3]) [some (sd s),some (.str (S w)),some (.rol ((kids s).map (tr w d))),some (.rol ((kids s).map (rwE w d))),none] [] = .ok (.rol ((List.range (w.length+1)).map λa=>.tup ((fl w.length (En w (d+1) s) a).map dw))) []:=by
   refine a0n (m9 dw _ (List.range (w.length+1)) (uo (n:=w.length+1) (jr (vo (di rfl) lw) (jx _ _ _) a9h) (du (by omega))) (du (by rw [List.length_range];omega)) λa ha=>?_) (iz λa _=>my (a3n _)) (by simp)
   rw [qd];unfold vm;exact vo (PAP.aof (PAP.jd (di rfl) (PAP.jd (di rfl) (PAP.jd (di rfl) (PAP.jd (di rfl) EVT.xr)))) (aoc hw k (by have:=List.mem_range.mp ha;omega) _)) rfl
  refine Eq.trans (congrArg toR (mj c3)) ?_;refine Eq.trans (congrArg toR (m5 (xq (vo (di rfl) rfl) (di rfl) adp))) ?_;rw [tr];unfold rwE rw_ rwD;rw [List.map_map];rfl
noncomputable def pr(w:List Nat):Nat->Sh->List (List (List Nat))
 | 0,_=>[]
 | d+1,s=>rw_ w.length (En w (d+1) s)::((kids s).map (pr w d)).flatten
theorem al9:∀ {d:Nat} {s:Sh},a0v tg d s->(pr w d s).length<=7 ^ d
 | 0,_,k=>k.elim
 | d+1,s,k=>by
  obtain ⟨kl,kk⟩:=aai k;rw [pr,List.length_cons,List.length_flatten,List.map_map,Nat.pow_succ];have:∀ l:List Sh,(∀ p∈l,a0v tg d p)->(l.map (List.length ∘ pr w d)).sum<=7 ^ d*l.length:=λl=>by
   induction l with
   | nil=>intro _;simp
   | cons a l ih =>
    intro hl
    have:=al9 (hl a List.mem_cons_self)
    have:=ih λp hp=>hl p (List.mem_cons_of_mem _ hp)
    rw [List.map_cons,List.sum_cons,List.length_cons,Nat.mul_succ];show (pr w d a).length+_<=_;omega
  have h1:=Nat.le_trans (this (kids s) kk) (Nat.mul_le_mul_left _ kl);have h2:0<7 ^ d:=Nat.pow_pos (by decide)
  omega
end
noncomputable abbrev rwL(n:Nat)(R:Rl):D:=.rol ((List.range (n+1)).map λa=>lsD (fl n R a))
theorem xu(n:Nat)(R:Rl):MI.clo 0 (rwL n R):=qx (iz λ_ _=>v7 _)
section
variable{n a:Nat}{R P:Rl}
theorem aca(h:Hd)(ha:a<=n):gIx (rwL n R) (dw a) h = .ok (lsD (fl n R a)) h:=ahn (by rw [List.getElem?_map,List.getElem?_range (by omega)];rfl)
theorem ah8{f g:SE}{τ:Sd}{h:Hd}{l1 l2:List Nat}(e1:f τ h = .ok (lsD l1) h)(e2:g τ h = .ok (lsD l2) h)(ch:∀ u∈h,qt 0 u)(z:l1.length+l2.length<=1000000):sZ (s2 j5 f g) τ h = .ok (lsD (l1++l2)) h:=by
 have:=EVT.a9e e1 e2 rfl (a3n l1) (a3n l2) ch (by simpa using z)
 rw [this,<-List.map_append]
theorem ah9{f:SE}{τ:Sd}{h:Hd}{l:List Nat}{ts:List Nat}(e1:f τ h = .ok (lsD l) h)(ch:∀ u∈h,qt 0 u)(e:a5e (lsD l) h = .ok (.ref h.length) (h++[.lst (ts.map dw)])):sZ (s1 a5e f) τ h = .ok (lsD ts) h:=EVT.ajy (aon e1 e) rfl (a3n ts) ch
noncomputable def ie:SF:=qb a2d 4
theorem aso(hn:n+1<=60)(bp:Bd n P)(ha:a<=n):Pu ie 2 [lsD (fl n P a),rwL n R] (lsD (fl n (cmp P R) a)):=by
 have lp:=a1m (n:=n) (a:=a) (R:=P);obtain ⟨τ',h',e,fd,t3,rfl,rfl,fm,fll⟩:=ut (g:=kN 3) (b:=a3k) dw (λpre τ h=>∃ (fd:List Nat) (t3:Option D),τ=[some (lsD (fl n P a)),some (rwL n R),some (lsD fd),t3]/\h=[]/\(∀ e,e∈fd↔∃ x∈pre,e∈fl n R x)/\fd.length<=pre.length*(n+1)) (fl n P a) [some (lsD (fl n P a)),some (rwL n R),some (lsD []),none] []
  (by
   rintro pre x post τ h al ⟨fd,t3,rfl,rfl,fm,fll⟩
   have hx:x∈fl n P a:=by rw [al];simp
   have lx:=a1m (n:=n) (a:=x) (R:=R);have pl:pre.length<=n+1:=by
    have:=congrArg List.length al
    rw [List.length_append] at this;omega
   have f2:fd.length<=60*60:=Nat.le_trans fll (Nat.mul_le_mul (by omega) (by omega))
   refine ⟨_,_,rfl,_,_,abu (ah8 (di rfl) (jr (di rfl) (di rfl) (aca _ (lu.mp hx).1)) (by simp) (by omega)),fd++fl n R x,some (dw x),rfl,rfl,λe=>?_,?_⟩
   ·rw [List.mem_append,fm]
    constructor
    ·rintro (⟨y,h1,h2⟩ | h1)
     ·exact ⟨y,by simp [h1],h2⟩
     ·exact ⟨x,by simp,h1⟩
    ·rintro ⟨y,h1,h2⟩
     rcases List.mem_append.mp h1 with h1 | h1
     ·exact .inl ⟨y,h1,h2⟩
     ·rw [List.mem_singleton.mp h1] at h2;exact .inr h2
   ·rw [List.length_append,List.length_append,List.length_singleton,Nat.succ_mul];omega) ⟨[],none,rfl,rfl,λe=>by simp,by simp⟩
 have f2:fd.length<=60*60:=Nat.le_trans fll (Nat.mul_le_mul (by omega) (by omega))
 obtain ⟨ts,fw,srt,mem,es⟩:=a2i (l:=fd) (d:=lsD fd) (h:=[]) hn (λy hy=>by obtain ⟨x,_,h⟩:=(fm y).mp hy;exact a7u y h) (by omega) (zu fd [])
 have et:ts=fl n (cmp P R) a:=a0i fw.nd srt λy=>by
  rw [mem,fm]
  constructor
  ·rintro ⟨x,hx,hy⟩;exact ⟨(lu.mp hy).1,x,(lu.mp hx).2,(lu.mp hy).2⟩
  ·rintro ⟨hy,x,h1,h2⟩;exact ⟨x,lu.mpr ⟨(bp a x h1 ha).2,h1⟩,lu.mpr ⟨hy,h2⟩⟩
 rw [et] at es;refine puL rfl (ym (v7 _) (xu _ _)) (h1:=[.lst ((fl n (cmp P R) a).map dw)]) (i:=0) ?_ rfl;unfold ie;rw [jn];show toR (a2d [some (lsD (fl n P a)),some (rwL n R),none,none] [])=_;unfold a2d;refine Eq.trans (congrArg toR (mj (EVT.ql EVT.xr rfl gq (by simp) (by simp)))) ?_
 refine Eq.trans (congrArg toR (a7s (a89 (di rfl) rfl))) ?_;exact Eq.trans (congrArg toR (congrArg (λz=>MI.thn z _) e)) (congrArg toR (m5 (aon (di rfl) es)))
theorem aha(hn:n+1<=60)(bp:Bd n P){f:SI}{C:SE}{ix:List Nat}{τ:Sd}(e:f τ [] = .ok ⟨(List.range (n+1)).map λa=>lsD (fl n P a),λ_=>True⟩ [])(st:∀ a,C (some (lsD (fl n P a))::frs' ix τ) []=sA (kh false 2 ie) (aj (sV 0) (aj (sV 1) dh)) [some (lsD (fl n P a)),some (rwL n R)] []):sZ (m8 f MI.t1 C ix) τ [] = .ok (rwL n (cmp P R)) []:=by
 refine a0n (m9 (λa=>lsD (fl n P a)) _ (List.range (n+1)) e (du (by rw [List.length_range];omega)) λa ha=>?_) (iz λ_ _=>v7 _) (by simp)
 rw [qd,st];exact xq (di rfl) (di rfl) (aso hn bp (by have:=List.mem_range.mp ha;omega) _)
theorem a6j{f:SI}{C:SE}{ix:List Nat}{τ:Sd}(hn:n+1<=60)(e:f τ [] = .ok ⟨(List.range (n+1)).map dw,λ_=>True⟩ [])(st:∀ a,C (some (dw a)::frs' ix τ) []=sZ (sA MI.ue (aj (sV 0) dh)) [some (dw a)] []):sZ (m8 f MI.t1 C ix) τ [] = .ok (rwL n (· = ·)) []:=by
 refine a0n (m9 dw _ (List.range (n+1)) e (du (by rw [List.length_range];omega)) λa ha=>?_) (iz λ_ _=>v7 _) (by simp)
 rw [qd,st,aag (by have:=List.mem_range.mp ha;omega)]
 exact EVT.ql (arg1 (di rfl)) rfl (bx (iu _) gq) (by simp) (by simp)
noncomputable def ji:SF:=qb (a2e ie) 4
theorem asp(hn:n+1<=60){Rs:List Rl}(bs:∀ R∈Rs,Bd n R):Pu ji 2 [.rol (Rs.map (rwL n)),dw n] (rwL n (chn Rs)):=by
 refine pu1 rfl (ym (qx (iz λR _=>xu _ _)) (iu _)) (xu _ _) ?_;unfold ji;rw [jn];show toR (a2e ie [some (.rol (Rs.map (rwL n))),some (dw n),none,none] [])=_;unfold a2e;refine Eq.trans (congrArg toR (mj (a6j hn (uo (n:=n+1) (jr (di rfl) (jx _ _ _) a9h) (du (by omega))) λa=>rfl))) ?_
 refine Eq.trans (congrArg toR (a7s (a89 (di rfl) rfl))) ?_;obtain ⟨τ',h',e,t3,rfl,rfl⟩:=ut (g:=kN 3) (b:=a3l ie) (rwL n) (λpre τ h=>∃ t3:Option D,τ=[some (.rol (Rs.map (rwL n))),some (dw n),some (rwL n (chn pre)),t3]/\h=[]) Rs [some (.rol (Rs.map (rwL n))),some (dw n),some (rwL n (chn [])),none] []
  (by
   rintro pre R post τ h al ⟨t3,rfl,rfl⟩
   refine ⟨_,_,rfl,_,_,abu (aha (P:=chn pre) (R:=R) hn (agu λT hT=>bs T (by rw [al];simp [hT])) (a89 (di rfl) rfl) λa=>rfl),some (rwL n R),?_,rfl⟩
   rw [ac0]
   rfl) ⟨none,rfl,rfl⟩
 exact Eq.trans (congrArg toR (congrArg (λz=>MI.thn z _) e)) (congrArg toR (m5 (di rfl)))
noncomputable def iw:SF:=qb (a0a ie) 6
theorem ahb(hn:n+1<=60)(r:Bd n R){lo hi:Nat}(h4:hi<=4):Pu iw 3 [rwL n R,dw lo,dw hi] (rwL n (btw R lo hi)):=by
 refine pu1 rfl (ac8 (xu _ _) (iu _) (iu _)) (xu _ _) ?_;unfold iw;rw [jn];show toR (a0a ie [some (rwL n R),some (dw lo),some (dw hi),none,none,none] [])=_;unfold a0a;have ln:∀ h,qg [rwL n R] h = .ok (dw (n+1)) h:=λh=>by rw [EVT.a6g,List.length_map,List.length_range]
 refine Eq.trans (congrArg toR (mj (a6j hn (uo (n:=n+1) (vo (di rfl) (ln _)) (du (by omega))) λa=>rfl))) ?_
 have c2:∀ t3,sZ (m8 (sRg rm (aj (sA qg (aj (sV 0) dh)) dh)) MI.t1 (a1k ie) []) [some (rwL n R),some (dw lo),some (dw hi),t3,none,none] [] = .ok (rwL n (λa e=>∃ k,lo<=k/\k<0/\pw R k a e)) []:=λt3=>by
  refine a0n (m9 dw _ (List.range (n+1)) (uo (n:=n+1) (vo (di rfl) (ln _)) (du (by omega))) (du (by rw [List.length_range];omega)) λa ha=>?_) (iz λ_ _=>v7 _) (by simp)
  rw [qd];have:([]:List Nat)=fl n (λa e=>∃ k,lo<=k/\k<0/\pw R k a e) a:=a0i (by simp) (by simp) λe=>⟨λh=>(by cases h),λ⟨_,k,_,h,_⟩=>(by omega)⟩
  rw [<-this];exact EVT.ql EVT.xr rfl gq (by simp) (by simp)
 refine Eq.trans (congrArg toR (mj (c2 _))) ?_;refine Eq.trans (congrArg toR (a7s (uo (n:=hi+1) (jr (di rfl) (jx _ _ _) a9h) (du (by omega))))) ?_
 obtain ⟨τ',h',e,t5,rfl,rfl⟩:=ut (g:=kN 5) (b:=yu ie) dw (λpre τ h=>∃ t5:Option D,τ=[some (rwL n R),some (dw lo),some (dw hi),some (rwL n (pw R pre.length)),some (rwL n (λa e=>∃ k,lo<=k/\k<pre.length/\pw R k a e)),t5]/\h=[]) (List.range (hi+1)) [some (rwL n R),some (dw lo),some (dw hi),some (rwL n (pw R 0)),some (rwL n (λa e=>∃ k,lo<=k/\k<0/\pw R k a e)),none] []
  (by
   rintro pre i post τ h al ⟨t5,rfl,rfl⟩
   have hi':i=pre.length/\pre.length<=hi:=by
    have h1:(List.range (hi+1))[pre.length]? = some i:=by rw [al,List.getElem?_append_right (Nat.le_refl _),Nat.sub_self];rfl
    obtain ⟨h2,h3⟩:=List.getElem?_eq_some_iff.mp h1;rw [List.length_range] at h2;rw [List.getElem_range] at h3;omega
   obtain ⟨rfl,hp⟩:=hi';have nx:∀ t4,mq 3 (sZ (m8 (sIt (sV 3)) MI.t1 (a1l ie) [0])) [some (rwL n R),some (dw lo),some (dw hi),some (rwL n (pw R pre.length)),t4,some (dw pre.length)] [] = .nx [some (rwL n R),some (dw lo),some (dw hi),some (rwL n (pw R (pre.length+1))),t4,some (dw pre.length)] []:=λt4=>abu (aha (P:=pw R pre.length) (R:=R) hn (adt r _) (a89 (di rfl) rfl) λa=>rfl);refine ⟨_,_,rfl,?_⟩;unfold yu
   by_cases hl:lo<=pre.length
   ·have zi:a9v (sV 4) (sV 3) [some (rwL n R),some (dw lo),some (dw hi),some (rwL n (pw R pre.length)),some (rwL n (λa e=>∃ k,lo<=k/\k<pre.length/\pw R k a e)),some (dw pre.length)] [] = .ok ⟨(List.range (n+1)).map λa=>.tup [lsD (fl n (λa e=>∃ k,lo<=k/\k<pre.length/\pw R k a e) a),lsD (fl n (pw R pre.length) a)],λ_=>True⟩ []:=by
     unfold a9v;rw [di rfl,gh,di rfl,gh];show MI.R.ok (⟨(((List.range (n+1)).map λa=>lsD (fl n (λa e=>∃ k,lo<=k/\k<pre.length/\pw R k a e) a)).zip ((List.range (n+1)).map λa=>lsD (fl n (pw R pre.length) a))).map λp=>.tup [p.1,p.2],λ_=>True/\True⟩:Itm) []=_;rw [List.zip_map'];rw [List.map_map]
     congr 2
     funext _
     simp
    have cz:sZ (m8 (a9v (sV 4) (sV 3)) (tN 2) (uz ie) []) [some (rwL n R),some (dw lo),some (dw hi),some (rwL n (pw R pre.length)),some (rwL n (λa e=>∃ k,lo<=k/\k<pre.length/\pw R k a e)),some (dw pre.length)] [] = .ok (rwL n (λa e=>∃ k,lo<=k/\k<pre.length+1/\pw R k a e)) []:=by
     refine a0n (m9 _ _ (List.range (n+1)) zi (du (by rw [List.length_range];omega)) λa ha=>?_) (iz λ_ _=>v7 _) (by simp)
     show uz ie [some (lsD (fl n (λa e=>∃ k,lo<=k/\k<pre.length/\pw R k a e) a)),some (lsD (fl n (pw R pre.length) a))] []=_;unfold uz;have l1:=a1m (n:=n) (a:=a) (R:=λa e=>∃ k,lo<=k/\k<pre.length/\pw R k a e);have l2:=a1m (n:=n) (a:=a) (R:=pw R pre.length);obtain ⟨ts,fw,srt,mem,es⟩:=a2i (l:=fl n (λa e=>∃ k,lo<=k/\k<pre.length/\pw R k a e) a++fl n (pw R pre.length) a) (d:=lsD (fl n (λa e=>∃ k,lo<=k/\k<pre.length/\pw R k a e) a++fl n (pw R pre.length) a)) (h:=[]) hn (λy hy=>(List.mem_append.mp hy).elim (a7u y) (a7u y)) (by rw [List.length_append];omega) (zu _ [])
     have et:ts=fl n (λa e=>∃ k,lo<=k/\k<pre.length+1/\pw R k a e) a:=a0i fw.nd srt λy=>by
      rw [mem,List.mem_append,lu,lu]
      constructor
      ·rintro (⟨h1,k,h2,h3,h4⟩ | ⟨h1,h2⟩)
       ·exact ⟨h1,k,h2,by omega,h4⟩
       ·exact ⟨h1,pre.length,hl,by omega,h2⟩
      ·rintro ⟨h1,k,h2,h3,h4⟩
       by_cases q:k<pre.length
       ·exact .inl ⟨h1,k,h2,q,h4⟩
       ·have:k=pre.length:=by omega
        subst this;exact .inr ⟨h1,h4⟩
     rw [et] at es;exact ah9 (ah8 (di rfl) (di rfl) (by simp) (by omega)) (by simp) es
    refine ⟨_,_,Eq.trans (a5u (Eq.trans (ifT (tof (jr (di rfl) (di rfl) (geT (by omega))))) (abu cz))) (nx _),some (dw pre.length),?_,rfl⟩
    rw [List.length_append,List.length_singleton]
   ·refine ⟨_,_,Eq.trans (ifN (tof (jr (di rfl) (di rfl) (geF (by omega))))) (nx _),some (dw pre.length),?_,rfl⟩
    rw [List.length_append,List.length_singleton];have:rwL n (λa e=>∃ k,lo<=k/\k<pre.length/\pw R k a e)=rwL n (λa e=>∃ k,lo<=k/\k<pre.length+1/\pw R k a e):=by
     unfold rwL
     congr 1
     refine List.map_congr_left λa _=>?_;rw [aab (T:=λa e=>∃ k,lo<=k/\k<pre.length+1/\pw R k a e) (b:=a) λe _=>⟨λ⟨k,h1,h2,h3⟩=>⟨k,h1,by omega,h3⟩,λ⟨k,h1,h2,h3⟩=>⟨k,h1,by omega,h3⟩⟩]
    rw [this]) ⟨none,rfl,rfl⟩
 refine Eq.trans (congrArg toR (congrArg (λz=>MI.thn z _) e)) (Eq.trans (congrArg toR (m5 (di rfl))) ?_);rw [List.length_range];have:rwL n (λa e=>∃ k,lo<=k/\k<hi+1/\pw R k a e)=rwL n (btw R lo hi):=by
  unfold rwL
  congr 1
  refine List.map_congr_left λa _=>?_;rw [aab (T:=btw R lo hi) (b:=a) λe _=>⟨λ⟨k,h1,h2,h3⟩=>⟨k,h1,by omega,h3⟩,λ⟨k,h1,h2,h3⟩=>⟨k,h1,by omega,h3⟩⟩]
 rw [<-this];rfl
end
section
variable{n a:Nat}{R P:Rl}
noncomputable def FF(n:Nat)(R:Rl)(i:Nat):List (List Nat):=(List.range (n+1)).map λx=>if n+1<=x+i then fl n (star R) x else [x]
theorem ak5{i x:Nat}(hx:x<=n):(FF n R i)[x]? = some (if n+1<=x+i then fl n (star R) x else [x]):=by
 unfold FF;rw [List.getElem?_map,List.getElem?_range (by omega)]
 rfl
theorem a3o(i:Nat):(FF n R i).length=n+1:=by unfold FF;rw [List.length_map,List.length_range]
theorem asq{i:Nat}(hi:i<=n):(FF n R i).set (n - i) (fl n (star R) (n - i))=FF n R (i+1):=by
 refine List.ext_getElem? λx=>?_
 by_cases hx:x<=n
 ·rw [ak5 hx,List.getElem?_set]
  by_cases q:n - i=x
  ·rw [if_pos q,if_pos (by rw [a3o];omega),if_pos (by omega),q]
  ·rw [if_neg q,ak5 hx]
   congr 1
   by_cases z:n+1<=x+i
   ·rw [if_pos z,if_pos (by omega)]
   ·rw [if_neg z,if_neg (by omega)]
 ·rw [List.getElem?_eq_none (by rw [List.length_set,a3o];omega),List.getElem?_eq_none (by rw [a3o];omega)]
theorem aaj(L:List (List Nat)):clos 0 (L.map lsD):=iz λ_ _=>v7 _
theorem ala(L:List (List Nat)):∀ u∈[O.lst (L.map lsD)],qt 0 u:=EVT.a0b (aaj L)
noncomputable def ik:SF:=qb a09 4
theorem ak6(hn:n+1<=60)(r:Bd n R):Pu ik 1 [rwL n R] (rwL n (star R)):=by
 have ln:∀ h,qg [rwL n R] h = .ok (dw (n+1)) h:=λh=>by rw [EVT.a6g,List.length_map,List.length_range]
 have ff0:((List.range (n+1)).map λa=>lsD [a])=(FF n R 0).map lsD:=by
  unfold FF;rw [List.map_map];refine List.map_congr_left λx hx=>?_;have:=List.mem_range.mp hx;show _=lsD (if n+1<=x+0 then fl n (star R) x else [x])
  rw [if_neg (by omega)]
 have turn:∀ (i:Nat) (t3:Option D),i<=n->∃ t3',uy [some (rwL n R),some (.ref 0),some (dw (n - i)),t3] [.lst ((FF n R i).map lsD)] = .nx [some (rwL n R),some (.ref 0),some (dw (n - i)),t3'] [.lst ((FF n R (i+1)).map lsD)]:=λi t3 hi=>by
  have ha:n - i<=n:=by omega
  have lr:=a1m (n:=n) (a:=n - i) (R:=R);obtain ⟨τ',h',e,fd,t3',rfl,rfl,fm,fll⟩:=ut (g:=kN 3) (b:=yt) dw (λpre τ h=>∃ (fd:List Nat) (t3:Option D),τ=[some (rwL n R),some (.ref 0),some (dw (n - i)),t3]/\h=[.lst (((FF n R i).set (n - i) fd).map lsD)]/\(∀ e,e∈fd↔e=n - i\/∃ b∈pre,n - i<b/\e∈fl n (star R) b)/\fd.length<=1+pre.length*(n+1)) (fl n R (n - i)) [some (rwL n R),some (.ref 0),some (dw (n - i)),t3] [.lst ((FF n R i).map lsD)]
   (by
    rintro pre b post τ h al ⟨fd,t3,rfl,rfl,fm,fll⟩
    have hb:b∈fl n R (n - i):=by rw [al];simp
    have bn:b<=n:=(lu.mp hb).1;have pl:pre.length<=n+1:=by
     have:=congrArg List.length al
     rw [List.length_append] at this;omega
    have f2:fd.length<=1+60*60:=Nat.le_trans fll (Nat.add_le_add_left (Nat.mul_le_mul (by omega) (by omega)) _)
    refine ⟨_,_,rfl,?_⟩;unfold yt
    by_cases q:n - i<b
    ·have lx:=a1m (n:=n) (a:=b) (R:=star R);have g1:gIx (.ref 0) (dw (n - i)) [.lst (((FF n R i).set (n - i) fd).map lsD)] = .ok (lsD fd) [.lst (((FF n R i).set (n - i) fd).map lsD)]:=agp (xs:=((FF n R i).set (n - i) fd).map lsD) rfl (by rw [List.getElem?_map,List.getElem?_set_self (by rw [a3o];omega)];rfl)
     have g2:gIx (.ref 0) (dw b) [.lst (((FF n R i).set (n - i) fd).map lsD)] = .ok (lsD (fl n (star R) b)) [.lst (((FF n R i).set (n - i) fd).map lsD)]:=agp (xs:=((FF n R i).set (n - i) fd).map lsD) rfl (by rw [List.getElem?_map,List.getElem?_set_ne (by omega),ak5 bn,if_pos (by omega)];rfl)
     refine ⟨_,_,Eq.trans (ifT (tof (jr (di rfl) (di rfl) (aoo (by omega))))) (aju (ah8 (jr (di rfl) (di rfl) g1) (jr (di rfl) (di rfl) g2) (ala _) (by omega)) (di rfl) (di rfl) (asb (xs:=((FF n R i).set (n - i) fd).map lsD) rfl (by rw [List.length_map,List.length_set,a3o];omega))),fd++fl n (star R) b,some (dw b),rfl,?_,λe=>?_,?_⟩
     ·rw [List.set_cons_zero,<-List.map_set,List.set_set]
     ·rw [List.mem_append,fm]
      constructor
      ·rintro ((h1 | ⟨c,h1,h2,h3⟩) | h1)
       ·exact .inl h1
       ·exact .inr ⟨c,by simp [h1],h2,h3⟩
       ·exact .inr ⟨b,by simp,q,h1⟩
      ·rintro (h1 | ⟨c,h1,h2,h3⟩)
       ·exact .inl (.inl h1)
       ·rcases List.mem_append.mp h1 with h1 | h1
        ·exact .inl (.inr ⟨c,h1,h2,h3⟩)
        ·rw [List.mem_singleton.mp h1] at h3;exact .inr h3
     ·rw [List.length_append,List.length_append,List.length_singleton,Nat.succ_mul];omega
    ·refine ⟨_,_,ifF (tof (jr (di rfl) (di rfl) (aop (by omega)))),fd,some (dw b),rfl,rfl,λe=>?_,?_⟩
     ·rw [fm]
      constructor
      ·rintro (h1 | ⟨c,h1,h2,h3⟩)
       ·exact .inl h1
       ·exact .inr ⟨c,by simp [h1],h2,h3⟩
      ·rintro (h1 | ⟨c,h1,h2,h3⟩)
       ·exact .inl h1
       ·rcases List.mem_append.mp h1 with h1 | h1
        ·exact .inr ⟨c,h1,h2,h3⟩
        ·rw [List.mem_singleton.mp h1] at h2;exact absurd h2 q
     ·rw [List.length_append,List.length_singleton,Nat.succ_mul];omega)
   ⟨[n - i],t3,rfl,by
    have:(FF n R i).set (n - i) [n - i]=FF n R i:=by
     refine List.ext_getElem? λx=>?_;rw [List.getElem?_set]
     by_cases q:n - i=x
     ·subst q;rw [if_pos rfl,if_pos (by rw [a3o];omega),ak5 ha,if_neg (by omega)]
     ·rw [if_neg q]
    rw [this],λe=>by simp,by simp⟩
  have f2:fd.length<=1+60*60:=Nat.le_trans fll (Nat.add_le_add_left (Nat.mul_le_mul (by omega) (by omega)) _)
  obtain ⟨ts,fw,srt,mem,es⟩:=a2i (l:=fd) (d:=lsD fd) (h:=[.lst (((FF n R i).set (n - i) fd).map lsD)]) hn (λy hy=>by
   rcases (fm y).mp hy with h | ⟨b,_,_,h⟩
   ·omega
   ·exact a7u y h) (by omega) (zu fd _)
  have et:ts=fl n (star R) (n - i):=a0i fw.nd srt λy=>by
   rw [mem,fm,agv r ha]
   constructor
   ·rintro (rfl | ⟨b,h1,h2,h3⟩)
    ·exact ⟨ha, .inl rfl⟩
    ·exact ⟨(lu.mp h3).1, .inr ⟨b,h2,(lu.mp h1).2,(lu.mp h3).2⟩⟩
   ·rintro ⟨h1,rfl | ⟨b,h2,h3,h4⟩⟩
    ·exact .inl rfl
    ·exact .inr ⟨b,lu.mpr ⟨(r _ b h3 ha).2,h3⟩,h2,lu.mpr ⟨h1,h4⟩⟩
  rw [et] at es;have g1:gIx (.ref 0) (dw (n - i)) [.lst (((FF n R i).set (n - i) fd).map lsD)] = .ok (lsD fd) [.lst (((FF n R i).set (n - i) fd).map lsD)]:=agp (xs:=((FF n R i).set (n - i) fd).map lsD) rfl (by rw [List.getElem?_map,List.getElem?_set_self (by rw [a3o];omega)];rfl)
  refine ⟨t3',?_⟩;unfold uy;refine Eq.trans (a7s (a89 (jr (di rfl) (di rfl) (aca _ ha)) rfl)) ?_;refine Eq.trans (congrArg (λz=>MI.thn z _) e) ?_;rw [a3g];refine Eq.trans (aju (ah9 (jr (di rfl) (di rfl) g1) (ala _) es) (di rfl) (di rfl) (asb (xs:=((FF n R i).set (n - i) fd).map lsD) rfl (by rw [List.length_map,List.length_set,a3o];omega))) ?_
  rw [List.set_cons_zero,<-List.map_set,List.set_set,asq hi]
 have rv:∀ (τ:Sd) (h:Hd),τ[0]? = some (some (rwL n R))->sRg ani (aj (sA qg (aj (sV 0) dh)) dh) τ h = .ok ⟨(List.range (n+1)).map λi=>dw (n - i),λ_=>True⟩ h:=λτ h v=>by
  exact arc (n:=n+1) (vo (di v) (ln _)) (du (by omega))
 obtain ⟨τ',h',e,t2,t3,rfl,rfl⟩:=ut (g:=kN 2) (b:=uy) (λi:Nat=>dw (n - i)) (λpre τ h=>∃ t2 t3:Option D,τ=[some (rwL n R),some (.ref 0),t2,t3]/\h=[.lst ((FF n R pre.length).map lsD)]) (List.range (n+1)) [some (rwL n R),some (.ref 0),none,none] [.lst ((FF n R 0).map lsD)]
  (by
   rintro pre i post τ h al ⟨t2,t3,rfl,rfl⟩
   have hi':i=pre.length/\pre.length<=n:=by
    have h1:(List.range (n+1))[pre.length]? = some i:=by rw [al,List.getElem?_append_right (Nat.le_refl _),Nat.sub_self];rfl
    obtain ⟨h2,h3⟩:=List.getElem?_eq_some_iff.mp h1;rw [List.length_range] at h2;rw [List.getElem_range] at h3;omega
   obtain ⟨rfl,hp⟩:=hi';obtain ⟨t3',e⟩:=turn pre.length t3 hp;exact ⟨_,_,rfl,_,_,e,_,_,rfl,by rw [List.length_append,List.length_singleton]⟩) ⟨none,none,rfl,rfl⟩
 have fin:ik [rwL n R] [] = .ok (.ref 0) [.lst ((FF n R (n+1)).map lsD)]:=by
  unfold ik;rw [jn];show toR (a09 [some (rwL n R),none,none,none] [])=_;unfold a09;have c0:m8 (sRg rm (aj (sA qg (aj (sV 0) dh)) dh)) MI.t1 yr [] [some (rwL n R),none,none,none] [] = .ok (.ref 0) [.lst ((FF n R 0).map lsD)]:=by
   rw [<-ff0];exact m9 dw (λa=>lsD [a]) (List.range (n+1)) (uo (n:=n+1) (vo (di rfl) (ln _)) (du (by omega))) (du (by rw [List.length_range];omega)) λa ha=>by
    rw [qd];unfold yr;exact EVT.ql (arg1 (di rfl)) rfl (bx (iu _) gq) (by simp) (by simp)
  refine Eq.trans (congrArg toR (mj c0)) ?_;refine Eq.trans (congrArg toR (a7s (rv _ _ rfl))) ?_;refine Eq.trans (congrArg toR (congrArg (λz=>MI.thn z _) e)) (Eq.trans (congrArg toR (m5 (di rfl))) ?_);rw [List.length_range];rfl
 have ff1:FF n R (n+1)=(List.range (n+1)).map (fl n (star R)):=List.map_congr_left λx _=>if_pos (by omega)
 have ffe:rwL n (star R) = .rol ((FF n R (n+1)).map lsD):=by rw [ff1,List.map_map];rfl
 rw [ffe];exact Pu.of rfl (ak1 (xu _ _)) fin (a0z (Nat.zero_le _) rfl (aaj _) (by simp)) (qx (aaj _))
end
section
variable{w:List Nat}{tg:List Nat}
noncomputable def iy:SF:=qb a07 1
theorem ahc{s:Sh}(h:∀ sg,s≠.one sg):Pu iy 1 [sd s] (.tup ((kids s).map sd)):=by
 refine pu1 rfl (ak1 (vy s)) (my (ah5 _)) ?_;unfold iy;rw [jn];show toR (a07 [some (sd s)] [])=_;unfold a07
 cases s with
 | one s=>exact absurd rfl (h s)
 | row ps =>
  rw [sd,qe];exact Eq.trans (congrArg toR (ifN (by walk_at "x"))) (congrArg toR (yw (Eq.trans (ifT (orT (by walk_at "x"))) (m5 (jr (di rfl) (jx _ _ _) ix1)))))
 | eit ps =>
  rw [sd,qe];exact Eq.trans (congrArg toR (ifN (by walk_at "x"))) (congrArg toR (yw (Eq.trans (ifT (orF (by walk_at "x") (by walk_at "x"))) (m5 (jr (di rfl) (jx _ _ _) ix1)))))
 | many p =>
  rw [sd];exact Eq.trans (congrArg toR (ifN (by walk_at "x"))) (Eq.trans (congrArg toR (ifN (orF (by walk_at "x") (by walk_at "x")))) (congrArg toR (m5 (vo (jr (di rfl) (jx _ _ _) ix1) PAP.ahp))))
 | tim p lo hi =>
  rw [sd];exact Eq.trans (congrArg toR (ifN (by walk_at "x"))) (Eq.trans (congrArg toR (ifN (orF (by walk_at "x") (by walk_at "x")))) (congrArg toR (m5 (vo (jr (di rfl) (jx _ _ _) ix1) PAP.ahp))))
def prR(w:List Nat):Nat->Sh->List Rl
 | 0,_=>[]
 | d+1,s=>En w (d+1) s::((kids s).map (prR w d)).flatten
theorem awf(w:List Nat):∀ (d:Nat) (s:Sh),pr w d s=(prR w d s).map (rw_ w.length)
 | 0,_=>rfl
 | d+1,s=>by
  rw [pr,prR,List.map_cons,List.map_flatten,List.map_map]
  congr 2
  exact List.map_congr_left λp _=>awf w d p
theorem aod{d:Nat}{s:Sh}(k:a0v tg d s):(prR w d s).length<=7 ^ d:=by
 have:=al9 (w:=w) k
 rwa [awf,List.length_map] at this
noncomputable abbrev alD(w:List Nat)(d:Nat)(s:Sh):D:=.rol ((prR w d s).map (rwL w.length))
theorem avi(l:List Rl)(n:Nat):clos 0 (l.map (rwL n)):=iz λR _=>xu n R
theorem alb(w:List Nat)(d:Nat)(s:Sh):MI.clo 0 (alD w d s):=qx (avi _ _)
noncomputable def cu:Nat->SF
 | 0=>λ_ _=>.no
 | n+1=>qb (a0t ik (cu n) iy ji iw) 6
theorem ald{n:Nat}{s x:D}:cu (n+1) [s,x] []=toR (a0t ik (cu n) iy ji iw [some s,some x,none,none,none,none] []):=by
 rw [cu,jn];rfl
theorem aoe(hw:w.length+1<=60){n d:Nat}{sg:List Nat}:Pu (cu (n+1)) 2 [sd (.one sg), .str (S w)] (alD w (d+1) (.one sg)):=by
 have cl:∀ x∈[sd (.one sg), .str (S w)],MI.clo 0 x:=ym (vy _) (j4 _);have fin:cu (n+1) [sd (.one sg), .str (S w)] [] = .ok (.ref 0) [.lst [rwL w.length (En w (d+1) (.one sg))]]:=by
  rw [ald];unfold a0t;have lw:qg [.str (S w)] [] = .ok (dw w.length) []:=a1q (du (by omega))
  rw [sd];refine Eq.trans (congrArg toR (mj (vo (di rfl) lw))) ?_;refine congrArg toR (yw (Eq.trans (ifT (by walk_at "x")) (m5 ?_)))
  refine PAP.aof (arg1 (?_:_=MI.R.ok (rwL w.length (En w (d+1) (.one sg))) [])) rfl;refine a0n (m9 dw _ (List.range (w.length+1)) (uo (n:=w.length+1) (jr (di rfl) (jx _ _ _) a9h) (du (by omega))) (du (by rw [List.length_range];omega)) λa ha=>?_) (iz λ_ _=>v7 _) (by simp)
  rw [qd];show a0p _ _ _ _ _ [some (dw a),some (.tup [.str "one", .str (S sg)]),some (.str (S w))] []=_;unfold a0p;have ha:=List.mem_range.mp ha;have d1:sZ (sA MI.ue (aj (s2 j5 (sV 0) (sC (.int 1))) dh)) [some (dw a),some (.tup [.str "one", .str (S sg)]),some (.str (S w))] [] = .ok (lsD [a+1]) []:=EVT.ql (arg1 (jr (di rfl) (jx _ _ _) a9h)) rfl (bx (iu _) gq) (by simp) (by simp)
  have sl:a69 (.str (S w)) (some ((a:Nat):Int)) (some ((a:Int)+1)) [] = .ok (.str (S ((w.drop a).take 1))) []:=by
   have:=axo (l:=w) (h:=[]) a (a+1) (du (by omega))
   rw [Nat.add_sub_cancel_left] at this;exact this
  have slx:∀ τ:Sd,τ[0]? = some (some (dw a))->τ[2]? = some (some (.str (S w)))->ye (sV 2) (oS (sV 0)) (oS (s2 j5 (sV 0) (sC (.int 1)))) τ [] = .ok (.str (S ((w.drop a).take 1))) []:=λτ h0 h2=>adq (di h2) (abw (di h0)) (abw (jr (di h0) (jx _ _ _) a9h)) sl;have cut:∀ k:Nat,a69 (lsD [a+1]) none (some (k:Int)) [] = .ok (.ref 0) [.lst (([a+1].take k).map dw)]:=λk=>by
   show (MI.R.ok (D.ref 0) [O.lst (a3e ([a+1].map dw) none (some (k:Int)))])=_;rw [a6s,List.map_take]
  have fin:∀ (b:Bool) (ts:List Nat),a2p (s2 hNe (ye (sV 2) (oS (sV 0)) (oS (s2 j5 (sV 0) (sC (.int 1))))) (sC (.str ""))) (s2 (gIn false) (ye (sV 2) (oS (sV 0)) (oS (s2 j5 (sV 0) (sC (.int 1))))) (s2 gIx (sV 1) (sC (.int 1)))) [some (dw a),some (.tup [.str "one", .str (S sg)]),some (.str (S w))] [] = .ok (.bl b) []->[a+1].take (if b then 1 else 0)=ts->sZ (ye (sZ (sA MI.ue (aj (s2 j5 (sV 0) (sC (.int 1))) dh))) oN (oS (sA acw (aj (a2p (s2 hNe (ye (sV 2) (oS (sV 0)) (oS (s2 j5 (sV 0) (sC (.int 1))))) (sC (.str ""))) (s2 (gIn false) (ye (sV 2) (oS (sV 0)) (oS (s2 j5 (sV 0) (sC (.int 1))))) (s2 gIx (sV 1) (sC (.int 1))))) dh)))) [some (dw a),some (.tup [.str "one", .str (S sg)]),some (.str (S w))] [] = .ok (lsD ts) []:=λb ts hb ht=>by
   subst ht;have gi:acw [.bl b] [] = .ok (dw (if b then 1 else 0)) []:=by cases b<;>rfl
   exact a0n (adq d1 EVT.ady (abw (vo hb gi)) (cut _)) (a3n _) (by simp)
  by_cases h1:a<w.length
  ·have e1:(w.drop a).take 1=[w[a]]:=by rw [List.drop_eq_getElem_cons h1];rfl
   rw [e1] at slx;have ne:hNe (.str (S [w[a]])) (.str "") [] = .ok (.bl true) []:=by
    rw [anq];have:(S [w[a]] == ("" : Str))=false:=by
     have:=auy [w[a]] []
     rw [decide_eq_false (by simp)] at this
     exact this
    rw [this];rfl
   by_cases h2:w[a]∈sg
   ·refine fin true _ (ant (jr (slx _ rfl rfl) (jx _ _ _) ne) (jr (slx _ rfl rfl) (jr (di rfl) (jx _ _ _) ix1) ((ak2 _ _ []).trans (by rw [decide_eq_true h2])))) ?_
    exact a0i (by simp) (by simp) λe=>by
     simp only [if_true,List.take_succ_cons,List.take_zero,List.mem_singleton]
     constructor
     ·rintro rfl;exact ⟨by omega,w[a],List.getElem?_eq_getElem h1,h2,rfl⟩
     ·rintro ⟨_,c,_,_,h⟩;exact h
   ·refine fin false _ (ant (jr (slx _ rfl rfl) (jx _ _ _) ne) (jr (slx _ rfl rfl) (jr (di rfl) (jx _ _ _) ix1) ((ak2 _ _ []).trans (by rw [decide_eq_false h2])))) ?_
    exact a0i (by simp) (by simp) λe=>by
     constructor
     ·intro h;simp at h
     ·rintro ⟨_,c,hc,h,_⟩
      rw [List.getElem?_eq_getElem h1] at hc;cases hc
      exact absurd h h2
  ·have e1:(w.drop a).take 1=[]:=by rw [List.drop_eq_nil_of_le (by omega)];rfl
   rw [e1] at slx;refine fin false _ (PAP.av4 (jr (slx _ rfl rfl) (jx _ _ _) atq)) ?_;exact a0i (by simp) (by simp) λe=>by
    constructor
    ·intro h;simp at h
    ·rintro ⟨_,c,hc,h,_⟩
     exact absurd (List.getElem?_eq_some_iff.mp hc).1 h1
 have e:alD w (d+1) (.one sg) = .rol [rwL w.length (En w (d+1) (.one sg))]:=rfl;rw [e];exact Pu.of rfl cl fin (a0z (Nat.zero_le _) rfl (bx (xu _ _) gq) (by simp)) (qx (bx (xu _ _) gq))
theorem ale(hw:w.length+1<=60):∀ (d n:Nat),d<=n->d<=5->∀ s,a0v tg d s->Pu (cu n) 2 [sd s, .str (S w)] (alD w d s)
 | 0,_,_,_,_,k=>k.elim
 | d+1,0,h,_,_,_=>absurd h (by omega)
 | d+1,n+1,h,h5,s,k=>by
  by_cases one:∃ sg,s = .one sg
  ·obtain ⟨sg,rfl⟩:=one;exact aoe hw
  have none1:∀ sg,s≠.one sg:=λsg z=>one ⟨sg,z⟩;obtain ⟨kl,kk⟩:=aai k;have big:(prR w (d+1) s).length<=16807:=Nat.le_trans (aod k) (Nat.le_trans (Nat.pow_le_pow_right (by decide) h5) (by decide))
  have lw:qg [.str (S w)] [] = .ok (dw w.length) []:=a1q (du (by omega))
  have hd1:(hdS s == "one")=false:=by
   cases s with
   | one sg=>exact absurd rfl (none1 sg)
   | row ps=>show (("row" : Str) == "one")=false;decide
   | eit ps=>show (("either" : Str) == "one")=false;decide
   | many ps=>show (("many" : Str) == "one")=false;decide
   | tim ps _ _=>show (("times" : Str) == "one")=false;decide
  have cl:∀ x∈[sd s, .str (S w)],MI.clo 0 x:=ym (vy _) (j4 _)
  let below:D:=.rol ((kids s).map (alD w d))
  let firsts:D:=.rol ((kids s).map λp=>rwL w.length (En w d p))
  have c1:sZ (m8 (sIt (sA (kh false 1 iy) (aj (sV 0) dh))) MI.t1 (a0q ik (cu n) iy ji iw) [1]) [some (sd s),some (.str (S w)),some (dw w.length),none,none,none] [] = .ok below []:=by
   refine a0n (m9 sd (alD w d) (kids s) (a89 (vo (di rfl) (ahc none1 _)) rfl) (du (by omega)) λp hp=>?_) (iz λp _=>alb w d p) (by simp)
   rw [qd];unfold a0q;exact xq (di rfl) (di rfl) (ale hw d n (by omega) (by omega) p (kk p hp) _)
  have c2:sZ (m8 (sIt (sV 3)) MI.t1 (a0r ik (cu n) iy ji iw) []) [some (sd s),some (.str (S w)),some (dw w.length),some below,none,none] [] = .ok firsts []:=by
   refine a0n (m9 (alD w d) _ (kids s) (a89 (di rfl) rfl) (du (by omega)) λp hp=>?_) (iz λp _=>xu _ _) (by simp)
   rw [qd];unfold a0r
   cases d with
   | zero=>exact (kk p hp).elim
   | succ d=>exact jr (di rfl) (jx _ _ _) (ahn (j:=0) rfl)
  have own:∀ g:SS,ju (sIf (sT (s2 hEq (s2 gIx (sV 0) (sC (.int 0))) (sC (.str "many"))))
    (mq 5 (sA (kh false 1 ik) (aj (s2 gIx (sV 4) (sC (.int 0))) dh)))
    (sIf (sT (s2 hEq (s2 gIx (sV 0) (sC (.int 0))) (sC (.str "times"))))
    (mq 5 (sA (kh false 3 iw) (aj (s2 gIx (sV 4) (sC (.int 0))) (aj (s2 gIx (sV 0) (sC (.int 2))) (aj (s2 gIx (sV 0) (sC (.int 3))) dh)))))
    (sIf (sT (s2 hEq (s2 gIx (sV 0) (sC (.int 0))) (sC (.str "row"))))
    (mq 5 (sA (kh false 2 ji) (aj (sV 4) (aj (sV 2) dh))))
    (mq 5 (sZ (m8 (sRg rm (aj (s2 j5 (sV 2) (sC (.int 1))) dh)) MI.t1 (yj ik (cu n) iy ji iw) [4]))))))
    g [some (sd s),some (.str (S w)),some (dw w.length),some below,some firsts,none] []=g [some (sd s),some (.str (S w)),some (dw w.length),some below,some firsts,some (rwL w.length (En w (d+1) s))] []:=λg=>by
   refine a5u ?_
   cases s with
   | one sg=>exact absurd rfl (none1 sg)
   | many p =>
    have t:=ak6 (n:=w.length) hw (a5v w d p);rw [sd];exact Eq.trans (ifT (by walk_at "x")) (abu (vo (jr (di rfl) (jx _ _ _) (ahn (j:=0) rfl)) (t _)))
   | tim p lo hi =>
    have t:=ahb (n:=w.length) hw (a5v w d p) (lo:=lo) (hi:=hi) k.2.1;rw [sd];exact Eq.trans (ifF (by walk_at "x")) (Eq.trans (ifT (by walk_at "x")) (abu (as6 (jr (di rfl) (jx _ _ _) (ahn (j:=0) rfl)) (jr (di rfl) (jx _ _ _) ix2) (jr (di rfl) (jx _ _ _) ix3) (t _))))
   | row ps =>
    have t:=asp (n:=w.length) hw (Rs:=ps.map (En w d)) λR hR=>by obtain ⟨p,_,rfl⟩:=List.mem_map.mp hR;exact a5v w d p
    rw [List.map_map] at t;rw [sd,qe];exact Eq.trans (ifF (by walk_at "x")) (Eq.trans (ifF (by walk_at "x")) (Eq.trans (ifT (by walk_at "x")) (abu (xq (di rfl) (di rfl) (t _)))))
   | eit ps =>
    rw [sd,qe];refine Eq.trans (ifF (by walk_at "x")) (Eq.trans (ifF (by walk_at "x")) (Eq.trans (ifF (by walk_at "x")) (abu ?_)))
    refine a0n (m9 dw _ (List.range (w.length+1)) (uo (n:=w.length+1) (jr (di rfl) (jx _ _ _) a9h) (du (by omega))) (du (by rw [List.length_range];omega)) λa ha=>?_) (iz λ_ _=>v7 _) (by simp)
    rw [qd];show yj _ _ _ _ _ [some (dw a),some (.rol (ps.map λp=>rwL w.length (En w d p)))] []=_;unfold yj;have ha:=List.mem_range.mp ha;have q1:sZ (m8 (sIt (sV 1)) MI.t1 (a0s ik (cu n) iy ji iw) [0]) [some (dw a),some (.rol (ps.map λp=>rwL w.length (En w d p)))] [] = .ok (.rol ((ps.map λp=>(fl w.length (En w d p) a).map dw).map D.rol)) []:=by
     rw [List.map_map];refine a0n (m9 (λp=>rwL w.length (En w d p)) _ ps (a89 (di rfl) rfl) (du (by have:ps.length<=6:=kl;omega)) λp hp=>?_) (iz λp _=>v7 _) (by simp)
     rw [qd];unfold a0s;exact jr (di rfl) (di rfl) (aca _ (by omega))
    have q2:sZ (sA MI.ue dh) [some (dw a),some (.rol (ps.map λp=>rwL w.length (En w d p)))] [] = .ok (.rol []) []:=EVT.ql EVT.xr rfl gq (by simp) (by simp)
    have fle:((ps.map λp=>(fl w.length (En w d p) a).map dw)).flatten=((ps.map λp=>fl w.length (En w d p) a).flatten).map dw:=by rw [List.map_flatten,List.map_map];rfl
    have fll:((ps.map λp=>fl w.length (En w d p) a).flatten).length<=6*60:=by
     have:∀ l:List Sh,((l.map λp=>fl w.length (En w d p) a).flatten).length<=l.length*60:=λl=>by
      induction l with
      | nil=>simp
      | cons p l ih =>
       have:=a1m (n:=w.length) (a:=a) (R:=En w d p)
       rw [List.map_cons,List.flatten_cons,List.length_append,List.length_cons,Nat.succ_mul];omega
     exact Nat.le_trans (this ps) (Nat.mul_le_mul_right _ kl)
    have q3:=ac2 q1 q2 (du (by rw [fle,List.length_map];omega)) (by rw [fle];exact a3n _) (by simp)
    rw [fle] at q3;obtain ⟨ts,fw,srt,mem,es⟩:=a2i (l:=(ps.map λp=>fl w.length (En w d p) a).flatten) (d:=lsD ((ps.map λp=>fl w.length (En w d p) a).flatten)) (h:=[]) hw (λy hy=>by
     obtain ⟨l,hl,hy⟩:=List.mem_flatten.mp hy;obtain ⟨p,_,rfl⟩:=List.mem_map.mp hl;exact a7u y hy) (by omega) (zu _ [])
    have et:ts=fl w.length (En w (d+1) (.eit ps)) a:=a0i fw.nd srt λy=>by
     rw [mem,List.mem_flatten]
     constructor
     ·rintro ⟨l,hl,hy⟩
      obtain ⟨p,hp,rfl⟩:=List.mem_map.mp hl;exact ⟨(lu.mp hy).1,p,hp,(lu.mp hy).2⟩
     ·rintro ⟨h1,p,hp,h2⟩
      exact ⟨_,List.mem_map.mpr ⟨p,hp,rfl⟩,lu.mpr ⟨h1,h2⟩⟩
    rw [et] at es;exact ah9 q3 (by simp) es
  have fin:cu (n+1) [sd s, .str (S w)] [] = .ok (.ref 0) [.lst ((prR w (d+1) s).map (rwL w.length))]:=by
   rw [ald];unfold a0t;refine Eq.trans (congrArg toR (mj (vo (di rfl) lw))) ?_;refine Eq.trans (congrArg toR (ifN (tof (jr (jr (di rfl) (jx _ _ _) (avf s _)) (jx _ _ _) (aoq hd1))))) ?_;refine Eq.trans (congrArg toR (mj c1)) (Eq.trans (congrArg toR (mj c2)) (Eq.trans (congrArg toR (own _)) ?_));have z1:sZ (sA MI.ue (aj (sV 5) dh)) [some (sd s),some (.str (S w)),some (dw w.length),some below,some firsts,some (rwL w.length (En w (d+1) s))] [] = .ok (.rol [rwL w.length (En w (d+1) s)]) []:=EVT.ql (arg1 (di rfl)) rfl (bx (xu _ _) gq) (by simp) (by simp)
   have q2:sZ (sA MI.ue dh) [some (sd s),some (.str (S w)),some (dw w.length),some below,some firsts,some (rwL w.length (En w (d+1) s))] [] = .ok (.rol []) []:=EVT.ql EVT.xr rfl gq (by simp) (by simp)
   have be:below = .rol (((kids s).map λp=>(prR w d p).map (rwL w.length)).map D.rol):=by
    show D.rol _=_;rw [List.map_map];rfl
   have fe:(((kids s).map λp=>(prR w d p).map (rwL w.length))).flatten=(((kids s).map (prR w d)).flatten).map (rwL w.length):=by rw [List.map_flatten,List.map_map];rfl
   have lb:(((kids s).map (prR w d)).flatten).length<=16806:=by
    rw [prR,List.length_cons] at big;omega
   have q3:=ac2 (f:=sV 3) (g:=sZ (sA MI.ue dh)) (τ:=[some (sd s),some (.str (S w)),some (dw w.length),some below,some firsts,some (rwL w.length (En w (d+1) s))]) (h:=[]) (zss:=(kids s).map λp=>(prR w d p).map (rwL w.length)) (by rw [be];exact di rfl) q2 (du (by rw [fe,List.length_map];omega)) (by rw [fe];exact avi _ _) (by simp)
   rw [fe] at q3;refine congrArg toR (m5 (jr z1 q3 ?_));rw [a9x (xs:=[rwL w.length (En w (d+1) s)]) (ys:=(((kids s).map (prR w d)).flatten).map (rwL w.length)) rfl rfl,if_pos (du (by rw [List.length_singleton,List.length_map];omega))]
   rfl
  exact Pu.of rfl cl fin (a0z (Nat.zero_le _) rfl (avi _ _) (by simp)) (alb _ _ _)
end
theorem a9f(l:List Nat):(l.map λc=>[c]).flatten=l:=by
 induction l with
 | nil=>rfl
 | cons c l ih=>rw [List.map_cons,List.flatten_cons,ih];rfl
noncomputable def qz:SF:=qb (a1a PN.aq) 4
theorem aog{tg:List Nat}{most N:Nat}{o:O}(t1:1<=tg.length)(t6:tg.length<=1000)(hm:most<=1000)(P:PN.Pen o N)(hN:N<=900000000):∃ x o',Dr qz 3 [.str (S tg),dw most] o (.str (S x)) o'/\x.length<=most/\(∀ c∈x,c∈tg)/\PN.Pen o' (N+1+most):=by
 obtain ⟨r,o1,e1,r0,r1,P1⟩:=PN.ou (m:=(most:Int)+1) P (by omega) (by omega) (by omega)
 obtain ⟨r,rfl⟩:=Int.eq_ofNat_of_zero_le r0;obtain ⟨cs,o2,e2,q,P2,cl⟩:=a3x (hs:=[]) (fi:=sRg rm (aj (sV 3) dh)) (t:=MI.t1) (fe:=a08 PN.aq) (ix:=[0,1]) (τ:=[some (.ref 0),some (.str (S tg)),some (dw most),some (dw r)]) (B:=1) (M:=N+1+most) (List.range r) dw (λc:Nat=>.str (S [c])) (λ_ c=>c∈tg) P1 (by rw [List.length_range];omega) (by rw [List.length_range];omega) (by simp)
  (uo (n:=r) (di rfl) (du (by omega))) (λx hx o N' P' hN'=>by
   obtain ⟨j,o3,e3,j0,j1,P3⟩:=PN.ou (m:=(tg.length:Int)) P' (by omega) (by omega) (by omega)
   obtain ⟨j,rfl⟩:=Int.eq_ofNat_of_zero_le j0;have hj:j<tg.length:=by omega
   refine ⟨tg[j],o3,?_,j4 _,List.getElem_mem hj,P3⟩;rw [qd];unfold a08;show s2 gIx (sV 2) (sA (kh false 2 PN.aq) (aj (sV 1) (aj (sA qg (aj (sV 2) dh)) dh))) [some (dw x),some (.ref 0),some (.str (S tg))] [o]=_;exact jr (di rfl) (xq (di rfl) (vo (di rfl) (a1q (du (by omega)))) (e3 0 _ rfl)) (arx (du (by omega)) (List.getElem?_eq_getElem hj)))
 rw [List.length_range] at P2;have lc:cs.length=r:=by rw [q.len,List.length_range]
 refine ⟨cs,o2,dr1 rfl (ym (j4 _) (iu _)) P.clo ?_ (j4 _) P2.clo,by omega,λc hc=>by obtain ⟨_,_,h⟩:=q.rt c hc;exact h,P2.up (by omega)⟩
 unfold qz;rw [jn];show toR (a1a PN.aq [some (.ref 0),some (.str (S tg)),some (dw most),none] [o])=_;unfold a1a;refine Eq.trans (congrArg toR (mj (xq (di rfl) (jr (di rfl) (jx _ _ _) a9h) (e1 0 _ rfl)))) ?_;have j:=K76.al8 (ls:=cs.map λc=>[c]) (h:=[o2]) (by rw [a9f];omega)
 rw [List.map_map,a9f] at j;exact congrArg toR (m5 (K76.awe (z:=S []) (jx _ _ _) (arg1 e2) j))
theorem ak7{tg:List Nat}(t1:1<=tg.length)(t6:tg.length<=6)(nd:tg.Nodup){o:O}{N m:Nat}{hs:Hd}{ds:List Int}{K:SA}{τ:Sd}(P:PN.Pen o N)(hN:N<=800000000)(ch:∀ u∈hs,qt 0 u)(hd:∀ v∈ds,0<=v/\v<=23)(hm:ds.length=m)(m0:0<m)(m1:m<=100)
  (hz:K τ (o::hs) = .ok (ds.map D.int) (o::hs)) (v1:τ[1]? = some (some (.ref 0))) (v2:τ[2]? = some (some (.str (S tg)))) :
  ∃ s o' hs',sA (kh false 4 (bz 5)) (aj (sV 1) (aj (sA MI.ue (aj (s2 gIx (sZ (sA MI.ue K)) (sA (kh false 2 PN.aq) (aj (sV 1) (aj (sC (.int (m:Nat))) dh)))) dh)) (aj (sC (.int 5)) (aj (sV 2) dh)))) τ (o::hs) = .ok (sd s) (o'::hs')/\a0v tg 5 s/\(∀ u∈hs',qt 0 u)/\PN.Pen o' (N+3361401):=by
 have b5:bnd 5=3361400:=by decide
 obtain ⟨q,o1,e1,q0,q1,P1⟩:=PN.ou (m:=(m:Int)) P (by omega) (by omega) (by omega)
 obtain ⟨q,rfl⟩:=Int.eq_ofNat_of_zero_le q0;have hq:q<ds.length:=by omega
 have x3:gIx (.rol (ds.map D.int)) (.int (q:Nat)) (o1::hs) = .ok (.int ds[q]) (o1::hs):=ahn (by rw [List.getElem?_map,List.getElem?_eq_getElem hq];rfl)
 obtain ⟨v0,v23⟩:=hd _ (List.getElem_mem hq);have co:∀ u∈o::hs,qt 0 u:=λu hu=>by rcases List.mem_cons.mp hu with rfl | hu;exact P.clo;exact ch u hu
 obtain ⟨s,o2,m',ks,e2,P2,m0',m1'⟩:=a81 t1 t6 nd 4 4 (by decide) (by decide) o1 (N+1) ds[q] P1 (by rw [b5];omega) v0 v23
 refine ⟨s,o2,hs++[.lst [.int m']],?_,ks,λu hu=>?_,P2.up (by rw [b5];omega)⟩
 ·have dr:kh false 4 (bz 5) [.ref 0, .ref (o1::hs).length,dw 5, .str (S tg)] ((o1::hs)++[.lst [.int ds[q]]]) = .ok (sd s) (o2::(hs++[.lst [.int m']])):=by
   refine (e2 0 (o1::hs).length ((o1::hs)++[.lst [.int ds[q]]]) (by simp) rfl (by rw [List.getElem?_append_right (Nat.le_refl _),Nat.sub_self];rfl)).trans ?_
   congr 1
   rw [List.cons_append,List.set_cons_zero,List.length_cons,List.set_cons_succ,List.set_append_right _ _ (Nat.le_refl _),Nat.sub_self];rfl
  have lst1:MI.ue [.int ds[q]] (o1::hs) = .ok (.ref (o1::hs).length) ((o1::hs)++[.lst [.int ds[q]]]):=if_pos (du (by simp))
  exact PAP.aof (PAP.jd (di v1) (PAP.jd (PAP.aof (PAP.jd (jr (EVT.ql hz rfl (iz λ_ _=>iu _) co (by rw [List.length_map];omega)) (xq (di v1) (jx _ _ _) (e1 0 _ rfl)) x3) EVT.xr) lst1) (PAP.jd (jx _ _ _) (PAP.jd (di v2) EVT.xr)))) dr
 ·rcases List.mem_append.mp hu with hu | hu
  ·exact ch u hu
  ·rw [List.mem_singleton.mp hu];exact a0c _
theorem signs_at{o:O}{N:Nat}{τ:Sd}(P:PN.Pen o N)(hN:N<=900000000)(v1:τ[1]? = some (some (.ref 0))) :
  ∃ tg o',sA (kh false 3 PN.fu) (aj (sV 1) (aj (sA (kh false 0 PN.ig) dh) (aj (s2 gIx (sZ (sA MI.ue (aj (sC (.int 3)) (aj (sC (.int 3)) (aj (sC (.int 3)) (aj (sC (.int 6)) dh)))))) (sA (kh false 2 PN.aq) (aj (sV 1) (aj (sC (.int 4)) dh)))) dh))) τ [o] = .ok (.str (S tg)) [o']/\1<=tg.length/\tg.length<=6/\tg.Nodup/\(∀ c∈tg,c∈sig)/\PN.Pen o' (N+8):=by
 obtain ⟨q,o1,e1,q0,q1,P1⟩:=PN.ou (m:=4) P (by omega) (by decide) (by decide)
 obtain ⟨q,rfl⟩:=Int.eq_ofNat_of_zero_le q0;have x3:∃ m:Nat,1<=m/\m<=6/\gIx (.rol [.int 3, .int 3, .int 3, .int 6]) (.int (q:Nat)) [o1] = .ok (dw m) [o1]:=by
  rcases q with _ | _ | _ | _ | q
  ·exact ⟨3,by decide,by decide,rfl⟩
  ·exact ⟨3,by decide,by decide,rfl⟩
  ·exact ⟨3,by decide,by decide,rfl⟩
  ·exact ⟨6,by decide,by decide,rfl⟩
  ·omega
 obtain ⟨m,m0,m1,x3⟩:=x3;obtain ⟨tg,o2,t1,t6,nd,sb,e2,P2⟩:=PN.agx (most:=m) (all:=sig) P1 (by omega) m0 (by rw [agl];omega) (by rw [agl];omega) as4
 have dz:sZ (sA MI.ue (aj (sC (.int 3)) (aj (sC (.int 3)) (aj (sC (.int 3)) (aj (sC (.int 6)) dh))))) τ [o] = .ok (.rol [.int 3, .int 3, .int 3, .int 6]) [o]:=EVT.ql (PAP.jd (jx _ _ _) (PAP.jd (jx _ _ _) (PAP.jd (jx _ _ _) (PAP.jd (jx _ _ _) EVT.xr)))) rfl (bx (iu _) (bx (iu _) (bx (iu _) (bx (iu _) gq)))) (EVT.a0b P.clo) (by decide)
 exact ⟨tg,o2,as6 (di v1) (awc (PN.a7r _)) (jr dz (xq (di v1) (jx _ _ _) (e1 0 _ rfl)) x3) (e2 0 _ rfl),t1,by omega,nd,sb,P2.up (by omega)⟩
end ENG
namespace ENG
open PySem PySem.Spec L2 MI SHD
theorem a9g{c:Nat}:∀ {Rs Rs':List Rl} {P P':Rl},(∀ a e,P a e->P' (c+a) (c+e))->All2 (λR R'=>∀ a e,R a e->R' (c+a) (c+e)) Rs Rs'->∀ a e,Rs.foldl cmp P a e->Rs'.foldl cmp P' (c+a) (c+e)
 | _,_,_,_,h, .nil=>h
 | R::_,R'::_,P,P',h, .cons q t=>a9g (P:=cmp P R) (P':=cmp P' R') (λa e ⟨b,h1,h2⟩=>⟨c+b,h a b h1,q b e h2⟩) t
theorem aak{R R':Rl}{c:Nat}(h:∀ a e,R a e->R' (c+a) (c+e)):∀ k a e,pw R k a e->pw R' k (c+a) (c+e)
 | 0,a,e,q=>by cases (q:a=e);exact rfl
 | k+1,a,e,⟨b,h1,h2⟩=>⟨c+b,aak h k a b h1,h b e h2⟩
theorem a87{α:Type}{Q:Rl->Rl->Prop}{f g:α->Rl}:∀ (l:List α),(∀ x∈l,Q (f x) (g x))->All2 Q (l.map f) (l.map g)
 | [],_=>.nil
 | x::l,h=>.cons (h x List.mem_cons_self) (a87 l λy hy=>h y (List.mem_cons_of_mem _ hy))
theorem a1f{u v w:List Nat}:∀ (d:Nat) (s:Sh) (a e:Nat),En w d s a e->En (u++w++v) d s (u.length+a) (u.length+e)
 | 0,_,_,_,h=>h.elim
 | d+1, .one sg,a,e,⟨c,h1,h2,h3⟩=>by
  have ha:=(List.getElem?_eq_some_iff.mp h1).1;refine ⟨c,?_,h2,by omega⟩
  rw [List.append_assoc,List.getElem?_append_right (by omega),Nat.add_sub_cancel_left,List.getElem?_append_left ha]
  exact h1
 | d+1, .row ps,a,e,h=>a9g (c:=u.length) (λa e h=>by cases (h:a=e);exact rfl) (a87 ps λp _=>λa e=>a1f d p a e) a e h
 | d+1, .eit ps,a,e,⟨p,hp,h⟩=>⟨p,hp,a1f d p a e h⟩
 | d+1, .many p,a,e,⟨k,h⟩=>⟨k,aak (λa e=>a1f d p a e) k a e h⟩
 | d+1, .tim p lo hi,a,e,⟨k,h1,h2,h⟩=>⟨k,h1,h2,aak (λa e=>a1f d p a e) k a e h⟩
theorem ak8{R:Rl}:∀ {Rs:List Rl} {P:Rl} {a b e:Nat},P a b->chn Rs b e->Rs.foldl cmp P a e
 | Rs,P,a,b,e,h1,h2=>by
  have:∀ (Rs:List Rl) (P Q:Rl),(∀ x,Q b x->P a x)->Rs.foldl cmp Q b e->Rs.foldl cmp P a e:=λRs=>by
   induction Rs with
   | nil=>intro P Q h q;exact h e q
   | cons R Rs ih=>intro P Q h q;exact ih (cmp P R) (cmp Q R) (λx ⟨y,z1,z2⟩=>⟨y,h y z1,z2⟩) q
  exact this Rs P (· = ·) (λx hx=>by cases (hx:b=x);exact h1) h2
theorem ak9{x y w:List Nat}{a:Nat}(h:x++y <+: w.drop a):x <+: w.drop a/\y <+: w.drop (a+x.length):=by
 obtain ⟨t,ht⟩:=h;refine ⟨⟨y++t,by rw [<-ht,List.append_assoc]⟩,⟨t,?_⟩⟩
 rw [<-List.drop_drop,<-ht,List.append_assoc,List.drop_left]
theorem a88{w:List Nat}{f:Sh->D->Option (List Nat)}{g:Sh->Rl}:∀ {ss:List Sh} {qs:List D} {x:List Nat} {a:Nat},(∀ s∈ss,∀ q∈qs,∀ y b,f s q=some y->y <+: w.drop b->g s b (b+y.length))->wks f ss qs=some x->x <+: w.drop a->chn (ss.map g) a (a+x.length)
 | [],[],x,a,_,e,_=>by cases e;exact rfl
 | [],_::_,_,_,_,e,_=>by cases e
 | _::_,[],_,_,_,e,_=>by cases e
 | s::ss,q::qs,x,a,h,e,hx=>by
  rw [wks] at e
  cases e1:f s q with
  | none=>rw [e1] at e;cases e
  | some y =>
   cases e2:wks f ss qs with
   | none=>rw [e1,e2] at e;cases e
   | some z =>
    rw [e1,e2] at e;cases e
    obtain ⟨h1,h2⟩:=ak9 hx;have c:=a88 (ss:=ss) (qs:=qs) (a:=a+y.length) (λs hs q hq=>h s (List.mem_cons_of_mem _ hs) q (List.mem_cons_of_mem _ hq)) e2 h2;rw [List.length_append,<-Nat.add_assoc];exact ak8 (P:=cmp (· = ·) (g s)) (R:=g s) ⟨a,rfl,h s List.mem_cons_self q List.mem_cons_self y a e1 h1⟩ c
theorem alf{R:Rl}:∀ (k:Nat) {P:Rl} {j a e:Nat},(∀ x y,P x y↔pw R j x y)->(List.replicate k R).foldl cmp P a e->pw R (j+k) a e
 | 0,P,j,a,e,hp,h=>(hp a e).mp h
 | k+1,P,j,a,e,hp,h=>by
  have:=alf k (P:=cmp P R) (j:=j+1) (a:=a) (e:=e) (λx y=>⟨λ⟨b,h1,h2⟩=>⟨b,(hp x b).mp h1,h2⟩,λ⟨b,h1,h2⟩=>⟨b,(hp x b).mpr h1,h2⟩⟩) h
  rwa [show j+1+k=j+(k+1) by omega] at this
theorem ahd{R:Rl}{k a e:Nat}(h:chn (List.replicate k R) a e):pw R k a e:=by
 have:=alf k (P:=(· = ·)) (j:=0) (λx y=>Iff.rfl) h
 rwa [Nat.zero_add] at this
theorem ahe{w:List Nat}:∀ {d:Nat} {s:Sh} {p:D} {x:List Nat} {a:Nat},wk d s p=some x->x <+: w.drop a->En w d s a (a+x.length)
 | 0,_,_,_,_,e,_=>by cases e
 | d+1, .one sg,p,x,a,e,hx=>by
  obtain ⟨_,b,_,e1⟩:=a3y e;unfold atr at e1
  split at e1
  ·split at e1
   ·split at e1
    ·rename_i c _ _;cases e1
     obtain ⟨t,ht⟩:=hx;refine ⟨c,?_,by assumption,rfl⟩
     have:=congrArg (·[0]?) ht
     simpa using this.symm
    ·cases e1
   ·cases e1
  ·cases e1
 | d+1, .row ps,p,x,a,e,hx=>by
  obtain ⟨_,b,_,e1⟩:=a3y e;obtain ⟨qs,_,e2⟩:=a5l e1;exact a88 (g:=En w d) (λs _ q _ y b ey hy=>ahe ey hy) e2 hx
 | d+1, .eit ps,p,x,a,e,hx=>by
  obtain ⟨_,b,c,_,e1⟩:=adw e;unfold ave at e1
  split at e1
  ·split at e1
   ·obtain ⟨s,hs,e2⟩:=Option.bind_eq_some_iff.mp e1;exact ⟨s,List.mem_of_getElem? hs,ahe e2 hx⟩
   ·cases e1
  ·cases e1
 | d+1, .many s,p,x,a,e,hx=>by
  obtain ⟨_,b,_,e1⟩:=a3y e;obtain ⟨qs,_,e2⟩:=a5l e1;have:=a88 (g:=En w d) (λs _ q _ y b ey hy=>ahe ey hy) e2 hx;rw [List.map_replicate] at this;exact ⟨_,ahd this⟩
 | d+1, .tim s lo hi,p,x,a,e,hx=>by
  obtain ⟨_,b,_,e1⟩:=a3y e;obtain ⟨qs,_,e2⟩:=a5l e1
  split at e2
  ·rename_i hq;have:=a88 (g:=En w d) (λs _ q _ y b ey hy=>ahe ey hy) e2 hx;rw [List.map_replicate] at this;exact ⟨_,hq.1,hq.2,ahd this⟩
  ·cases e2
theorem asr{d:Nat}{s:Sh}{p:D}{x:List Nat}(e:wk d s p=some x):En x d s 0 x.length:=by
 have:=ahe (w:=x) (a:=0) e (List.prefix_refl x)
 rwa [Nat.zero_add] at this
end ENG
namespace K08
open PySem PySem.Spec L2 MI AT HND EVX SHD ENG
open PAP hiding jd ahp al5 a3m abx aof
local macro_rules | `(tactic| walk_at "c") => `(tactic| first | assumption | exact iu _ | (with_reducible exact EVT.a7y) | exact j4 _ | exact a3h _ | exact a4r | exact gq | ((with_reducible apply bx)<;>walk_at "c") | ((with_reducible apply my);walk_at "c") | ((with_reducible apply qx);walk_at "c") | ((with_reducible apply EVT.a1e)<;>walk_at "c") | ((with_reducible apply EVT.a2j);walk_at "c") | ((with_reducible apply EVT.a2k);walk_at "c") | ((with_reducible apply EVT.a7w);walk_at "c") | ((with_reducible apply EVT.a7x);walk_at "c") | ((with_reducible apply EVT.a7z)<;>walk_at "c") | exact iz fun _ _=>iu _ | exact iz fun _ _=>j4 _)
local macro_rules | `(tactic| walk_at "h") => `(tactic| first | assumption | exact EVT.aaf | exact EVT.a0b (by assumption))
local macro_rules | `(tactic| walk_at "z") => `(tactic| first | assumption | omega | (simp only [List.length_cons,List.length_nil,List.length_append,List.length_take,List.length_drop,List.length_map,List.length_singleton,EVT.aae,Int.reduceToNat]<;>omega))
local macro_rules | `(tactic| walk_at "l") => `(tactic| first
 | (with_reducible assumption)
 | (with_reducible exact al5) | (with_reducible exact ahp) | (with_reducible exact adp) | (with_reducible exact av2)
 | (with_reducible exact EVT.ac3) | (with_reducible exact EVT.a6g)
 | ((with_reducible apply EVT.PuE);with_reducible assumption)
 | ((with_reducible apply EVT.av9);with_reducible assumption)
 | (with_reducible exact EVT.ao5 _ _) | (with_reducible exact PAP.av6 _ _ _) | (with_reducible exact PAP.agq _ _ _)
 | ((with_reducible apply PAP.ao1);walk_at "z")
 | ((with_reducible apply EVT.ao3);walk_at "z")
 | ((with_reducible apply EVT.ao4);walk_at "z")
 | (with_reducible exact abv _ _) | (with_reducible exact ao0 _) | (with_reducible exact a2g _)
 | ((with_reducible apply aho);walk_at "z") | ((with_reducible apply ajv);walk_at "z")
 | ((with_reducible apply aoo);walk_at "z") | ((with_reducible apply aop);walk_at "z")
 | ((with_reducible apply anv);walk_at "z") | ((with_reducible apply anw);walk_at "z")
 | ((with_reducible apply anz);walk_at "z") | ((with_reducible apply anx);walk_at "z")
 | exact rfl)
local macro_rules | `(tactic| walk_at "x") => `(tactic| first
 | (with_reducible assumption)
 | (with_reducible exact jx _ _ _)
 | ((with_reducible apply di);exact rfl)
 | (with_reducible exact EVT.xr) | (with_reducible exact EVT.ady)
 | ((with_reducible apply EVT.ql);walk_at "x";exact rfl;walk_at "c";walk_at "h";walk_at "z")
 | ((with_reducible apply EVT.aac);walk_at "x";exact rfl;walk_at "c";walk_at "h")
 | ((with_reducible apply EVT.aad);walk_at "x";exact rfl;walk_at "h";walk_at "z")
 | ((with_reducible apply EVT.a9e);walk_at "x";walk_at "x";exact rfl;walk_at "c";walk_at "c";walk_at "h";walk_at "z")
 | ((with_reducible apply EVT.agy);walk_at "x";walk_at "x";exact rfl;walk_at "c";walk_at "h";walk_at "z";walk_at "z")
 | ((with_reducible apply EVT.a3m);walk_at "h")
 | ((with_reducible apply jr);walk_at "x";walk_at "x";walk_at "l")
 | ((with_reducible apply aon);walk_at "x";walk_at "l")
 | ((with_reducible apply PAP.aof);walk_at "x";walk_at "l")
 | ((with_reducible apply PAP.jd);walk_at "x";walk_at "x")
 | ((with_reducible apply adq);walk_at "x";walk_at "x";walk_at "x";walk_at "l")
 | ((with_reducible apply abw);walk_at "x")
 | ((with_reducible apply tof);walk_at "x")
 | ((with_reducible apply ago);walk_at "x";walk_at "l")
 | ((with_reducible apply as8);walk_at "x") | ((with_reducible apply av1);walk_at "x")
 | ((with_reducible apply ajt);walk_at "x";walk_at "x") | ((with_reducible apply ahm);walk_at "x")
 | ((with_reducible apply orT);walk_at "x") | ((with_reducible apply orF);walk_at "x";walk_at "x"))
local macro_rules | `(tactic| walk_at "l") => `(tactic| first | (with_reducible exact SHD.ix0) | (with_reducible exact SHD.ix1) | (with_reducible exact SHD.ix2) | (with_reducible exact SHD.ix3) | (with_reducible exact SHD.avc) | ((with_reducible apply SHD.aoq);exact (by decide)) | (with_reducible exact SHD.atq) | ((with_reducible apply SHD.avd);exact (by decide)) | (with_reducible exact SHD.a9h) | (with_reducible exact SHD.a3a))
theorem aal(x:Nat):∀ l:List Nat,inD (dw x) (l.map dw)=decide (x∈l)
 | []=>by simp [inD]
 | y::l=>by
  show (eqF (dw y) (dw x) || inD (dw x) (l.map dw))=_
  rw [aal x l];show (((y:Int) == (x:Int)) || decide (x∈l))=_
  by_cases h:y=x
  ·subst h;simp
  ·have:((y:Int) == (x:Int))=false:=beq_eq_false_iff_ne.mpr (by omega)
   rw [this,Bool.false_or];exact decide_eq_decide.mpr (by simp [Ne.symm h])
theorem acb(l:List Nat):(l.map dw).all a0g=true:=by
 rw [List.all_eq_true]
 intro x hx
 obtain ⟨y,_,rfl⟩:=List.mem_map.mp hx;rfl
theorem ass(x:Nat)(l:List Nat)(h:Hd):gIn false (dw x) (.tup (l.map dw)) h = .ok (.bl (decide (x∈l))) h:=by
 show (if a0g (dw x)=true/\(l.map dw).all a0g=true then R.ok (D.bl (if false=true then !inD (dw x) (l.map dw) else inD (dw x) (l.map dw))) h else .no)=_
 rw [if_pos ⟨rfl,acb l⟩,if_neg (by decide),aal]
theorem asu(x:Nat)(l:List Nat)(h:Hd):gIn false (dw x) (lsD l) h = .ok (.bl (decide (x∈l))) h:=by
 show (if a0g (dw x)=true/\(l.map dw).all a0g=true then R.ok (D.bl (if false=true then !inD (dw x) (l.map dw) else inD (dw x) (l.map dw))) h else .no)=_
 rw [if_pos ⟨rfl,acb l⟩,if_neg (by decide),aal]
open Classical in
noncomputable def tk(w:List Nat)(s:Sh):Bool:=decide (En w 5 s 0 w.length)
theorem asv(w:List Nat)(s:Sh):decide (w.length∈fl w.length (En w 5 s) 0)=tk w s:=by
 unfold tk;refine decide_eq_decide.mpr ?_;rw [lu];exact ⟨λh=>h.2,λh=>⟨Nat.le_refl _,h⟩⟩
noncomputable def jb:SF:=qb (a7e (gw 5)) 4
section
variable{tg w:List Nat}{s:Sh}
theorem ww(hw:w.length+1<=60)(k:a0v tg 5 s):Pu jb 2 [sd s, .str (S w)] (.bl (tk w s)):=by
 refine pu1 rfl (ym (vy s) (j4 _)) (a3h _) ?_;unfold jb;rw [jn];show toR (a7e (gw 5) [some (sd s),some (.str (S w)),none,none] [])=_;unfold a7e;refine Eq.trans (congrArg toR (a5u (asa (xq (di rfl) (di rfl) (ah7 hw 5 5 (by decide) s k _)) (show ahk 2 (a02 (kN 2) (a02 (kN 3) aer)) (tr w 5 s) [some (sd s),some (.str (S w)),none,none] [] = .nx [some (sd s),some (.str (S w)),some (rwE w 5 s),some (.rol ((kids s).map (tr w 4)))] [] from rfl)))) ?_
 have x0:gIx (rwE w 5 s) (.int 0) [] = .ok (.tup ((fl w.length (En w 5 s) 0).map dw)) []:=ao8 (a:=0) _ (Nat.zero_le _);refine congrArg toR (m5 (jr (vo (di rfl) (a1q (du (by omega)))) (jr (di rfl) (jx _ _ _) x0) ((ass _ _ _).trans ?_)))
 rw [asv]
theorem aam(hw:w.length+1<=60)(k:a0v tg 5 s){fl' fs fw:SE}{τ:Sd}{h:Hd}(e0:fl' τ h = .ok (dw w.length) h)(e1:fs τ h = .ok (sd s) h)(e2:fw τ h = .ok (.str (S w)) h):s2 (gIn false) fl' (s2 gIx (s2 gIx (sA (kh false 2 (cu 5)) (aj fs (aj fw dh))) (sC (.int 0))) (sC (.int 0))) τ h = .ok (.bl (tk w s)) h:=by
 have x0:gIx (alD w 5 s) (.int 0) h = .ok (rwL w.length (En w 5 s)) h:=ahn (j:=0) rfl;have x1:gIx (rwL w.length (En w 5 s)) (.int 0) h = .ok (lsD (fl w.length (En w 5 s) 0)) h:=aca (a:=0) _ (Nat.zero_le _);refine jr e0 (jr (jr (xq e1 e2 (ale hw 5 5 (by decide) (by decide) s k _)) (jx _ _ _) x0) (jx _ _ _) x1) ((asu _ _ _).trans ?_)
 rw [asv]
end
noncomputable def jy:SF:=qb a3v 2
theorem asw(b:Bool):Pu jy 2 [.bl b, .bl b] (.bl true):=by
 refine pu1 rfl (ym (a3h _) (a3h _)) (a3h _) ?_;unfold jy;rw [jn];show toR (a3v [some (.bl b),some (.bl b)] [])=_;unfold a3v;exact congrArg toR (m5 (ant (xq (di rfl) (jx _ _ _) PAP.av3) (jr (di rfl) (di rfl) (by rw [agk,beq_self_eq_true]))))
noncomputable def je:SF:=qb (a1b PN.aq qz) 6
theorem aoh{tg w:List Nat}{o:O}{N:Nat}(t1:1<=tg.length)(t6:tg.length<=6)(hw:w.length<=16)(P:PN.Pen o N)(hN:N<=900000000 - 100):∃ x o',Dr je 3 [.str (S tg), .str (S w)] o (.str (S x)) o'/\x.length<=16/\PN.Pen o' (N+20):=by
 obtain ⟨m,hm,m0,m1⟩:∃ m:Nat,a8p [.int 1,dw w.length] [o] = .ok (dw m) [o]/\1<=m/\m<=16:=by
  refine ⟨(if (w.length:Int) > 1 then (w.length:Int) else 1).toNat,?_,?_,?_⟩
  ·show R.ok (D.int (if (w.length:Int) > 1 then (w.length:Int) else 1)) _=_
   rw [show dw (if (w.length:Int) > 1 then (w.length:Int) else 1).toNat=D.int (if (w.length:Int) > 1 then (w.length:Int) else 1) from congrArg D.int (by split<;>omega)]
  ·split<;>omega
  ·split<;>omega
 obtain ⟨a,o1,e1,a0,a1,P1⟩:=PN.ou (m:=(m:Int)) P (by omega) (by omega) (by omega)
 obtain ⟨a,rfl⟩:=Int.eq_ofNat_of_zero_le a0;obtain ⟨j,o2,e2,j0,j1,P2⟩:=PN.ou (m:=(tg.length:Int)) P1 (by omega) (by omega) (by omega)
 obtain ⟨j,rfl⟩:=Int.eq_ofNat_of_zero_le j0;have hj:j<tg.length:=by omega
 obtain ⟨y,o3,e3,ly,_,P3⟩:=aog (most:=6) t1 (by omega) (by omega) P2 (by omega)
 obtain ⟨b,o4,e4,b0,b1,P4⟩:=PN.ou (m:=5) P3 (by omega) (by omega) (by omega)
 obtain ⟨b,rfl⟩:=Int.eq_ofNat_of_zero_le b0
 let A:List (List Nat):=[w.take a++[tg[j]]++w.drop (a+1),w.take a++[tg[j]]++w.drop a,w.take a++w.drop (a+1)]
 let B:List (List Nat):=[w.drop a++w.take a,y]
 have hb:b<(A++B).length:=by show b<5;omega
 have sm:∀ l∈A++B,l.length<=100:=λl hl=>by
  simp only [A,B,List.cons_append,List.nil_append,List.mem_cons,List.not_mem_nil,or_false] at hl
  rcases hl with rfl | rfl | rfl | rfl | rfl
  ·simp only [List.length_append,List.length_take,List.length_drop,List.length_singleton];omega
  ·simp only [List.length_append,List.length_take,List.length_drop,List.length_singleton];omega
  ·simp only [List.length_append,List.length_take,List.length_drop];omega
  ·simp only [List.length_append,List.length_take,List.length_drop];omega
  ·omega
 have lb:=sm _ (List.getElem_mem hb);refine ⟨((A++B)[b]).take 16,o4,dr1 rfl (ym (j4 _) (j4 _)) P.clo ?_ (j4 _) P4.clo,by rw [List.length_take];omega,P4.up (by omega)⟩
 unfold je;rw [jn];show toR (a1b PN.aq qz [some (.ref 0),some (.str (S tg)),some (.str (S w)),none,none,none] [o])=_;unfold a1b;have lw:∀ h,qg [.str (S w)] h = .ok (dw w.length) h:=λh=>a1q (du (by omega))
 have to:∀ h,a69 (.str (S w)) none (some (a:Int)) h = .ok (.str (S (w.take a))) h:=λh=>arz a (du (by omega))
 have fr:∀ h,a69 (.str (S w)) (some (a:Int)) none h = .ok (.str (S (w.drop a))) h:=λh=>agj a (du (by omega))
 have fr1:∀ h,a69 (.str (S w)) (some ((a:Int)+1)) none h = .ok (.str (S (w.drop (a+1)))) h:=λh=>agj (a+1) (du (by omega))
 refine Eq.trans (congrArg toR (mj (xq (di rfl) (xq (jx _ _ _) (vo (di rfl) (lw _)) hm) (e1 0 _ rfl)))) ?_;refine Eq.trans (congrArg toR (mj (jr (di rfl) (xq (di rfl) (vo (di rfl) (a1q (du (by omega)))) (e2 0 _ rfl)) (arx (du (by omega)) (List.getElem?_eq_getElem hj))))) ?_
 have sc:∀ l:List (List Nat),clos 0 (l.map λx=>D.str (S x)):=λl=>iz λ_ _=>j4 _;have zA:∀ (τ:Sd),τ[2]? = some (some (.str (S w)))->τ[3]? = some (some (dw a))->τ[4]? = some (some (.str (S [tg[j]])))->sZ (sA MI.ue (aj (s2 j5 (s2 j5 (ye (sV 2) oN (oS (sV 3))) (sV 4)) (ye (sV 2) (oS (s2 j5 (sV 3) (sC (.int 1)))) oN)) (aj (s2 j5 (s2 j5 (ye (sV 2) oN (oS (sV 3))) (sV 4)) (ye (sV 2) (oS (sV 3)) oN)) (aj (s2 j5 (ye (sV 2) oN (oS (sV 3))) (ye (sV 2) (oS (s2 j5 (sV 3) (sC (.int 1)))) oN)) dh)))) τ [o2] = .ok (.rol (A.map λx=>.str (S x))) [o2]:=λτ v2 v3 v4=>by
  have s1:ye (sV 2) oN (oS (sV 3)) τ [o2] = .ok (.str (S (w.take a))) [o2]:=adq (di v2) EVT.ady (abw (di v3)) (to _);have s2':ye (sV 2) (oS (sV 3)) oN τ [o2] = .ok (.str (S (w.drop a))) [o2]:=adq (di v2) (abw (di v3)) EVT.ady (fr _);have s3:ye (sV 2) (oS (s2 j5 (sV 3) (sC (.int 1)))) oN τ [o2] = .ok (.str (S (w.drop (a+1)))) [o2]:=adq (di v2) (abw (jr (di v3) (jx _ _ _) a9h)) EVT.ady (fr1 _);have p1:s2 j5 (ye (sV 2) oN (oS (sV 3))) (sV 4) τ [o2] = .ok (.str (S (w.take a++[tg[j]]))) [o2]:=jr s1 (di v4) (a5t (du (by rw [List.length_take,List.length_singleton];omega)))
  exact EVT.ql (PAP.jd (jr p1 s3 (a5t (du (by simp only [List.length_append,List.length_take,List.length_drop,List.length_singleton];omega)))) (PAP.jd (jr p1 s2' (a5t (du (by simp only [List.length_append,List.length_take,List.length_drop,List.length_singleton];omega)))) (PAP.jd (jr s1 s3 (a5t (du (by simp only [List.length_take,List.length_drop];omega)))) EVT.xr))) rfl (sc A) (EVT.a0b P2.clo) (by show 3<=1000000;decide)
 refine Eq.trans (congrArg toR (mj (zA _ rfl rfl rfl))) ?_;have zB:∀ (τ:Sd),τ[0]? = some (some (.ref 0))->τ[1]? = some (some (.str (S tg)))->τ[2]? = some (some (.str (S w)))->τ[3]? = some (some (dw a))->sZ (sA MI.ue (aj (s2 j5 (ye (sV 2) (oS (sV 3)) oN) (ye (sV 2) oN (oS (sV 3)))) (aj (sA (kh false 3 qz) (aj (sV 0) (aj (sV 1) (aj (sC (.int 6)) dh)))) dh))) τ [o2] = .ok (.rol (B.map λx=>.str (S x))) [o3]:=λτ v0 v1 v2 v3=>by
  have s1:ye (sV 2) oN (oS (sV 3)) τ [o2] = .ok (.str (S (w.take a))) [o2]:=adq (di v2) EVT.ady (abw (di v3)) (to _);have s2':ye (sV 2) (oS (sV 3)) oN τ [o2] = .ok (.str (S (w.drop a))) [o2]:=adq (di v2) (abw (di v3)) EVT.ady (fr _);exact EVT.ql (PAP.jd (jr s2' s1 (a5t (du (by simp only [List.length_take,List.length_drop];omega)))) (PAP.jd (as6 (di v0) (di v1) (jx _ _ _) (e3 0 _ rfl)) EVT.xr)) rfl (sc B) (EVT.a0b P3.clo) (by show 2<=1000000;decide)
 have zz:=λτ v0 v1 v2 v3 (v5:(τ:Sd)[5]? = some (some (.rol (A.map λx=>.str (S x)))))=>EVT.a9e (f:=sV 5) (di v5) (zB τ v0 v1 v2 v3) rfl (sc A) (sc B) (EVT.a0b P3.clo) (by show 3+2<=1000000;decide)
 refine congrArg toR (m5 (adq (jr (zz _ rfl rfl rfl rfl rfl) (xq (di rfl) (jx _ _ _) (e4 0 _ rfl)) ?_) EVT.ady (abw (jx _ _ _)) (arz 16 (du (by omega)))))
 rw [<-List.map_append];exact ahn (by rw [List.getElem?_map,List.getElem?_eq_getElem hb];rfl)
theorem aka{P P':Rl}:∀ {Rs Rs':List Rl},All2 (λR R'=>∀ a e,R a e->R' a e) Rs Rs'->(∀ a e,P a e->P' a e)->∀ a e,Rs.foldl cmp P a e->Rs'.foldl cmp P' a e:=by
 intro Rs Rs' h
 induction h generalizing P P' with
 | nil=>exact λh=>h
 | cons q _ ih=>exact λh=>ih λa e ⟨b,h1,h2⟩=>⟨b,h a b h1,q b e h2⟩
theorem ahf{R R':Rl}(h:∀ a e,R a e->R' a e):∀ k a e,pw R k a e->pw R' k a e
 | 0,_,_,q=>q
 | k+1,a,e,⟨b,h1,h2⟩=>⟨b,ahf h k a b h1,h b e h2⟩
theorem a5n{tg w:List Nat}:∀ (d:Nat) (s:Sh),a0v tg d s->∀ a e,En w (d+1) s a e->En w d s a e
 | 0,_,k=>k.elim
 | d+1, .one sg,_=>λa e h=>h
 | d+1, .row ps,k=>λa e h=>aka (a87 ps λp hp=>a5n d p (k.2 p hp)) (λ_ _ h=>h) a e h
 | d+1, .eit ps,k=>λa e ⟨p,hp,h⟩=>⟨p,hp,a5n d p (k.2.2 p hp) a e h⟩
 | d+1, .many p,k=>λa e ⟨j,h⟩=>⟨j,ahf (a5n d p k) j a e h⟩
 | d+1, .tim p lo hi,k=>λa e ⟨j,h1,h2,h⟩=>⟨j,h1,h2,ahf (a5n d p k.2.2) j a e h⟩
section
variable{tg w w':List Nat}{s s':Sh}
theorem aan(h:En w 5 s 0 w.length):tk w s=true:=by unfold tk;simpa using h
theorem asx(k:a0v tg 4 s)(h:tk w s=true):En w 4 s 0 w.length:=a5n 4 s k _ _ (by unfold tk at h;simpa using h)
theorem awg(h:En w 4 s 0 w.length):En (w++w') 4 s 0 w.length:=by
 have:=a1f (u:=[]) (v:=w') 4 s 0 w.length h
 simpa using this
theorem awh(h:En w' 4 s 0 w'.length):En (w++w') 4 s w.length (w.length+w'.length):=by
 have:=a1f (u:=w) (v:=[]) 4 s 0 w'.length h
 simpa using this
theorem asy(h:En w 4 s 0 w.length)(h':En w' 4 s' 0 w'.length):tk (w++w') (.row [s,s'])=true:=by
 refine aan ⟨w.length,⟨0,rfl,awg h⟩,?_⟩;rw [List.length_append];exact awh h'
theorem acd(h:En w 4 s 0 w.length):pw (En (w++w) 4 s) 2 0 (w++w).length:=by
 refine ⟨w.length,⟨0,rfl,awg h⟩,?_⟩;rw [List.length_append];exact awh h
end
noncomputable def jf:SF:=qb (a1c jb) 6
theorem not_true{b:Bool}(h:b=true)(hh:Hd):yf (.bl b) (.bl true) hh = .ok (.bl false) hh:=by subst h;rfl
section
variable{tg:List Nat}{sa sb:Sh}{w1 w2:List Nat}
theorem aoi(k1:a0v tg 4 sa)(k2:a0v tg 4 sb)(l1:w1.length<=16)(l2:w2.length<=16)(h1:En w1 4 sa 0 w1.length)(h2:En w2 4 sb 0 w2.length):Pu jf 2 [.tup [sd sa,sd sb], .rol [.str (S w1), .str (S w2)]] (.bl true):=by
 have eit:sd (.eit [sa,sb]) = .tup [.str "either", .tup [sd sa,sd sb]]:=by rw [sd,qe];rfl
 have row:sd (.row [sa,sb]) = .tup [.str "row", .tup [sd sa,sd sb]]:=by rw [sd,qe];rfl
 have two:∀ p∈[sa,sb],a0v tg 4 p:=λp hp=>by
  simp only [List.mem_cons,List.not_mem_nil,or_false] at hp
  rcases hp with rfl | rfl
  ·exact k1
  ·exact k2
 have ke:a0v tg 5 (.eit [sa,sb]):=⟨by simp,by simp,two⟩
 have kr:a0v tg 5 (.row [sa,sb]):=⟨by simp,two⟩
 refine pu1 rfl (ym (my (bx (vy _) (bx (vy _) gq))) (qx (bx (j4 _) (bx (j4 _) gq)))) (a3h _) ?_;unfold jf;rw [jn];show toR (a1c jb [some (.tup [sd sa,sd sb]),some (.rol [.str (S w1), .str (S w2)]),none,none,none,none] [])=_;unfold a1c;refine Eq.trans (congrArg toR (a5u (asa (di rfl) (show adm 2 (a02 (kN 2) (a02 (kN 3) aer)) (.rol [.str (S w1), .str (S w2)]) [some (.tup [sd sa,sd sb]),some (.rol [.str (S w1), .str (S w2)]),none,none,none,none] [] = .nx [some (.tup [sd sa,sd sb]),some (.rol [.str (S w1), .str (S w2)]),some (.str (S w1)),some (.str (S w2)),none,none] [] from rfl)))) ?_
 have ad:∀ h,j5 (.str (S w1)) (.str (S w2)) h = .ok (.str (S (w1++w2))) h:=λh=>a5t (du (by omega))
 have ll:∀ (w:List Nat) (h:Hd),w.length<=100->qg [.str (S w)] h = .ok (dw w.length) h:=λw h hw=>a1q (du (by omega))
 have la:(w1++w2).length<=100:=by rw [List.length_append];omega
 have st2:a5o (sT (MI.s2 gLt (sA qg (aj (MI.s2 j5 (sV 2) (sV 3)) dh)) (sC (.int 17)))) (sT (MI.s2 yf (sA (kh false 2 jb) (aj (sA MI.yc (aj (sC (.str "row")) (aj (sV 0) dh))) (aj (MI.s2 j5 (sV 2) (sV 3)) dh))) (sC (.bl true)))) [some (.tup [sd sa,sd sb]),some (.rol [.str (S w1), .str (S w2)]),some (.str (S w1)),some (.str (S w2)),none,none] [] = .ok false []:=by
  by_cases q:(w1++w2).length<17
  ·have t:=ww (w:=w1++w2) (by omega) kr []
   rw [row] at t;exact ajt (tof (jr (vo (jr (di rfl) (di rfl) (ad _)) (ll _ _ la)) (jx _ _ _) (aho (by omega)))) (tof (jr (xq (xq (jx _ _ _) (di rfl) adp) (jr (di rfl) (di rfl) (ad _)) t) (jx _ _ _) (not_true (asy h1 h2) _)))
  ·exact ahm (tof (jr (vo (jr (di rfl) (di rfl) (ad _)) (ll _ _ la)) (jx _ _ _) (ajv (by omega))))
 refine Eq.trans (congrArg toR (ifN st2)) ?_;have one:∀ (s:Sh) (w:List Nat) (t4 t5:Option D),a0v tg 4 s->s∈[sa,sb]->w.length<=16->En w 4 s 0 w.length->wu jb [some (.tup [sd sa,sd sb]),some (.rol [.str (S w1), .str (S w2)]),some (.str (S w1)),some (.str (S w2)),some (sd s),some (.str (S w))] [] = .nx [some (.tup [sd sa,sd sb]),some (.rol [.str (S w1), .str (S w2)]),some (.str (S w1)),some (.str (S w2)),some (sd s),some (.str (S w))] []:=λs w t4 t5 k hs lw hw=>by
  unfold wu;have tm01:sd (.tim s 0 1) = .tup [.str "times",sd s, .int 0, .int 1]:=by rw [sd];rfl
  have tm23:sd (.tim s 2 3) = .tup [.str "times",sd s, .int 2, .int 3]:=by rw [sd];rfl
  have mn:sd (.many s) = .tup [.str "many",sd s]:=by rw [sd]
  have te:=ww (w:=w) (by omega) ke []
  rw [eit] at te;have t0:=ww (w:=[]) (s:=.tim s 0 1) (tg:=tg) (by decide) ⟨by decide,by decide,k⟩ []
  rw [tm01] at t0;have e0:tk w (.eit [sa,sb])=true:=aan ⟨s,hs,hw⟩;have e1:tk [] (.tim s 0 1)=true:=aan ⟨0,by decide,by decide,rfl⟩
  refine Eq.trans (ifN (orF (tof (jr (xq (xq (jx _ _ _) (di rfl) adp) (di rfl) te) (jx _ _ _) (not_true e0 _))) (tof (jr (xq (PAP.aof (PAP.jd (jx _ _ _) (PAP.jd (di rfl) (PAP.jd (jx _ _ _) (PAP.jd (jx _ _ _) EVT.xr)))) avb) (jx _ _ _) t0) (jx _ _ _) (not_true e1 _))))) ?_;have aw:∀ h,j5 (.str (S w)) (.str (S w)) h = .ok (.str (S (w++w))) h:=λh=>a5t (du (by omega))
  by_cases q:w.length<9
  ·have l2':(w++w).length+1<=60:=by rw [List.length_append];omega
   have t2:=ww (w:=w++w) (s:=.tim s 2 3) (tg:=tg) l2' ⟨by decide,by decide,k⟩ []
   rw [tm23] at t2;have t3:=ww (w:=w++w) (s:=.many s) (tg:=tg) l2' k [];rw [mn] at t3;have e2:tk (w++w) (.tim s 2 3)=true:=aan ⟨2,by decide,by decide,acd hw⟩
   have e3:tk (w++w) (.many s)=true:=aan ⟨2,acd hw⟩;refine Eq.trans (ifN (ajt (tof (jr (vo (di rfl) (ll _ _ (by omega))) (jx _ _ _) (aho (by omega)))) (tof (jr (xq (PAP.aof (PAP.jd (jx _ _ _) (PAP.jd (di rfl) (PAP.jd (jx _ _ _) (PAP.jd (jx _ _ _) EVT.xr)))) avb) (jr (di rfl) (di rfl) (aw _)) t2) (jx _ _ _) (not_true e2 _))))) ?_
   exact ifF (ajt (tof (jr (vo (di rfl) (ll _ _ (by omega))) (jx _ _ _) (aho (by omega)))) (tof (jr (xq (xq (jx _ _ _) (di rfl) adp) (jr (di rfl) (di rfl) (aw _)) t3) (jx _ _ _) (not_true e3 _))))
  ·exact Eq.trans (ifN (ahm (tof (jr (vo (di rfl) (ll _ _ (by omega))) (jx _ _ _) (ajv (by omega)))))) (ifF (ahm (tof (jr (vo (di rfl) (ll _ _ (by omega))) (jx _ _ _) (ajv (by omega))))))
 have zi:a9v (sV 0) (sV 1) [some (.tup [sd sa,sd sb]),some (.rol [.str (S w1), .str (S w2)]),some (.str (S w1)),some (.str (S w2)),none,none] [] = .ok ⟨[(sa,w1),(sb,w2)].map λp=>.tup [sd p.1, .str (S p.2)],λ_=>True⟩ []:=by
  unfold a9v;rw [di rfl,gh,di rfl,gh];show R.ok (⟨[.tup [sd sa, .str (S w1)], .tup [sd sb, .str (S w2)]],λ_=>True/\True⟩:Itm) []=_
  congr 2
  funext _
  simp
 refine Eq.trans (congrArg toR (a7s zi)) ?_;obtain ⟨τ',h',e,t4,t5,rfl,rfl⟩:=ut (g:=ahk 2 (a02 (kN 4) (a02 (kN 5) aer))) (b:=wu jb) (λp:Sh × List Nat=>.tup [sd p.1, .str (S p.2)]) (λpre τ h=>∃ t4 t5:Option D,τ=[some (.tup [sd sa,sd sb]),some (.rol [.str (S w1), .str (S w2)]),some (.str (S w1)),some (.str (S w2)),t4,t5]/\h=[]) [(sa,w1),(sb,w2)] [some (.tup [sd sa,sd sb]),some (.rol [.str (S w1), .str (S w2)]),some (.str (S w1)),some (.str (S w2)),none,none] []
  (by
   rintro pre p post τ h al ⟨t4,t5,rfl,rfl⟩
   have hp:p∈[(sa,w1),(sb,w2)]:=by rw [al];simp
   simp only [List.mem_cons,List.not_mem_nil,or_false] at hp
   rcases hp with rfl | rfl
   ·exact ⟨_,_,rfl,_,_,one sa w1 t4 t5 k1 (by simp) l1 h1,_,_,rfl,rfl⟩
   ·exact ⟨_,_,rfl,_,_,one sb w2 t4 t5 k2 (by simp) l2 h2,_,_,rfl,rfl⟩) ⟨none,none,rfl,rfl⟩
 refine Eq.trans (congrArg toR (congrArg (λz=>MI.thn z _) e)) ?_;rw [a3g];have t:=ww (w:=[]) (s:=.many sa) (tg:=tg) (by decide) k1 []
 rw [show sd (.many sa) = .tup [.str "many",sd sa] by rw [sd]] at t
 have em:tk [] (.many sa)=true:=aan ⟨0,rfl⟩;rw [em] at t;exact congrArg toR (m5 (jr (xq (xq (jx _ _ _) (jr (di rfl) (jx _ _ _) ix0) adp) (jx _ _ _) t) (jx _ _ _) rfl))
end
noncomputable abbrev B0:=a7f (cu 5) jf jy je (cj 5) PN.jl (gj 5) (bz 5) PN.ig PN.fu PN.aq jb
section
variable{tg:List Nat}
theorem ahg{p:Pa}(k:POk tg 5 p):(sw p).length<=7776:=ac6 k
theorem turn(t1:1<=tg.length)(t6:tg.length<=6)(nd:tg.Nodup){sc:D}{t3 t4 t5 t6' t7 t8 t9:Option D}{o:O}{N:Nat}{hs:Hd}(ch:∀ u∈hs,qt 0 u)(P:PN.Pen o N)(hN:N<=500000000) :
  ∃ u4 u5 u6 u7 o' hs',B0 [some sc,some (.ref 0),some (.str (S tg)),t3,t4,t5,t6',t7,t8,t9] (o::hs) = .nx [some sc,some (.ref 0),some (.str (S tg)),t3,u4,u5,u6,u7,t8,t9] (o'::hs')/\(∀ u∈hs',qt 0 u)/\PN.Pen o' (N+7000000):=by
 have b5:bnd 5=3361400:=by decide
 obtain ⟨s,o1,hs1,e1,ks,ch1,P1⟩:=ak7 (m:=2) (ds:=[7,23]) (K:=aj (sC (.int 7)) (aj (sC (.int 23)) dh)) (τ:=[some sc,some (.ref 0),some (.str (S tg)),t3,t4,t5,t6',t7,t8,t9]) t1 t6 nd P (by omega) ch (by simp) rfl (by decide) (by decide) (PAP.jd (jx _ _ _) (PAP.jd (jx _ _ _) EVT.xr)) rfl rfl
 obtain ⟨p,o2,e2,kp,wp,P2⟩:=a85 (tg:=tg) 5 5 (by decide) s ks o1 _ P1 (by rw [b5];omega)
 have e3:=a86 (tg:=tg) 5 5 (by decide) (by decide) p kp
 have lw:=ahg kp;have l16:((sw p).take 16).length<=16:=by rw [List.length_take];omega
 obtain ⟨x,o3,e4,lx,P3⟩:=aoh t1 t6 l16 P2 (by rw [b5];omega)
 have tw:tk (sw p) s=true:=aan (asr wp);refine ⟨some (sd s),some (.str (S (sw p))),some (.str (S x)),some (.bl (tk x s)),o3,hs1,?_,ch1,P3.up (by rw [b5];omega)⟩
 unfold B0 a7f;have lg:∀ h,qg [.str (S (sw p))] h = .ok (dw (sw p).length) h:=λh=>a1q (du (by omega))
 have asked:∀ (τ:Sd) (h:Hd),τ[4]? = some (some (sd s))->τ[5]? = some (some (.str (S (sw p))))->a5o (sT (s2 gLt (sA qg (aj (sV 5) dh)) (sC (.int 17)))) (sT (s2 yf (sA (kh false 2 jb) (aj (sV 4) (aj (sV 5) dh))) (sC (.bl true)))) τ h = .ok false h:=λτ h v4 v5=>by
  by_cases q:(sw p).length<17
  ·exact ajt (tof (jr (vo (di v5) (lg _)) (jx _ _ _) (aho (by omega)))) (tof (jr (xq (di v4) (di v5) (ww (by omega) ks _)) (jx _ _ _) (not_true tw _)))
  ·exact ahm (tof (jr (vo (di v5) (lg _)) (jx _ _ _) (ajv (by omega))))
 have hx:x.length+1<=60:=by omega
 have em:([]:List Nat).length+1<=60:=by decide
 refine Eq.trans (mj e1) ?_;refine Eq.trans (mj (vo (xq (di rfl) (di rfl) (e2 0 _ rfl)) (e3 _))) ?_;refine Eq.trans (ifN (asked _ _ rfl rfl)) ?_;refine Eq.trans (mj (as6 (di rfl) (di rfl) (adq (di rfl) EVT.ady (abw (jx _ _ _)) (arz 16 (du (by omega)))) (e4 0 _ rfl))) ?_
 refine Eq.trans (mj (aam hx ks (vo (di rfl) (a1q (du (by omega)))) (di rfl) (di rfl))) ?_
 refine Eq.trans (ifN (orF (as8 (ago (xq (xq (di rfl) (di rfl) (ww hx ks _)) (di rfl) (asw _ _)) (a2g _))) (as8 (ago (xq (xq (di rfl) (jx _ _ _) (ww (w:=[]) em ks _)) (aam (w:=[]) em ks (jx _ _ _) (di rfl) (jx _ _ _)) (asw _ _)) (a2g _))))) ?_;exact ifF (asked _ _ rfl rfl)
theorem alg(t1:1<=tg.length)(t6:tg.length<=6)(nd:tg.Nodup){o:O}{N:Nat}{hs:Hd}{τ:Sd}(P:PN.Pen o N)(hN:N<=800000000)(ch:∀ u∈hs,qt 0 u)(v1:τ[1]? = some (some (.ref 0)))(v2:τ[2]? = some (some (.str (S tg)))) :
  ∃ s o' hs',sA (kh false 4 (bz 5)) (aj (sV 1) (aj (sA MI.ue (aj (sC (.int 7)) dh)) (aj (sC (.int 4)) (aj (sV 2) dh)))) τ (o::hs) = .ok (sd s) (o'::hs')/\a0v tg 4 s/\(∀ u∈hs',qt 0 u)/\PN.Pen o' (N+3361400):=by
 have b5:bnd 4=480200:=by decide
 obtain ⟨s,o2,m',ks,e2,P2,m0',m1'⟩:=a81 t1 t6 nd 3 4 (by decide) (by decide) o N 7 P (by rw [b5];omega) (by decide) (by decide)
 refine ⟨s,o2,hs++[.lst [.int m']],?_,ks,λu hu=>?_,P2.up (by rw [b5];omega)⟩
 ·have dr:kh false 4 (bz 5) [.ref 0, .ref (o::hs).length,dw 4, .str (S tg)] ((o::hs)++[.lst [.int 7]]) = .ok (sd s) (o2::(hs++[.lst [.int m']])):=by
   refine (e2 0 (o::hs).length ((o::hs)++[.lst [.int 7]]) (by simp) rfl (by rw [List.getElem?_append_right (Nat.le_refl _),Nat.sub_self];rfl)).trans ?_
   congr 1
   rw [List.cons_append,List.set_cons_zero,List.length_cons,List.set_cons_succ,List.set_append_right _ _ (Nat.le_refl _),Nat.sub_self];rfl
  have lst1:MI.ue [.int 7] (o::hs) = .ok (.ref (o::hs).length) ((o::hs)++[.lst [.int 7]]):=if_pos (du (by simp))
  exact PAP.aof (PAP.jd (di v1) (PAP.jd (PAP.aof (PAP.jd (jx _ _ _) EVT.xr) lst1) (PAP.jd (jx _ _ _) (PAP.jd (di v2) EVT.xr)))) dr
 ·rcases List.mem_append.mp hu with hu | hu
  ·exact ch u hu
  ·rw [List.mem_singleton.mp hu];exact a0c _
end
noncomputable def akb:SF:=qb (ajq (cu 5) jf jy je (cj 5) PN.jl (gj 5) (bz 5) PN.ig PN.fu PN.aq jb) 10
theorem asz(ns:List Int):∃ h',akb [.scr (ns.map D.int)] [] = .ok (.bl true) h':=by
 have b5:bnd 5=3361400:=by decide
 obtain ⟨o0,P0,e0⟩:=PN.ash ns []
 let sc:D:=.scr (ns.map D.int)
 obtain ⟨tg,o1,e1,t1,t6,nd,sb,P1⟩:=signs_at (τ:=[some sc,some (.ref 0),none,none,none,none,none,none,none,none]) P0 (by omega) rfl
 obtain ⟨τ',h',e3,t3,t4,t5,t6',t7,o2,hs,rfl,rfl,ch,P2⟩:=ut (g:=kN 3) (b:=B0) dw (λpre τ h=>∃ (t3 t4 t5 t6 t7:Option D) (o':O) (hs:Hd),τ=[some sc,some (.ref 0),some (.str (S tg)),t3,t4,t5,t6,t7,none,none]/\h=o'::hs/\(∀ u∈hs,qt 0 u)/\PN.Pen o' (10+pre.length*7000000)) (List.range 2) [some sc,some (.ref 0),some (.str (S tg)),none,none,none,none,none,none,none] [o1]
  (by
   rintro pre i post τ h al ⟨t3,t4,t5,t6',t7,o',hs,rfl,rfl,ch,P'⟩
   have hl:pre.length<2:=by
    have:=congrArg List.length al
    simp at this;omega
   obtain ⟨u4,u5,u6,u7,o'',hs',e,ch',P''⟩:=turn (sc:=sc) (t3:=some (dw i)) (t4:=t4) (t5:=t5) (t6':=t6') (t7:=t7) (t8:=none) (t9:=none) t1 t6 nd ch P' (by omega)
   refine ⟨_,_,rfl,_,_,e,_,_,_,_,_,o'',hs',rfl,rfl,ch',?_⟩;rw [List.length_append,List.length_singleton,Nat.succ_mul];exact P''.up (by omega)) ⟨none,none,none,none,none,o1,[],rfl,rfl,by simp,P1.up (by simp)⟩
 rw [List.length_range] at P2;obtain ⟨sa,o3,hs3,e4,ka,ch3,P3⟩:=alg (τ:=[some sc,some (.ref 0),some (.str (S tg)),t3,t4,t5,t6',t7,none,none]) t1 t6 nd P2 (by omega) ch rfl rfl
 obtain ⟨sb',o4,hs4,e5,kb,ch4,P4⟩:=alg (τ:=[some sc,some (.ref 0),some (.str (S tg)),t3,t4,t5,t6',t7,none,none]) t1 t6 nd P3 (by omega) ch3 rfl rfl
 have up:∀ s∈[sa,sb'],a0v tg 4 s:=λs hs=>by
  simp only [List.mem_cons,List.not_mem_nil,or_false] at hs
  rcases hs with rfl | rfl
  ·exact ka
  ·exact kb
 obtain ⟨ws,o5,e6,q,P5,cl⟩:=a3x (hs:=hs4) (fi:=sIt (sV 8)) (t:=MI.t1) (fe:=a7g (cu 5) jf jy je (cj 5) PN.jl (gj 5) (bz 5) PN.ig PN.fu PN.aq jb) (ix:=[1]) (τ:=[some sc,some (.ref 0),some (.str (S tg)),t3,t4,t5,t6',t7,some (.tup [sd sa,sd sb']),none]) (B:=bnd 5) (M:=500000000) [sa,sb'] sd (λx:List Nat=>.str (S x)) (λ_ x=>x.length<=16) P4 (by simp only [List.length_cons,List.length_nil];rw [b5];omega) (by simp) ch4
  (a89 (di rfl) rfl) (λs hs o N P hN=>by
   obtain ⟨p,o',ep,kp,wp,P'⟩:=a85 (tg:=tg) 5 5 (by decide) s (adu (up s hs)) o N P (by omega)
   have es:=a86 (tg:=tg) 5 5 (by decide) (by decide) p kp
   have lw:=ahg kp;refine ⟨(sw p).take 16,o',?_,j4 _,by rw [List.length_take];omega,P'⟩
   rw [qd];unfold a7g;exact adq (vo (xq (di rfl) (di rfl) (ep 0 _ rfl)) (es _)) EVT.ady (abw (jx _ _ _)) (arz 16 (du (by omega))))
 obtain ⟨wa,wb,rfl,la,lb⟩:∃ wa wb,ws=[wa,wb]/\wa.length<=16/\wb.length<=16:=by
  cases q with
  | cons h1 q =>
   cases q with
   | cons h2 q =>
    cases q with
    | nil=>exact ⟨_,_,rfl,h1,h2⟩
 have hc:∀ u∈o5::hs4,qt 0 u:=λu hu=>by rcases List.mem_cons.mp hu with rfl | hu;exact P5.clo;exact ch4 u hu
 have zi:a9v (sV 8) (sV 9) [some sc,some (.ref 0),some (.str (S tg)),t3,t4,t5,t6',t7,some (.tup [sd sa,sd sb']),some (.rol [.str (S wa), .str (S wb)])] (o5::hs4) = .ok ⟨[(sa,wa),(sb',wb)].map λp=>.tup [sd p.1, .str (S p.2)],λ_=>True⟩ (o5::hs4):=by
  unfold a9v;rw [di rfl,gh,di rfl,gh];show R.ok (⟨[.tup [sd sa, .str (S wa)], .tup [sd sb', .str (S wb)]],λ_=>True/\True⟩:Itm) (o5::hs4)=_
  congr 2
  funext _
  simp
 have cf:=agn (fi:=a9v (sV 8) (sV 9)) (t:=tN 2) (c:=a2f (cu 5) jf jy je (cj 5) PN.jl (gj 5) (bz 5) PN.ig PN.fu PN.aq jb) (fe:=a7h (cu 5) jf jy je (cj 5) PN.jl (gj 5) (bz 5) PN.ig PN.fu PN.aq jb) (ix:=[]) (τ:=[some sc,some (.ref 0),some (.str (S tg)),t3,t4,t5,t6',t7,some (.tup [sd sa,sd sb']),some (.rol [.str (S wa), .str (S wb)])]) (h:=o5::hs4) (λp:Sh × List Nat=>.tup [sd p.1, .str (S p.2)]) (λp=>if tk p.2 p.1=true then some (.str (S p.2)) else none) [(sa,wa),(sb',wb)] zi (du (by simp)) (λp hp=>by
   have hp':a0v tg 4 p.1/\p.2.length<=16:=by
    simp only [List.mem_cons,List.not_mem_nil,or_false] at hp
    rcases hp with rfl | rfl
    ·exact ⟨ka,la⟩
    ·exact ⟨kb,lb⟩
   have ak:=aam (w:=p.2) (s:=p.1) (tg:=tg) (fl':=sA qg (aj (sV 1) dh)) (fs:=sV 0) (fw:=sV 1) (τ:=[some (sd p.1),some (.str (S p.2))]) (h:=o5::hs4) (by omega) (adu hp'.1) (vo (di rfl) (a1q (du (by omega)))) (di rfl) (di rfl)
   show (a2f _ _ _ _ _ _ _ _ _ _ _ _ [some (sd p.1),some (.str (S p.2))] (o5::hs4)).bind _=_;unfold a2f;rw [tof ak,gh]
   cases tk p.2 p.1 with
   | true=>rfl
   | false=>rfl)
 have zf:sZ (a66 (a9v (sV 8) (sV 9)) (tN 2) (a2f (cu 5) jf jy je (cj 5) PN.jl (gj 5) (bz 5) PN.ig PN.fu PN.aq jb) (a7h (cu 5) jf jy je (cj 5) PN.jl (gj 5) (bz 5) PN.ig PN.fu PN.aq jb) []) [some sc,some (.ref 0),some (.str (S tg)),t3,t4,t5,t6',t7,some (.tup [sd sa,sd sb']),some (.rol [.str (S wa), .str (S wb)])] (o5::hs4) = .ok (.rol ([(sa,wa),(sb',wb)].filterMap λp=>if tk p.2 p.1=true then some (.str (S p.2)) else none)) (o5::hs4):=EVT.ajy cf rfl (lz.mpr λx hx=>by
   obtain ⟨p,_,hp⟩:=List.mem_filterMap.mp hx
   split at hp
   ·cases hp;exact j4 _
   ·cases hp) hc
 refine ⟨o5::hs4,?_⟩;unfold akb;rw [jn];show toR (ajq (cu 5) jf jy je (cj 5) PN.jl (gj 5) (bz 5) PN.ig PN.fu PN.aq jb [some sc,none,none,none,none,none,none,none,none,none] [])=_;unfold ajq;refine Eq.trans (congrArg toR (mj (vo (di rfl) e0))) ?_;refine Eq.trans (congrArg toR (mj e1)) ?_;refine Eq.trans (congrArg toR (a7s (uo (n:=2) (jx _ _ _) (du (by decide))))) ?_
 refine Eq.trans (congrArg toR (congrArg (λz=>MI.thn z _) e3)) ?_;rw [a3g];refine Eq.trans (congrArg toR (mj (xq e4 e5 adp))) ?_;refine Eq.trans (congrArg toR (mj e6)) ?_;refine Eq.trans (congrArg toR (mj zf)) ?_;refine congrArg toR (m5 ?_);have ln:∀ (l:List D) (h:Hd),qg [.rol l] h = .ok (dw l.length) h:=λl h=>rfl
 by_cases both:tk wa sa=true/\tk wb sb'=true
 ·have ef:([(sa,wa),(sb',wb)].filterMap λp:Sh × List Nat=>if tk p.2 p.1=true then some (D.str (S p.2)) else none)=[.str (S wa), .str (S wb)]:=by simp [both.1,both.2]
  rw [ef];exact EVT.axr (jr (vo (di rfl) (ln _ _)) (jx _ _ _) (ajv (by simp))) (xq (di rfl) (di rfl) (aoi ka kb la lb (asx ka both.1) (asx kb both.2) _))
 ·have ef:([(sa,wa),(sb',wb)].filterMap λp:Sh × List Nat=>if tk p.2 p.1=true then some (D.str (S p.2)) else none).length<2:=by
   by_cases h1:tk wa sa=true
   ·have h2:¬ tk wb sb'=true:=λz=>both ⟨h1,z⟩;simp [h1,h2]
   ·by_cases h2:tk wb sb'=true
    ·simp [h1,h2]
    ·simp [h1,h2]
  exact EVT.axq (jr (vo (di rfl) (ln _ _)) (jx _ _ _) (aho (by omega)))
end K08
namespace L2
open PySem PySem.Spec PySem.W PyProof.Rows
end L2
namespace K08
open PySem PySem.Spec L2 MI
section
variable{P:Program}{w:World}{K:PySem.W.Frag}{mg:Str->Option Value}{base:Heap}{f:Addr}{fd:FuncData}
theorem d_2{f_2:Addr}{e_2:FuncData}(Fu_2:Fun K "ending_tree" "ending_tree" (top 4) f_2 e_2)(mk_2:mg "ending_tree" = some (.ref f_2))(kp_2:PySem.W.keepIn K (.ref f_2)=true)(bd_2:Binds K e_2 ["shape", "word"] [])(M:Nm mg){a_3:Addr}{d_3:FuncData}(D_3:Dn P w K mg base 3 "ends_from" ["shape", "rows", "word", "at"] (o6 K 4 (ENG.jg)) a_3 d_3){a_0:Addr}{d_0:FuncData}(D_0:Dn P w K mg base 1 "inner" ["shape"] (o6 K 1 (ENG.p7)) a_0 d_0):∀ n:Nat,Dn P w K mg base (n+3) "ending_tree" ["shape", "word"] (o6 K 2 (ENG.gw n)) f_2 e_2:=by
 intro n
 induction n with
 | zero=>exact ⟨afa (ps:=["shape", "word"]),mk_2,kp_2,bd_2⟩
 | succ n ih =>
  have e:n+1+3=n+3+1:=by omega
  rw [e];have s_ending_tree:=ih;exact ⟨o8 Fu_2 aw4 (m_2 M s_ending_tree (by omega) D_3 (by omega) D_0 (by omega)),mk_2,kp_2,bd_2⟩
theorem at5{f_12:Addr}{e_12:FuncData}(Fu_12:Fun K "_law_shape" "_law_shape" (top 15) f_12 e_12)(mk_12:mg "_law_shape" = some (.ref f_12))(kp_12:PySem.W.keepIn K (.ref f_12)=true)(bd_12:Binds K e_12 ["_law_pen_here", "_law_purse", "_law_deep", "_law_tongue"] [])(M:Nm mg){a_11:Addr}{d_11:FuncData}(D_11:Dn P w K mg base 2 "_law_some" ["_law_pen_here", "_law_rest", "_law_most"] (o6 K 3 (PN.fu)) a_11 d_11){a_9:Addr}{d_9:FuncData}(D_9:Dn P w K mg base 1 "_law_take" ["_law_pen_here", "_law_many"] (o6 K 2 (PN.aq)) a_9 d_9):∀ n:Nat,Dn P w K mg base (n+2) "_law_shape" ["_law_pen_here", "_law_purse", "_law_deep", "_law_tongue"] (o6 K 4 (SHD.bz n)) f_12 e_12:=by
 intro n
 induction n with
 | zero=>exact ⟨afa (ps:=["_law_pen_here", "_law_purse", "_law_deep", "_law_tongue"]),mk_12,kp_12,bd_12⟩
 | succ n ih =>
  have e:n+1+2=n+2+1:=by omega
  rw [e];have s_law_shape:=ih;exact ⟨o8 Fu_12 arh (axa M s_law_shape (by omega) D_11 (by omega) D_9 (by omega)),mk_12,kp_12,bd_12⟩
theorem at6{f_19:Addr}{e_19:FuncData}(Fu_19:Fun K "_law_all" "_law_all" (top 22) f_19 e_19)(mk_19:mg "_law_all" = some (.ref f_19))(kp_19:PySem.W.keepIn K (.ref f_19)=true)(bd_19:Binds K e_19 ["_law_shape_here", "_law_word_here"] [])(M:Nm mg){a_16:Addr}{d_16:FuncData}(D_16:Dn P w K mg base 1 "_law_again" ["_law_rows"] (o6 K 1 (ENG.ik)) a_16 d_16){a_13:Addr}{d_13:FuncData}(D_13:Dn P w K mg base 1 "_law_inner" ["_law_shape_here"] (o6 K 1 (ENG.iy)) a_13 d_13){a_18:Addr}{d_18:FuncData}(D_18:Dn P w K mg base 2 "_law_row" ["_law_parts", "_law_size"] (o6 K 2 (ENG.ji)) a_18 d_18){a_17:Addr}{d_17:FuncData}(D_17:Dn P w K mg base 2 "_law_times" ["_law_rows", "_law_low", "_law_high"] (o6 K 3 (ENG.iw)) a_17 d_17):∀ n:Nat,Dn P w K mg base (n+2) "_law_all" ["_law_shape_here", "_law_word_here"] (o6 K 2 (ENG.cu n)) f_19 e_19:=by
 intro n
 induction n with
 | zero=>exact ⟨afa (ps:=["_law_shape_here", "_law_word_here"]),mk_19,kp_19,bd_19⟩
 | succ n ih =>
  have e:n+1+2=n+2+1:=by omega
  rw [e];have s_law_all:=ih;exact ⟨o8 Fu_19 arp (axh M D_16 (by omega) s_law_all (by omega) D_13 (by omega) D_18 (by omega) D_17 (by omega)),mk_19,kp_19,bd_19⟩
theorem at7{f_20:Addr}{e_20:FuncData}(Fu_20:Fun K "_law_paper" "_law_paper" (top 23) f_20 e_20)(mk_20:mg "_law_paper" = some (.ref f_20))(kp_20:PySem.W.keepIn K (.ref f_20)=true)(bd_20:Binds K e_20 ["_law_pen_here", "_law_shape_here"] [])(M:Nm mg){a_9:Addr}{d_9:FuncData}(D_9:Dn P w K mg base 1 "_law_take" ["_law_pen_here", "_law_many"] (o6 K 2 (PN.aq)) a_9 d_9):∀ n:Nat,Dn P w K mg base (n+1) "_law_paper" ["_law_pen_here", "_law_shape_here"] (o6 K 2 (SHD.cj n)) f_20 e_20:=by
 intro n
 induction n with
 | zero=>exact ⟨afa (ps:=["_law_pen_here", "_law_shape_here"]),mk_20,kp_20,bd_20⟩
 | succ n ih =>
  have e:n+1+1=n+1+1:=by omega
  rw [e];have s_law_paper:=ih;exact ⟨o8 Fu_20 arq (axi M s_law_paper (by omega) D_9 (by omega)),mk_20,kp_20,bd_20⟩
theorem at8{f_21:Addr}{e_21:FuncData}(Fu_21:Fun K "_law_said" "_law_said" (top 24) f_21 e_21)(mk_21:mg "_law_said" = some (.ref f_21))(kp_21:PySem.W.keepIn K (.ref f_21)=true)(bd_21:Binds K e_21 ["_law_paper_here"] [])  : ∀ n:Nat,Dn P w K mg base (n+0) "_law_said" ["_law_paper_here"] (o6 K 1 (SHD.gj n)) f_21 e_21:=by
 intro n
 induction n with
 | zero=>exact ⟨afa (ps:=["_law_paper_here"]),mk_21,kp_21,bd_21⟩
 | succ n ih =>
  have e:n+1+0=n+0+1:=by omega
  rw [e];have s_law_said:=ih;exact ⟨o8 Fu_21 ars (axj s_law_said (by omega)),mk_21,kp_21,bd_21⟩
end
def akc(K:PySem.W.Frag):Sp:=λvs H Q _=>∃ (a:Addr) (ns:List Int),vs=[.ref a]/\SqF K H a (ns.map V.int)/\ns.length<=63/\∀ H',Q (.bl true) H'
theorem xn{K:PySem.W.Frag}{ι:List Addr}{H:Hp}:∀ ns:List Int,Reps K ι H (ns.map V.int) (ns.map D.int)
 | []=>.nil
 | n::ns=>.cons (.int n) (xn ns)
theorem at9{K:PySem.W.Frag}(vs:List V)(H:Hp)(Q:VK)(E:XK)(h:akc K vs H Q E):o6 K 1 K08.akb vs H Q E:=by
 obtain ⟨a,ns,rfl,hS,hl,q⟩:=h;obtain ⟨h',e⟩:=K08.asz ns;refine ⟨rfl,[],[.scr (ns.map D.int)],[], .cons (.scr hS (xn ns)) .nil,⟨List.nodup_nil,rfl,λi a o z=>by simp at z⟩,?_⟩
 rw [e]
 intro ι' H' b g r hr
 cases r
 exact q H'
theorem ata{K:PySem.W.Frag}{H:Hp}{a:Addr}{vs:List V}(hO:Only H)(hS:SqL K H a vs):SqF K H a vs:=by
 rcases hS with r | r
 ·rcases r with r | ⟨o,r⟩
  ·rcases hO a with z | ⟨o,xs,z⟩<;>rw [z] at r<;>cases r
  ·exact .inl ⟨o,r⟩
 ·exact .inr (.inr r)
abbrev fo(x:Str)(t:Stmt)(kV dc pm:Value)(an:Option Addr)(cd ct:Value):=PySem.W.fnOf x x (a2n t) (jh t) (bf t) .none kV dc pm an cd ct
def Df(K:PySem.W.Frag)(f:Addr)(nm:Str)(i:Nat):Prop:=∃ oc od kV dc pm an cd ct sl,PySem.W.nsIn K mainGlobals nm=some (some (.ref f))/\K.lookup f=some ⟨oc,od, .func (fo nm (top i) kV dc pm an cd ct),sl⟩/\PySem.W.codeIn K cd nm=true/\PySem.W.keepIn K (.ref f)=true
theorem df{K:PySem.W.Frag}{f:Addr}{nm:Str}{i:Nat}(d:Df K f nm i):∃ e,PySem.W.nsIn K mainGlobals nm=some (some (.ref f))/\Fun K nm nm (top i) f e:=by
 obtain ⟨_,_,_,_,_,_,_,_,_,a,l,c,k⟩:=d;exact ⟨_,a,apu l c k⟩
theorem atb{l:PySem.W.OpenLaw}{w:World}{K:PySem.W.Frag}{h:Heap}{mg:Str->Option Value}{fa f1 f2 f3 f4 f5 f6 f7 f8 f9 f10 f11 f12 f13 f14 f15 f16 f17 f18 f19 f20 f21 f22 f23 f24 f25 f26:Addr}(X:K.In h)(G:h.Ns mainGlobals mg)(hfa:mg "law" = some (.ref fa))
  (d1:Df K f1 "inner" 1)
  (d2:Df K f2 "takes" 3)
  (d3:Df K f3 "ending_tree" 4)
  (d4:Df K f4 "ends_from" 5)
  (d5:Df K f5 "stepped" 6)
  (d6:Df K f6 "ends_in_turn" 7)
  (d7:Df K f7 "ends_of_many" 8)
  (d8:Df K f8 "ends_of_times" 9)
  (d9:Df K f9 "_law_pen" 11)
  (d10:Df K f10 "_law_take" 12)
  (d11:Df K f11 "_law_signs" 13)
  (d12:Df K f12 "_law_some" 14)
  (d13:Df K f13 "_law_shape" 15)
  (d14:Df K f14 "_law_inner" 16)
  (d15:Df K f15 "_law_word" 17)
  (d16:Df K f16 "_law_led" 18)
  (d17:Df K f17 "_law_again" 19)
  (d18:Df K f18 "_law_times" 20)
  (d19:Df K f19 "_law_row" 21)
  (d20:Df K f20 "_law_all" 22)
  (d21:Df K f21 "_law_paper" 23)
  (d22:Df K f22 "_law_said" 24)
  (d23:Df K f23 "_law_is" 25)
  (d24:Df K f24 "_law_near" 26)
  (d25:Df K f25 "_law_both" 27)
  (d26:Df K f26 "law" 28)
  (z1:PySem.W.nsIn K mainGlobals "abs" = some none) (z2:PySem.W.nsIn K mainGlobals "bool" = some none) (z3:PySem.W.nsIn K mainGlobals "int" = some none) (z4:PySem.W.nsIn K mainGlobals "isinstance" = some none) (z5:PySem.W.nsIn K mainGlobals "len" = some none) (z6:PySem.W.nsIn K mainGlobals "max" = some none) (z7:PySem.W.nsIn K mainGlobals "min" = some none) (z8:PySem.W.nsIn K mainGlobals "range" = some none) (z9:PySem.W.nsIn K mainGlobals "reversed" = some none) (z10:PySem.W.nsIn K mainGlobals "set" = some none) (z11:PySem.W.nsIn K mainGlobals "sorted" = some none) (z12:PySem.W.nsIn K mainGlobals "sum" = some none) (z13:PySem.W.nsIn K mainGlobals "tuple" = some none) (z14:PySem.W.nsIn K mainGlobals "zip" = some none)  :
  ∃ fd:FuncData,(∀ (s:Shared) (v:Value),BindsTo s fd ⟨[v],[]⟩ [("_law_script",v)])/\∀ base:Heap,K.In base->base.Ns mainGlobals mg->FnOk l.prog w K mg base CX0 11 fa fd ["_law_script"] (akc K):=by
 obtain ⟨_,a1,F1⟩:=df d1;have b1:=F1.binds (ps:=["shape"]) λ_ _ _ _ _ _ us hl=>match us,hl with | [_],_=>rfl
 obtain ⟨_,a2,F2⟩:=df d2;have b2:=F2.binds (ps:=["shape", "word"]) λ_ _ _ _ _ _ us hl=>match us,hl with | [_,_],_=>rfl
 obtain ⟨_,a3,F3⟩:=df d3;have b3:=F3.binds (ps:=["shape", "word"]) λ_ _ _ _ _ _ us hl=>match us,hl with | [_,_],_=>rfl
 obtain ⟨_,a4,F4⟩:=df d4;have b4:=F4.binds (ps:=["shape", "rows", "word", "at"]) λ_ _ _ _ _ _ us hl=>match us,hl with | [_,_,_,_],_=>rfl
 obtain ⟨_,a5,F5⟩:=df d5;have b5:=F5.binds (ps:=["row", "places"]) λ_ _ _ _ _ _ us hl=>match us,hl with | [_,_],_=>rfl
 obtain ⟨_,a6,F6⟩:=df d6;have b6:=F6.binds (ps:=["rows", "at"]) λ_ _ _ _ _ _ us hl=>match us,hl with | [_,_],_=>rfl
 obtain ⟨_,a7,F7⟩:=df d7;have b7:=F7.binds (ps:=["row", "at"]) λ_ _ _ _ _ _ us hl=>match us,hl with | [_,_],_=>rfl
 obtain ⟨_,a8,F8⟩:=df d8;have b8:=F8.binds (ps:=["row", "at", "low", "high"]) λ_ _ _ _ _ _ us hl=>match us,hl with | [_,_,_,_],_=>rfl
 obtain ⟨_,a9,F9⟩:=df d9;have b9:=F9.binds (ps:=["_law_script"]) λ_ _ _ _ _ _ us hl=>match us,hl with | [_],_=>rfl
 obtain ⟨_,a10,F10⟩:=df d10;have b10:=F10.binds (ps:=["_law_pen_here", "_law_many"]) λ_ _ _ _ _ _ us hl=>match us,hl with | [_,_],_=>rfl
 obtain ⟨_,a11,F11⟩:=df d11;have b11:=F11.binds (ps:=[]) λ_ _ _ _ _ _ us hl=>match us,hl with | [],_=>rfl
 obtain ⟨_,a12,F12⟩:=df d12;have b12:=F12.binds (ps:=["_law_pen_here", "_law_rest", "_law_most"]) λ_ _ _ _ _ _ us hl=>match us,hl with | [_,_,_],_=>rfl
 obtain ⟨_,a13,F13⟩:=df d13;have b13:=F13.binds (ps:=["_law_pen_here", "_law_purse", "_law_deep", "_law_tongue"]) λ_ _ _ _ _ _ us hl=>match us,hl with | [_,_,_,_],_=>rfl
 obtain ⟨_,a14,F14⟩:=df d14;have b14:=F14.binds (ps:=["_law_shape_here"]) λ_ _ _ _ _ _ us hl=>match us,hl with | [_],_=>rfl
 obtain ⟨_,a15,F15⟩:=df d15;have b15:=F15.binds (ps:=["_law_pen_here", "_law_tongue", "_law_most"]) λ_ _ _ _ _ _ us hl=>match us,hl with | [_,_,_],_=>rfl
 obtain ⟨_,a16,F16⟩:=df d16;have b16:=F16.binds (ps:=["_law_ends", "_law_rows"]) λ_ _ _ _ _ _ us hl=>match us,hl with | [_,_],_=>rfl
 obtain ⟨_,a17,F17⟩:=df d17;have b17:=F17.binds (ps:=["_law_rows"]) λ_ _ _ _ _ _ us hl=>match us,hl with | [_],_=>rfl
 obtain ⟨_,a18,F18⟩:=df d18;have b18:=F18.binds (ps:=["_law_rows", "_law_low", "_law_high"]) λ_ _ _ _ _ _ us hl=>match us,hl with | [_,_,_],_=>rfl
 obtain ⟨_,a19,F19⟩:=df d19;have b19:=F19.binds (ps:=["_law_parts", "_law_size"]) λ_ _ _ _ _ _ us hl=>match us,hl with | [_,_],_=>rfl
 obtain ⟨_,a20,F20⟩:=df d20;have b20:=F20.binds (ps:=["_law_shape_here", "_law_word_here"]) λ_ _ _ _ _ _ us hl=>match us,hl with | [_,_],_=>rfl
 obtain ⟨_,a21,F21⟩:=df d21;have b21:=F21.binds (ps:=["_law_pen_here", "_law_shape_here"]) λ_ _ _ _ _ _ us hl=>match us,hl with | [_,_],_=>rfl
 obtain ⟨_,a22,F22⟩:=df d22;have b22:=F22.binds (ps:=["_law_paper_here"]) λ_ _ _ _ _ _ us hl=>match us,hl with | [_],_=>rfl
 obtain ⟨_,a23,F23⟩:=df d23;have b23:=F23.binds (ps:=["_law_found", "_law_due"]) λ_ _ _ _ _ _ us hl=>match us,hl with | [_,_],_=>rfl
 obtain ⟨_,a24,F24⟩:=df d24;have b24:=F24.binds (ps:=["_law_pen_here", "_law_some_here", "_law_word_here"]) λ_ _ _ _ _ _ us hl=>match us,hl with | [_,_,_],_=>rfl
 obtain ⟨_,a25,F25⟩:=df d25;have b25:=F25.binds (ps:=["_law_shapes", "_law_words"]) λ_ _ _ _ _ _ us hl=>match us,hl with | [_,_],_=>rfl
 obtain ⟨_,a26,F26⟩:=df d26;have e:=hfa.symm.trans (PySem.W.mg_of X G a26);cases e
 obtain ⟨oc,od,kV26,dc26,pm26,an26,cd26,ct26,sl,rfl,lk,hc⟩:=id F26.ex;have b26:=F26.binds (ps:=["_law_script"]) λ_ _ _ _ _ _ us hl=>match us,hl with | [_],_=>rfl
 have M:Nm mg:=⟨PySem.W.mg_none_of X G z1,PySem.W.mg_none_of X G z2,PySem.W.mg_none_of X G z3,PySem.W.mg_none_of X G z4,PySem.W.mg_none_of X G z5,PySem.W.mg_none_of X G z6,PySem.W.mg_none_of X G z7,PySem.W.mg_none_of X G z8,PySem.W.mg_none_of X G z9,PySem.W.mg_none_of X G z10,PySem.W.mg_none_of X G z11,PySem.W.mg_none_of X G z12,PySem.W.mg_none_of X G z13,PySem.W.mg_none_of X G z14⟩;refine ⟨PySem.W.fnOf "law" "law" (a2n (top 28)) (jh (top 28)) (bf (top 28)) .none kV26 dc26 pm26 an26 cd26 ct26,λs v=>.of_eq rfl,λbase _ _=>?_⟩
 have D_0:Dn l.prog w K mg base 1 "inner" ["shape"] (o6 K 1 (ENG.p7)) _ _:=⟨o8 F1 aw2 (m_0 ),PySem.W.mg_of X G a1,F1.kp,b1⟩;have D_4:Dn l.prog w K mg base 1 "stepped" ["row", "places"] (o6 K 2 (ENG.j7)) _ _:=⟨o8 F5 aw6 (m_4 M),PySem.W.mg_of X G a5,F5.kp,b5⟩;have D_5:Dn l.prog w K mg base 2 "ends_in_turn" ["rows", "at"] (o6 K 2 (ENG.mz)) _ _:=⟨o8 F6 aw7 (m_5 D_4 (by decide)),PySem.W.mg_of X G a6,F6.kp,b6⟩
 have D_6:Dn l.prog w K mg base 2 "ends_of_many" ["row", "at"] (o6 K 2 (ENG.n6)) _ _:=⟨o8 F7 aw8 (m_6 M D_4 (by decide)),PySem.W.mg_of X G a7,F7.kp,b7⟩
 have D_7:Dn l.prog w K mg base 2 "ends_of_times" ["row", "at", "low", "high"] (o6 K 4 (ENG.m7)) _ _:=⟨o8 F8 aw9 (m_7 M D_4 (by decide)),PySem.W.mg_of X G a8,F8.kp,b8⟩
 have D_3:Dn l.prog w K mg base 3 "ends_from" ["shape", "rows", "word", "at"] (o6 K 4 (ENG.jg)) _ _:=⟨o8 F4 aw5 (m_3 M D_5 (by decide) D_6 (by decide) D_7 (by decide)),PySem.W.mg_of X G a4,F4.kp,b4⟩
 have D_2:=d_2 (P:=l.prog) (w:=w) (base:=base) F3 (PySem.W.mg_of X G a3) F3.kp b3 M D_3 D_0 5;have D_1:Dn l.prog w K mg base 9 "takes" ["shape", "word"] (o6 K 2 (K08.jb)) _ _:=⟨o8 F2 aw3 (m_1 M D_2 (by decide)),PySem.W.mg_of X G a2,F2.kp,b2⟩
 have D_8:Dn l.prog w K mg base 1 "_law_pen" ["_law_script"] (o6 K 1 (PN.jl)) _ _:=⟨o8 F9 awa (m_8 ),PySem.W.mg_of X G a9,F9.kp,b9⟩;have D_9:Dn l.prog w K mg base 1 "_law_take" ["_law_pen_here", "_law_many"] (o6 K 2 (PN.aq)) _ _:=⟨o8 F10 awb (m_9 M),PySem.W.mg_of X G a10,F10.kp,b10⟩;have D_10:Dn l.prog w K mg base 1 "_law_signs" [] (o6 K 0 (PN.ig)) _ _:=⟨o8 F11 ard (ax8 ),PySem.W.mg_of X G a11,F11.kp,b11⟩;have D_11:Dn l.prog w K mg base 2 "_law_some" ["_law_pen_here", "_law_rest", "_law_most"] (o6 K 3 (PN.fu)) _ _:=⟨o8 F12 arf (ax9 M D_9 (by decide)),PySem.W.mg_of X G a12,F12.kp,b12⟩
 have D_12:=at5 (P:=l.prog) (w:=w) (base:=base) F13 (PySem.W.mg_of X G a13) F13.kp b13 M D_11 D_9 5;have D_13:Dn l.prog w K mg base 1 "_law_inner" ["_law_shape_here"] (o6 K 1 (ENG.iy)) _ _:=⟨o8 F14 ari (axb ),PySem.W.mg_of X G a14,F14.kp,b14⟩;have D_14:Dn l.prog w K mg base 2 "_law_word" ["_law_pen_here", "_law_tongue", "_law_most"] (o6 K 3 (ENG.qz)) _ _:=⟨o8 F15 arj (axc M D_9 (by decide)),PySem.W.mg_of X G a15,F15.kp,b15⟩
 have D_15:Dn l.prog w K mg base 1 "_law_led" ["_law_ends", "_law_rows"] (o6 K 2 (ENG.ie)) _ _:=⟨o8 F16 ark (axd M),PySem.W.mg_of X G a16,F16.kp,b16⟩;have D_16:Dn l.prog w K mg base 1 "_law_again" ["_law_rows"] (o6 K 1 (ENG.ik)) _ _:=⟨o8 F17 arl (axe M),PySem.W.mg_of X G a17,F17.kp,b17⟩;have D_17:Dn l.prog w K mg base 2 "_law_times" ["_law_rows", "_law_low", "_law_high"] (o6 K 3 (ENG.iw)) _ _:=⟨o8 F18 arn (axf M D_15 (by decide)),PySem.W.mg_of X G a18,F18.kp,b18⟩
 have D_18:Dn l.prog w K mg base 2 "_law_row" ["_law_parts", "_law_size"] (o6 K 2 (ENG.ji)) _ _:=⟨o8 F19 aro (axg M D_15 (by decide)),PySem.W.mg_of X G a19,F19.kp,b19⟩
 have D_19:=at6 (P:=l.prog) (w:=w) (base:=base) F20 (PySem.W.mg_of X G a20) F20.kp b20 M D_16 D_13 D_18 D_17 5;have D_20:=at7 (P:=l.prog) (w:=w) (base:=base) F21 (PySem.W.mg_of X G a21) F21.kp b21 M D_9 5;have D_21:=at8 (P:=l.prog) (w:=w) (base:=base) F22 (PySem.W.mg_of X G a22) F22.kp b22  5;have D_22:Dn l.prog w K mg base 1 "_law_is" ["_law_found", "_law_due"] (o6 K 2 (K08.jy)) _ _:=⟨o8 F23 art (axk M),PySem.W.mg_of X G a23,F23.kp,b23⟩;have D_23:Dn l.prog w K mg base 3 "_law_near" ["_law_pen_here", "_law_some_here", "_law_word_here"] (o6 K 3 (K08.je)) _ _:=⟨o8 F24 aru (axl M D_9 (by decide) D_14 (by decide)),PySem.W.mg_of X G a24,F24.kp,b24⟩
 have D_24:Dn l.prog w K mg base 10 "_law_both" ["_law_shapes", "_law_words"] (o6 K 2 (K08.jf)) _ _:=⟨o8 F25 arv (axm M D_1 (by decide)),PySem.W.mg_of X G a25,F25.kp,b25⟩
 have D_25:Dn l.prog w K mg base 11 "law" ["_law_script"] (o6 K 1 (K08.akb)) _ _:=⟨o8 F26 arw (axn M D_19 (by decide) D_24 (by decide) D_22 (by decide) D_23 (by decide) D_20 (by decide) D_8 (by decide) D_21 (by decide) D_12 (by decide) D_10 (by decide) D_11 (by decide) D_9 (by decide) D_1 (by decide)),PySem.W.mg_of X G a26,F26.kp,b26⟩
 exact D_25.ok.imp at9
theorem walk{l:PySem.W.OpenLaw}{q:Program}{loose:List Str}{XP:(Str->Option Value)->Heap->Prop}{YP:World->Heap->Prop}{d:DefRec}{K:Params->PySem.W.Frag}(hn:l.most=some 63)(hdf:d.params.defaults=[])
  (hY:∀ (w:World) (h:Heap),YP w h->(K w.params).In h)
  (F:∀ (w:World) (mg:Str->Option Value) (fa:Addr) (h:Heap),(K w.params).In h->h.Ns mainGlobals mg->mg d.name=some (.ref fa)->
   ∃ fd:FuncData,(∀ (s:Shared) (u:Value),BindsTo s fd ⟨[u],[]⟩ [("_law_script",u)])/\∀ base:Heap,(K w.params).In base->base.Ns mainGlobals mg->FnOk l.prog w (K w.params) mg base CX0 11 fa fd ["_law_script"] (akc (K w.params))) :
  PySem.W.WalkO q loose XP YP l.row.toRowW d [] (λf vs=>PySem.call f vs) :=
 L2.am3 (n:=63) (k:=11) (x := "_law_script") (CX:=λ_=>CX0) (sp:=λw=>akc (K w.params)) hn (by decide) hdf ⟨rfl,by decide,by decide,rfl⟩ hY F (λ_ _ a ns hl hO hS=>⟨a,ns,rfl,ata hO hS,hl,λ_=>rfl⟩) λ_ _ _ _ _ z=>z
end K08
open PySem PySem.W PyProof.Rows
theorem K08.said:PySem.Challenge.rw_nearreach_k08_whole_words_taken.wellSaid=true:=by kernel_rfl
noncomputable def K08.hq:Program:=view PySem.Challenge.pw_nearreach_k08_whole_words_taken [PySem.Challenge.pw_nearreach_k08_whole_words_taken.main.body.length - 1]
noncomputable def K08.hl:List Str:=PySem.Challenge.pw_nearreach_k08_whole_words_taken.boundNames
local macro_rules | `(tactic| o_head $H) => `(tactic| refine PySem.W.holds_open (q:=K08.hq) (loose:=K08.hl) (Xt:=fun _=>true) (XP:=fun _ _=>True) (Yf:=Hook.obs $H) (Ya:=Hook.val $H) (YP:=Hook.says $H) (N:=20000) ?hl (Hook.of $H) (Hook.keeps $H) (fun _ _=>trivial) (fun _ _ _ _ _=>trivial) (by rfl) (by rfl) (by rfl) (fun _ _=>recFacts_nil rfl) (by rfl) (by assumption) (by decide +kernel) ⟨rfl,rfl,rfl,rfl,rfl,by decide +kernel⟩ ?hw ?hc)
set_option maxRecDepth 100000 in
set_option maxHeartbeats 0 in
theorem PySem.Challenge.cw_nearreach_k08_whole_words_taken_holds : PySem.Challenge.rw_nearreach_k08_whole_words_taken.Holds := by
 w_on;refine holds_law K08.said fun said=>?_;k_head
 (case hw=>w_witness2)
 (case hl=>intro w;kernel_rfl)
 k_fill
 refine K08.walk (l:=PySem.Challenge.rw_nearreach_k08_whole_words_taken) rfl rfl (fun w h Y=>PySem.W.kIn_of Y) ?F
 case F =>
  intro w mg fa h KX G hmg
  refine' K08.atb KX G hmg ?_ ?_ ?_ ?_ ?_ ?_ ?_ ?_ ?_ ?_ ?_ ?_ ?_ ?_ ?_ ?_ ?_ ?_ ?_ ?_ ?_ ?_ ?_ ?_ ?_ ?_ ?_ ?_ ?_ ?_ ?_ ?_ ?_ ?_ ?_ ?_ ?_ ?_ ?_ ?_
  all_goals first | k_is | exact ⟨_,_,_,_,_,_,_,_,_,by k_is,by k_is,by k_is,by k_is⟩ | skip
