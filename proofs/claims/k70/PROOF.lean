import PyProof.Rows.All
import Wide.All
import OpenK.AllK
import Wide.FinOn
import Lean
import PyProof.EqAt
import PyProof.EqKinds
import PyProof.TupleCall
import PyProof.ListStr
import PyProof.TupleOfStr
import PyProof.ConsumeWalk
import PyProof.SliceStr2
import PyProof.CompUse
import PyProof.Rows.SetFrom
import PyProof.SetRoads
import PyProof.StrLawsIn
import PyProof.Rows.StrIndexOr
import PyProof.Rows.StrJoin2
import PyProof.Rows.SumAny
import PyProof.WalkInts
import PyProof.SeqI3
import PyProof.Draws
import PyProof.ZipIter
import PyProof.EnumMake
import Wide.Txt2
import PyProof.Rows.SortWalk
import PyProof.ListRange
import PyProof.Rows.Range3
import KE.KStateDown
import PyProof.ReprRoads
import PyProof.CallFns
import PyProof.WalksMore
import KE.KTryDeep
import PyProof.ExcBaseAll.ValueError
import KE.KTryMore
import KE.KIsNot
import PyProof.ExcAttrAll.ValueError
import PyProof.NsDelKeeps
import PySem.Challenge.RW_nearreach_k70_partners
set_option Elab.async false
set_option linter.all false
set_option maxRecDepth 100000
set_option maxHeartbeats 4000000
section
open PySem PySem.W PyProof.Rows
theorem K70.said:PySem.Challenge.rw_nearreach_k70_partners.wellSaid=true:=by kernel_rfl
noncomputable def K70.hq:Program:=view PySem.Challenge.pw_nearreach_k70_partners [PySem.Challenge.pw_nearreach_k70_partners.main.body.length - 1]
noncomputable def K70.hl:List Str:=PySem.Challenge.pw_nearreach_k70_partners.boundNames
local macro_rules | `(tactic| o_head $H) => `(tactic| refine PySem.W.holds_open (q:=K70.hq) (loose:=K70.hl) (Xt:=fun _=>true) (XP:=fun _ _=>True) (Yf:=Hook.obs $H) (Ya:=Hook.val $H) (YP:=Hook.says $H) (N:=20000) ?hl (Hook.of $H) (Hook.keeps $H) (fun _ _=>trivial) (fun _ _ _ _ _=>trivial) (by rfl) (by rfl) (by rfl) (fun _ _=>recFacts_nil rfl) (by rfl) (by assumption) (by decide +kernel) ⟨rfl,rfl,rfl,rfl,rfl,by decide +kernel⟩ ?hw ?hc)
set_option maxRecDepth 100000 in
set_option maxHeartbeats 0 in
theorem K70.A (hyp:∀ p:Prop,p):PySem.Challenge.rw_nearreach_k70_partners.Holds:=by
 w_on;refine holds_law K70.said fun said=>?_;k_head
 all_goals exact hyp _
set_option maxRecDepth 100000 in
set_option maxHeartbeats 0 in
theorem K70.hlok:LeftO PySem.Challenge.rw_nearreach_k70_partners.row.prog K70.hq K70.hl (fun _=>true) (Hook.obs (kHook K70.A.heap_1 [2,3,15,22,23,24,25,28,35,36,37,40,47,48,49,52,59,60,61,64,71,72,73,76,83,84,85,88,95,96,97,100,107,108,109,112,119,120,121,124,131,132,133,136,139,140,141,143,144,146,147,148,150,151,153,154,155,157,158,160,161,162,165,166,167,169,170,172,173,174,176,177,179,180,181,183,184,186,187,188,190,191,193,194,195,197,198,200,201,202,204,205,207,208,209,211,212,214,215,216,218,219,221,222,223,226,227,228,231,232,233,235,236,238,239,240,242,243,245,246,247,249,250,252,253,254,256,257,259,260,261,263,264,266,267,268,271,272,273,275,276,278,279,280,282,283,285,286,287,290,291,292,294,295,297,298,299,301,302,304,305,306,309,310] (fun _=>by kernel_rfl))) (Hook.val (kHook K70.A.heap_1 [2,3,15,22,23,24,25,28,35,36,37,40,47,48,49,52,59,60,61,64,71,72,73,76,83,84,85,88,95,96,97,100,107,108,109,112,119,120,121,124,131,132,133,136,139,140,141,143,144,146,147,148,150,151,153,154,155,157,158,160,161,162,165,166,167,169,170,172,173,174,176,177,179,180,181,183,184,186,187,188,190,191,193,194,195,197,198,200,201,202,204,205,207,208,209,211,212,214,215,216,218,219,221,222,223,226,227,228,231,232,233,235,236,238,239,240,242,243,245,246,247,249,250,252,253,254,256,257,259,260,261,263,264,266,267,268,271,272,273,275,276,278,279,280,282,283,285,286,287,290,291,292,294,295,297,298,299,301,302,304,305,306,309,310] (fun _=>by kernel_rfl))) 20000:=by
 intro w
 kernel_rfl
end
namespace L2
open PySem PySem.Spec PyProof.Rows
abbrev Key:=Sum Int Str
def ani:Key->Value->Bool
 | .inl k,v=>Value.isInt k v
 | .inr x,v=>Value.isStrOf x v
def avr(w:World):Key->Int
 | .inl k=>hashInt k
 | .inr x=>hashStr w x
theorem p7:∀ {k:Key} {v:Value},ani k v=true->(∃ i t,k=Sum.inl i/\v=Value.int i t)\/(∃ x t,k=Sum.inr x/\v=Value.str x t)
 | .inl i,v,h=>by
  obtain ⟨t,e⟩:=Value.isInt_shape (k:=i) (v:=v) h;exact .inl ⟨i,t,rfl,e⟩
 | .inr x,v,h=>by
  obtain ⟨t,e⟩:=Value.isStrOf_shape (x:=x) (v:=v) h;exact .inr ⟨x,t,rfl,e⟩
theorem anj(a b:Int):decide ((Sum.inl a:Key)=Sum.inl b)=(a == b):=by
 by_cases e:a=b
 ·subst e;simp
 ·have h:¬ (Sum.inl a:Key)=Sum.inl b:=λq=>e (Sum.inl.inj q);rw [decide_eq_false h];exact (beq_eq_false_iff_ne.mpr e).symm
theorem ank(a b:Str):decide ((Sum.inr a:Key)=Sum.inr b)=decide (a=b):=by
 by_cases e:a=b
 ·subst e;simp
 ·have h:¬ (Sum.inr a:Key)=Sum.inr b:=λq=>e (Sum.inr.inj q);rw [decide_eq_false h,decide_eq_false e]
theorem anl(a:Int)(b:Str):decide ((Sum.inl a:Key)=Sum.inr b)=false:=decide_eq_false (λq=>nomatch q)
theorem anm(a:Str)(b:Int):decide ((Sum.inr a:Key)=Sum.inl b)=false:=decide_eq_false (λq=>nomatch q)
def a4l(prog:Program)(w:World):PySem.KeyKind prog w Key where
 is:=ani
 hash:=avr w
 inj:=λv a b ha hb=>by
  rcases p7 ha with ⟨i,t,rfl,rfl⟩ | ⟨x,t,rfl,rfl⟩
  ·rcases p7 hb with ⟨j,u,rfl,e⟩ | ⟨y,u,rfl,e⟩
   ·injection e with e1 _;rw [e1]
   ·exact nomatch e
  ·rcases p7 hb with ⟨j,u,rfl,e⟩ | ⟨y,u,rfl,e⟩
   ·exact nomatch e
   ·injection e with e1 _;rw [e1]
 byValue:=λk v h=>by
  rcases p7 h with ⟨i,t,rfl,rfl⟩ | ⟨x,t,rfl,rfl⟩<;>rfl
 pyHash:=λhv h=>by
  rcases p7 hv with ⟨i,t,rfl,rfl⟩ | ⟨x,t,rfl,rfl⟩
  ·exact wpAny_pyHash_int h
  ·exact wpAny_pyHash_str h
 eqBool:=λhu hv h=>by
  rcases p7 hu with ⟨i,t,rfl,rfl⟩ | ⟨x,t,rfl,rfl⟩
  ·rcases p7 hv with ⟨j,u,rfl,rfl⟩ | ⟨y,u,rfl,rfl⟩
   ·rw [anj] at h;exact wpAny_eqBool_int h
   ·rw [anl] at h;exact SeqAt.EqAt.int_str i t y u _ _ _ _ h
  ·rcases p7 hv with ⟨j,u,rfl,rfl⟩ | ⟨y,u,rfl,rfl⟩
   ·rw [anm] at h;exact SeqAt.EqAt.str_int x t j u _ _ _ _ h
   ·rw [ank] at h;exact wpAny_eqBool_str h
 «strs»:=λk x t v h=>by
  rcases p7 h with ⟨i,u,rfl,e⟩ | ⟨y,u,rfl,e⟩
  ·exact nomatch e
  ·injection e with e1 _
   subst e1
   cases v<;>rfl
inductive V where
 | non | bl (b:Bool) | int (i:Int) | str (x:Str) | byt (b:Array UInt8) | flt (b:UInt64) | ref (a:Addr) | ty (n:String)
 deriving DecidableEq
def RelV:V->Value->Prop
 | .non,u=>u=Value.none
 | .bl b,u=>u=Value.bool b
 | .int i,u=>∃ t,u=Value.int i t
 | .str x,u=>∃ t,u=Value.str x t
 | .byt b,u=>∃ t,u=Value.bytes b t
 | .flt b,u=>∃ t,u=Value.float b t
 | .ref a,u=>u=Value.ref a
 | .ty n,u=>u=Value.type n
abbrev Vals:List V->List Value->Prop:=Paired RelV
theorem Vals.length{xs:List V}{us:List Value}(r:Vals xs us):xs.length=us.length:=Paired.length r
theorem Vals.get:∀ {xs:List V} {us:List Value} {i:Nat} {x:V},Vals xs us->xs[i]? = some x->∃ u,us[i]? = some u/\RelV x u
 | _,_,_,_, .nil,e=>by simp at e
 | _,_,0,_, .cons r _,e=>by simp at e;subst e;exact ⟨_,rfl,r⟩
 | _,_,i+1,x, .cons _ t,e=>by
  obtain ⟨u,h1,h2⟩:=Vals.get (i:=i) (x:=x) t (by simpa using e)
  exact ⟨u,by simpa using h1,h2⟩
theorem Vals.set{x:V}{u:Value}(r:RelV x u):∀ {xs:List V} {us:List Value} (i:Nat),Vals xs us->Vals (xs.set i x) (us.set i u)
 | _,_,_, .nil=>.nil
 | _,_,0, .cons _ t=>.cons r t
 | _,_,i+1, .cons q t=>.cons q (Vals.set r i t)
theorem Vals.append:∀ {xs ys:List V} {us ws:List Value},Vals xs us->Vals ys ws->Vals (xs++ys) (us++ws)
 | _,_,_,_, .nil,s=>s
 | _,_,_,_, .cons r t,s=>.cons r (Vals.append t s)
theorem Vals.take:∀ {xs:List V} {us:List Value} (n:Nat),Vals xs us->Vals (xs.take n) (us.take n)
 | _,_,0,_=>.nil
 | _,_,_+1, .nil=>.nil
 | _,_,n+1, .cons r t=>.cons r (Vals.take n t)
theorem Vals.drop:∀ {xs:List V} {us:List Value} (n:Nat),Vals xs us->Vals (xs.drop n) (us.drop n)
 | _,_,0,r=>r
 | _,_,_+1, .nil=>.nil
 | _,_,n+1, .cons _ t=>Vals.drop n t
def asp:Option V->Option Value->Prop
 | some v,some u=>RelV v u
 | none,none=>True
 | _,_=>False
def KV{κ:Type}:List (κ × V)->List (κ × Value)->Prop:=Paired λ(p:κ × V) (q:κ × Value)=>p.1=q.1/\RelV p.2 q.2
def kV:Key->V
 | .inl i=>.int i
 | .inr x=>.str x
inductive HO where
 | lst (xs:List V)
 | tup (xs:List V)
 | dK (kvs:List (Key × V)) | dT (kvs:List (List Key × V))
 | set (S:Int->Bool) (n:Nat)
 | ins (C dx:Addr) (fs:List (Str × V))
 | own (x:Addr)
 | xd (fs:List (Str × V))
 | met (f x:Addr)
 | rng (lo hi:Int)
 | frz (o:Obj) (u:HO)
 | tbl (ps:Array Value)
 | ext (φ:Heap->Prop)
abbrev Hp:=Addr->Option HO
def upd(H:Hp)(a:Addr)(o:HO):Hp:=λb=>if b=a then some o else H b
theorem qe{H:Hp}{a:Addr}{o:HO}:upd H a o a=some o:=by unfold upd;rw [if_pos rfl]
theorem jw{H:Hp}{a b:Addr}{o:HO}(h:b≠a):upd H a o b=H b:=by unfold upd;rw [if_neg h]
theorem jt{H:Hp}{a b:Addr}{o:HO}(h:H a=some o)(h':H b=none):a≠b:=by
 intro e;subst e;rw [h] at h';cases h'
section
variable(P:Program)(w:World)
def ObjOk(H:Hp)(h:Heap)(a:Addr):HO->Prop
 | .lst xs=>xs.length<=sizeLine/\∃ (its:List Value) (n:Nat),Vals xs its/\h.get? a=some { cls:=.type "list",data:=.seq its.toArray n }
 | .tup xs=>xs.length<=sizeLine/\∃ its:List Value,Vals xs its/\IsTup h a its.toArray
 | .dK kvs=>kvs.length<=sizeLine/\(a == sysModules)=false/\∃ vs,KV kvs vs/\h.DictOf (a4l P w) a vs
 | .dT kvs=>kvs.length<=sizeLine/\(a == sysModules)=false/\∃ xs:List (List Key × Addr × Value),
   Paired (λ(p:List Key × V) (q:List Key × Addr × Value)=>p.1=q.1/\H q.2.1=some (.tup (p.1.map kV))/\RelV p.2 q.2.2) kvs xs /\
   ∃ o es ep,h.get? a=some o/\o.ExactDict/\o.data = .dict es ep/\es.toList=xs.map (entryOfKey (tupleKind (a4l P w)))/\(xs.map (·.1)).Nodup
 | .set S n=>h.SetOf (intKind P w) a S n
 | .ins C dx fs=>H dx=some (.own a)/\fs.length<=1000/\dx≠a/\h.get? a=some (PySem.W.instObj C dx) /\
   ∃ mA,h.Ns1 dx mA/\(∀ f,asp (fs.lookup f) (mA f))/\PySem.Within mA (fs.map (·.1))
 | .own _=>∃ o,h.get? a=some o
 | .xd fs=>∃ mA,h.Ns1 a mA/\∀ f,asp (fs.lookup f) (mA f)
 | .rng lo hi=>∃ t u v,h.get? a=some { cls:=.type "range",data:=.fields #[.int lo t, .int hi u, .int 1 v] }
 | .frz o u=>h.get? a=some o/\ObjOk H h a u
 | .tbl ps=>h.get? a=some { cls:=.none,data:=.fields ps }
 | .met f x=>h.get? a=some (PySem.W.methodObj (.ref f) (.ref x))
 | .ext φ=>φ h/\(∃ o,h.get? a=some o)/\∀ h1 h2:Heap,φ h1->(∀ o,h1.get? a=some o->h2.get? a=some o)->φ h2
def HOk(H:Hp)(h:Heap):Prop:=∀ a o,H a=some o->ObjOk P w H h a o
end
section
variable{P:Program}{w:World}{H H':Hp}{h h':Heap}{a:Addr}{o:HO}
theorem ObjOk.lt(x:ObjOk P w H h a o):a<h.objs.size:=by
 cases o with
 | lst xs=>obtain ⟨_,_,_,_,e⟩:=x;exact Heap.lt_size e
 | tup xs=>obtain ⟨_,_,_,p⟩:=x;exact p.lt
 | dK kvs=>obtain ⟨_,_,_,_,o,_,_,e,_⟩:=x;exact Heap.lt_size e
 | dT kvs=>obtain ⟨_,_,_,_,o,_,_,e,_⟩:=x;exact Heap.lt_size e
 | set S n=>obtain ⟨o,_,_,_,e,_⟩:=x;exact Heap.lt_size e
 | ins C dx fs=>obtain ⟨_,_,_,e,_⟩:=x;exact Heap.lt_size e
 | own y=>obtain ⟨_,e⟩:=x;exact Heap.lt_size e
 | xd fs=>obtain ⟨_,⟨_,_,_,e,_⟩,_⟩:=x;exact Heap.lt_size e
 | rng lo hi=>obtain ⟨_,_,_,e⟩:=x;exact Heap.lt_size e
 | frz ob u=>obtain ⟨e,_⟩:=x;exact Heap.lt_size e
 | tbl ps=>exact Heap.lt_size (show h.get? a=some _ from x)
 | met f y=>exact Heap.lt_size (show h.get? a=some _ from x)
 | ext φ=>obtain ⟨_,⟨_,e⟩,_⟩:=x;exact Heap.lt_size e
theorem Paired.mapP{α β:Type}{F G:α->β->Prop}:∀ {l₁:List α} {l₂:List β},Paired F l₁ l₂->(∀ a b,F a b->G a b)->Paired G l₁ l₂
 | _,_, .nil,_=>.nil
 | _,_, .cons r t,f=>.cons (f _ _ r) (Paired.mapP t f)
theorem ObjOk.stay(x:ObjOk P w H h a o)(k:∀ b u,(b=a\/H b=some (.own a))->h.get? b=some u->h'.get? b=some u)
  (ho:∀ b,H b=some (.own a)->H' b=some (.own a)) (ht:∀ b xs,H b=some (.tup xs)->H' b=some (.tup xs)):ObjOk P w H' h' a o:=by
 induction o with
 | lst xs=>obtain ⟨z,its,n,r,e⟩:=x;exact ⟨z,its,n,r,k _ _ (.inl rfl) e⟩
 | tup xs=>obtain ⟨z,its,r,ob,e,c⟩:=x;exact ⟨z,its,r,ob,k _ _ (.inl rfl) e,c⟩
 | dK kvs=>obtain ⟨z,y,vs,r,ob,es,ep,e,c⟩:=x;exact ⟨z,y,vs,r,ob,es,ep,k _ _ (.inl rfl) e,c⟩
 | dT kvs =>
  obtain ⟨z,y,xs,r,ob,es,ep,e,c⟩:=x;exact ⟨z,y,xs,Paired.mapP r λp q z=>⟨z.1,ht _ _ z.2.1,z.2.2⟩,ob,es,ep,k _ _ (.inl rfl) e,c⟩
 | set S n=>obtain ⟨ob,es,ep,t,e,c⟩:=x;exact ⟨ob,es,ep,t,k _ _ (.inl rfl) e,c⟩
 | ins C dx fs =>
  obtain ⟨d,z,ne,e,mA,⟨od,es,ep,e2,c⟩,r⟩:=x;exact ⟨ho _ d,z,ne,k _ _ (.inl rfl) e,mA,⟨od,es,ep,k _ _ (.inr d) e2,c⟩,r⟩
 | own y=>obtain ⟨ob,e⟩:=x;exact ⟨ob,k _ _ (.inl rfl) e⟩
 | xd fs=>obtain ⟨mA,⟨od,es,ep,e,c⟩,r⟩:=x;exact ⟨mA,⟨od,es,ep,k _ _ (.inl rfl) e,c⟩,r⟩
 | rng lo hi=>obtain ⟨t,u,v,e⟩:=x;exact ⟨t,u,v,k _ _ (.inl rfl) e⟩
 | frz ob u ih=>obtain ⟨e,q⟩:=x;exact ⟨k _ _ (.inl rfl) e,ih q⟩
 | tbl ps =>
  have e:h.get? a=some { cls:=.none,data:=.fields ps }:=x;show h'.get? a=some { cls:=.none,data:=.fields ps };exact k a _ (.inl rfl) e
 | met f y =>
  have e:h.get? a=some (PySem.W.methodObj (.ref f) (.ref y)):=x;show h'.get? a=some (PySem.W.methodObj (.ref f) (.ref y));exact k a _ (.inl rfl) e
 | ext φ=>obtain ⟨p,⟨o,e⟩,st⟩:=x;exact ⟨st _ _ p λo q=>k _ _ (.inl rfl) q,⟨o,k _ _ (.inl rfl) e⟩,st⟩
theorem HOk.lt(x:HOk P w H h)(e:H a=some o):a<h.objs.size:=(x a o e).lt
theorem HOk.fresh(x:HOk P w H h)(e:h.objs.size<=a):H a=none:=by
 cases q:H a with
 | none=>rfl
 | some u=>exact absurd (Nat.lt_of_lt_of_le (x.lt q) e) (Nat.lt_irrefl _)
theorem HOk.kept(x:HOk P w H h)(k:∀ b u,h.get? b=some u->h'.get? b=some u):HOk P w H h':=λa o e =>
 (x a o e).stay (λb u _ q=>k b u q) (λ_ q=>q) λ_ _ q=>q
theorem HOk.laid(x:HOk P w H h)(k:∀ b u,h.get? b=some u->h'.get? b=some u)(hp:h.objs.size<=a)(new:ObjOk P w (upd H a o) h' a o):HOk P w (upd H a o) h':=λb u e=>by
 have hn:=x.fresh hp
 by_cases hb:b=a
 ·subst hb;rw [qe] at e;cases e;exact new
 ·rw [jw hb] at e;exact (x b u e).stay (λc v _ q=>k c v q) (λc q=>by rw [jw (jt q hn)];exact q) λc xs q=>by rw [jw (jt q hn)];exact q
end
def Rd(H:Hp)(a:Addr)(u:HO):Prop:=H a=some u\/∃ o,H a=some (.frz o u)
theorem Rd.of{H:Hp}{a:Addr}{u:HO}(h:H a=some u):Rd H a u:=.inl h
theorem Rd.ok{P:Program}{w:World}{H:Hp}{h:Heap}{a:Addr}{u:HO}(r:Rd H a u)(x:HOk P w H h):ObjOk P w H h a u:=by
 rcases r with r | ⟨o,r⟩
 ·exact x a u r
 ·obtain ⟨_,q⟩:=x a _ r;exact q
def Mut:Option HO->Prop
 | some (.lst _)=>True
 | some (.dK _)=>True
 | some (.dT _)=>True
 | some (.set _ _)=>True
 | some (.ins _ _ _)=>True
 | some (.ext _)=>True
 | _=>False
section
variable{P:Program}{w:World}{H:Hp}{h h':Heap}{x e:Addr}{o':HO}
theorem HOk.write(ok:HOk P w H h)(mu:Mut (H x))(he:e=x\/H e=some (.own x))(k:∀ b u,b≠e->h.get? b=some u->h'.get? b=some u)(heo:∃ u,h'.get? e=some u)
  (new:ObjOk P w (upd H x o') h' x o'):HOk P w (upd H x o') h':=λb u q=>by
 have nown:∀ c y,H c=some (.own y)->c≠x:=λc y r z=>by subst z;rw [r] at mu;exact mu
 have ntup:∀ c xs,H c=some (.tup xs)->c≠x:=λc xs r z=>by subst z;rw [r] at mu;exact mu
 by_cases hb:b=x
 ·subst hb;rw [qe] at q;cases q;exact new
 ·rw [jw hb] at q
  by_cases hbe:b=e
  ·have q':H b=some (.own x):=by
    rcases he with z | z
    ·exact absurd (hbe.trans z) hb
    ·rw [hbe];exact z
   rw [q] at q';cases q'
   obtain ⟨v,hv⟩:=heo;exact ⟨v,by rw [hbe];exact hv⟩
  ·refine (ok b u q).stay (λc v hc r=>k c v ?_ r) (λc r=>by rw [jw (nown c b r)];exact r) λc xs r=>by rw [jw (ntup c xs r)];exact r
   rcases hc with rfl | hc
   ·exact hbe
   ·rintro rfl
    rcases he with z | z
    ·exact nown c b hc z
    ·rw [hc] at z;cases z;exact hb rfl
end
structure Un (fs ex:List Addr) (H H':Hp) (h h':Heap):Prop where
 keep:∀ b o,h.get? b=some o->H b=none->b ∉ fs->b ∉ ex->h'.get? b=some o
 slot:∀ b o,h.get? b=some o->H b=none->b∈fs->b ∉ ex->∃ sl,h'.get? b=some { o with slots:=sl }
 free:∀ b o,h.get? b=some o->H b=none->b ∉ ex->H' b=none
 there:∀ b o,h.get? b=some o->b ∉ ex->∃ o',h'.get? b=some o'
 tups:∀ b xs,H b=some (.tup xs)->H' b=some (.tup xs)
 frzs:∀ b o u,H b=some (.frz o u)->H' b=some (.frz o u)
 tbls:∀ b ps,H b=some (.tbl ps)->∃ more,H' b=some (.tbl (ps++more))
section
variable{fs fs' ex ex':List Addr}{H H1 H2:Hp}{h h1 h2 h':Heap}{a x e:Addr}{o:HO}
theorem Un.any(u:Un fs ex H H1 h h1){b:Addr}{ob:Obj}(q:h.get? b=some ob)(n:H b=none)(hx:b ∉ ex):∃ sl,h1.get? b=some { ob with slots:=sl }:=by
 by_cases hb:b∈fs
 ·exact u.slot b ob q n hb hx
 ·exact ⟨ob.slots,u.keep b ob q n hb hx⟩
theorem Un.kept(k:∀ b u,h.get? b=some u->h'.get? b=some u):Un fs ex H H h h' :=
 ⟨λb ob q _ _ _=>k b ob q,λb ob q _ _ _=>⟨ob.slots,k b ob q⟩,λ_ _ _ n _=>n,λb ob q _=>⟨ob,k b ob q⟩,λ_ _ q=>q,λ_ _ _ q=>q,λ_ ps q=>⟨#[],by rw [q];simp⟩⟩
theorem Un.refl:Un fs ex H H h h:=Un.kept λ_ _ q=>q
theorem Un.laid(k:∀ b u,h.get? b=some u->h'.get? b=some u)(hp:h.objs.size<=a)(hn:H a=none):Un fs ex H (upd H a o) h h' where
 keep:=λb u q _ _ _=>k b u q
 slot:=λb u q _ _ _=>⟨u.slots,k b u q⟩
 free:=λb u q n _=>by rw [jw (Nat.ne_of_lt (Nat.lt_of_lt_of_le (Heap.lt_size q) hp))];exact n
 there:=λb u q _=>⟨u,k b u q⟩
 tups:=λb xs q=>by rw [jw (jt q hn)];exact q
 frzs:=λb u xs q=>by rw [jw (jt q hn)];exact q
 tbls:=λb ps q=>⟨#[],by rw [jw (jt q hn),q];simp⟩
theorem Un.write(mu:Mut (H x))(he:e=x\/H e=some (.own x))(k:∀ b u,b≠e->h.get? b=some u->h'.get? b=some u)(heo:∃ u,h'.get? e=some u):Un fs ex H (upd H x o) h h':=by
 have hx:∀ b,H b=none->b≠x:=λb n z=>by subst z;rw [n] at mu;exact mu
 have hb:∀ b,H b=none->b≠e:=λb n z=>by
  subst z
  rcases he with r | r
  ·exact hx b n r
  ·rw [n] at r;cases r
 have hm:∀ b u,H b=some u->¬ Mut (some u)->b≠x:=λb u q nm z=>by subst z;rw [q] at mu;exact nm mu
 refine ⟨λb u q n _ _=>k b u (hb b n) q,λb u q n _ _=>⟨u.slots,k b u (hb b n) q⟩,λb u q n _=>by rw [jw (hx b n)];exact n,λb u q _=>?_,
  λb xs q=>by rw [jw (hm b _ q λz=>z)];exact q,λb u xs q=>by rw [jw (hm b _ q λz=>z)];exact q,λb ps q=>⟨#[],by rw [jw (hm b _ q λz=>z),q];simp⟩⟩
 by_cases hbe:b=e
 ·subst hbe;exact heo
 ·exact ⟨u,k b u hbe q⟩
end
def trk(h:Heap)(H:Hp):List Addr:=(List.range h.objs.size).filter λa=>(H a).isSome
def afx(h:Heap)(H:Hp):Heap:=PySem.W.hideAll h (trk h H)
theorem acb(h:Heap)(H:Hp):(afx h H).objs.size=h.objs.size:=PySem.W.hideAll_size _ _
theorem afy{h:Heap}{H:Hp}{b:Addr}{o:Obj}(e:h.get? b=some o)(n:H b=none):(afx h H).get? b=some o :=
 PySem.W.hideAll_get _ e λhm=>by
  have q:(H b).isSome=true:=(List.mem_filter.mp hm).2;rw [n] at q;simp at q
theorem ak8{h:Heap}{H:Hp}{b:Addr}{o:Obj}(e:(afx h H).get? b=some o):h.get? b=some o/\H b=none:=by
 have e':h.get? b=some o:=PySem.W.of_hideAll (trk h H) e;refine ⟨e',?_⟩
 cases q:H b with
 | none=>rfl
 | some x =>
  have hm:b∈trk h H:=List.mem_filter.mpr ⟨List.mem_range.mpr (Heap.lt_size e'),by simp [q]⟩
  have z:(afx h H).get? b=none:=PySem.W.hideAll_none (trk h H) hm;rw [z] at e;cases e
def ak9(g h:Heap)(L:Addr):List (Addr × Obj):=(List.range h.objs.size).filterMap λa=>if a=L\/(g.get? a).isSome=true then none else (h.get? a).map λo=>(a,o)
def rest(g h:Heap)(L d:Addr):List (Addr × Obj):=(ak9 g h L).filter λp=>decide (p.1≠d)
structure Mod (K:PySem.W.Frag) (mg:Str->Option Value) (base:Heap):Prop where
 kin:K.In base
 glob:base.Ns mainGlobals mg
 blt:∃ mb,base.Ns builtinsNs mb/\∀ x:Str,x ≠ "__name__"->mb x=bootBuiltins x
 nolimit:base.NoLimit
structure Cx where
 prog:Program
 w:World
 K:PySem.W.Frag
 mg:Str->Option Value
 base:Heap
 A:Around
 N:List Str
 s₀:Shared
 H₀:Hp
 env:Env
 outer:List Env
 stack:List Env
 ex:List Addr
 fn:Str->Bool
 calm:Bool
 pn:List (Addr × Obj)
 xe:Value->Shared->Prop
def frs(l:List Env):List Addr:=l.filterMap (·.frame)
abbrev Cx.fs(X:Cx):List Addr:=frs X.outer
def Vis(sc:Scope)(x:Str):Prop:=sc.names.lookup x=some .local\/sc.names.lookup x=some .cell\/sc.names.lookup x=some .free
def Loc(sc:Scope)(x:Str):Prop:=sc.names.lookup x=some .local\/sc.names.lookup x=some .cell
def Look(env:Env)(h:Heap)(m:Str->Option Value)(x:Str)(u:Value):Prop :=
 (env.kindOf x=some .local/\m x=some u)\/((env.kindOf x=some .cell\/env.kindOf x=some .free)/\∃ c,env.cells.lookup x=some c/\h.IsCell c (some u))
structure Cx.Ok (X:Cx):Prop where
 mod:Mod X.K X.mg X.base
 kind:X.env.scope.kind = .function
 glob:X.env.globals=mainGlobals
 blt:X.env.builtins=builtinsNs
 above:X.s₀.heap.objs.size<=X.env.locals
 inj:∀ x y c,X.env.cells.lookup x=some c->X.env.cells.lookup y=some c->x=y
 has:∀ x,(X.env.kindOf x=some .cell\/X.env.kindOf x=some .free)->∃ c,X.env.cells.lookup x=some c
 cab:∀ x c,X.fn x=true->X.env.cells.lookup x=some c->X.s₀.heap.objs.size<=c
 hd:X.calm=true->X.A.handled=none
 frames:X.A.frames=some X.stack
 stk:X.stack=X.outer\/(X.stack=X.env::X.outer/\X.env.frame=some X.env.locals)
 exf:∀ b∈X.ex,b≠X.env.locals/\∀ x c,X.env.cells.lookup x=some c->c≠b
 bs:∀ b o,X.base.get? b=some o->X.s₀.heap.get? b=some o/\X.H₀ b=none
 bsz:X.base.objs.size<=X.s₀.heap.objs.size
 noex:∀ b o,X.base.get? b=some o->b ∉ X.ex
 exfs:∀ b∈X.ex,b ∉ X.fs
 funs:X.s₀.heap.FunFrames X.base X.outer
 frf:∀ b∈X.fs,X.H₀ b=none
structure Inv (X:Cx) (pins:List (Addr × Obj)) (σ:List (Option V)) (H:Hp) (s:Shared):Prop where
 ok:X.Ok
 os:s.os=X.s₀.os
 bare:AllBare s.gens
 base:Un X.fs X.ex X.H₀ H X.s₀.heap s.heap
 loc:∃ m,s.heap.Ns X.env.locals m/\∀ (i:Nat) (x:Str) (v:V),X.N[i]? = some x->σ[i]? = some (some v)->Vis X.env.scope x->∃ u,RelV v u/\Look X.env s.heap m x u
 cell:∀ x c,X.env.cells.lookup x=some c->∃ v,s.heap.IsCell c v
 free:H X.env.locals=none
 freeC:∀ x c,X.env.cells.lookup x=some c->H c=none
 pin:∀ p∈X.pn++pins,s.heap.get? p.1=some p.2/\H p.1=none/\p.1≠X.env.locals/\p.1 ∉ X.fs/\∀ v,p.2.data≠.cell v
 hok:HOk X.prog X.w H s.heap
 len:σ.length=X.N.length
section
variable{X:Cx}{pins:List (Addr × Obj)}{σ:List (Option V)}{H H':Hp}{s:Shared}{h':Heap}
theorem Cx.Ok.nofr(ok:X.Ok){b:Addr}{o:Obj}(e:X.base.get? b=some o):b ∉ X.fs:=λhb=>by
 have:=(ok.funs.mem hb).1
 rw [e] at this;cases this
theorem Inv.bs(I:Inv X pins σ H s):∀ b o,X.base.get? b=some o->s.heap.get? b=some o/\H b=none:=λb o e =>
 ⟨I.base.keep b o (I.ok.bs b o e).1 (I.ok.bs b o e).2 (I.ok.nofr e) (I.ok.noex b o e),I.base.free b o (I.ok.bs b o e).1 (I.ok.bs b o e).2 (I.ok.noex b o e)⟩
theorem Inv.bk(I:Inv X pins σ H s):∀ b o,X.base.get? b=some o->s.heap.get? b=some o:=λb o e=>(I.bs b o e).1
theorem Inv.mod(I:Inv X pins σ H s):Mod X.K X.mg X.base:=I.ok.mod
theorem Inv.kIn(I:Inv X pins σ H s):X.K.In s.heap:=I.ok.mod.kin.keeps I.bk
theorem Inv.fr(I:Inv X pins σ H s):∃ m,Fr X.base X.env.locals s.heap m :=
 let ⟨m,hn,_⟩:=I.loc
 ⟨m,hn,I.bk,Nat.le_trans I.ok.bsz I.ok.above⟩
theorem Inv.lt(I:Inv X pins σ H s):X.env.locals<s.heap.objs.size:=let ⟨_,hn,_⟩:=I.loc;hn.lt
theorem Inv.sz(I:Inv X pins σ H s):X.s₀.heap.objs.size<=s.heap.objs.size:=Nat.le_trans I.ok.above (Nat.le_of_lt I.lt)
theorem Inv.nofs(I:Inv X pins σ H s){a:Addr}(h:s.heap.objs.size<=a):a ∉ X.fs:=λhb=>by
 obtain ⟨_,o,ho,_⟩:=I.ok.funs.mem hb;exact absurd (Nat.lt_of_lt_of_le (Heap.lt_size ho) (Nat.le_trans I.sz h)) (Nat.lt_irrefl _)
theorem Inv.cne(I:Inv X pins σ H s):∀ x c,X.env.cells.lookup x=some c->c≠X.env.locals:=λx c e z=>by
 obtain ⟨v,o,ho,hd⟩:=I.cell x c e;obtain ⟨m,⟨o',es,ep,ho',hd',_⟩,_⟩:=I.loc;rw [z,ho'] at ho;cases ho;rw [hd'] at hd;cases hd
theorem Inv.funs(I:Inv X pins σ H s):s.heap.FunFrames X.base X.outer:=by
 have all:∀ (l:List Env),(∀ b∈frs l,b∈X.fs)->X.s₀.heap.FunFrames X.base l->s.heap.FunFrames X.base l:=by
  intro l
  induction l with
  | nil=>intro _ _;trivial
  | cons env r ih =>
   intro hs hl
   obtain ⟨hk,⟨L,o,hf,hn,ho,hd⟩,hr⟩:=hl;have hL:L∈X.fs:=hs L (by unfold frs;rw [List.filterMap_cons,hf];exact List.mem_cons_self)
   obtain ⟨sl,e⟩:=I.base.slot L o ho (I.ok.frf L hL) hL λz=>I.ok.exfs L z hL;exact ⟨hk,⟨L,_,hf,hn,e,hd⟩,ih (λb hb=>hs b (by unfold frs;rw [List.filterMap_cons,hf];exact List.mem_cons_of_mem _ hb)) hr⟩
 exact all X.outer (λ_ hb=>hb) I.ok.funs
theorem Inv.stack(I:Inv X pins σ H s):s.heap.FunFrames X.base X.stack:=by
 rcases I.ok.stk with e | ⟨e,hf⟩
 ·rw [e];exact I.funs
 ·rw [e];obtain ⟨m,hn,_⟩:=I.loc;refine .cons (by rw [I.ok.kind];decide) hf hn ?_ I.funs
  exact Heap.get?_none_of_le (Nat.le_trans I.ok.bsz I.ok.above)
theorem Inv.stkSub(I:Inv X pins σ H s):∀ b∈frs X.stack,b∈X.env.locals::X.fs:=λb hb=>by
 rcases I.ok.stk with e | ⟨e,hf⟩
 ·rw [e] at hb;exact List.mem_cons_of_mem _ hb
 ·rw [e] at hb;unfold frs at hb;rw [List.filterMap_cons,hf] at hb;exact hb
theorem Inv.stkFree(I:Inv X pins σ H s):∀ b∈frs X.stack,H b=none:=λb hb=>by
 rcases List.mem_cons.mp (I.stkSub b hb) with e | hb
 ·rw [e];exact I.free
 ·obtain ⟨_,o,ho,_⟩:=I.ok.funs.mem hb;exact I.base.free b o ho (I.ok.frf b hb) λz=>I.ok.exfs b z hb
theorem Inv.step{g':Array GenState}{t':Nat}{d':Drawn}{ch:List Addr}(I:Inv X pins σ H s)
  (hch:∀ b∈ch,(b∈X.ex\/X.s₀.heap.objs.size<=b)/\b≠X.env.locals/\(∀ x c,X.env.cells.lookup x=some c->c≠b)/\∀ p∈X.pn++pins,p.1≠b)
  (keep:∀ b o,b≠X.env.locals->b ∉ X.fs->b ∉ ch->s.heap.get? b=some o->H b=none->h'.get? b=some o)
  (slot:∀ b o,b≠X.env.locals->b∈X.fs->b ∉ ch->s.heap.get? b=some o->H b=none->∃ sl,h'.get? b=some { o with slots:=sl }) (free:∀ b o,b ∉ ch->s.heap.get? b=some o->H b=none->H' b=none)
  (there:∀ b o,b ∉ ch->s.heap.get? b=some o->∃ o',h'.get? b=some o')
  (tups:∀ b xs,H b=some (.tup xs)->H' b=some (.tup xs)) (frzs:∀ b o u,H b=some (.frz o u)->H' b=some (.frz o u)) (tbls:∀ b ps,H b=some (.tbl ps)->∃ more,H' b=some (.tbl (ps++more)))
  (ns:∀ m,s.heap.Ns X.env.locals m->h'.Ns X.env.locals m) (hok:HOk X.prog X.w H' h') (hg:AllBare g') :
  Inv X pins σ H' { s with heap:=h',gens:=g',drawn:=d',toks:=t' }:=by
 have neL:∀ b o,X.s₀.heap.get? b=some o->b≠X.env.locals:=λb o e=>Nat.ne_of_lt (Nat.lt_of_lt_of_le (Heap.lt_size e) I.ok.above);have neC:∀ b o,X.s₀.heap.get? b=some o->b ∉ X.ex->b ∉ ch:=λb o e hx hb=>by
  rcases (hch b hb).1 with z | z
  ·exact hx z
  ·exact absurd (Nat.lt_of_lt_of_le (Heap.lt_size e) z) (Nat.lt_irrefl _)
 have cellK:∀ x c,X.env.cells.lookup x=some c->∀ v,s.heap.IsCell c v->h'.IsCell c v:=λx c e v ⟨o,ho,hd⟩=>by
  have nch:c ∉ ch:=λz=>(hch c z).2.2.1 x c e rfl
  by_cases hc:c∈X.fs
  ·obtain ⟨sl,q⟩:=slot c o (I.cne x c e) hc nch ho (I.freeC x c e);exact ⟨_,q,hd⟩
  ·exact ⟨o,keep c o (I.cne x c e) hc nch ho (I.freeC x c e),hd⟩
 refine ⟨I.ok,I.os,hg,⟨λb o e n hb hx=>?_,λb o e n hb hx=>?_,λb o e n hx=>?_,λb o e hx=>?_,λb xs e=>tups b xs (I.base.tups b xs e),λb o xs e=>frzs b o xs (I.base.frzs b o xs e),λb ps e=>?_⟩,?_,λx c e=>?_,?_,λx c e=>?_,λp hp=>?_,hok,I.len⟩
 ·exact keep b o (neL b o e) hb (neC b o e hx) (I.base.keep b o e n hb hx) (I.base.free b o e n hx)
 ·obtain ⟨sl,e1⟩:=I.base.slot b o e n hb hx;obtain ⟨sl',e2⟩:=slot b _ (neL b o e) hb (neC b o e hx) e1 (I.base.free b o e n hx);exact ⟨sl',e2⟩
 ·obtain ⟨o',e1⟩:=I.base.there b o e hx;exact free b o' (neC b o e hx) e1 (I.base.free b o e n hx)
 ·obtain ⟨o',e1⟩:=I.base.there b o e hx;exact there b o' (neC b o e hx) e1
 ·obtain ⟨m1,e1⟩:=I.base.tbls b ps e;obtain ⟨m2,e2⟩:=tbls b _ e1;exact ⟨m1++m2,by rw [e2,Array.append_assoc]⟩
 ·obtain ⟨m,hn,hl⟩:=I.loc;refine ⟨m,ns m hn,λi x v e1 e2 e3=>?_⟩;obtain ⟨u,r,l⟩:=hl i x v e1 e2 e3;refine ⟨u,r,?_⟩
  rcases l with l | ⟨k,c,e,z⟩
  ·exact .inl l
  ·exact .inr ⟨k,c,e,cellK x c e _ z⟩
 ·obtain ⟨v,z⟩:=I.cell x c e;exact ⟨v,cellK x c e v z⟩
 ·obtain ⟨m,⟨o,_,_,ho,_⟩,_⟩:=I.loc;exact free _ o (λz=>(hch _ z).2.1 rfl) ho I.free
 ·obtain ⟨v,o,ho,hd⟩:=I.cell x c e;exact free c o (λz=>(hch c z).2.2.1 x c e rfl) ho (I.freeC x c e)
 ·obtain ⟨e,n,ne,nf,d⟩:=I.pin p hp;have nch:p.1 ∉ ch:=λz=>(hch p.1 z).2.2.2 p hp rfl;exact ⟨keep p.1 p.2 ne nf nch e n,free p.1 p.2 nch e n,ne,nf,d⟩
theorem Inv.un{t':Nat}(I:Inv X pins σ H s)(u:Un X.fs [] H H' s.heap h')(hok:HOk X.prog X.w H' h'):Inv X pins σ H' { s with heap:=h',toks:=t' }:=by
 obtain ⟨m,⟨o,es,ep,ho,r⟩,_⟩:=id I.loc;obtain ⟨sl,hL⟩:=u.any ho I.free (by simp)
 exact I.step (g':=s.gens) (d':=s.drawn) (ch:=[]) (λ_ z=>nomatch z) (λb o _ hb _ e n=>u.keep b o e n hb (by simp)) (λb o _ hb _ e n=>u.slot b o e n hb (by simp)) (λb o _ e n=>u.free b o e n (by simp)) (λb o _ e=>u.there b o e (by simp)) u.tups u.frzs u.tbls (λm' hm=>by
  obtain ⟨o',es',ep',ho',r'⟩:=hm;rw [ho] at ho';cases ho'
  exact ⟨_,es',ep',hL,r'⟩) hok I.bare
theorem Inv.call{g':Array GenState}{t':Nat}{d':Drawn}{ch:List Addr}(I:Inv X pins σ H s)(u:Un (frs X.stack) ch H H' s.heap h')(hok:HOk X.prog X.w H' h')(hg:AllBare g')
  (hch:∀ b∈ch,(b∈X.ex\/X.s₀.heap.objs.size<=b)/\b≠X.env.locals/\(∀ x c,X.env.cells.lookup x=some c->c≠b)/\∀ p∈X.pn++pins,p.1≠b) :
  Inv X pins σ H' { s with heap:=h',gens:=g',drawn:=d',toks:=t' }:=by
 obtain ⟨m,⟨o,es,ep,ho,r⟩,_⟩:=id I.loc;obtain ⟨sl,hL⟩:=u.any ho I.free λz=>(hch _ z).2.1 rfl;exact I.step (ch:=ch) hch (λb o hL hb hc e n=>u.keep b o e n (λz=>(List.mem_cons.mp (I.stkSub b z)).elim hL hb) hc) (λb o _ _ hc e n=>u.any e n hc) (λb o hc e n=>u.free b o e n hc) (λb o hc e=>u.there b o e hc) u.tups u.frzs u.tbls (λm' hm=>by
  obtain ⟨o',es',ep',ho',r'⟩:=hm;rw [ho] at ho';cases ho'
  exact ⟨_,es',ep',hL,r'⟩) hok hg
theorem Inv.turned{t':Nat}{it:Addr}(I:Inv X pins σ H s)(k:∀ b o,b≠it->s.heap.get? b=some o->h'.get? b=some o)(hn:H it=none)(hL:it≠X.env.locals)
  (h1:it∈X.ex\/X.s₀.heap.objs.size<=it) (h2:∀ x c,X.env.cells.lookup x=some c->c≠it) (h3:∀ p∈X.pn++pins,p.1≠it):Inv X pins σ H { s with heap:=h',toks:=t' }:=by
 have nit:∀ b u,H b=some u->b≠it:=λb u e z=>by rw [z,hn] at e;cases e
 refine I.step (g':=s.gens) (d':=s.drawn) (ch:=[it]) (λb hb=>?_) (λb o _ _ hc e _=>k b o (λz=>hc (by simp [z])) e) (λb o _ _ hc e _=>⟨o.slots,k b o (λz=>hc (by simp [z])) e⟩) (λ_ _ _ _ n=>n)
  (λb o hc e=>⟨o,k b o (λz=>hc (by simp [z])) e⟩) (λ_ _ e=>e) (λ_ _ _ e=>e) (λb ps e=>⟨#[],by rw [e];simp⟩) (λm hm=>?_) (λb u e=>?_) I.bare
 ·have e:b=it:=by simpa using hb
  subst e;exact ⟨h1,hL,h2,h3⟩
 ·obtain ⟨o,es,ep,ho,r⟩:=hm;exact ⟨o,es,ep,k _ o (Ne.symm hL) ho,r⟩
 ·refine (I.hok b u e).stay (λc v hc q=>k c v ?_ q) (λ_ q=>q) λ_ _ q=>q
  rcases hc with z | z
  ·rw [z];exact nit b u e
  ·exact nit c _ z
theorem Inv.tok(I:Inv X pins σ H s)(t:Nat):Inv X pins σ H { s with toks:=t }:=I.un (h':=s.heap) (t':=t) Un.refl I.hok
theorem Inv.kept{t':Nat}(I:Inv X pins σ H s)(k:∀ b u,s.heap.get? b=some u->h'.get? b=some u):Inv X pins σ H { s with heap:=h',toks:=t' }:=I.un (Un.kept k) (I.hok.kept k)
theorem Inv.laid{a:Addr}{o:HO}{t':Nat}(I:Inv X pins σ H s)(k:∀ b u,s.heap.get? b=some u->h'.get? b=some u)(hp:s.heap.objs.size<=a)(new:ObjOk X.prog X.w (upd H a o) h' a o) :
  Inv X pins σ (upd H a o) { s with heap:=h',toks:=t' }:=I.un (Un.laid k hp (I.hok.fresh hp)) (I.hok.laid k hp new)
theorem Inv.write{x e:Addr}{o:HO}{t':Nat}(I:Inv X pins σ H s)(mu:Mut (H x))(he:e=x\/H e=some (.own x))(k:∀ b u,b≠e->s.heap.get? b=some u->h'.get? b=some u)(heo:∃ u,h'.get? e=some u)
  (new:ObjOk X.prog X.w (upd H x o) h' x o):Inv X pins σ (upd H x o) { s with heap:=h',toks:=t' }:=I.un (Un.write mu he k heo) (I.hok.write mu he k heo new)
theorem Inv.weak{σ':List (Option V)}(I:Inv X pins σ H s)(hl:σ'.length=σ.length)(w:∀ (i:Nat) v,σ'[i]? = some (some v)->σ[i]? = some (some v)):Inv X pins σ' H s :=
 ⟨I.ok,I.os,I.bare,I.base,let ⟨m,hn,hl'⟩:=I.loc; ⟨m,hn,λi x v e1 e2 e3=>hl' i x v e1 (w i v e2) e3⟩,I.cell,I.free,I.freeC,I.pin,I.hok,hl.trans I.len⟩
theorem Inv.pins_of{pins':List (Addr × Obj)}(I:Inv X pins σ H s)(h:∀ p∈pins',s.heap.get? p.1=some p.2/\H p.1=none/\p.1≠X.env.locals/\p.1 ∉ X.fs/\∀ v,p.2.data≠.cell v):Inv X pins' σ H s :=
 ⟨I.ok,I.os,I.bare,I.base,I.loc,I.cell,I.free,I.freeC,λp hp=>(List.mem_append.mp hp).elim (λz=>I.pin p (List.mem_append_left _ z)) (h p),I.hok,I.len⟩
theorem a6i{N:List Str}(hN:N.Nodup){i j:Nat}{x:Str}(a:N[i]? = some x)(b:N[j]? = some x):i=j:=by
 obtain ⟨h1,e1⟩:=List.getElem?_eq_some_iff.mp a;obtain ⟨h2,e2⟩:=List.getElem?_eq_some_iff.mp b;exact (List.getElem_inj hN).mp (e1.trans e2.symm)
theorem a7w{M:Model}{A:Around}{E:Value->Shared->Prop}{i:Nat}{x:Str}{v:V}{u:Value}{Q:Unit->Shared->Prop}(I:Inv X pins σ H s)(hN:X.N.Nodup)(hi:X.N[i]? = some x)(hx:Loc X.env.scope x)(r:RelV v u)
  (h:∀ s',Inv X pins (σ.set i (some v)) H s'->(∃ a,Heap.SameBut a s.heap s'.heap/\(a=X.env.locals\/X.env.cells.lookup x=some a))->Q () s') (hf:X.fn x=true\/X.env.scope.names.lookup x=some .local:=by first | exact .inl rfl | exact .inr rfl | assumption):wpAny M A (storeName X.env x u) Q E s:=by
 obtain ⟨m,hn,hl⟩:=id I.loc;have hcls:(X.env.scope.kind == .class || (X.env.scope.kind == .module && X.env.locals != X.env.globals))=false:=by rw [I.ok.kind];rfl
 have hiσ:i<σ.length:=by rw [I.len];exact (List.getElem?_eq_some_iff.mp hi).1
 have cne:=I.cne;have tracked:∀ {a:Addr} {h':Heap},(∃ o,s.heap.get? a=some o/\H a=none)->Heap.SameBut a s.heap h'->HOk X.prog X.w H h':=λ{a h'} ha hs b ob e=>by
  obtain ⟨_,_,hfree⟩:=ha;refine (I.hok b ob e).stay (λc w' hc q=>(hs.2 c ?_).trans q) (λ_ q=>q) λ_ _ q=>q
  rintro rfl
  rcases hc with rfl | hc
  ·rw [hfree] at e;cases e
  ·rw [hfree] at hc;cases hc
 rcases hx with hk | hk
 ·refine wpAny_storeName_local hk hn (λh' hn' hs=>?_) hcls;obtain ⟨oL,_,_,hoL,_⟩:=id hn;refine h _ ⟨I.ok,I.os,I.bare,⟨λb o e n hb hx=>?_,λb o e n hb hx=>?_,I.base.free,λb o e hx=>?_,I.base.tups,I.base.frzs,I.base.tbls⟩,⟨_,hn',λj y v' e1 e2 e3=>?_⟩,λy c e=>?_,I.free,I.freeC,λp hp=>?_,tracked ⟨oL,hoL,I.free⟩ hs,by simpa using I.len⟩ ⟨_,hs, .inl rfl⟩
  ·exact (hs.2 b (Nat.ne_of_lt (Nat.lt_of_lt_of_le (Heap.lt_size e) I.ok.above))).trans (I.base.keep b o e n hb hx)
  ·obtain ⟨sl,e1⟩:=I.base.slot b o e n hb hx;exact ⟨sl,(hs.2 b (Nat.ne_of_lt (Nat.lt_of_lt_of_le (Heap.lt_size e) I.ok.above))).trans e1⟩
  ·obtain ⟨o',e1⟩:=I.base.there b o e hx;exact ⟨o',(hs.2 b (Nat.ne_of_lt (Nat.lt_of_lt_of_le (Heap.lt_size e) I.ok.above))).trans e1⟩
  ·by_cases hj:j=i
   ·subst hj;rw [hi] at e1;cases e1
    rw [List.getElem?_set_self hiσ] at e2;cases e2
    exact ⟨u,r, .inl ⟨hk,by simp⟩⟩
   ·rw [List.getElem?_set_ne (Ne.symm hj)] at e2;obtain ⟨u',r',q⟩:=hl j y v' e1 e2 e3;refine ⟨u',r',?_⟩
    rcases q with ⟨k,e⟩ | ⟨k,c,e,z⟩
    ·refine .inl ⟨k,?_⟩;have:y≠x:=λe=>hj (a6i hN e1 (e ▸ hi));simp [this,e]
    ·exact .inr ⟨k,c,e,z.sameBut hs (cne y c e)⟩
  ·obtain ⟨w',z⟩:=I.cell y c e;exact ⟨w',z.sameBut hs (cne y c e)⟩
  ·obtain ⟨e,n,ne,nf,d⟩:=I.pin p hp;exact ⟨(hs.2 p.1 ne).trans e,n,ne,nf,d⟩
 ·have hfn:X.fn x=true:=by
   rcases hf with z | z
   ·exact z
   ·rw [z] at hk;cases hk
  obtain ⟨c,hc⟩:=I.ok.has x (.inl hk);obtain ⟨w',z⟩:=I.cell x c hc;refine wpAny_storeName_cell I.ok.kind hk hc z (λh' hc' hs=>?_);obtain ⟨oc,hoc,hocd⟩:=id z;refine h { s with heap:=h' } ⟨I.ok,I.os,I.bare,⟨λb o e n hb hx=>?_,λb o e n hb hx=>?_,I.base.free,λb o e hx=>?_,I.base.tups,I.base.frzs,I.base.tbls⟩,⟨m,hn.sameBut hs (Ne.symm (cne x c hc)),λj y v' e1 e2 e3=>?_⟩,λy c' e=>?_,I.free,I.freeC,λp hp=>?_,tracked ⟨oc,hoc,I.freeC x c hc⟩ hs,by simpa using I.len⟩ ⟨c,hs, .inr hc⟩
  ·exact (hs.2 b (Nat.ne_of_lt (Nat.lt_of_lt_of_le (Heap.lt_size e) (I.ok.cab x c hfn hc)))).trans (I.base.keep b o e n hb hx)
  ·obtain ⟨sl,e1⟩:=I.base.slot b o e n hb hx;exact ⟨sl,(hs.2 b (Nat.ne_of_lt (Nat.lt_of_lt_of_le (Heap.lt_size e) (I.ok.cab x c hfn hc)))).trans e1⟩
  ·obtain ⟨o',e1⟩:=I.base.there b o e hx;exact ⟨o',(hs.2 b (Nat.ne_of_lt (Nat.lt_of_lt_of_le (Heap.lt_size e) (I.ok.cab x c hfn hc)))).trans e1⟩
  ·by_cases hj:j=i
   ·subst hj;rw [hi] at e1;cases e1
    rw [List.getElem?_set_self hiσ] at e2;cases e2
    exact ⟨u,r, .inr ⟨.inl hk,c,hc,hc'⟩⟩
   ·rw [List.getElem?_set_ne (Ne.symm hj)] at e2;obtain ⟨u',r',q⟩:=hl j y v' e1 e2 e3;refine ⟨u',r',?_⟩
    rcases q with q | ⟨k,c',e,z'⟩
    ·exact .inl q
    ·refine .inr ⟨k,c',e,z'.sameBut hs ?_⟩
     rintro rfl
     exact hj (a6i hN e1 (I.ok.inj _ _ _ e hc ▸ hi))
  ·by_cases hcc:c'=c
   ·subst hcc;exact ⟨_,hc'⟩
   ·obtain ⟨w2,z2⟩:=I.cell y c' e;exact ⟨w2,z2.sameBut hs hcc⟩
  ·obtain ⟨e,n,ne,nf,d⟩:=I.pin p hp;refine ⟨(hs.2 p.1 ?_).trans e,n,ne,nf,d⟩
   intro q
   rw [q,hoc] at e;have q':oc=p.2:=Option.some.inj e;exact d w' (by rw [<-q'];exact hocd)
theorem a6j{M:Model}{A:Around}{E:Value->Shared->Prop}{i:Nat}{x:Str}{v:V}{u:Value}{Q:Unit->Shared->Prop}(I:Inv X pins σ H s)(hN:X.N.Nodup)(hi:X.N[i]? = some x)(hx:Loc X.env.scope x)(r:RelV v u)
  (h:∀ s',Inv X pins (σ.set i (some v)) H s'->Q () s') (hf:X.fn x=true\/X.env.scope.names.lookup x=some .local:=by first | exact .inl rfl | exact .inr rfl | assumption):wpAny M A (storeName X.env x u) Q E s :=
 a7w I hN hi hx r (λs' I' _=>h s' I') hf
theorem Inv.call'{s':Shared}{ch:List Addr}(I:Inv X pins σ H s)(ho:s'.os=s.os)(u:Un (frs X.stack) ch H H' s.heap s'.heap)(hok:HOk X.prog X.w H' s'.heap)(hg:AllBare s'.gens)
  (hch:∀ b∈ch,(b∈X.ex\/X.s₀.heap.objs.size<=b)/\b≠X.env.locals/\(∀ x c,X.env.cells.lookup x=some c->c≠b)/\∀ p∈X.pn++pins,p.1≠b):Inv X pins σ H' s':=by
 obtain ⟨h',g',d',t',o'⟩:=s';have e:o'=s.os:=ho;subst e;exact I.call (g':=g') (t':=t') (d':=d') u hok hg hch
end
abbrev XK:=Value->Option Addr->Hp->Prop
abbrev St:=List (Option V)
abbrev VK:=V->Hp->Prop
abbrev TE:=St->Hp->VK->Prop
abbrev TT:=St->Hp->(Bool->Hp->Prop)->Prop
abbrev TA:=St->Hp->(List V->Hp->Prop)->Prop
structure Ends where
 nx:St->Hp->Prop
 rt:VK
 bk:St->Hp->Prop:=λ_ _=>False
 ct:St->Hp->Prop:=λ_ _=>False
abbrev TS:=Ends->St->Hp->Prop
def EP(X:Cx)(pins:List (Addr × Obj))(σ:St)(Q:VK)(u:Value)(s':Shared):Prop:=∃ v H',Inv X pins σ H' s'/\RelV v u/\Q v H'
def TP(X:Cx)(pins:List (Addr × Obj))(σ:St)(Q:Bool->Hp->Prop)(b:Bool)(s':Shared):Prop:=∃ H',Inv X pins σ H' s'/\Q b H'
def AP(X:Cx)(pins:List (Addr × Obj))(σ:St)(Q:List V->Hp->Prop)(us:List Value)(s':Shared):Prop:=∃ vs H',Inv X pins σ H' s'/\Vals vs us/\Q vs H'
def SP(X:Cx)(pins:List (Addr × Obj))(D:Ends)(f:Flow)(s':Shared):Prop :=
 match f with
 | .next=>∃ σ' H',Inv X pins σ' H' s'/\D.nx σ' H'
 | .brk=>∃ σ' H',Inv X pins σ' H' s'/\D.bk σ' H'
 | .cont=>∃ σ' H',Inv X pins σ' H' s'/\D.ct σ' H'
 | .ret u=>∃ v σ' H',Inv X pins σ' H' s'/\RelV v u/\D.rt v H'
def PE(X:Cx)(e:Expr)(t:TE):Prop :=
 ∀ (pins:List (Addr × Obj)) (s:Shared) (σ:St) (H:Hp) (Q:VK),Inv X pins σ H s->t σ H Q->wpAny (model X.prog X.w) X.A (eval e X.env) (EP X pins σ Q) X.xe s
def PT(X:Cx)(e:Expr)(t:TT):Prop :=
 ∀ (pins:List (Addr × Obj)) (s:Shared) (σ:St) (H:Hp) (Q:Bool->Hp->Prop),Inv X pins σ H s->t σ H Q->wpAny (model X.prog X.w) X.A (isTrue e X.env (eval e X.env)) (TP X pins σ Q) X.xe s
def PW(X:Cx)(e:Expr)(t:TT):Prop :=
 ∀ (whole:Sem Value) (pins:List (Addr × Obj)) (s:Shared) (σ:St) (H:Hp) (Q:Bool->Hp->Prop),Inv X pins σ H s->t σ H Q->wpAny (model X.prog X.w) X.A (isTrue e X.env whole) (TP X pins σ Q) X.xe s
theorem PW.pt{X:Cx}{e:Expr}{t:TT}(h:PW X e t):PT X e t:=h _
def PA(X:Cx)(es:List Expr)(t:TA):Prop :=
 ∀ (pos:Pos) (pins:List (Addr × Obj)) (s:Shared) (σ:St) (H:Hp) (Q:List V->Hp->Prop),Inv X pins σ H s->t σ H Q->wpAny (model X.prog X.w) X.A (spliced (backTo pos (starEach es X.env))) (AP X pins σ Q) X.xe s
def PS(X:Cx)(st:Stmt)(t:TS):Prop :=
 ∀ (pins:List (Addr × Obj)) (s:Shared) (σ:St) (H:Hp) (D:Ends),Inv X pins σ H s->t D σ H->wpAny (model X.prog X.w) X.A (exec st X.env) (SP X pins D) X.xe s
def PSs(X:Cx)(st:List Stmt)(t:TS):Prop :=
 ∀ (pins:List (Addr × Obj)) (s:Shared) (σ:St) (H:Hp) (D:Ends),Inv X pins σ H s->t D σ H->wpAny (model X.prog X.w) X.A (execs st X.env) (SP X pins D) X.xe s
theorem thn{α:Type}{t:Sem α}{Q Q':α->Shared->Prop}{M:Model}{A:Around}{E:Value->Shared->Prop}{s:Shared}(h:wpAny M A t Q E s)(hQ:∀ a s,Q a s->Q' a s):wpAny M A t Q' E s:=wpAny_mono h hQ λ_ _ x=>x
section
variable{X:Cx}
def avs(i:Nat):TE:=λσ H Q=>∃ v,σ[i]? = some (some v)/\Q v H
def tC(v:V):TE:=λ_ H Q=>Q v H
theorem acd{i:Nat}{x:Str}{pos:Pos}(hN:X.N[i]? = some x)(hv:Vis X.env.scope x)(hd:(x == ("__debug__" : Str))=false:=by decide)(hcd:(x == ("__classdict__" : Str))=false:=by decide):PE X (.Name x pos) (avs i):=by
 intro pins s σ H Q I h
 obtain ⟨v,e,h⟩:=h;obtain ⟨m,hn,hl⟩:=I.loc;obtain ⟨u,r,l⟩:=hl i x v hN e hv;have fin:EP X pins σ Q u s:=⟨v,H,I,r,h⟩
 rcases l with ⟨hk,hm⟩ | ⟨hk,c,hc,hcell⟩
 ·exact wpAny_Name (wpAny_loadName_local I.ok.kind hk hn hm fin) hd
 ·rcases hk with hk | hk
  ·exact wpAny_Name (wpAny_loadName_cell I.ok.kind hk hc hcell fin) hd
  ·exact wpAny_Name (wpAny_loadName_free I.ok.kind hk hc hcell fin hcd) hd
theorem ano{i j pos}:PE X (.Constant (.int i) j pos) (tC (.int i)):=λ_ _ _ H _ I h=>wpAny_Constant_int ⟨.int i,H,I.tok _,⟨_,rfl⟩,h⟩
theorem asq{b j pos}:PE X (.Constant (.bool b) j pos) (tC (.bl b)):=λ_ _ _ H _ I h=>Constant_bool ⟨.bl b,H,I,rfl,h⟩
theorem anp{j pos}:PE X (.Constant .none j pos) (tC .non):=λ_ _ _ H _ I h=>Constant_none ⟨.non,H,I,rfl,h⟩
theorem anq{x j pos}:PE X (.Constant (.str x) j pos) (tC (.str x)):=λ_ _ _ H _ I h=>Calls.Constant_str ⟨.str x,H,I.tok _,⟨_,rfl⟩,h⟩
def Gl(X:Cx)(x:Str):Prop:=X.env.kindOf x=some .globalImplicit
theorem a2n{E:Value->Shared->Prop}{pins:List (Addr × Obj)}{s:Shared}{σ:St}{H:Hp}{x:Str}{u:Value}{pos:Pos}{Q:Value->Shared->Prop}(I:Inv X pins σ H s)(hg:Gl X x)(hm:X.mg x=some u)(h:Q u s)
  (hd:(x == ("__debug__" : Str))=false:=by decide):wpAny (model X.prog X.w) X.A (eval (.Name x pos) X.env) Q E s :=
 Calls.Name_function_global I.ok.kind hg (Calls.loadGlobal_global (by rw [I.ok.glob];exact I.mod.glob.keeps I.bk) hm h) hd
theorem a3f{E:Value->Shared->Prop}{pins:List (Addr × Obj)}{s:Shared}{σ:St}{H:Hp}{x:Str}{u:Value}{pos:Pos}{Q:Value->Shared->Prop}(I:Inv X pins σ H s)(hg:Gl X x)(hm:X.mg x=none)(hv:bootBuiltins x=some u)(h:Q u s)
  (hn:x ≠ "__name__":=by decide) (hd:(x == ("__debug__" : Str))=false:=by decide):wpAny (model X.prog X.w) X.A (eval (.Name x pos) X.env) Q E s:=by
 obtain ⟨mb,h1,h2⟩:=I.mod.blt;exact Calls.Name_function_global I.ok.kind hg (Calls.loadGlobal_builtin (by rw [I.ok.glob];exact I.mod.glob.keeps I.bk) hm (by rw [I.ok.blt];exact h1.keeps I.bk) ((h2 x hn).trans hv) h) hd
theorem a0e{x:Str}{v:V}{u:Value}{pos:Pos}(hg:Gl X x)(hm:X.mg x=some u)(r:RelV v u)(hd:(x == ("__debug__" : Str))=false:=by decide):PE X (.Name x pos) (tC v) :=
 λ_ _ _ H _ I h=>a2n I hg hm ⟨v,H,I,r,h⟩ hd
theorem ace{x:Str}{v:V}{u:Value}{pos:Pos}(hg:Gl X x)(hm:X.mg x=none)(hv:bootBuiltins x=some u)(r:RelV v u)(hn:x ≠ "__name__":=by decide)(hd:(x == ("__debug__" : Str))=false:=by decide):PE X (.Name x pos) (tC v) :=
 λ_ _ _ H _ I h=>a3f I hg hm hv ⟨v,H,I,r,h⟩ hn hd
variable{a b:Expr}{ta tb:TE}{pos:Pos}
variable{tA tB':TT}{rest:List Expr}
def avt(t u:TT):TT:=λσ H Q=>t σ H λc H1=>if c=true then u σ H1 Q else Q false H1
def tOr(t u:TT):TT:=λσ H Q=>t σ H λc H1=>if c=true then Q true H1 else u σ H1 Q
def avu(t:TT):TT:=λσ H Q=>t σ H λc H1=>Q (!c) H1
theorem aka(ha:PT X a tA):PW X (.BoolOp .And [a] pos) tA:=by
 intro wh pins s σ H Q I h
 refine isTrue_and (thn (ha pins s σ H Q I h) λc s1 e=>?_)
 cases c with
 | true=>exact isTrue_and_nil e
 | false=>exact e
theorem anr(ha:PT X a tA):PW X (.BoolOp .Or [a] pos) tA:=by
 intro wh pins s σ H Q I h
 refine isTrue_or (thn (ha pins s σ H Q I h) λc s1 e=>?_)
 cases c with
 | false=>exact isTrue_or_nil e
 | true=>exact e
theorem ant(ha:PT X a tA)(hb:PW X (.BoolOp .And (b::rest) pos) tB'):PW X (.BoolOp .And (a::b::rest) pos) (avt tA tB'):=by
 intro wh pins s σ H Q I h
 refine isTrue_and (thn (ha pins s σ H _ I h) λc s1 ⟨H1,I1,q1⟩=>?_)
 cases c with
 | true=>exact hb wh pins s1 σ H1 Q I1 q1
 | false=>exact ⟨H1,I1,q1⟩
theorem asr(ha:PT X a tA)(hb:PW X (.BoolOp .Or (b::rest) pos) tB'):PW X (.BoolOp .Or (a::b::rest) pos) (tOr tA tB'):=by
 intro wh pins s σ H Q I h
 refine isTrue_or (thn (ha pins s σ H _ I h) λc s1 ⟨H1,I1,q1⟩=>?_)
 cases c with
 | true=>exact ⟨H1,I1,q1⟩
 | false=>exact hb wh pins s1 σ H1 Q I1 q1
theorem anu(ha:PT X a tA):PT X (.UnaryOp .Not a pos) (avu tA):=by
 intro pins s σ H Q I h
 exact isTrue_not (ha pins s σ H (λc H1=>Q (!c) H1) I h)
def ass(ta tb:TE):TE:=λσ H Q=>ta σ H λx H1=>∃ c,x = .bl c/\if c=true then tb σ H1 Q else Q (.bl false) H1
def avv(ta tb:TE):TE:=λσ H Q=>ta σ H λx H1=>∃ c,x = .bl c/\if c=true then Q (.bl true) H1 else tb σ H1 Q
def asu(ta:TE):TE:=λσ H Q=>ta σ H λx H1=>∃ c,x = .bl c/\Q (.bl (!c)) H1
theorem anv{op}{t:TE}(h:PE X a t):PE X (.BoolOp op [a] pos) t:=λpins s σ H Q I hw=>BoolOp_one (h pins s σ H Q I hw)
theorem anw(ha:PE X a ta)(hb:PE X (.BoolOp .And (b::rest) pos) tb):PE X (.BoolOp .And (a::b::rest) pos) (ass ta tb):=by
 intro pins s σ H Q I h
 refine BoolOp_and (thn (ha pins s σ H _ I h) λv s1 ⟨x,H1,I1,r1,q1⟩=>?_);obtain ⟨c,rfl,q1⟩:=q1;cases r1
 refine wpAny_truthy_bool ?_
 cases c with
 | true=>exact hb pins s1 σ H1 Q I1 q1
 | false=>exact ⟨.bl false,H1,I1,rfl,q1⟩
theorem asv(ha:PE X a ta)(hb:PE X (.BoolOp .Or (b::rest) pos) tb):PE X (.BoolOp .Or (a::b::rest) pos) (avv ta tb):=by
 intro pins s σ H Q I h
 refine BoolOp_or (thn (ha pins s σ H _ I h) λv s1 ⟨x,H1,I1,r1,q1⟩=>?_);obtain ⟨c,rfl,q1⟩:=q1;cases r1
 refine wpAny_truthy_bool ?_
 cases c with
 | false=>exact hb pins s1 σ H1 Q I1 q1
 | true=>exact ⟨.bl true,H1,I1,rfl,q1⟩
theorem anx(ha:PE X a ta):PE X (.UnaryOp .Not a pos) (asu ta):=by
 intro pins s σ H Q I h
 refine UnaryOp_ (thn (ha pins s σ H _ I h) λv s1 ⟨x,H1,I1,r1,q1⟩=>?_);obtain ⟨c,rfl,q1⟩:=q1;cases r1
 exact not_of (wpAny_truthy_bool ⟨.bl (!c),H1,I1,rfl,q1⟩)
def tIf(t:TT)(ta tb:TE):TE:=λσ H Q=>t σ H λc H1=>if c=true then ta σ H1 Q else tb σ H1 Q
theorem afz{c:Expr}(hc:PT X c tA)(ha:PE X a ta)(hb:PE X b tb):PE X (.IfExp c a b pos) (tIf tA ta tb):=by
 intro pins s σ H Q I h
 refine wpAny_IfExp (thn (hc pins s σ H _ I h) λd s1 ⟨H1,I1,q1⟩=>?_)
 cases d with
 | true=>exact ha pins s1 σ H1 Q I1 q1
 | false=>exact hb pins s1 σ H1 Q I1 q1
end
def SqL(K:PySem.W.Frag)(H:Hp)(a:Addr)(xs:List V):Prop :=
 Rd H a (.lst xs) \/
  ∃ (o:Obj) (its:Array Value) (n:Nat),K.lookup a=some o/\o.cls = .type "list"/\o.dict=none/\o.data = .seq its n/\its.size<=sizeLine/\Vals xs its.toList
def SqT(K:PySem.W.Frag)(H:Hp)(a:Addr)(xs:List V):Prop :=
 Rd H a (.tup xs) \/
  ∃ (o:Obj) (its:Array Value) (n:Nat),K.lookup a=some o/\o.cls = .type "tuple"/\o.data = .seq its n/\its.size<=sizeLine/\Vals xs its.toList
def avw:Value->Option V
 | .none=>some .non
 | .bool b=>some (.bl b)
 | .int i _=>some (.int i)
 | .str x _=>some (.str x)
 | .bytes b _=>some (.byt b)
 | .float b _=>some (.flt b)
 | .ref a=>some (.ref a)
 | .type n=>some (.ty n)
 | _=>none
theorem RelV.abs{x:V}{u:Value}(r:RelV x u):avw u=some x:=by
 cases x with
 | non=>cases r;rfl
 | bl _=>cases r;rfl
 | int _=>obtain ⟨t,rfl⟩:=r;rfl
 | str _=>obtain ⟨t,rfl⟩:=r;rfl
 | byt _=>obtain ⟨t,rfl⟩:=r;rfl
 | flt _=>obtain ⟨t,rfl⟩:=r;rfl
 | ref _=>cases r;rfl
 | ty _=>cases r;rfl
theorem RelV.inj{x y:V}{u:Value}(r:RelV x u)(q:RelV y u):x=y:=Option.some.inj (r.abs.symm.trans q.abs)
theorem Vals.inj:∀ {xs ys:List V} {us:List Value},Vals xs us->Vals ys us->xs=ys
 | _,_,_, .nil, .nil=>rfl
 | _,_,_, .cons r t, .cons r' t'=>by rw [r.inj r',Vals.inj t t']
section
variable{X:Cx}{pins:List (Addr × Obj)}{σ:St}{H:Hp}{s:Shared}{a:Addr}{xs ys:List V}
theorem SqL.of{K:PySem.W.Frag}(h:H a=some (.lst xs)):SqL K H a xs:=.inl (.inl h)
theorem SqT.of{K:PySem.W.Frag}(h:H a=some (.tup xs)):SqT K H a xs:=.inl (.inl h)
theorem Inv.list(I:Inv X pins σ H s)(h:SqL X.K H a xs):∃ its:List Value,Vals xs its/\PlainL s.heap a its.toArray/\xs.length<=sizeLine:=by
 rcases h with h | ⟨o,its,n,hk,hc,hd,hs,hz,r⟩
 ·obtain ⟨z,its,n,r,e⟩:=h.ok I.hok;exact ⟨its,r,⟨_,n,e,rfl,rfl,rfl⟩,z⟩
 ·refine ⟨its.toList,r,⟨o,n,I.kIn a o hk,hc,hd,by simpa using hs⟩,?_⟩
  have e:=r.length;simp only [Array.length_toList] at e;omega
theorem Inv.tuple(I:Inv X pins σ H s)(h:SqT X.K H a xs):∃ its:List Value,Vals xs its/\IsTup s.heap a its.toArray/\xs.length<=sizeLine:=by
 rcases h with h | ⟨o,its,n,hk,hc,hs,hz,r⟩
 ·obtain ⟨z,its,r,p⟩:=h.ok I.hok;exact ⟨its,r,p,z⟩
 ·refine ⟨its.toList,r,⟨o,I.kIn a o hk,hc,n,by simpa using hs⟩,?_⟩
  have e:=r.length;simp only [Array.length_toList] at e;omega
theorem Inv.list_inj(I:Inv X pins σ H s)(h:SqL X.K H a xs)(h':SqL X.K H a ys):xs=ys:=by
 obtain ⟨its,r,⟨o,n,e,_,_,d⟩,_⟩:=I.list h;obtain ⟨its',r',⟨o',n',e',_,_,d'⟩,_⟩:=I.list h';rw [e] at e';cases e'
 rw [d] at d'
 injection d' with d1 _
 have:its=its':=by simpa using congrArg Array.toList d1
 subst this;exact r.inj r'
theorem Inv.tuple_inj(I:Inv X pins σ H s)(h:SqT X.K H a xs)(h':SqT X.K H a ys):xs=ys:=by
 obtain ⟨its,r,⟨o,e,_,n,d⟩,_⟩:=I.tuple h;obtain ⟨its',r',⟨o',e',_,n',d'⟩,_⟩:=I.tuple h';rw [e] at e';cases e'
 rw [d] at d'
 injection d' with d1 _
 have:its=its':=by simpa using congrArg Array.toList d1
 subst this;exact r.inj r'
end
abbrev Cx.wish(X:Cx)(E:Value->Shared->Prop):Cx:={ X with xe:=E }
abbrev Cx.nox(X:Cx):Cx:=X.wish λ_ _=>False
theorem Cx.Ok.wish{X:Cx}(ok:X.Ok)(E:Value->Shared->Prop):(X.wish E).Ok :=
 ⟨ok.mod,ok.kind,ok.glob,ok.blt,ok.above,ok.inj,ok.has,ok.cab,ok.hd,ok.frames,ok.stk,ok.exf,ok.bs,ok.bsz,ok.noex,ok.exfs,ok.funs,ok.frf⟩
theorem Cx.Ok.unwish{X:Cx}{E:Value->Shared->Prop}(ok:(X.wish E).Ok):X.Ok :=
 ⟨ok.mod,ok.kind,ok.glob,ok.blt,ok.above,ok.inj,ok.has,ok.cab,ok.hd,ok.frames,ok.stk,ok.exf,ok.bs,ok.bsz,ok.noex,ok.exfs,ok.funs,ok.frf⟩
section
variable{X:Cx}{pins:List (Addr × Obj)}{σ:St}{H:Hp}{s:Shared}{E:Value->Shared->Prop}
theorem Inv.wish(I:Inv X pins σ H s)(E:Value->Shared->Prop):Inv (X.wish E) pins σ H s:=⟨I.ok.wish E,I.os,I.bare,I.base,I.loc,I.cell,I.free,I.freeC,I.pin,I.hok,I.len⟩
theorem Inv.unwish(I:Inv (X.wish E) pins σ H s):Inv X pins σ H s:=⟨I.ok.unwish,I.os,I.bare,I.base,I.loc,I.cell,I.free,I.freeC,I.pin,I.hok,I.len⟩
theorem SP.unwish{D:Ends}{f:Flow}{s':Shared}(h:SP (X.wish E) pins D f s'):SP X pins D f s':=by
 cases f with
 | next=>obtain ⟨σ',H',I,q⟩:=h;exact ⟨σ',H',I.unwish,q⟩
 | brk=>obtain ⟨σ',H',I,q⟩:=h;exact ⟨σ',H',I.unwish,q⟩
 | cont=>obtain ⟨σ',H',I,q⟩:=h;exact ⟨σ',H',I.unwish,q⟩
 | ret u=>obtain ⟨v,σ',H',I,r,q⟩:=h;exact ⟨v,σ',H',I.unwish,r,q⟩
theorem PSs.nox{st:List Stmt}{t:TS}(h:PSs X.nox st t):PSs X st t:=λpins s σ H D I hw =>
 wpAny_mono (h pins s σ H D (I.wish _) hw) (λ_ _ q=>q.unwish) λ_ _ z=>False.elim z
end
section
variable{X:Cx}{st:Stmt}{rest:List Stmt}{t u:TS}{e:Expr}{te:TE}{pos:Pos}
def asw:TS:=λD σ H=>D.nx σ H
def avx(t u:TS):TS:=λD σ H=>t { D with nx:=u D } σ H
theorem akb:PSs X [] asw:=λ_ _ σ H _ I h=>wpAny_execs_nil ⟨σ,H,I,h⟩
theorem ag0(h1:PS X st t)(h2:PSs X rest u):PSs X (st::rest) (avx t u):=by
 intro pins s σ H D I h
 refine wpAny_execs_cons (thn (h1 pins s σ H { D with nx:=u D } I h) λf s1 q=>?_)
 cases f with
 | next =>
  obtain ⟨σ',H',I',q⟩:=q;exact h2 pins s1 σ' H' D I' q
 | ret v=>exact q
 | brk=>exact q
 | cont=>exact q
theorem akc(h1:PS X st t):PSs X [st] t:=by
 intro pins s σ H D I h
 refine wpAny_execs_cons (thn (h1 pins s σ H D I h) λf s1 q=>?_)
 cases f with
 | next=>exact wpAny_execs_nil q
 | ret v=>exact q
 | brk=>exact q
 | cont=>exact q
theorem Inv.quiet{pins:List (Addr × Obj)}{σ:St}{H:Hp}{s:Shared}(I:Inv X pins σ H s):interactive X.env=false:=by simp [interactive,I.ok.kind]
def asx(te:TE):TS:=λD σ H=>te σ H λ_ H1=>D.nx σ H1
theorem akd(he:PE X e te)(hs:swapsWith e none pos.line X.env=pure false:=by rfl):PS X (.Expr e pos) (asx te):=by
 intro pins s σ H D I h
 exact wpAny_Expr_any (thn (he pins s σ H _ I h) λv s1 ⟨x,H1,I1,r1,q1⟩=>⟨σ,H1,I1,q1⟩) I.quiet hs
def avy(te:TE):TS:=λD σ H=>te σ H D.rt
theorem anz(he:PE X e te):PS X (.Return (some e) pos) (avy te):=by
 intro pins s σ H D I h
 exact wpAny_Return_some (thn (he pins s σ H _ I h) λv s1 ⟨x,H1,I1,r1,q1⟩=>⟨x,σ,H1,I1,r1,q1⟩)
def avz(c:TT)(t u:TS):TS:=λD σ H=>c σ H λb H1=>if b=true then t D σ H1 else u D σ H1
theorem asy{c:Expr}{a b:List Stmt}{tc:TT}(hc:PT X c tc)(ha:PSs X a t)(hb:PSs X b u):PS X (.If c a b pos) (avz tc t u):=by
 intro pins s σ H D I h
 refine wpAny_If (thn (hc pins s σ H _ I h) λd s1 ⟨H1,I1,q1⟩=>?_)
 cases d with
 | true=>exact ha pins s1 σ H1 D I1 q1
 | false=>exact hb pins s1 σ H1 D I1 q1
end
abbrev TG:=V->St->Hp->(St->Hp->Prop)->Prop
abbrev TGs:=List V->St->Hp->(St->Hp->Prop)->Prop
def PG(X:Cx)(target:Expr)(t:TG):Prop :=
 ∀ (pins:List (Addr × Obj)) (s:Shared) (σ:St) (H:Hp) (v:V) (u:Value) (Q:St->Hp->Prop),Inv X pins σ H s->RelV v u->t v σ H Q->
  wpAny (model X.prog X.w) X.A (assign target X.env u) (λ_ s'=>∃ σ' H',Inv X pins σ' H' s'/\Q σ' H') X.xe s
def PGs(X:Cx)(ts:List Expr)(t:TGs):Prop :=
 ∀ (pins:List (Addr × Obj)) (s:Shared) (σ:St) (H:Hp) (vs:List V) (us:List Value) (Q:St->Hp->Prop),Inv X pins σ H s->Vals vs us->t vs σ H Q->
  wpAny (model X.prog X.w) X.A (assignInOrder ((assignEach ts X.env).map (·.2)) us) (λ_ s'=>∃ σ' H',Inv X pins σ' H' s'/\Q σ' H') X.xe s
abbrev asz:=V->V->V->Hp->(Hp->Prop)->Prop
def auk(X:Cx)(t:asz):Prop :=
 ∀ (pins:List (Addr × Obj)) (s:Shared) (σ:St) (H:Hp) (o i v:V) (ov iv u:Value) (Q:Hp->Prop),Inv X pins σ H s->RelV o ov->RelV i iv->RelV v u->t o i v H Q->
  wpAny (model X.prog X.w) X.A (setItem ov iv u) (λ_ s'=>∃ H',Inv X pins σ H' s'/\Q H') X.xe s
section
variable{X:Cx}{pos:Pos}
def a6k(i:Nat):TG:=λv σ H Q=>Q (σ.set i (some v)) H
theorem vh{i:Nat}{x:Str}(hN:X.N.Nodup)(hi:X.N[i]? = some x)(hx:Loc X.env.scope x)(hf:X.fn x=true\/X.env.scope.names.lookup x=some .local:=by first | exact .inl rfl | exact .inr rfl | assumption):PG X (.Name x pos) (a6k i):=by
 intro pins s σ H v u Q I r h
 exact wpAny_assign_Name (a6j I hN hi hx r (λs' I'=>⟨_,H,I',h⟩) hf)
def aul:TGs:=λvs σ H Q=>vs=[]/\Q σ H
def acf(t:TG)(u:TGs):TGs:=λvs σ H Q=>∃ v r,vs=v::r/\t v σ H λσ' H'=>u r σ' H' Q
theorem acg:PGs X [] aul:=by
 intro pins s σ H vs us Q I r h
 obtain ⟨e,h⟩:=h;subst e;cases r
 exact assignInOrder_nil ⟨σ,H,I,h⟩
theorem a3w{e:Expr}{es:List Expr}{t:TG}{u:TGs}(h1:PG X e t)(h2:PGs X es u)
  (hs:(assignEach (e::es) X.env).map (·.2)=assign e X.env::(assignEach es X.env).map (·.2):=by rfl):PGs X (e::es) (acf t u):=by
 intro pins s σ H vs us Q I r h
 obtain ⟨v,vr,e1,h⟩:=h;subst e1
 cases r with
 | cons r rr =>
  rw [hs];refine assignInOrder_cons (thn (h1 pins s σ H _ _ _ I r h) λ_ s1 ⟨σ1,H1,I1,q1⟩=>?_);exact h2 pins s1 σ1 H1 _ _ Q I1 rr q1
def qp(K:PySem.W.Frag)(n:Nat)(t:TGs):TG:=λv σ H Q=>∃ a xs,v = .ref a/\SqT K H a xs/\xs.length=n/\t xs σ H Q
theorem aix{es:List Expr}{k:Nat}{t:TGs}{n:Nat}(hc:X.calm=true)(h:PGs X es t)
  (hn:(assignEach es X.env).length=n:=by rfl) (hst:(assignEach es X.env).findIdx? (·.1)=none:=by rfl):PG X (.Tuple es k pos) (qp X.K n t):=by
 intro pins s σ H v u Q I r hw
 obtain ⟨a,xs,e1,hq,hl,hw⟩:=hw;subst e1;cases r
 obtain ⟨its,rv,ht,hz⟩:=I.tuple hq;refine assign_Tuple_tuple (I.ok.hd hc) ht (by simp [hn,<-hl,rv.length]) hst λh' hx=>?_
 have I1:Inv X pins σ H { s with heap:=h' }:=I.kept (t':=s.toks) λb o e=>hx b o (Nat.ne_of_lt (Heap.lt_size e)) e
 exact h pins _ σ H xs _ Q I1 (by simpa using rv) hw
def ac3(to ti:TE)(t:asz):TG:=λv σ H Q=>to σ H λo H1=>ti σ H1 λi H2=>t o i v H2 λH3=>Q σ H3
theorem ao0{o i:Expr}{to ti:TE}{t:asz}(ho:PE X o to)(hi:PE X i ti)(hs:auk X t)
  (ha:∀ v,assign (.Subscript o i pos) X.env v=(do
   let ov <-holding [v] (eval o X.env)
   let iv <-holding [v,ov] (eval i X.env)
   standAt pos
   holding [v,ov,iv] (setItem ov iv v)
   release [v,ov,iv] []):=by intro _;rfl):PG X (.Subscript o i pos) (ac3 to ti t):=by
 intro pins s σ H v u Q I r h
 rw [ha];refine wpAny_bind (wpAny_holding (thn (ho pins s σ H _ I h) λov s1 ⟨x,H1,I1,r1,q1⟩=>?_));refine wpAny_bind (wpAny_holding (thn (hi pins s1 σ H1 _ I1 q1) λiv s2 ⟨y,H2,I2,r2,q2⟩=>?_));refine wpAny_bind (wpAny_standAt (wpAny_bind (wpAny_holding (thn (hs pins s2 σ H2 x y v ov iv u _ I2 r1 r2 r q2) λ_ s3 ⟨H3,I3,q3⟩=>?_))));exact wpAny_release ⟨σ,H3,I3,q3⟩
def as8(te:TE)(g:TG):TS:=λD σ H=>te σ H λx H1=>g x σ H1 D.nx
theorem aiy{tg e:Expr}{te:TE}{g:TG}(he:PE X e te)(hg:PG X tg g)(hs:swapsWithSole [tg] e pos.line X.env=pure false:=by rfl)(hw:swappedStores [tg] e X.env=pure none:=by rfl)
  (h1:(assignEach [tg] X.env).map (·.2)=[assign tg X.env]:=by rfl):PS X (.Assign [tg] e pos) (as8 te g):=by
 intro pins s σ H D I h
 refine wpAny_Assign_stores (thn (he pins s σ H _ I h) λv s1 ⟨x,H1,I1,r1,q1⟩=>?_) hs hw;rw [h1];exact thn (hg pins s1 σ H1 x v _ I1 r1 q1) λ_ s2 q=>q
theorem ao1{i:Nat}{x:Str}{e:Expr}{te:TE}{pos':Pos}(hN:X.N.Nodup)(hi:X.N[i]? = some x)(hx:Loc X.env.scope x)(he:PE X e te)(hs:swapsWith e (some (.Name x pos')) pos.line X.env=pure false:=by rfl)(hf:X.fn x=true\/X.env.scope.names.lookup x=some .local:=by first | exact .inl rfl | exact .inr rfl | assumption) :
  PS X (.Assign [.Name x pos'] e pos) (as8 te (a6k i)):=by
 intro pins s σ H D I h
 refine wpAny_Assign_Name (thn (he pins s σ H _ I h) λv s1 ⟨y,H1,I1,r1,q1⟩=>?_) hs;exact a6j I1 hN hi hx r1 (λs2 I2=>⟨_,H1,I2,q1⟩) hf
end
section
variable{X:Cx}{pos:Pos}
def ao2(c:TT)(tb:TS):TS:=λD σ H=>∃ W:Nat->St->Hp->Prop,(∃ m,W m σ H)/\∀ m σ H,W m σ H->
 c σ H λb H1=>if b=true then ∃ N:St->Hp->Prop,(∀ σ' H',N σ' H'->∃ m',m'<m/\W m' σ' H')/\tb { D with nx:=N,ct:=N,bk:=D.nx } σ H1 else D.nx σ H1
theorem ag1{c:Expr}{body:List Stmt}{tc:TT}{tb:TS}(hp:PassesOwn (model X.prog X.w) X.A X.env X.xe)(hc:PT X c tc)(hb:PSs X body tb):PS X (.While c body [] pos) (ao2 tc tb):=by
 intro pins s σ H D I h
 obtain ⟨W,⟨m0,w0⟩,turn⟩:=h;refine wpAny_While (codeAny_whileLoop (λn s'=>∃ σ' H',Inv X pins σ' H' s'/\W n σ' H') ?_ m0 ⟨σ,H,I,w0⟩)
 rintro n s1 ⟨σ1,H1,I1,w1⟩
 refine wpAny_passesOwn hp (thn (hc pins s1 σ1 H1 _ I1 (turn n σ1 H1 w1)) λb s2 ⟨H2,I2,q2⟩=>?_)
 cases b with
 | true =>
  obtain ⟨N,hN,q2⟩:=q2;rw [if_pos rfl];refine wpAny_passesOwn hp (thn (hb pins s2 σ1 H2 _ I2 q2) λf s3 q3=>?_)
  cases f with
  | next =>
   obtain ⟨σ3,H3,I3,n3⟩:=q3;obtain ⟨m',hm,w3⟩:=hN σ3 H3 n3;exact ⟨m',hm,σ3,H3,I3,w3⟩
  | cont =>
   obtain ⟨σ3,H3,I3,n3⟩:=q3;obtain ⟨m',hm,w3⟩:=hN σ3 H3 n3;exact ⟨m',hm,σ3,H3,I3,w3⟩
  | brk=>exact q3
  | ret v=>exact q3
 | false =>
  rw [if_neg Bool.false_ne_true];exact wpAny_execs_nil ⟨σ1,H2,I2,q2⟩
end
structure It where
 go:Nat->Hp->Prop
 yld:Nat->Hp->V->Hp->Prop
 stop:Nat->Hp->Prop
def a8z(X:Cx)(pins:List (Addr × Obj))(H:Hp)(b:Addr):Prop :=
 H b=none/\b≠X.env.locals/\b ∉ X.fs/\(b∈X.ex\/X.s₀.heap.objs.size<=b)/\(∀ x c,X.env.cells.lookup x=some c->c≠b)/\∀ p∈X.pn++pins,p.1≠b
theorem Inv.fpOk{X:Cx}{pins:List (Addr × Obj)}{σ:St}{H H':Hp}{s:Shared}{b:Addr}(I:Inv X pins σ H s)(hb:s.heap.objs.size<=b)(hn:H' b=none):a8z X pins H' b:=by
 refine ⟨hn,Nat.ne_of_gt (Nat.lt_of_lt_of_le I.lt hb),I.nofs hb, .inr (Nat.le_trans I.sz hb),λx c e z=>?_,λp hp z=>?_⟩
 ·obtain ⟨v,q⟩:=I.cell x c e;exact absurd (Nat.lt_of_lt_of_le q.lt (by rw [z];exact hb)) (Nat.lt_irrefl _)
 ·exact absurd (Nat.lt_of_lt_of_le (Heap.lt_size (I.pin p hp).1) (by rw [z];exact hb)) (Nat.lt_irrefl _)
structure Turn (P:Program) (w:World) (K:PySem.W.Frag) (tg:Expr) (J:It) (fp:List Addr) (it:Addr) (tn:Nat->Heap->Prop):Prop where
 mem:it∈fp
 obj:∀ i h,tn i h->∀ b∈fp,∃ o,h.get? b=some o/\∀ v,o.data≠.cell v
 keep:∀ i h h',tn i h->(∀ b∈fp,∀ o,h.get? b=some o->h'.get? b=some o)->tn i h'
 item:∀ (X:Cx),X.prog=P->X.w=w->X.K=K->X.calm=true->∀ (i:Nat) (pins:List (Addr × Obj)) (s:Shared) (σ:St) (H:Hp) (E:Value->Shared->Prop),Inv X pins σ H s->(∀ b∈fp,a8z X pins H b)->tn i s.heap->J.go i H->
  wpAny (model P w) X.A (pyNext (.ref it)) (λr s1=>∃ u,r=some u /\
   wpAny (model P w) X.A (letOwnedTupleGo tg (.ref it) u) (λ_ s2=>∃ x H',Inv X pins σ H' s2/\RelV x u/\J.yld i H x H'/\tn (i+1) s2.heap/\∀ b∈fp,H' b=none) E s1) E s
 done:∀ (X:Cx),X.prog=P->X.w=w->X.K=K->X.calm=true->∀ (i:Nat) (pins:List (Addr × Obj)) (s:Shared) (σ:St) (H:Hp) (E:Value->Shared->Prop),Inv X pins σ H s->(∀ b∈fp,a8z X pins H b)->tn i s.heap->J.stop i H->
  wpAny (model P w) X.A (pyNext (.ref it)) (λr s1=>r=none/\Inv X pins σ H s1) E s
 self:∀ (A:Around) (i:Nat) (s:Shared) (Q:Value->Shared->Prop) (E:Value->Shared->Prop),tn i s.heap->Q (.ref it) s->wpAny (model P w) A (pyIter (.ref it)) Q E s
abbrev TI:=St->Hp->(It->Hp->Prop)->Prop
def PIE(X:Cx)(pins:List (Addr × Obj))(σ:St)(tg:Expr)(R:It->Hp->Prop)(itv:Value)(s2:Shared):Prop :=
 ∃ (it:Addr) (fp:List Addr) (tn:Nat->Heap->Prop) (J:It) (H':Hp),itv = .ref it/\Inv X pins σ H' s2/\Turn X.prog X.w X.K tg J fp it tn/\tn 0 s2.heap/\(∀ b∈fp,a8z X pins H' b)/\R J H'
def PI(X:Cx)(tg iter:Expr)(wi:TI):Prop :=
 ∀ (pins:List (Addr × Obj)) (s:Shared) (σ:St) (H:Hp) (R:It->Hp->Prop),Inv X pins σ H s->wi σ H R->
  wpAny (model X.prog X.w) X.A (eval iter X.env) (λv s1=>wpAny (model X.prog X.w) X.A (pyIter v) (PIE X pins σ tg R) X.xe s1) X.xe s
theorem ag2{M:Model}{A:Around}{E:Value->Shared->Prop}{s:Shared}{tg:Expr}{it:Addr}{u:Value}{o:Obj}{n:String}{vs:Array Value}{Q:Unit->Shared->Prop}(ho:s.heap.get? it=some o)(hc:o.cls = .type n)(hd:o.data = .fields vs)
  (hn:["enumerate", "zip", "dict_itemiterator", "dict_reverseitemiterator", "odict_iterator", "itertools.zip_longest", "itertools.pairwise"].contains n=false) (hQ:Q () s):wpAny M A (letOwnedTupleGo tg (.ref it) u) Q E s:=by
 unfold letOwnedTupleGo
 cases tg<;>first
  | exact wpAny_pure hQ
  | (cases u<;>first
    | exact wpAny_pure hQ
    | (refine wpAny_bind (wpAny_load ho ?_)
       rw [hc,hd];show wpAny M A (if (["enumerate", "zip", "dict_itemiterator", "dict_reverseitemiterator", "odict_iterator", "itertools.zip_longest", "itertools.pairwise"].contains n && vs[0]? == some (rawInt _))=true then _ else _) Q E s
       rw [if_neg (by intro h;rw [hn,Bool.false_and] at h;cases h)]
       exact wpAny_pure hQ))
def Itl(K:PySem.W.Frag)(a:Addr):It :=
 ⟨λi H=>∃ xs x,SqL K H a xs/\xs[i]? = some x,λi H x H'=>H'=H/\∀ xs,SqL K H a xs->xs[i]? = some x,λi H=>∃ xs,SqL K H a xs/\xs.length<=i⟩
def Itt(K:PySem.W.Frag)(a:Addr):It :=
 ⟨λi H=>∃ xs x,SqT K H a xs/\xs[i]? = some x,λi H x H'=>H'=H/\∀ xs,SqT K H a xs->xs[i]? = some x,λi H=>∃ xs,SqT K H a xs/\xs.length<=i⟩
def Itr(lo:Int)(n:Nat):It:=⟨λi _=>i<n,λi H x H'=>H'=H/\x = .int (lo+i),λi _=>n<=i⟩
theorem ach{P:Program}{w:World}{K:PySem.W.Frag}{tg:Expr}(a it:Addr):Turn P w K tg (Itl K a) [it] it (λi h=>h.IsListIter it a i) where
 mem:=by simp
 obj:=λi h st b hb=>by
  have e:b=it:=by simpa using hb
  subst e;obtain ⟨o,e,c,d⟩:=st;exact ⟨o,e,λv z=>by rw [d] at z;cases z⟩
 keep:=λi h h' st k=>st.at λo e=>k it (by simp) o e
 item:=by
  intro X hP hw hK hc i pins s σ H E I hf st hg
  subst hP hw hK;obtain ⟨xs,x,hq,hx⟩:=hg;obtain ⟨its,rv,p,hz⟩:=I.list hq;obtain ⟨u,hu,ru⟩:=rv.get hx;obtain ⟨f0,f1,f2,f3,f4,f5⟩:=hf it (by simp)
  refine wpAny_pyNext_list_item st p.isList (x:=u) (by simpa using hu) λh' st' sb=>?_
  have I1:Inv X pins σ H { s with heap:=h' }:=I.turned (t':=s.toks) (λb o hb e=>(sb.2 b hb).trans e) f0 f1 f3 f4 f5
  obtain ⟨o,e,c,d⟩:=id st';exact ⟨u,rfl,ag2 (s:={ s with heap:=h' }) e c d (by decide) ⟨x,H,I1,ru,⟨rfl,λys hy=>by rw [I.list_inj hy hq];exact hx⟩,st',λb hb=>(hf b hb).1⟩⟩
 done:=by
  intro X hP hw hK hc i pins s σ H E I hf st hg
  subst hP hw hK;obtain ⟨xs,hq,hx⟩:=hg;obtain ⟨its,rv,p,hz⟩:=I.list hq;obtain ⟨f0,f1,f2,f3,f4,f5⟩:=hf it (by simp)
  have hl:=rv.length;exact wpAny_pyNext_list_end (I.ok.hd hc) st p.isList (by simp;omega) λh' eb=>⟨rfl,I.turned (t':=s.toks) (λb o hb e=>eb b o hb e) f0 f1 f3 f4 f5⟩
 self:=λ_ _ _ _ _ st h=>wpAny_pyIter_listiter st h
theorem ab6{P:Program}{w:World}{K:PySem.W.Frag}{tg:Expr}(a it:Addr):Turn P w K tg (Itt K a) [it] it (λi h=>h.IsTupleIter it a i) where
 mem:=by simp
 obj:=λi h st b hb=>by
  have e:b=it:=by simpa using hb
  subst e;obtain ⟨o,e,c,d⟩:=st;exact ⟨o,e,λv z=>by rw [d] at z;cases z⟩
 keep:=λi h h' st k=>st.at λo e=>k it (by simp) o e
 item:=by
  intro X hP hw hK hc i pins s σ H E I hf st hg
  subst hP hw hK;obtain ⟨xs,x,hq,hx⟩:=hg;obtain ⟨its,rv,p,hz⟩:=I.tuple hq;obtain ⟨u,hu,ru⟩:=rv.get hx;obtain ⟨f0,f1,f2,f3,f4,f5⟩:=hf it (by simp)
  refine wpAny_pyNext_tuple_item st (show s.heap.IsTuple a its.toArray from p) (x:=u) (by simpa using hu) λh' st' sb=>?_
  have I1:Inv X pins σ H { s with heap:=h' }:=I.turned (t':=s.toks) (λb o hb e=>(sb.2 b hb).trans e) f0 f1 f3 f4 f5
  obtain ⟨o,e,c,d⟩:=id st';exact ⟨u,rfl,ag2 (s:={ s with heap:=h' }) e c d (by decide) ⟨x,H,I1,ru,⟨rfl,λys hy=>by rw [I.tuple_inj hy hq];exact hx⟩,st',λb hb=>(hf b hb).1⟩⟩
 done:=by
  intro X hP hw hK hc i pins s σ H E I hf st hg
  subst hP hw hK;obtain ⟨xs,hq,hx⟩:=hg;obtain ⟨its,rv,p,hz⟩:=I.tuple hq;obtain ⟨f0,f1,f2,f3,f4,f5⟩:=hf it (by simp)
  have hl:=rv.length;exact wpAny_pyNext_tuple_end (I.ok.hd hc) st (show s.heap.IsTuple a its.toArray from p) (by simp;omega) λh' eb=>⟨rfl,I.turned (t':=s.toks) (λb o hb e=>eb b o hb e) f0 f1 f3 f4 f5⟩
 self:=λ_ _ _ _ _ st h=>wpAny_pyIter_tupleiter st h
theorem ab7{P:Program}{w:World}{K:PySem.W.Frag}{tg:Expr}(it:Addr)(lo:Int)(n:Nat):Turn P w K tg (Itr lo n) [it] it (λi h=>IsRangeIter h it (lo+(i:Nat)*1) ((n:Int) - (i:Nat)) 1) where
 mem:=by simp
 obj:=λi h st b hb=>by
  have e:b=it:=by simpa using hb
  subst e;exact ⟨_,st,λv z=>by
   have z':Data.fields _=Data.cell v:=z
   cases z'⟩
 keep:=λi h h' st k=>k it (by simp) _ st
 item:=by
  intro X hP hw hK hc i pins s σ H E I hf st hg
  subst hP hw hK;obtain ⟨f0,f1,f2,f3,f4,f5⟩:=hf it (by simp)
  have W:=Walks.range (prog:=X.prog) (w:=X.w) (I.ok.hd hc) it lo 1 n;refine W.item i s _ _ hg st λv h' tk hv st' kk=>?_;obtain ⟨t,rfl⟩:=hv;have I1:Inv X pins σ H { s with heap:=h',toks:=tk }:=I.turned (λb o hb e=>kk b o (by simpa using hb) e) f0 f1 f3 f4 f5
  refine ⟨_,rfl,ag2 (s:={ s with heap:=h',toks:=tk }) (n := "range_iterator") st' rfl rfl (by decide) ⟨.int (lo+i),H,I1,⟨t,?_⟩,⟨rfl,rfl⟩,st',λb hb=>(hf b hb).1⟩⟩
  rw [Int.mul_one]
 done:=by
  intro X hP hw hK hc i pins s σ H E I hf st hg
  subst hP hw hK;obtain ⟨f0,f1,f2,f3,f4,f5⟩:=hf it (by simp)
  exact wpAny_pyNext_range_end (I.ok.hd hc) st (by have:n<=i:=hg;omega) λh' eb=>⟨rfl,I.turned (t':=s.toks) (λb o hb e=>eb b o hb e) f0 f1 f3 f4 f5⟩
 self:=λ_ _ _ _ _ st h=>wpAny_pyIter_rangeiter st h
section
variable{X:Cx}{tg:Expr}
def at5(K:PySem.W.Frag)(tl:TE):TI:=λσ H R=>tl σ H λx H1=>∃ a,x = .ref a/\(∃ xs,SqL K H1 a xs)/\R (Itl K a) H1
def aw0(K:PySem.W.Frag)(tl:TE):TI:=λσ H R=>tl σ H λx H1=>∃ a,x = .ref a/\(∃ xs,SqT K H1 a xs)/\R (Itt K a) H1
theorem aci{l:Expr}{tl:TE}(hl:PE X l tl):PI X tg l (at5 X.K tl):=by
 intro pins s σ H R I h
 refine thn (hl pins s σ H _ I h) λv s1 ⟨x,H1,I1,r1,q1⟩=>?_;obtain ⟨a,e,⟨xs,hq⟩,q⟩:=q1;subst e;cases r1
 obtain ⟨its,rv,p,hz⟩:=I1.list hq;refine wpAny_pyIter_list p.isList ?_;refine ⟨s1.heap.objs.size,[s1.heap.objs.size],_,_,H1,rfl,I1.kept (t':=s1.toks) λb o e=>Heap.get?_push_of_some _ e,ach a _,⟨_,Heap.get?_push_size _ rfl,rfl,rfl⟩,λb hb=>?_,q⟩;have e:b=s1.heap.objs.size:=by simpa using hb
 subst e;exact I1.fpOk (Nat.le_refl _) (I1.hok.fresh (Nat.le_refl _))
theorem ao3{l:Expr}{tl:TE}(hl:PE X l tl):PI X tg l (aw0 X.K tl):=by
 intro pins s σ H R I h
 refine thn (hl pins s σ H _ I h) λv s1 ⟨x,H1,I1,r1,q1⟩=>?_;obtain ⟨a,e,⟨xs,hq⟩,q⟩:=q1;subst e;cases r1
 obtain ⟨its,rv,p,hz⟩:=I1.tuple hq;refine wpAny_pyIter_tuple (show s1.heap.IsTuple a its.toArray from p) ?_
 refine ⟨s1.heap.objs.size,[s1.heap.objs.size],_,_,H1,rfl,I1.kept (t':=s1.toks) λb o e=>Heap.get?_push_of_some _ e,ab6 a _,⟨_,Heap.get?_push_size _ rfl,rfl,rfl⟩,λb hb=>?_,q⟩;have e:b=s1.heap.objs.size:=by simpa using hb
 subst e;exact I1.fpOk (Nat.le_refl _) (I1.hok.fresh (Nat.le_refl _))
theorem a9z{pins:List (Addr × Obj)}{σ:St}{H:Hp}{s:Shared}{R:It->Hp->Prop}{E:Value->Shared->Prop}{lo hi:Int}{t u v:Tok}{tk:Nat}(I:Inv X pins σ H s)(h1 : -(2 ^ 62)<=lo)(h2:lo<2 ^ 62)(h3 : -(2 ^ 62)<=hi)(h4:hi<2 ^ 62)
  (q:R (Itr lo (hi - lo).toNat) H):wpAny (model X.prog X.w) X.A (pyIter (.ref s.heap.objs.size)) (PIE X pins σ tg R) E { s with heap:=s.heap.push { cls:=.type "range",data:=.fields #[.int lo t, .int hi u, .int 1 v] },toks:=tk }:=by
 refine wpAny_pyIter_range (IsRange.new ..) (small_one h1 h2 h3 h4) ?_;have I1:Inv X pins σ H { s with heap:=s.heap.push { cls:=.type "range",data:=.fields #[.int lo t, .int hi u, .int 1 v] },toks:=tk }:=I.kept λb o e=>Heap.get?_push_of_some _ e
 refine ⟨(s.heap.push { cls:=.type "range",data:=.fields #[.int lo t, .int hi u, .int 1 v] }).objs.size,[(s.heap.push { cls:=.type "range",data:=.fields #[.int lo t, .int hi u, .int 1 v] }).objs.size],_,_,H,rfl,
  I1.kept (t':=tk) λb o e=>Heap.get?_push_of_some _ e,ab7 _ lo (hi - lo).toNat,?_,λb hb=>?_,q⟩
 ·have e1:lo+((0:Nat):Int)*1=lo:=by simp
  have e2:(((hi - lo).toNat:Nat):Int) - ((0:Nat):Int)=Builtin.Range.rangeSize lo hi 1:=by rw [rangeSize_one];split<;>omega
  show IsRangeIter _ _ (lo+((0:Nat):Int)*1) ((((hi - lo).toNat:Nat):Int) - ((0:Nat):Int)) 1;rw [e1,e2];exact Heap.get?_push_size _ rfl
 ·have e:b=(s.heap.push { cls:=.type "range",data:=.fields #[.int lo t, .int hi u, .int 1 v] }).objs.size:=by simpa using hb
  subst e;exact I1.fpOk (Nat.le_refl _) (I1.hok.fresh (Nat.le_refl _))
def at6(ta:TA):TI:=λσ H R=>ta σ H λvs H1=>∃ j:Int,vs=[.int j] /\ -(2 ^ 62)<=j/\j<2 ^ 62/\R (Itr 0 j.toNat) H1
def at7(ta:TA):TI:=λσ H R=>ta σ H λvs H1=>∃ i j:Int,vs=[.int i, .int j]/\(-(2 ^ 62)<=i/\i<2 ^ 62 /\ -(2 ^ 62)<=j/\j<2 ^ 62)/\R (Itr i (j - i).toNat) H1
theorem acj{a:Expr}{ta:TA}{p pos:Pos}(hg:Gl X "range")(hm:X.mg "range" = none)(ha:PA X [a] ta)(hs:starEach [a] X.env=[(false,eval a X.env)]:=by rfl):PI X tg (.Call (.Name "range" p) [a] [] pos) (at6 ta):=by
 intro pins s σ H R I h
 refine Call_ (a3f I hg hm boot_range (PyProof.Rows.callWith_type1 (thn (ha pos pins s σ H _ I h) λus s1 ⟨vs,H1,I1,r1,q1⟩=>?_) hs rfl));obtain ⟨j,e,q1,q2,q⟩:=q1;subst e
 cases r1 with
 | cons r rr =>
  cases rr
  obtain ⟨t,rfl⟩:=r;exact call_range_1 (a9z I1 (by omega) (by omega) q1 q2 (by simpa using q))
theorem ack{a b:Expr}{ta:TA}{p pos:Pos}(hg:Gl X "range")(hm:X.mg "range" = none)(ha:PA X [a,b] ta)(hs:starEach [a,b] X.env=[(false,eval a X.env),(false,eval b X.env)]:=by rfl)(hs2:starEach [b] X.env=[(false,eval b X.env)]:=by rfl) :
  PI X tg (.Call (.Name "range" p) [a,b] [] pos) (at7 ta):=by
 intro pins s σ H R I h
 refine Call_ (a3f I hg hm boot_range (PyProof.Rows.callWith_type1 (thn (ha pos pins s σ H _ I h) λus s1 ⟨vs,H1,I1,r1,q1⟩=>?_) (by rw [hs,hs2]) (by rw [hs2];rfl)))
 obtain ⟨i,j,e,⟨q1,q2,q3,q4⟩,q⟩:=q1;subst e
 cases r1 with
 | cons r rr =>
  cases rr with
  | cons r' rr =>
   cases rr
   obtain ⟨t,rfl⟩:=r;obtain ⟨t',rfl⟩:=r';exact call_range_2 (a9z I1 q1 q2 q3 q4 q)
def aw1(wi:TI)(g:TG)(tb:TS):TS:=λD σ H=>wi σ H λJ H1=>∃ W:Nat->Nat->St->Hp->Prop,(∃ m,W 0 m σ H1)/\∀ i m σ H,W i m σ H->
 (J.stop i H/\D.nx σ H)\/(J.go i H/\∃ N:St->Hp->Prop,(∀ σ' H',N σ' H'->∃ m',m'<m/\W (i+1) m' σ' H')/\∀ x H',J.yld i H x H'->g x σ H' λσ2 H2=>tb { D with nx:=N,ct:=N,bk:=D.nx } σ2 H2)
def a5w(fp:List Addr)(h:Heap):List (Addr × Obj):=fp.filterMap λb=>(h.get? b).map λo=>(b,o)
theorem uw{fp:List Addr}{h:Heap}{b:Addr}{o:Obj}(hb:b∈fp)(e:h.get? b=some o):(b,o)∈a5w fp h:=List.mem_filterMap.mpr ⟨b,hb,by rw [e];rfl⟩
theorem acl{fp:List Addr}{h:Heap}{p:Addr × Obj}(hp:p∈a5w fp h):p.1∈fp/\h.get? p.1=some p.2:=by
 obtain ⟨b,hb,e⟩:=List.mem_filterMap.mp hp
 cases q:h.get? b with
 | none=>rw [q] at e;cases e
 | some o =>
  rw [q] at e;have e':(b,o)=p:=Option.some.inj e;subst e';exact ⟨hb,q⟩
theorem Inv.pinned{pins:List (Addr × Obj)}{σ:St}{H:Hp}{s:Shared}{fp:List Addr}(I:Inv X pins σ H s)(hf:∀ b∈fp,a8z X pins H b)(ho:∀ b∈fp,∃ o,s.heap.get? b=some o/\∀ v,o.data≠.cell v):Inv X (pins++a5w fp s.heap) σ H s :=
 I.pins_of λp hp=>(List.mem_append.mp hp).elim (λz=>I.pin p (List.mem_append_right _ z)) λz=>by
  obtain ⟨hb,e⟩:=acl z;obtain ⟨f0,f1,f2,_⟩:=hf p.1 hb;obtain ⟨o,e',d⟩:=ho p.1 hb;rw [e] at e';cases e'
  exact ⟨e,f0,f1,f2,d⟩
theorem Inv.unpinned{pins pl:List (Addr × Obj)}{σ:St}{H:Hp}{s:Shared}(I:Inv X (pins++pl) σ H s):Inv X pins σ H s:=I.pins_of λp hp=>I.pin p (List.mem_append_right _ (List.mem_append_left _ hp))
theorem ao4{iter:Expr}{body:List Stmt}{wi:TI}{g:TG}{tb:TS}{pos:Pos}(hp:PassesOwn (model X.prog X.w) X.A X.env X.xe)(hc:X.calm=true)(hi:PI X tg iter wi)(hg:PG X tg g)(hb:PSs X body tb)
  (hs:∀ x,foldedSetIterable iter X.env x=pure x:=by intro _;rfl):PS X (.For tg iter body [] pos) (aw1 wi g tb):=by
 intro pins s σ H D I h
 refine wpAny_For (thn (hi pins s σ H _ I h) λv s1 h1=>thn h1 λitv s2 h2=>?_) hs;obtain ⟨it,fp,tn,J,H2,e,I2,T,st2,f2,W,⟨m0,w0⟩,turn⟩:=h2;subst e;have stat:∀ {H':Hp},(∀ b∈fp,H' b=none)->∀ b∈fp,a8z X pins H' b:=λhn b hb=>⟨hn b hb,(f2 b hb).2⟩;refine codeAny_forLoop_any (λn s'=>∃ i σ' H',Inv X pins σ' H' s'/\tn i s'.heap/\(∀ b∈fp,H' b=none)/\W i n σ' H') ?_ m0 ⟨0,σ,H2,I2,st2,λb hb=>(f2 b hb).1,w0⟩
 rintro n s3 ⟨i,σ3,H3,I3,st3,fr3,w3⟩
 rcases turn i n σ3 H3 w3 with ⟨stop,qn⟩ | ⟨go,N,hN,step⟩
 ·refine wpAny_passesOwn hp (thn (T.done X rfl rfl rfl hc i pins s3 σ3 H3 X.xe I3 (stat fr3) st3 stop) λr s4 ⟨hr,I4⟩=>?_);subst hr;exact wpAny_execs_nil ⟨σ3,H3,I4,qn⟩
 ·refine wpAny_passesOwn hp (thn (T.item X rfl rfl rfl hc i pins s3 σ3 H3 X.xe I3 (stat fr3) st3 go) λr s4 ⟨u,hr,h4⟩=>?_);subst hr;refine wpAny_passesOwn hp (thn h4 λ_ s5 ⟨x,H5,I5,r5,y5,st5,fr5⟩=>?_);have I5':=I5.pinned (stat fr5) (T.obj _ _ st5);refine wpAny_passesOwn hp (thn (hg _ s5 σ3 H5 x u _ I5' r5 (step x H5 y5)) λ_ s6 ⟨σ6,H6,I6,q6⟩=>?_);refine wpAny_passesOwn hp (thn (hb _ s6 σ6 H6 _ I6 q6) λf s7 q7=>?_);have again:∀ {σ7:St} {H7:Hp},Inv X (pins++a5w fp s5.heap) σ7 H7 s7->N σ7 H7->∃ m,m<n/\∃ i σ' H',Inv X pins σ' H' s7/\tn i s7.heap/\(∀ b∈fp,H' b=none)/\W i m σ' H':=λ{σ7 H7} I7 n7=>by
   obtain ⟨m',hm,w7⟩:=hN σ7 H7 n7;refine ⟨m',hm,i+1,σ7,H7,I7.unpinned,T.keep _ _ _ st5 λb hb o e=>(I7.pin (b,o) (List.mem_append_right _ (List.mem_append_right _ (uw hb e)))).1,λb hb=>?_,w7⟩;obtain ⟨o,e,d⟩:=T.obj _ _ st5 b hb;exact (I7.pin (b,o) (List.mem_append_right _ (List.mem_append_right _ (uw hb e)))).2.1
  cases f with
  | next=>obtain ⟨σ7,H7,I7,n7⟩:=q7;exact again I7 n7
  | cont=>obtain ⟨σ7,H7,I7,n7⟩:=q7;exact again I7 n7
  | brk=>obtain ⟨σ7,H7,I7,q7⟩:=q7;exact ⟨σ7,H7,I7.unpinned,q7⟩
  | ret v=>obtain ⟨x7,σ7,H7,I7,r7,q7⟩:=q7;exact ⟨x7,σ7,H7,I7.unpinned,r7,q7⟩
end
abbrev R2:=V->V->Hp->VK->Prop
def OpR(X:Cx)(f:Value->Value->Sem Value)(r:R2):Prop :=
 ∀ (pins:List (Addr × Obj)) (s:Shared) (σ:St) (H:Hp) (x y:V) (v u:Value) (Q:VK),Inv X pins σ H s->RelV x v->RelV y u->r x y H Q->
  wpAny (model X.prog X.w) X.A (f v u) (EP X pins σ Q) X.xe s
def UnR(X:Cx)(f:Value->Sem Value)(r:V->Hp->VK->Prop):Prop :=
 ∀ (pins:List (Addr × Obj)) (s:Shared) (σ:St) (H:Hp) (x:V) (v:Value) (Q:VK),Inv X pins σ H s->RelV x v->r x H Q->
  wpAny (model X.prog X.w) X.A (f v) (EP X pins σ Q) X.xe s
def CallR(X:Cx)(f:Value)(r:List V->Hp->VK->Prop):Prop :=
 ∀ (pins:List (Addr × Obj)) (s:Shared) (σ:St) (H:Hp) (xs:List V) (us:List Value) (Q:VK),Inv X pins σ H s->Vals xs us->r xs H Q->
  wpAny (model X.prog X.w) X.A (call f us) (EP X pins σ Q) X.xe s
def aw2(X:Cx)(r:V->Hp->(Bool->Hp->Prop)->Prop):Prop :=
 ∀ (pins:List (Addr × Obj)) (s:Shared) (σ:St) (H:Hp) (x:V) (v:Value) (Q:Bool->Hp->Prop),Inv X pins σ H s->RelV x v->r x H Q->
  wpAny (model X.prog X.w) X.A (truthy v) (TP X pins σ Q) X.xe s
def tOp(r:R2)(ta tb:TE):TE:=λσ H Q=>ta σ H λx H1=>tb σ H1 λy H2=>r x y H2 Q
def tUn(r:V->Hp->VK->Prop)(ta:TE):TE:=λσ H Q=>ta σ H λx H1=>r x H1 Q
def rI(C:Int->Int->Prop)(g:Int->Int->V):R2:=λx y H Q=>∃ i j,x = .int i/\y = .int j/\C i j/\Q (g i j) H
def rI0(g:Int->Int->V):R2:=λx y H Q=>∃ i j,x = .int i/\y = .int j/\Q (g i j) H
def rU(g:Int->V):V->Hp->VK->Prop:=λx H Q=>∃ i,x = .int i/\Q (g i) H
section
variable{X:Cx}{a b c:Expr}{ta tb tc:TE}{pos:Pos}
theorem at8(ha:PE X a ta)(hb:PE X b tb){pins:List (Addr × Obj)}{s:Shared}{σ:St}{H:Hp}{R:V->V->Hp->Prop}(I:Inv X pins σ H s)
  (h:ta σ H λx H1=>tb σ H1 λy H2=>R x y H2) {Q:Value->Shared->Prop} {f:Value->Value->Sem Value}
  (hf:∀ v u s2 x y H2,Inv X pins σ H2 s2->RelV x v->RelV y u->R x y H2->wpAny (model X.prog X.w) X.A (f v u) Q X.xe s2) :
  wpAny (model X.prog X.w) X.A (eval a X.env) (λv s₁=>wpAny (model X.prog X.w) X.A (eval b X.env) (λu s₂=>wpAny (model X.prog X.w) X.A (f v u) Q X.xe s₂) X.xe s₁) X.xe s:=by
 refine thn (ha pins s σ H _ I h) λv s1 ⟨x,H1,I1,r1,q1⟩=>?_;refine thn (hb pins s1 σ H1 _ I1 q1) λu s2 ⟨y,H2,I2,r2,q2⟩=>?_;exact hf v u s2 x y H2 I2 r1 r2 q2
theorem at9{op:Operator}{r:R2}(ho:OpR X (binaryOp op) r)(ha:PE X a ta)(hb:PE X b tb):PE X (.BinOp a op b pos) (tOp r ta tb):=by
 intro pins s σ H Q I h
 exact wpAny_BinOp (at8 ha hb I h λv u s2 x y H2 I2 rx ry q=>ho pins s2 σ H2 x y v u Q I2 rx ry q)
theorem ata{op:UnaryOp}{r:V->Hp->VK->Prop}(ho:UnR X (unaryOp op) r)(ha:PE X a ta):PE X (.UnaryOp op a pos) (tUn r ta):=by
 intro pins s σ H Q I h
 exact UnaryOp_ (thn (ha pins s σ H _ I h) λv s1 ⟨x,H1,I1,r1,q1⟩=>ho pins s1 σ H1 x v Q I1 r1 q1)
theorem opI{f:Value->Value->Sem Value}{C:Int->Int->Prop}{g:Int->Int->Int}
  (rule:∀ (i j:Int) (t u:Tok) (s:Shared) (Q:Value->Shared->Prop) (E:Value->Shared->Prop),C i j->Q (.int (g i j) s.toks) { s with toks:=s.toks+1 }->wpAny (model X.prog X.w) X.A (f (.int i t) (.int j u)) Q E s) :
  OpR X f (rI C λi j=>.int (g i j)):=by
 intro pins s σ H x y v u Q I rx ry h
 obtain ⟨i,j,rfl,rfl,hc,q⟩:=h;obtain ⟨t,rfl⟩:=rx;obtain ⟨t',rfl⟩:=ry;exact rule i j t t' s _ _ hc ⟨.int (g i j),H,I.tok _,⟨_,rfl⟩,q⟩
theorem aum{f:Value->Value->Sem Value}{g:Int->Int->Int}
  (rule:∀ (i j:Int) (t u:Tok) (s:Shared) (Q:Value->Shared->Prop) (E:Value->Shared->Prop),Q (.int (g i j) s.toks) { s with toks:=s.toks+1 }->wpAny (model X.prog X.w) X.A (f (.int i t) (.int j u)) Q E s) :
  OpR X f (rI0 λi j=>.int (g i j)):=by
 intro pins s σ H x y v u Q I rx ry h
 obtain ⟨i,j,rfl,rfl,q⟩:=h;obtain ⟨t,rfl⟩:=rx;obtain ⟨t',rfl⟩:=ry;exact rule i j t t' s _ _ ⟨.int (g i j),H,I.tok _,⟨_,rfl⟩,q⟩
theorem atb{f:Value->Value->Sem Value}{g:Int->Int->Bool}
  (rule:∀ (i j:Int) (t u:Tok) (s:Shared) (Q:Value->Shared->Prop) (E:Value->Shared->Prop),Q (.bool (g i j)) s->wpAny (model X.prog X.w) X.A (f (.int i t) (.int j u)) Q E s) :
  OpR X f (rI0 λi j=>.bl (g i j)):=by
 intro pins s σ H x y v u Q I rx ry h
 obtain ⟨i,j,rfl,rfl,q⟩:=h;obtain ⟨t,rfl⟩:=rx;obtain ⟨t',rfl⟩:=ry;exact rule i j t t' s _ _ ⟨.bl (g i j),H,I,rfl,q⟩
def aun(i j:Int):Prop:=0<j/\j<1073741824
def auo(i j:Int):Prop:=0<=j/\j<=1000000/\i.natAbs<2 ^ 64
def CMul(i j:Int):Prop:=(-(2 ^ 64)<i/\i<2 ^ 64)\/(-(2 ^ 64)<j/\j<2 ^ 64)
theorem CMul.ok{i j:Int}(h:CMul i j):IntMulOk i j:=by
 rcases h with ⟨h1,h2⟩ | ⟨h1,h2⟩
 ·exact .of_left (intBits_le_64 h1 h2)
 ·exact .of_right (intBits_le_64 h1 h2)
theorem ao5:OpR X (binaryOp .Add) (rI0 λi j=>.int (i+j)):=aum λ_ _ _ _ _ _ _ q=>add_int q
theorem ao6:OpR X (binaryOp .Sub) (rI0 λi j=>.int (i - j)):=aum λ_ _ _ _ _ _ _ q=>sub_int q
theorem aiz:OpR X (binaryOp .Mult) (rI CMul λi j=>.int (i*j)):=opI λ_ _ _ _ _ _ _ hc q=>mul_int q hc.ok
theorem ake:OpR X (binaryOp .FloorDiv) (rI aun λi j=>.int (i / j)):=opI λi j _ _ _ _ _ hc q=>by
 have h1:(0:Int)<j:=hc.1;have h2:j<1073741824:=hc.2;exact floordiv_int (by omega) (by rw [Int.fdiv_eq_ediv_of_nonneg i (by omega)];exact q) (.inl (PyProof.noPylong_small (by omega)))
theorem ao7:OpR X (binaryOp .Mod) (rI (λ_ j=>0<j) λi j=>.int (i % j)):=opI λi j _ _ _ _ _ hc q=>by
 have h1:(0:Int)<j:=hc;exact mod_int' (by omega) (by rw [Int.fmod_eq_emod_of_nonneg i (by omega)];exact q)
theorem ao8:OpR X (binaryOp .Pow) (rI auo λi j=>.int (i ^ j.toNat)):=opI λ_ _ _ _ _ _ _ hc q=>pow_int_small hc.1 hc.2.1 hc.2.2 q
theorem unI{f:Value->Sem Value}{g:Int->Int}
  (rule:∀ (i:Int) (t:Tok) (s:Shared) (Q:Value->Shared->Prop) (E:Value->Shared->Prop),Q (.int (g i) s.toks) { s with toks:=s.toks+1 }->wpAny (model X.prog X.w) X.A (f (.int i t)) Q E s) :
  UnR X f (rU λi=>.int (g i)):=by
 intro pins s σ H x v Q I rx h
 obtain ⟨i,rfl,q⟩:=h;obtain ⟨t,rfl⟩:=rx;exact rule i t s _ _ ⟨.int (g i),H,I.tok _,⟨_,rfl⟩,q⟩
theorem ao9:UnR X (unaryOp .USub) (rU λi=>.int (-i)):=unI λ_ _ _ _ _ q=>neg_int q
end
section
variable{X:Cx}{a b c:Expr}{ta tb tc:TE}{pos:Pos}
theorem a4m{pins:List (Addr × Obj)}{σ:St}{H:Hp}{s:Shared}{Q:VK}{k k':Bool}(I:Inv X pins σ H s)(q:Q (.bl k) H)(e:k=k'):EP X pins σ Q (.bool k') s:=by
 subst e;exact ⟨.bl k,H,I,rfl,q⟩
theorem a6l:OpR X (compareOp .Lt) (rI0 λi j=>.bl (decide (i<j))):=atb λ_ _ _ _ _ _ _ q=>lt_int q
theorem ag3:OpR X (compareOp .Gt) (rI0 λi j=>.bl (decide (j<i))):=atb λ_ _ _ _ _ _ _ q=>gt_int q
theorem aoa:OpR X (compareOp .GtE) (rI0 λi j=>.bl (decide (j<=i))):=atb λ_ _ _ _ _ _ _ q=>ge_int q
theorem uy:OpR X (compareOp .Lt) (λx y H Q=>∃ i j,x = .str i/\y = .str j/\Q (.bl (decide (i.cps.toList<j.cps.toList))) H):=by
 intro pins s σ H x y v u Q I rx ry h
 obtain ⟨i,j,rfl,rfl,q⟩:=h;obtain ⟨t,rfl⟩:=rx;obtain ⟨t',rfl⟩:=ry;exact lt_str (a4m I q rfl)
theorem acn:OpR X (compareOp .In) (λx y H Q=>∃ i j,x = .str i/\y = .str j/\Q (.bl (!(Builtin.Str.occurrences j i 0 j.length 1).isEmpty)) H):=by
 intro pins s σ H x y v u Q I rx ry h
 obtain ⟨i,j,rfl,rfl,q⟩:=h;obtain ⟨t,rfl⟩:=rx;obtain ⟨t',rfl⟩:=ry;exact in_str (a4m I q rfl)
theorem aco:OpR X (compareOp .Is) (λx y H Q=>y = .non/\Q (.bl (decide (x = .non))) H):=by
 intro pins s σ H x y v u Q I rx ry h
 obtain ⟨rfl,q⟩:=h;cases ry
 refine is_none_gen (a4m I q ?_)
 cases x<;>first
  | (cases rx;rfl)
  | (obtain ⟨t,rfl⟩:=rx;rfl)
theorem akf:OpR X (compareOp .IsNot) (λx y H Q=>y = .non/\Q (.bl (!decide (x = .non))) H):=by
 intro pins s σ H x y v u Q I rx ry h
 obtain ⟨rfl,q⟩:=h;cases ry
 refine isnot_none_gen (a4m I q ?_)
 cases x<;>first
  | (cases rx;rfl)
  | (obtain ⟨t,rfl⟩:=rx;rfl)
theorem a7x:OpR X (compareOp .NotIn) (λx y H Q=>∃ i j,x = .str i/\y = .str j/\Q (.bl (!(!(Builtin.Str.occurrences j i 0 j.length 1).isEmpty))) H):=by
 intro pins s σ H x y v u Q I rx ry h
 obtain ⟨i,j,rfl,rfl,q⟩:=h;obtain ⟨t,rfl⟩:=rx;obtain ⟨t',rfl⟩:=ry;exact notIn_str (a4m I q rfl)
theorem OpR.or{f:Value->Value->Sem Value}{r r':R2}(h:OpR X f r)(h':OpR X f r'):OpR X f (λx y H Q=>r x y H Q\/r' x y H Q):=by
 intro pins s σ H x y v u Q I rx ry q
 rcases q with q | q
 ·exact h pins s σ H x y v u Q I rx ry q
 ·exact h' pins s σ H x y v u Q I rx ry q
theorem jy(b:Expr){op:CmpOp}(h:op≠.In:=by decide)(h2:op≠.NotIn:=by decide):behindInMarks op b=false:=by
 have e1:(op == CmpOp.In)=false:=by cases op<;>first | rfl | exact absurd rfl h
 have e2:(op == CmpOp.NotIn)=false:=by cases op<;>first | rfl | exact absurd rfl h2
 cases b<;>simp [behindInMarks,e1,e2]
theorem akg{op:CmpOp}{r:R2}(ho:OpR X (compareOp op) r)(ha:PE X a ta)(hb:PE X b tb)(hm:behindInMarks op b=false):PE X (.Compare a [op] [b] pos) (tOp r ta tb):=by
 intro pins s σ H Q I h
 exact wpAny_Compare1 (at8 ha hb I h λv u s2 x y H2 I2 rx ry q=>ho pins s2 σ H2 x y v u Q I2 rx ry q) hm
def aob(t:TE):TT:=λσ H Q=>t σ H λx H'=>∃ k,x = .bl k/\Q k H'
theorem akh{op:CmpOp}{r:R2}(ho:OpR X (compareOp op) r)(ha:PE X a ta)(hb:PE X b tb)(hm:behindInMarks op b=false):PT X (.Compare a [op] [b] pos) (aob (tOp r ta tb)):=by
 intro pins s σ H Q I h
 refine wpAny_isTrue_Compare1 (thn (ha pins s σ H _ I h) λv s1 ⟨x,H1,I1,r1,q1⟩=>thn (hb pins s1 σ H1 _ I1 q1) λu s2 ⟨y,H2,I2,r2,q2⟩ =>
  thn (ho pins s2 σ H2 x y v u _ I2 r1 r2 q2) λc s3 ⟨z,H3,I3,r3,k,e,q3⟩=>?_) hm
 subst e;cases r3
 exact wpAny_truthy_bool ⟨H3,I3,q3⟩
def atc(K:PySem.W.Frag)(x:V)(H:Hp)(k:Bool):Prop :=
 match x with
 | .non=>k=false
 | .bl b=>k=b
 | .int i=>k=(i != 0)
 | .str y=>y.length<=sizeLine/\k=((y.length:Int) != 0)
 | .byt y=>y.size<=sizeLine/\k=((y.size:Int) != 0)
 | .ref p=>(∃ xs,SqL K H p xs/\k = !xs.isEmpty)\/(∃ xs,SqT K H p xs/\k = !xs.isEmpty)\/∃ kvs,H p=some (.dK kvs)/\k = !kvs.isEmpty
 | _=>False
theorem ab8{κ:Type}{kvs:List (κ × V)}{vs:List (κ × Value)}(r:KV kvs vs):(!vs.isEmpty) = !kvs.isEmpty:=by
 cases r<;>rfl
theorem a5x{xs:List V}{its:List Value}(r:Vals xs its):(!its.toArray.isEmpty) = !xs.isEmpty:=by
 cases r<;>simp
theorem a4n:(sizeLine:Nat)<2 ^ 63:=by rw [sizeLine_eq];decide
theorem aoc:aw2 X (λx H Q=>∃ k,atc X.K x H k/\Q k H):=by
 intro pins s σ H x v Q I rx h
 obtain ⟨k,e,q⟩:=h;have hl:=a4n;have hs:sizeLine=16777216:=sizeLine_eq
 cases x with
 | non =>
  cases rx
  have e':k=false:=e;subst e';exact truthy_none ⟨H,I,q⟩
 | bl b =>
  cases rx
  have e':k=b:=e;subst e';exact wpAny_truthy_bool ⟨H,I,q⟩
 | int i =>
  obtain ⟨t,rfl⟩:=rx;have e':k=(i != 0):=e;subst e';exact PySem.P.truthy_int ⟨H,I,q⟩
 | str y =>
  obtain ⟨t,rfl⟩:=rx;obtain ⟨hy,e'⟩:y.length<=sizeLine/\k=((y.length:Int) != 0):=e;subst e';exact PySem.P.truthy_str (by omega) ⟨H,I.tok _,q⟩
 | byt y =>
  obtain ⟨t,rfl⟩:=rx;obtain ⟨hy,e'⟩:y.size<=sizeLine/\k=((y.size:Int) != 0):=e;subst e';exact PySem.W.truthy_bytes (by omega) ⟨H,I.tok _,q⟩
 | ref p =>
  cases rx
  have e':(∃ xs,SqL X.K H p xs/\k = !xs.isEmpty)\/(∃ xs,SqT X.K H p xs/\k = !xs.isEmpty)\/∃ kvs,H p=some (.dK kvs)/\k = !kvs.isEmpty:=e
  rcases e' with ⟨xs,hx,e'⟩ | ⟨xs,hx,e'⟩ | ⟨kvs,hx,e'⟩
  ·subst e';obtain ⟨its,r,pl,hz⟩:=I.list hx;have hlen:=r.length;exact wpAny_truthy_list pl.isList (by simp only [List.size_toArray];omega) ⟨H,I.tok _,by rw [a5x r];exact q⟩
  ·subst e';obtain ⟨its,r,pl,hz⟩:=I.tuple hx;have hlen:=r.length;exact truthy_tuple pl (by simp only [List.size_toArray];omega) ⟨H,I.tok _,by rw [a5x r];exact q⟩
  ·subst e';obtain ⟨hz,hS,vs,r,m⟩:kvs.length<=sizeLine/\(p == sysModules)=false/\∃ vs,KV kvs vs/\s.heap.DictOf (a4l X.prog X.w) p vs:=I.hok p _ hx;have hlen:kvs.length=vs.length:=Paired.length r;exact wpAny_truthy_dict hS m (by omega) ⟨H,I.tok _,by rw [ab8 r];exact q⟩
 | _=>exact (show False from e).elim
theorem ag4(ha:PE X a ta)(he:∀ whole,isTrue a X.env whole=(do let v <-whole;standAt a.pos;holding [v] (truthy v))) :
  PT X a (λσ H Q=>ta σ H λx H'=>∃ k,atc X.K x H' k/\Q k H'):=by
 intro pins s σ H Q I h
 exact isTrue_plain (thn (ha pins s σ H _ I h) λv s1 ⟨x,H1,I1,r1,q1⟩=>aoc pins s1 σ H1 x v Q I1 r1 q1) (he _)
theorem ab9:OpR X (binaryOp .Add) (λx y H Q=>∃ i j,x = .str i/\y = .str j/\i.length+j.length<=sizeLine/\Q (.str (i++j)) H):=by
 intro pins s σ H x y v u Q I rx ry h
 obtain ⟨i,j,rfl,rfl,hz,q⟩:=h;obtain ⟨t,rfl⟩:=rx;obtain ⟨t',rfl⟩:=ry;exact add_str (λt' tk=>⟨.str (i++j),H,I.tok _,⟨_,rfl⟩,q⟩) hz
theorem vals1{x:V}{us:List Value}(r:Vals [x] us):∃ u,us=[u]/\RelV x u:=by
 cases r with
 | cons r1 r2=>cases r2;exact ⟨_,rfl,r1⟩
theorem vals2{x y:V}{us:List Value}(r:Vals [x,y] us):∃ u w',us=[u,w']/\RelV x u/\RelV y w':=by
 cases r with
 | cons r1 r2 =>
  cases r2 with
  | cons r3 r4=>cases r4;exact ⟨_,_,rfl,r1,r3⟩
theorem aa0:CallR X (.builtin "abs") (λxs H Q=>∃ i,xs=[.int i]/\Q (.int (if i<0 then -i else i)) H):=by
 intro pins s σ H xs us Q I r h
 obtain ⟨i,rfl,q⟩:=h;obtain ⟨u,rfl,t,rfl⟩:=vals1 r;exact call_abs_int λu tk=>⟨.int (if i<0 then -i else i),H,I.tok _,⟨_,rfl⟩,q⟩
theorem a4o(hc:X.calm=true):CallR X (.builtin "min") (λxs H Q=>∃ i j,xs=[.int i, .int j]/\Q (.int (if j<i then j else i)) H):=by
 intro pins s σ H xs us Q I r h
 obtain ⟨i,j,rfl,q⟩:=h;obtain ⟨u,w',rfl,⟨t,rfl⟩,⟨t',rfl⟩⟩:=vals2 r;refine min_two_ints (I.ok.hd hc) λh' tk k=>⟨_,H,I.kept k,?_,q⟩
 by_cases hj:j<i
 ·rw [if_pos hj,if_pos hj];exact ⟨_,rfl⟩
 ·rw [if_neg hj,if_neg hj];exact ⟨_,rfl⟩
theorem acp:CallR X (.type "int") (λxs H Q=>(∃ i,xs=[.int i]/\Q (.int i) H)\/∃ k,xs=[.bl k]/\Q (.int (if k then 1 else 0)) H):=by
 intro pins s σ H xs us Q I r h
 rcases h with ⟨i,rfl,q⟩ | ⟨k,rfl,q⟩
 ·obtain ⟨u,rfl,t,rfl⟩:=vals1 r;exact call_int_int ⟨.int i,H,I,⟨_,rfl⟩,q⟩
 ·obtain ⟨u,rfl,r1⟩:=vals1 r;cases r1
  exact call_int_bool ⟨.int (if k then 1 else 0),H,I.tok _,⟨_,rfl⟩,q⟩
end
structure ObjM (h:Heap) (x dx C:Addr) (mA:Str->Option Value):Prop where
 obj:h.get? x=some (PySem.W.instObj C dx)
 ns:h.Ns1 dx mA
 ne:dx≠x
theorem acq{h:Heap}{dx:Addr}{mA:Str->Option Value}(n:h.Ns1 dx mA):∃ od,h.get? dx=some od/\∀ name,PySem.W.lookIn name od=some (mA name):=by
 obtain ⟨o,es,ep,ho,hd,hk,_,hm⟩:=n;refine ⟨o,ho,λname=>?_⟩;have e:=hm name;unfold nsFind findBy at e;rw [<-Array.find?_toList] at e;unfold PySem.W.lookIn;rw [hd];dsimp only
 split
 ·rename_i y q;rw [q] at e;exact congrArg some e
 ·rename_i q;rw [q] at e;have a:es.toList.any (·.refKey)=false:=by
   rw [List.any_eq_false]
   intro y hy
   obtain ⟨z,t,hkey⟩:=hk y (Array.mem_toList_iff.mp hy);simp [DictEntry.refKey,hkey]
  have a':¬ es.toList.any (·.refKey)=true:=by rw [a];exact Bool.false_ne_true
  rw [if_neg a'];exact congrArg some e
theorem ObjM.look{h:Heap}{x dx C:Addr}{mA:Str->Option Value}(I:ObjM h x dx C mA):∃ od,PySem.W.InstAt h x (PySem.W.instObj C dx) C (some od)/\∀ name,PySem.W.lookIn name od=some (mA name) :=
 let ⟨od,ho,hl⟩:=acq I.ns
 ⟨od,⟨I.obj,rfl,rfl,ho⟩,hl⟩
section
variable{P:Program}{w:World}{H H':Hp}{h h':Heap}{a C dx:Addr}{fs fs':List (Str × V)}
theorem aki(hok:HOk P w H h)(e:H a=some (.ins C dx fs)):∃ mA,ObjM h a dx C mA/\(∀ f,asp (fs.lookup f) (mA f))/\PySem.Within mA (fs.map (·.1))/\fs.length<=1000/\H dx=some (.own a):=by
 obtain ⟨d,z,ne,ob,mA,n,r,q⟩:=(show ObjOk P w H h a (.ins C dx fs) from hok a _ e)
 exact ⟨mA,⟨ob,n,ne⟩,r,q,z,d⟩
end
structure Cls (K:PySem.W.Frag) (C:Addr):Prop where
 pg:PySem.W.plainGet K C Str.empty=true
 hd:PySem.W.hasDictIn K C=true
 po:PySem.W.plainOver K C=true
 sa:PySem.W.findIn K (.ref C) "__setattr__" = some (some (.builtin "object.__setattr__"))
theorem Cls.get{K:PySem.W.Frag}{C:Addr}(c:Cls K C)(f:Str):PySem.W.plainGet K C f=true:=c.pg
section
variable{X:Cx}{pins:List (Addr × Obj)}{σ:St}{H:Hp}{s:Shared}{A:Around}{E:Value->Shared->Prop}{Q:Value->Shared->Prop}{c:Value}{b:Bool}
inductive TyOf (K:PySem.W.Frag) (H:Hp):V->Value->Prop where
 | non:TyOf K H .non (.type "NoneType")
 | bl (x:Bool):TyOf K H (.bl x) (.type "bool")
 | int (i:Int):TyOf K H (.int i) (.type "int")
 | str (x:Str):TyOf K H (.str x) (.type "str")
 | flt (x:UInt64):TyOf K H (.flt x) (.type "float")
 | lst {a:Addr} {xs:List V} (e:H a=some (.lst xs)):TyOf K H (.ref a) (.type "list")
 | frz {a:Addr} {o:Obj} {xs:List V} (e:H a=some (.frz o (.lst xs))):TyOf K H (.ref a) (.type "list")
 | tup {a:Addr} {xs:List V} (e:H a=some (.tup xs)):TyOf K H (.ref a) (.type "tuple")
 | dK {a:Addr} {kvs:List (Key × V)} (e:H a=some (.dK kvs)):TyOf K H (.ref a) (.type "dict")
 | dT {a:Addr} {kvs:List (List Key × V)} (e:H a=some (.dT kvs)):TyOf K H (.ref a) (.type "dict")
 | ins {a C dx:Addr} {fs:List (Str × V)} (e:H a=some (.ins C dx fs)) (cl:Cls K C) (ha:PySem.W.findIn K (.ref C) "__class__" = some (some (.builtin "object.__class__")))
   (hn:PySem.W.specialIn K (.builtin "object.__class__") "__get__" = some (some (.builtin "getset_descriptor.__get__"))) (htk:PySem.W.takesIn K (.builtin "object.__class__")=some true)
   (hm:PySem.W.mroIn K C (.type "object")=some true):TyOf K H (.ref a) (.ref C)
theorem acr{x:V}{u t:Value}(I:Inv X pins σ H s)(rx:RelV x u)(ty:TyOf X.K H x t)(e:PySem.W.kitOne X.K t c=some b)(h:∀ tk,Q (.bool b) { s with toks:=tk }) :
  wpAny (model X.prog X.w) A (call (.builtin "isinstance") [u,c]) Q E s:=by
 cases ty with
 | non=>cases (show u=Value.none from rx);exact PySem.W.kia_one PySem.W.kitx_none I.kIn True.intro e (λz=>nomatch z) h
 | bl y=>cases (show u=Value.bool y from rx);exact PySem.W.kia_one PySem.W.kitx_bool I.kIn True.intro e (λz=>nomatch z) h
 | int i=>obtain ⟨t,q⟩:=(show ∃ t,u=Value.int i t from rx);cases q;exact PySem.W.kia_one PySem.W.kitx_int I.kIn True.intro e (λz=>nomatch z) h
 | str y=>obtain ⟨t,q⟩:=(show ∃ t,u=Value.str y t from rx);cases q;exact PySem.W.kia_one PySem.W.kitx_str I.kIn True.intro e (λz=>nomatch z) h
 | flt y=>obtain ⟨t,q⟩:=(show ∃ t,u=Value.float y t from rx);cases q;exact PySem.W.kia_one PySem.W.kitx_float I.kIn True.intro e (λz=>nomatch z) h
 | @lst a xs ea =>
  cases (show u=Value.ref a from rx)
  obtain ⟨_,_,n,_,h1⟩:=(show ObjOk X.prog X.w H s.heap a (.lst xs) from I.hok a _ ea)
  exact PySem.W.kia_one PySem.W.kitx_list I.kIn ⟨_,h1,rfl⟩ e (λz=>nomatch z) h
 | @frz a ob xs ea =>
  cases (show u=Value.ref a from rx)
  obtain ⟨_,_,_,n,_,h1⟩:=(show ObjOk X.prog X.w H s.heap a (.frz ob (.lst xs)) from I.hok a _ ea)
  exact PySem.W.kia_one PySem.W.kitx_list I.kIn ⟨_,h1,rfl⟩ e (λz=>nomatch z) h
 | @tup a xs ea =>
  cases (show u=Value.ref a from rx)
  obtain ⟨_,_,_,p⟩:=(show ObjOk X.prog X.w H s.heap a (.tup xs) from I.hok a _ ea)
  obtain ⟨o,h1,h2,_⟩:=p;exact PySem.W.kia_one PySem.W.kitx_tuple I.kIn ⟨o,h1,h2⟩ e (λz=>nomatch z) h
 | @dK a kvs ea =>
  cases (show u=Value.ref a from rx)
  obtain ⟨_,_,vs,_,p⟩:=(show ObjOk X.prog X.w H s.heap a (.dK kvs) from I.hok a _ ea)
  obtain ⟨o,es,ep,h1,h2,_⟩:=p;exact PySem.W.kia_one PySem.W.kitx_dict I.kIn ⟨o,h1,h2.1⟩ e (λz=>nomatch z) h
 | @dT a kvs ea =>
  cases (show u=Value.ref a from rx)
  obtain ⟨_,_,xs,_,o,es,ep,h1,h2,_⟩:=(show ObjOk X.prog X.w H s.heap a (.dT kvs) from I.hok a _ ea)
  exact PySem.W.kia_one PySem.W.kitx_dict I.kIn ⟨o,h1,h2.1⟩ e (λz=>nomatch z) h
 | @ins a C dx fs ea cl ha hn htk hm =>
  cases (show u=Value.ref a from rx)
  obtain ⟨mA,O,_⟩:=aki I.hok ea;obtain ⟨od,J,_⟩:=O.look;exact PySem.W.kia_one (PySem.W.kitx_own (cl.get _) cl.hd ha hn htk hm) I.kIn J e (λz=>nomatch z) h
end
structure Room (k:Nat) (A:Around):Prop where
 hd:A.handled=none
 dp:A.depth+3*k+5<recursionLimit
 un:A.units+16*k+200<cLine
 gd:A.guards=some []
theorem Room.mono{j k:Nat}{A:Around}(r:Room k A)(h:j<=k):Room j A:=⟨r.hd,by have:=r.dp;omega,by have:=r.un;omega,r.gd⟩
theorem Room.deeper{k:Nat}{A:Around}(r:Room (k+1) A)(env:Env):Room k (A.deeper env) :=
 ⟨r.hd,by have:=r.dp;show A.depth+1+3*k+5<_;omega,by have:=r.un;show A.units+3+16*k+200<_;omega,r.gd⟩
theorem Room.depth{k:Nat}{A:Around}(r:Room k A):A.depth<recursionLimit:=by have:=r.dp;omega
theorem Room.units{k:Nat}{A:Around}(r:Room k A):A.units+64<cLine:=by have:=r.un;omega
def atd:TA:=λ_ H Q=>Q [] H
def aod(ta:TE)(tr:TA):TA:=λσ H Q=>ta σ H λx H1=>tr σ H1 λxs H2=>Q (x::xs) H2
section
variable{X:Cx}{e:Expr}{es:List Expr}{te:TE}{t:TA}{pos:Pos}
theorem a4p:PA X [] atd:=λ_ _ _ _ H Q I h=>Calls.spliced_nil ⟨[],H,I, .nil,h⟩
theorem qi(ha:PE X e te)(hr:PA X es t)(hs:starEach (e::es) X.env=(false,eval e X.env)::starEach es X.env:=by rfl):PA X (e::es) (aod te t):=by
 intro pos pins s σ H Q I h
 rw [hs];show wpAny _ _ (spliced ((false,eval e X.env)::backTo pos (starEach es X.env))) _ _ s;refine Calls.spliced_cons (thn (ha pins s σ H _ I h) λu s1 ⟨x,H1,I1,r1,q1⟩=>?_);exact thn (hr pos pins s1 σ H1 _ I1 q1) λus s2 ⟨xs,H2,I2,r2,q2⟩=>⟨x::xs,H2,I2, .cons r1 r2,q2⟩
def aw3(t:TA):TE:=λσ H Q=>t σ H λxs H1=>xs.length<=sizeLine/\∀ p,H1 p=none->Q (.ref p) (upd H1 p (.tup xs))
def aw4(t:TA):TE:=λσ H Q=>t σ H λxs H1=>xs.length<=sizeLine/\∀ p,H1 p=none->Q (.ref p) (upd H1 p (.lst xs))
theorem aj0{x1}(h:PA X es t):PE X (.Tuple es x1 pos) (aw3 t):=by
 intro pins s σ H Q I hq
 refine wpAny_Tuple_spliced (thn (h pos pins s σ H _ I hq) λus s1 ⟨xs,H1,I1,r,z,q⟩=>⟨by rw [<-r.length];exact z,?_⟩)
 have hf:H1 s1.heap.objs.size=none:=I1.hok.fresh (Nat.le_refl _);refine ⟨.ref s1.heap.objs.size,upd H1 s1.heap.objs.size (.tup xs),I1.laid (t':=s1.toks) (λb u e=>Heap.get?_push_of_some _ e) (Nat.le_refl _) ?_,rfl,q _ hf⟩;exact ⟨z,us,r,⟨_,Heap.get?_push_size _ rfl,rfl,_,rfl⟩⟩
theorem aoe(h:PA X es t):PE X (.List es pos) (aw4 t):=by
 intro pins s σ H Q I hq
 refine wpAny_List_spliced (thn (h pos pins s σ H _ I hq) λus s1 ⟨xs,H1,I1,r,z,q⟩=>⟨by rw [<-r.length];exact z,?_⟩)
 have hf:H1 s1.heap.objs.size=none:=I1.hok.fresh (Nat.le_refl _);refine ⟨.ref s1.heap.objs.size,upd H1 s1.heap.objs.size (.lst xs),I1.laid (t':=s1.toks) (λb u e=>Heap.get?_push_of_some _ e) (Nat.le_refl _) ?_,rfl,q _ hf⟩;exact ⟨z,us,0,r,Heap.get?_push_size _ rfl⟩
end
abbrev Sp:=List V->Hp->VK->XK->Prop
abbrev CXT:=List Env->Hp->Shared->XK->Value->Shared->Prop
structure Env0 (P:Program) (w:World) (K:PySem.W.Frag) (mg:Str->Option Value) (base:Heap) (A:Around) (outer:List Env) (s:Shared) (H:Hp):Prop where
 frames:A.frames=some outer
 mod:Mod K mg base
 bs:∀ b o,base.get? b=some o->s.heap.get? b=some o/\H b=none
 bsz:base.objs.size<=s.heap.objs.size
 funs:s.heap.FunFrames base outer
 frf:∀ b∈frs outer,H b=none
 hok:HOk P w H s.heap
 bare:AllBare s.gens
def CE(outer:List Env)(P:Program)(w:World)(H:Hp)(s:Shared)(Q:VK)(u:Value)(s':Shared):Prop :=
 ∃ v H',s'.os=s.os/\AllBare s'.gens/\Un (frs outer) [] H H' s.heap s'.heap/\HOk P w H' s'.heap/\RelV v u/\Q v H'
def CR(CX:CXT)(outer:List Env)(P:Program)(w:World)(H:Hp)(s:Shared)(Q:VK)(E:XK)(r:Result)(s':Shared):Prop :=
 match r with
 | .ok (.ret u)=>CE outer P w H s Q u s'
 | .ok _=>False
 | .error e=>CX outer H s E e s'
structure FnOk (P:Program) (w:World) (K:PySem.W.Frag) (mg:Str->Option Value) (base:Heap) (CX:CXT) (k:Nat) (f:Addr) (fd:FuncData) (ps:List Str) (sp:Sp):Prop where
 len:∀ vs H Q E,sp vs H Q E->vs.length=ps.length
 run:∀ (A:Around) (outer:List Env) (s:Shared) (H:Hp) (args:Args) (us:List Value) (vs:List V) (Q:VK) (E:XK),Room k A->Env0 P w K mg base A outer s H->BindsTo s fd args (ps.zip us)->Vals vs us->sp vs H Q E->
  codeAny (model P w) A (.call (.ref f) args) (CR CX outer P w H s Q E) s
theorem FnOk.imp{P:Program}{w:World}{K:PySem.W.Frag}{mg:Str->Option Value}{base:Heap}{CX:CXT}{k:Nat}{f:Addr}{fd:FuncData}{ps:List Str}{sp sp':Sp}(F:FnOk P w K mg base CX k f fd ps sp)
  (h:∀ vs H Q E,sp' vs H Q E->sp vs H Q E):FnOk P w K mg base CX k f fd ps sp' :=
 ⟨λvs H Q E q=>F.len vs H Q E (h _ _ _ _ q),λA outer s H args us vs Q E hr he hb hv hs=>F.run A outer s H args us vs Q E hr he hb hv (h _ _ _ _ hs)⟩
section
variable{X:Cx}{pins:List (Addr × Obj)}{σ:St}{H:Hp}{s s':Shared}
theorem Inv.env0(I:Inv X pins σ H s):Env0 X.prog X.w X.K X.mg X.base X.A X.stack s H :=
 ⟨I.ok.frames,I.ok.mod,I.bs,Nat.le_trans I.ok.bsz I.sz,I.stack,I.stkFree,I.hok,I.bare⟩
theorem Inv.after{Q:VK}{u:Value}(I:Inv X pins σ H s)(h:CE X.stack X.prog X.w H s Q u s'):EP X pins σ Q u s':=by
 obtain ⟨v,H',os,bare,un,hok,r,q⟩:=h;obtain ⟨hh,g,d,t,os'⟩:=s';obtain rfl:os'=s.os:=os;exact ⟨v,H',I.call (h':=hh) (g':=g) (d':=d) (t':=t) (ch:=[]) un hok bare (λb z=>absurd z (by simp)),r,q⟩
end
def aof(sp:Sp)(dvs:List V)(E:XK)(t:TA):TE:=λσ H Q=>t σ H λvs H1=>sp (vs++dvs) H1 Q E
def Binds(K:PySem.W.Frag)(fd:FuncData)(ps:List Str)(ds:List Value):Prop :=
 ∀ (s:Shared) (us:List Value),K.In s.heap->(us++ds).length=ps.length->BindsTo s fd ⟨us,[]⟩ (ps.zip (us++ds))
theorem Binds.all{K:PySem.W.Frag}{fd:FuncData}{ps:List Str}(h:∀ us:List Value,us.length=ps.length->bindArgs fd ⟨us,[]⟩=pure (ps.zip us)):Binds K fd ps []:=λs us _ hl=>by
 rw [List.append_nil] at hl ⊢;exact .of_eq (h us hl)
def a4q(CX:CXT)(X:Cx)(E:XK):Prop:=∀ (pins:List (Addr × Obj)) (σ:St) (H:Hp) (s:Shared) (e:Value) (s':Shared),Inv X pins σ H s->CX X.stack H s E e s'->X.xe e s'
section
variable{X:Cx}{CX:CXT}{k:Nat}{f C:Addr}{fd:FuncData}{ps:List Str}{sp:Sp}{dvs:List V}{ds:List Value}{E:XK}{x m:Str}{p pos apos:Pos}{e o:Expr}{es:List Expr}{ta:TE}{t:TA}
theorem aj1{pins:List (Addr × Obj)}{σ:St}{H:Hp}{s:Shared}{Q:VK}{us:List Value}{vs:List V}(F:FnOk X.prog X.w X.K X.mg X.base CX k f fd ps sp)(hr:Room k X.A)(hb:Binds X.K fd ps ds)(hd:Vals dvs ds)(hx:a4q CX X E)
  (I:Inv X pins σ H s) (r:Vals vs us) (h:sp (vs++dvs) H Q E):wpAny (model X.prog X.w) X.A (call (.ref f) us) (EP X pins σ Q) X.xe s:=by
 have r2:Vals (vs++dvs) (us++ds):=r.append hd;have hl:(us++ds).length=ps.length:=by rw [<-r2.length];exact F.len _ _ _ _ h
 refine wpAny_call (codeAny_mono (F.run X.A X.stack s H ⟨us,[]⟩ (us++ds) (vs++dvs) Q E hr I.env0 (hb s us I.kIn hl) r2 h) λr s' hq=>?_)
 cases r with
 | error e=>exact hx pins σ H s e s' I hq
 | ok fl =>
  cases fl with
  | ret u=>exact I.after hq
  | next=>exact False.elim hq
  | brk=>exact False.elim hq
  | cont=>exact False.elim hq
theorem a2o(F:FnOk X.prog X.w X.K X.mg X.base CX k f fd ps sp)(hr:Room k X.A)(hg:Gl X x)(hm:X.mg x=some (.ref f))(hk:PySem.W.keepIn X.K (.ref f)=true)(hb:Binds X.K fd ps ds)(hd:Vals dvs ds)(hx:a4q CX X E)
  (ha:PA X (e::es) t) (hdb:(x == ("__debug__" : Str))=false:=by decide) (he:starEach (e::es) X.env=(false,eval e X.env)::starEach es X.env:=by rfl) (hpl:(backTo pos (starEach es X.env)).any (·.1)=false:=by rfl) :
  PE X (.Call (.Name x p) (e::es) [] pos) (aof sp dvs E t):=by
 intro pins s σ H Q I h
 refine wpAny_Call_Name_kw (a2n I hg hm ?_ hdb);refine PySem.W.callWith_K (h₀:=X.base) I.ok.mod.kin hk (thn (ha pos pins s σ H _ I h) λus s1 ⟨vs,H1,I1,r,q⟩=>⟨I1.kIn,?_⟩) he hpl;exact aj1 F hr hb hd hx I1 r q
theorem ag5(F:FnOk X.prog X.w X.K X.mg X.base CX k f fd ps sp)(hr:Room k X.A)(hg:Gl X x)(hm:X.mg x=some (.ref f))(hk:PySem.W.keepIn X.K (.ref f)=true)(hb:Binds X.K fd ps ds)(hd:Vals dvs ds)(hx:a4q CX X E)
  (hdb:(x == ("__debug__" : Str))=false:=by decide):PE X (.Call (.Name x p) [] [] pos) (aof sp dvs E atd):=by
 intro pins s σ H Q I h
 refine wpAny_Call_Name_kw (a2n I hg hm ?_ hdb);exact PySem.W.callWith_K0 I.kIn hk (aj1 (us:=[]) F hr hb hd hx I .nil h)
end
def PK(X:Cx)(kws:List Keyword)(t:TA):Prop :=
 ∀ (pos:Pos) (pins:List (Addr × Obj)) (s:Shared) (σ:St) (H:Hp) (Q:List V->Hp->Prop),Inv X pins σ H s->t σ H Q->wpAny (model X.prog X.w) X.A (evalAll ((backToKw pos (keywordEach kws X.env)).map (·.2))) (AP X pins σ Q) X.xe s
section
variable{X:Cx}{CX:CXT}{k:Nat}{f C:Addr}{fd:FuncData}{ps ks:List Str}{sp:Sp}{E:XK}{x m:Str}{p pos apos kpos:Pos}{e o:Expr}{es:List Expr}{kws:List Keyword}{te ta:TE}{t tk:TA}{nm:Option Str}
theorem aog:PK X [] atd:=λ_ _ _ _ H Q I h=>wpAny_evalAll_nil ⟨[],H,I, .nil,h⟩
theorem akj(ha:PE X e te)(hr:PK X kws t):PK X (⟨nm,e,kpos⟩::kws) (aod te t):=by
 intro pos pins s σ H Q I h
 show wpAny _ _ (evalAll ((do let v <-eval e X.env;standAt pos;pure v)::(backToKw pos (keywordEach kws X.env)).map (·.2))) _ _ s
 refine wpAny_evalAll_cons (wpAny_bind (thn (ha pins s σ H _ I h) λu s1 ⟨x,H1,I1,r1,q1⟩=>wpAny_bind (wpAny_standAt (wpAny_pure ?_))));exact thn (hr pos pins s1 σ H1 _ I1 q1) λus s2 ⟨xs,H2,I2,r2,q2⟩=>⟨x::xs,H2,I2, .cons r1 r2,q2⟩
variable{g:List Value->List Value->List Value}{gV:List V->List V->List V}
end
structure FnScope (N P:List Str) (sc:Scope):Prop where
 kind:sc.kind = .function
 co:sc.isCoroutine=false
 gen:sc.isGenerator=false
 nd:N.Nodup
 pre:N.take P.length=P
 par:∀ x∈P,sc.names.lookup x=some .local\/sc.names.lookup x=some .cell
 nofree:∀ y∈sc.names,y.2≠.free
theorem a7y{kindOf:Str->Option NameKind}{x:Str}:∀ {binds:List (Str × Value)} {m:Str->Option Value},(∀ v,(x,v) ∉ binds)->bindL kindOf binds m x=m x
 | [],_,_=>rfl
 | (n,v)::r,m,h=>by
  unfold bindL;rw [a7y λw hw=>h w (List.mem_cons_of_mem _ hw)]
  split
  ·have:x≠n:=by rintro rfl;exact h v List.mem_cons_self
   simp [this]
  ·rfl
theorem a7z{kindOf:Str->Option NameKind}{x:Str}:∀ {binds:List (Str × Value)} {m:Str->Option Value},(∀ v,(x,v) ∉ binds)->bindC kindOf binds m x=m x
 | [],_,_=>rfl
 | (n,v)::r,m,h=>by
  unfold bindC;rw [a7z λw hw=>h w (List.mem_cons_of_mem _ hw)]
  split
  ·rfl
  ·have:x≠n:=by rintro rfl;exact h v List.mem_cons_self
   simp [this]
theorem a80{kindOf:Str->Option NameKind}{x:Str}{v:Value}:∀ {P:List Str} {vs:List Value} {i:Nat} {m:Str->Option Value},P.Nodup->P[i]? = some x->vs[i]? = some v->kindOf x=some .local->
  bindL kindOf (P.zip vs) m x=some v
 | [],_,_,_,_,h,_,_=>by simp at h
 | _::_,[],_,_,_,_,h,_=>by simp at h
 | p::P,w::vs,0,m,nd,h1,h2,hk=>by
  simp at h1 h2;subst h1;subst h2
  show bindL kindOf ((p,w)::P.zip vs) m p=_;unfold bindL;rw [a7y λv hv=>(List.nodup_cons.mp nd).1 (List.of_mem_zip hv).1,if_pos hk];simp
 | p::P,w::vs,i+1,m,nd,h1,h2,hk=>by
  show bindL kindOf ((p,w)::P.zip vs) m x=_;unfold bindL;exact a80 (i:=i) (List.nodup_cons.mp nd).2 (by simpa using h1) (by simpa using h2) hk
theorem a81{kindOf:Str->Option NameKind}{x:Str}{v:Value}:∀ {P:List Str} {vs:List Value} {i:Nat} {m:Str->Option Value},P.Nodup->P[i]? = some x->vs[i]? = some v->kindOf x≠some .local->
  bindC kindOf (P.zip vs) m x=some v
 | [],_,_,_,_,h,_,_=>by simp at h
 | _::_,[],_,_,_,_,h,_=>by simp at h
 | p::P,w::vs,0,m,nd,h1,h2,hk=>by
  simp at h1 h2;subst h1;subst h2
  show bindC kindOf ((p,w)::P.zip vs) m p=_;unfold bindC;rw [a7z λv hv=>(List.nodup_cons.mp nd).1 (List.of_mem_zip hv).1,if_neg hk];simp
 | p::P,w::vs,i+1,m,nd,h1,h2,hk=>by
  show bindC kindOf ((p,w)::P.zip vs) m x=_;unfold bindC;exact a81 (i:=i) (List.nodup_cons.mp nd).2 (by simpa using h1) (by simpa using h2) hk
def start(N:List Str)(vs:List V):St:=vs.map some++List.replicate (N.length - vs.length) none
def a1g(CX:CXT)(P:Program)(w:World)(K:PySem.W.Frag)(mg:Str->Option Value)(base:Heap)(N:List Str)(qual:Str)(scope:Scope)(f:Addr)(cd:Value)(A:Around)(outer:List Env)(s:Shared)(H:Hp)(E:XK):Cx where
 prog:=P
 w:=w
 K:=K
 mg:=mg
 base:=base
 A:=A.deeper (envOfC qual scope s.heap.objs.size f cd)
 N:=N
 s₀:=s
 H₀:=H
 env:=envOfC qual scope s.heap.objs.size f cd
 outer:=outer
 stack:=envOfC qual scope s.heap.objs.size f cd::outer
 ex:=[]
 calm:=true
 fn:=λ_=>true
 pn:=[]
 xe:=λe s'=>wpAny (model P w) (A.deeper (envOfC qual scope s.heap.objs.size f cd)) (leaving (envOfC qual scope s.heap.objs.size f cd) e) (λ_ s''=>CX outer H s E e s'') (λe' s''=>CX outer H s E e' s'') s'
theorem aa1{sc:Scope}{n:Nat}{x:Str}(h:sc.names.lookup x=some .cell):∃ c,(cellsFrom n sc.names []).lookup x=some c:=by
 have q:=PySem.W.cellsFrom_some sc.names n [] (.inl h);exact Option.isSome_iff_exists.mp q
theorem acs{CX:CXT}{P:Program}{w:World}{K:PySem.W.Frag}{mg:Str->Option Value}{base:Heap}{N ps:List Str}{qual:Str}{scope:Scope}{f:Addr}{cd:Value}{A:Around}{outer:List Env}{s s1:Shared}{H:Hp}{E:XK}{us:List Value}{vs:List V}
  (S:FnScope N ps scope) (hd:A.handled=none) (e0:Env0 P w K mg base A outer s H) (hl:vs.length=ps.length) (r:Vals vs us)
  (x:InCallC s s.heap.objs.size (bindL (envOfC qual scope s.heap.objs.size f cd).kindOf (ps.zip us) λ_=>none) (cellsFrom (s.heap.objs.size+1) scope.names []) (bindC (envOfC qual scope s.heap.objs.size f cd).kindOf (ps.zip us) λ_=>none) s1) :
  Inv (a1g CX P w K mg base N qual scope f cd A outer s H E) [] (start N vs) H s1:=by
 have hpl:ps.length<=N.length:=by have:=congrArg List.length S.pre;rw [List.length_take] at this;omega
 obtain ⟨h1,tk,rfl,hk⟩:=x.done;have noA:∀ b:Addr,b ∉ (a1g CX P w K mg base N qual scope f cd A outer s H E).ex:=λb z=>absurd (show b∈([]:List Addr) from z) (by simp)
 refine ⟨⟨e0.mod,S.kind,rfl,rfl,Nat.le_refl _,λy z c h1 h2=>?_,λy hy=>?_,λy c _ h=>?_,λ_=>hd,Around.frames_deeper e0.frames, .inr ⟨rfl,rfl⟩,λb z=>absurd z (noA b),e0.bs,e0.bsz,λb _ _=>noA b,λb z=>absurd z (noA b),e0.funs,e0.frf⟩,
  rfl,e0.bare,Un.kept hk,⟨_,x.toInCall.ns,λi y v h1 h2 h3=>?_⟩,λy c h=>⟨_,x.cell y c h⟩,e0.hok.fresh (Nat.le_refl _),λy c h=>?_,λp hp=>absurd (show p∈([]:List (Addr × Obj)) from hp) (by simp),e0.hok.kept hk,?_⟩
 ·exact name_of_addr x.apart (PySem.mem_of_lookup h1) (PySem.mem_of_lookup h2)
 ·have hy:scope.names.lookup y=some .cell\/scope.names.lookup y=some .free:=hy
  rcases hy with hy | hy
  ·exact aa1 hy
  ·exact absurd rfl (S.nofree _ (PySem.mem_of_lookup hy))
 ·exact Nat.le_of_lt (x.above y c (PySem.mem_of_lookup h))
 ·have hi:i<vs.length:=by
   unfold start at h2
   by_cases hi:i<vs.length
   ·exact hi
   ·rw [List.getElem?_append_right (by simpa using hi)] at h2
    rw [List.getElem?_replicate] at h2
    split at h2<;>cases h2
  have ha:vs[i]? = some v:=by
   unfold start at h2;rw [List.getElem?_append_left (by simpa using hi),List.getElem?_map] at h2
   cases e:vs[i]? with
   | none=>rw [e] at h2;cases h2
   | some a=>rw [e] at h2;cases h2;rfl
  obtain ⟨u,hu,rv⟩:=r.get ha;have hp:ps[i]? = some y:=by
   rw [<-S.pre,List.getElem?_take_of_lt (by omega)];exact h1
  have ndP:ps.Nodup:=by rw [<-S.pre];exact S.nd.sublist (List.take_sublist _ _)
  refine ⟨u,rv,?_⟩
  rcases S.par y (List.mem_of_getElem? hp) with k | k
  ·exact .inl ⟨k,a80 ndP hp hu k⟩
  ·obtain ⟨c,e⟩:=aa1 (n:=s.heap.objs.size+1) k;refine .inr ⟨.inl k,c,e,?_⟩;have q:=x.cell y c e;rw [a81 ndP hp hu (by show scope.names.lookup y≠_;rw [k];decide)] at q
   exact q
 ·exact e0.hok.fresh (Nat.le_of_lt (x.above y c (PySem.mem_of_lookup h)))
 ·unfold start;show _=N.length;rw [List.length_append,List.length_map,List.length_replicate];omega
theorem aoh{CX:CXT}{P:Program}{w:World}{K:PySem.W.Frag}{mg:Str->Option Value}{base:Heap}{k:Nat}{f:Addr}{name qual:Str}{params:Arguments}{body:List Stmt}{scope:Scope}{dV kV doc pm cdv ct oc:Value}{an od:Option Addr}
  {osl:Array (Option Value)} {N ps:List Str} {sp:Sp} (lk:K.lookup f=some ⟨oc,od, .func (PySem.W.fnOf name qual params body scope dV kV doc pm an cdv ct),osl⟩) (hcd:PySem.W.codeIn K cdv qual=true) (S:FnScope N ps scope)
  (len:∀ vs H Q E,sp vs H Q E->vs.length=ps.length)
  (hbody:∀ (A:Around) (outer:List Env) (s:Shared) (H:Hp) (vs:List V) (Q:VK) (E:XK),Room k (A.deeper (envOfC qual scope s.heap.objs.size f cdv))->sp vs H Q E->
   ∃ t,PSs (a1g CX P w K mg base N qual scope f cdv A outer s H E) body t/\t { nx:=λ_ H'=>Q .non H',rt:=Q } (start N vs) H) :
  FnOk P w K mg base CX (k+1) f (PySem.W.fnOf name qual params body scope dV kV doc pm an cdv ct) ps sp:=by
 refine ⟨len,λA outer s H args us vs Q E hr e0 hb r hsp=>?_⟩;have hl:=len _ _ _ _ hsp;have KX:K.In s.heap:=e0.mod.kin.keeps λb o e=>(e0.bs b o e).1;have lim:s.heap.NoLimit:=e0.mod.nolimit.keeps λb o e=>(e0.bs b o e).1;have hkind:∀ y∈ps.zip us,scope.names.lookup y.1=some .local\/(scope.names.lookup y.1=some .cell/\((cellsFrom (s.heap.objs.size+1) scope.names []).lookup y.1).isSome=true):=λ⟨n,v⟩ hy=>by
  rcases S.par n (List.of_mem_zip hy).1 with q | q
  ·exact .inl q
  ·exact .inr ⟨q,PySem.W.cellsFrom_some _ _ _ (.inl q)⟩
 refine codeAny_call_function hr.depth (KX _ _ lk) rfl S.co S.gen rfl (PySem.W.codeRec_of KX hcd) (hb _ _ _ _ ?_);refine wpAny_newFunctionEnv_cells S.kind hkind λenv he s1 x=>?_;subst he;refine ⟨lim.keeps x.toInCall.keep,codeAny_func ?_⟩;obtain ⟨t,ht,hq⟩:=hbody A outer s H vs Q E (hr.deeper _) hsp;have I:Inv (a1g CX P w K mg base N qual scope f cdv A outer s H E) [] (start N vs) H s1:=acs S hr.hd e0 hl r x;refine wpAny_mono (ht [] s1 (start N vs) H _ I hq) (λfl s' hs=>?_) λe s' hs=>hs;have fin:∀ {σ':St} {H':Hp} {v:V} {u:Value},Inv (a1g CX P w K mg base N qual scope f cdv A outer s H E) [] σ' H' s'->RelV v u->Q v H'->CE outer P w H s Q u s' :=
  λ{σ' H' v u} J rv q=>⟨v,H',J.os,J.bare,J.base,J.hok,rv,q⟩
 cases fl with
 | ret u =>
  obtain ⟨v,σ',H',J,rv,q⟩:=hs;exact fin J rv q
 | next =>
  obtain ⟨σ',H',J,q⟩:=hs;exact fin (v:=V.non) (u:=Value.none) J rfl q
 | brk =>
  obtain ⟨_,_,_,q⟩:=hs;exact False.elim q
 | cont =>
  obtain ⟨_,_,_,q⟩:=hs;exact False.elim q
section
variable{X:Cx}{x:Str}{p pos:Pos}{e:Expr}{es:List Expr}{t:TA}{id T:String}{r:List V->Hp->VK->Prop}
def tCB(r:List V->Hp->VK->Prop)(t:TA):TE:=λσ H Q=>t σ H λvs H1=>r vs H1 Q
theorem a6m(hc:CallR X (.builtin id) r)(hg:Gl X x)(hm:X.mg x=none)(hv:bootBuiltins x=some (.builtin id))(ha:PA X (e::es) t)(hn:x ≠ "__name__":=by decide)(hdb:(x == ("__debug__" : Str))=false:=by decide)
  (he:starEach (e::es) X.env=(false,eval e X.env)::starEach es X.env:=by rfl) (hpl:(backTo pos (starEach es X.env)).any (·.1)=false:=by rfl):PE X (.Call (.Name x p) (e::es) [] pos) (tCB r t):=by
 intro pins s σ H Q I h
 refine wpAny_Call_Name_kw (a3f I hg hm hv ?_ hn hdb);exact PyProof.Rows.callWith_builtin1 (thn (ha pos pins s σ H _ I h) λus s1 ⟨vs,H1,I1,r1,q1⟩=>hc pins s1 σ H1 vs us Q I1 r1 q1) he hpl
theorem acu(hc:CallR X (.type T) r)(hg:Gl X x)(hm:X.mg x=none)(hv:bootBuiltins x=some (.type T))(ha:PA X (e::es) t)(hn:x ≠ "__name__":=by decide)(hdb:(x == ("__debug__" : Str))=false:=by decide)
  (he:starEach (e::es) X.env=(false,eval e X.env)::starEach es X.env:=by rfl) (hpl:(backTo pos (starEach es X.env)).any (·.1)=false:=by rfl):PE X (.Call (.Name x p) (e::es) [] pos) (tCB r t):=by
 intro pins s σ H Q I h
 refine wpAny_Call_Name_kw (a3f I hg hm hv ?_ hn hdb);exact PyProof.Rows.callWith_type1 (thn (ha pos pins s σ H _ I h) λus s1 ⟨vs,H1,I1,r1,q1⟩=>hc pins s1 σ H1 vs us Q I1 r1 q1) he hpl
end
end L2
namespace HT
open PySem PyProof.Rows
section
variable{prog:Program}{w:World}{A:Around}{E:Value->Shared->Prop}{s:Shared}
theorem akk{t b:Addr}{vs ws:List Value}{Q:Value->Shared->Prop}(ht:IsTup s.heap t vs.toArray)(hb:IsTup s.heap b ws.toArray)(hv:vs≠[])
  (h1:ws=[]->Q (.ref t) s) (h2:ws≠[]->Q (.ref s.heap.objs.size) { s with heap:=s.heap.push { cls:=.type "tuple",data:=.seq (vs++ws).toArray } })
  (hsz:vs.length+ws.length<=sizeLine):wpAny (model prog w) A (binaryOp .Add (.ref t) (.ref b)) Q E s:=by
 obtain ⟨⟨cls,dd,data,sl⟩,ho,hc,n,hd⟩:=id ht;obtain ⟨⟨cls2,dd2,data2,sl2⟩,ho2,hc2,n2,hd2⟩:=id hb;simp only at hc hd hc2 hd2;subst hc hd hc2 hd2;have e:vs.toArray++ws.toArray=(vs++ws).toArray:=by simp
 by_cases hw:ws=[]
 ·exact concat_meets ⟨_,ho,rfl⟩ ⟨_,ho2,rfl⟩ noFill_tuple_add seq_tuple_add PySem.F.slot_tuple_add PySem.F.entry_tuple_add (PySem.F.args_tuple_add_2 _ _)
   (tuple_addW1 t b vs.toArray ws.toArray n n2 dd dd2 sl sl2 (by simpa using hv) (by simp [hw])) ⟨ho,ho2,h1 hw⟩
 ·refine concat_meets ⟨_,ho,rfl⟩ ⟨_,ho2,rfl⟩ noFill_tuple_add seq_tuple_add PySem.F.slot_tuple_add PySem.F.entry_tuple_add (PySem.F.args_tuple_add_2 _ _)
   (tuple_addW2 t b vs.toArray ws.toArray n n2 dd dd2 sl sl2 (by simpa using hv) (by simpa using hw) (by rw [List.size_toArray,List.size_toArray];exact hsz)) ⟨ho,ho2,?_⟩
  rw [e];exact h2 hw
def sIx(n d:Nat):Option Int->Nat
 | none=>d
 | some v=>if v<0 then (v+(n:Int)).toNat else min v.toNat n
theorem a6n(n d:Nat):sIx n d none=d:=rfl
theorem a6o(n d k:Nat):sIx n d (some (k:Int))=min k n:=by
 show (if (k:Int)<0 then ((k:Int)+(n:Int)).toNat else min (k:Int).toNat n)=min k n
 rw [if_neg (by omega),Int.toNat_natCast]
theorem acv(n d:Nat)(hd:d<=n)(o:Option Int):sIx n d o<=n:=by
 cases o with
 | none=>exact hd
 | some v =>
  show (if v<0 then (v+(n:Int)).toNat else min v.toNat n)<=n
  by_cases hv:v<0
  ·rw [if_pos hv];omega
  ·rw [if_neg hv];exact Nat.min_le_right _ _
theorem acw(v:Int)(n d:Nat):(if v<0 then max (v+(n:Int)) 0 else min v (n:Int))=((sIx n d (some v):Nat):Int):=by
 show (if v<0 then max (v+(n:Int)) 0 else min v (n:Int))=(((if v<0 then (v+(n:Int)).toNat else min v.toNat n):Nat):Int)
 by_cases hv:v<0
 ·simp only [if_pos hv];omega
 ·simp only [if_neg hv];omega
theorem aba(lo hi:Option Int)(n:Nat):Builtin.Slice.sliceAdjust lo hi 1 (n:Int)=(((sIx n 0 lo:Nat):Int),((sIx n n hi:Nat):Int)):=by
 have h1:¬ ((1:Int)<0):=by omega
 unfold Builtin.Slice.sliceAdjust;simp only [h1,if_false];refine Prod.ext ?_ ?_
 ·cases lo with
  | none=>rfl
  | some v=>exact acw v n 0
 ·cases hi with
  | none=>rfl
  | some v=>exact acw v n n
theorem abb(i j:Nat):Builtin.Slice.slicePlaces (i:Int) (j:Int) 1=j - i:=by
 unfold Builtin.Slice.slicePlaces;have h1:(1:Int) > 0:=by omega
 simp only [h1,if_true,Int.ediv_one]
 split<;>omega
theorem a5y{v:Value}{o:Option Int}{Q:Option Int->Shared->Prop}(p:IsPart v o)(h:Q o s):wpAny (model prog w) A (Builtin.Slice.slicePartIndex v) Q E s:=by
 cases p with
 | none=>exact slicePart_none h
 | int i t=>exact slicePart_int h
theorem a0q{sl:Addr}{vl vu:Value}{lo hi:Option Int}{n:Nat}{Q:Int × Int × Nat->Shared->Prop}(hs:s.heap.IsSliceOf sl vl vu .none)(pl:IsPart vl lo)(pu:IsPart vu hi)
  (h:Q (((sIx n 0 lo:Nat):Int),1,sIx n n hi - sIx n 0 lo) s):wpAny (model prog w) A (Builtin.Slice.sliceApplied (.ref sl) (pure (n:Int))) Q E s:=by
 obtain ⟨os,hos,hcs,hds⟩:=id hs;unfold Builtin.Slice.sliceApplied Builtin.Slice.sliceFields;refine wpAny_bind (wpAny_bind (wpAny_field hos hds (x:=vl) rfl (wpAny_bind (wpAny_field hos hds (x:=vu) rfl (wpAny_bind (wpAny_field hos hds (x:=.none) rfl (wpAny_pure ?_)))))));refine wpAny_bind (slicePart_none ?_);show wpAny _ _ (if ((1:Int) == 0)=true then _ else _) _ _ s
 rw [if_neg (by decide)]
 refine wpAny_bind (a5y pl (wpAny_bind (a5y pu (wpAny_bind (wpAny_pure ?_)))));show wpAny _ _ (match Builtin.Slice.sliceAdjust lo hi 1 (n:Int) with | (lo,hi)=>pure (lo,(1:Int),Builtin.Slice.slicePlaces lo hi 1)) _ _ s
 rw [aba lo hi n];show wpAny _ _ (pure (((sIx n 0 lo:Nat):Int),(1:Int),Builtin.Slice.slicePlaces ((sIx n 0 lo:Nat):Int) ((sIx n n hi:Nat):Int) 1)) _ _ s;rw [abb];exact wpAny_pure h
theorem ag6(xs:Array Value)(i k:Nat):((List.range k).filterMap λ(m:Nat)=>xs[((i:Int)+(m:Int)*1).toNat]?).toArray=((xs.toList.drop i).take k).toArray:=by
 have e:(λ(m:Nat)=>xs[((i:Int)+(m:Int)*1).toNat]?)=λm=>xs[i+m]?:=by
  funext m
  have:((i:Int)+(m:Int)*1).toNat=i+m:=by omega
  rw [this]
 rw [e];have:=pick_run xs i k;rw [List.filterMap_map] at this;have e2:((λx=>xs[x]?) ∘ λx=>i+x)=λm=>xs[i+m]?:=rfl;rw [e2] at this;rw [this]
theorem a2p{t sl:Addr}{items:Array Value}{vl vu:Value}{lo hi:Option Int}{Q:Value->Shared->Prop}(ht:IsTup s.heap t items)(hs:s.heap.IsSliceOf sl vl vu .none)(pl:IsPart vl lo)(pu:IsPart vu hi)
  (hw:¬ (sIx items.size 0 lo=0/\sIx items.size items.size hi=items.size))
  (h:Q (.ref s.heap.objs.size) { s with heap:=s.heap.push { cls:=.type "tuple",data:=.seq ((items.toList.drop (sIx items.size 0 lo)).take (sIx items.size items.size hi - sIx items.size 0 lo)).toArray } })
  (hsz:items.size<=sizeLine):wpAny (model prog w) A (getItem (.ref t) (.ref sl)) Q E s:=by
 have htake:sizeOk (.seq ((items.toList.drop (sIx items.size 0 lo)).take (sIx items.size items.size hi - sIx items.size 0 lo)).toArray):=by
  show ((items.toList.drop (sIx items.size 0 lo)).take (sIx items.size items.size hi - sIx items.size 0 lo)).toArray.size<=sizeLine;rw [List.size_toArray,List.length_take,List.length_drop,Array.length_toList];omega
 have hj:sIx items.size items.size hi<=items.size:=acv _ _ (Nat.le_refl _) hi;obtain ⟨os,hos,hcs,hds⟩:=id hs;have hTs:s.TypeIs (.ref sl) "slice":=⟨os,hos,hcs⟩;unfold getItem
 try with_reducible refine wpAny_holding ?_
 first | refine wpAny_bind (wpAny_pure ?_) | skip
 refine wpAny_bind (wpAny_sequenceKey ht.typeIs (by decide) ?_)
 refine wpAny_bind (wpAny_callSpecial?_slot (name:=Str.ofString "__getitem__") ht.typeIs PyProof.Rows.slot_tuple_getitem
  (wpAny_call_entry PyProof.Rows.slot_tuple_getitem ht.typeIs entry_tuple_getitem ?_ (args_tuple_getitem _ _)))
 show wpAny _ _ (Builtin.Tuple.tupleItemsOf (.ref t)>>=_) _ _ s;refine wpAny_bind (tupleItemsOf_ ht ?_);refine wpAny_bind (wpAny_typeOf hTs ?_);rw [if_pos (by decide)]
 refine wpAny_bind (a0q hs pl pu ?_);have hno:¬ ((((sIx items.size 0 lo:Nat):Int) == 0 && (1:Int) == 1 && (sIx items.size items.size hi - sIx items.size 0 lo) == items.size)=true):=by
  intro q
  rw [Bool.and_eq_true,Bool.and_eq_true] at q;have q1:((sIx items.size 0 lo:Nat):Int)=0:=eq_of_beq q.1.1;have q2:sIx items.size items.size hi - sIx items.size 0 lo=items.size:=eq_of_beq q.2;exact hw ⟨by omega,by omega⟩
 show wpAny _ _ (if (((sIx items.size 0 lo:Nat):Int) == 0 && (1:Int) == 1 && (sIx items.size items.size hi - sIx items.size 0 lo) == items.size)=true then _ else _) _ _ s
 rw [if_neg hno,ag6]
 first
  | exact wpAny_bind (m:=Builtin.Tuple.tupleExact _) (wpAny_newObj_type (wpAny_pure ⟨_,rfl,wpAny_pure h⟩) htake)
  | exact wpAny_bind (m:=Builtin.Tuple.tupleExact _) (wpAny_newObj_type (wpAny_bind (wpAny_pure (wpAny_pure ⟨_,rfl,wpAny_pure h⟩))) htake)
  | exact wpAny_bind (wpAny_bind (m:=Builtin.Tuple.tupleExact _) (wpAny_newObj_type (wpAny_pure (wpAny_pure ⟨_,rfl,wpAny_pure h⟩)) htake))
  | exact wpAny_bind (wpAny_bind (m:=Builtin.Tuple.tupleExact _) (wpAny_newObj_type (wpAny_pure ⟨_,rfl,wpAny_pure h⟩) htake))
end
end HT
namespace L2
open PySem PySem.Spec PyProof.Rows
abbrev TO:=St->Hp->(Option Int->Hp->Prop)->Prop
def PO(X:Cx)(e:Option Expr)(t:TO):Prop :=
 ∀ (pins:List (Addr × Obj)) (s:Shared) (σ:St) (H:Hp) (Q:Option Int->Hp->Prop),Inv X pins σ H s->t σ H Q->
  wpAny (model X.prog X.w) X.A (evalPart e X.env) (λu s'=>∃ o H',Inv X pins σ H' s'/\IsPart u o/\Q o H') X.xe s
def akl:TO:=λ_ H Q=>Q none H
def ate(t:TE):TO:=λσ H Q=>t σ H λx H1=>∃ i,x = .int i/\Q (some i) H1
theorem intsAre_of{ns:List Int}:∀ {us:List Value},Vals (ns.map V.int) us->IntsAre us ns:=by
 induction ns with
 | nil=>intro us r;rw [List.map_nil] at r;cases r;exact .nil
 | cons n ns ih =>
  intro us r
  rw [List.map_cons] at r
  cases r with
  | cons r1 r2 =>
   obtain ⟨t,e⟩:=r1;subst e;exact .cons n t (ih r2)
section
variable{X:Cx}{e:Expr}{te:TE}{lo hi:Option Expr}{tl th:TO}{pos p2:Pos}
theorem akm:PO X none akl:=by
 intro pins s σ H Q I h
 rw [evalPart_none];exact wpAny_pure ⟨none,H,I, .none,h⟩
theorem akn(h:PE X e te):PO X (some e) (ate te):=by
 intro pins s σ H Q I hw
 rw [evalPart_some];refine thn (h pins s σ H _ I hw) λu s1 ⟨x,H1,I1,r1,q1⟩=>?_;obtain ⟨i,rfl,q⟩:=q1;obtain ⟨t,rfl⟩:=r1;exact ⟨some i,H1,I1, .int i t,q⟩
def SlR(X:Cx)(r:V->Option Int->Option Int->Hp->VK->Prop):Prop :=
 ∀ (pins:List (Addr × Obj)) (s:Shared) (σ:St) (H:Hp) (x:V) (v vl vu:Value) (lo hi:Option Int) (sl:Addr) (Q:VK),Inv X pins σ H s->RelV x v->s.heap.IsSliceOf sl vl vu .none->IsPart vl lo->IsPart vu hi->r x lo hi H Q->
  ∃ T id,typeLookup (.type T) "__getitem__" = pure (some (.builtin id))/\s.TypeIs v T/\wpAny (model X.prog X.w) X.A (getItem v (.ref sl)) (EP X pins σ Q) X.xe s
theorem SlR.or{r r':V->Option Int->Option Int->Hp->VK->Prop}(h:SlR X r)(h':SlR X r'):SlR X (λx lo hi H Q=>r x lo hi H Q\/r' x lo hi H Q):=by
 intro pins s σ H x v vl vu lo hi sl Q I rx hs pl pu q
 rcases q with q | q
 ·exact h pins s σ H x v vl vu lo hi sl Q I rx hs pl pu q
 ·exact h' pins s σ H x v vl vu lo hi sl Q I rx hs pl pu q
def tSl(r:V->Option Int->Option Int->Hp->VK->Prop)(te:TE)(tl th:TO):TE:=λσ H Q=>te σ H λx H1=>tl σ H1 λl H2=>th σ H2 λu H3=>r x l u H3 Q
theorem ag7{r:V->Option Int->Option Int->Hp->VK->Prop}(hr:SlR X r)(he:PE X e te)(hl:PO X lo tl)(hu:PO X hi th):PE X (.Subscript e (.Slice lo hi none p2) pos) (tSl r te tl th):=by
 intro pins s σ H Q I h
 refine Subscript_ (thn (he pins s σ H _ I h) λv s1 ⟨x,H1,I1,r1,q1⟩=>?_);refine wpAny_Slice (thn (hl pins s1 σ H1 _ I1 q1) λvl s2 ⟨l,H2,I2,pl,q2⟩=>thn (hu pins s2 σ H2 _ I2 q2) λvu s3 ⟨u,H3,I3,pu,q3⟩=>?_);rw [evalPart_none];refine wpAny_pure ?_;have I4:Inv X pins σ H3 { s3 with heap:=s3.heap.push { cls:=.type "slice",data:=.fields #[vl,vu, .none] } }:=I3.kept (t':=s3.toks) λb ob q=>Heap.get?_push_of_some _ q
 obtain ⟨T,id,hT,ht,hg⟩:=hr pins { s3 with heap:=s3.heap.push { cls:=.type "slice",data:=.fields #[vl,vu, .none] } } σ H3 x v vl vu l u s3.heap.objs.size Q I4 r1 (Heap.IsSliceOf.new ..) pl pu q3
 show wpAny (model X.prog X.w) X.A (subscriptTail e (.Slice lo hi none p2) v (.ref s3.heap.objs.size)) (EP X pins σ Q) X.xe { s3 with heap:=s3.heap.push { cls:=.type "slice",data:=.fields #[vl,vu, .none] } }
 exact tail_any (ops:=[.ref s3.heap.objs.size,v]) ht hT hg (by with_unfolding_all rfl)
def aj2(xs:List V)(lo hi:Option Int):List V:=(xs.drop (HT.sIx xs.length 0 lo)).take (HT.sIx xs.length xs.length hi - HT.sIx xs.length 0 lo)
theorem a4r(xs:List V)(lo hi:Option Int):(aj2 xs lo hi).length<=xs.length:=by
 unfold aj2;rw [List.length_take,List.length_drop];omega
def atf(K:PySem.W.Frag):V->Option Int->Option Int->Hp->VK->Prop:=λx lo hi H Q=>∃ a xs,x = .ref a/\SqT K H a xs /\
 ¬ (HT.sIx xs.length 0 lo=0/\HT.sIx xs.length xs.length hi=xs.length)/\∀ p,H p=none->Q (.ref p) (upd H p (.tup (aj2 xs lo hi)))
theorem aoi:SlR X (atf X.K):=by
 intro pins s σ H x v vl vu lo hi sl Q I rx hs pl pu h
 obtain ⟨a,xs,rfl,hx,hw,q⟩:=h;cases rx
 obtain ⟨its,r,ht,hz⟩:=I.tuple hx;have hlen:its.toArray.size=xs.length:=by rw [List.size_toArray];exact r.length.symm
 refine ⟨"tuple",_,PyProof.Rows.slot_tuple_getitem.lookup,ht.typeIs,?_⟩;refine HT.a2p ht hs pl pu (by rw [hlen];exact hw) ?_ (by rw [hlen];exact hz)
 rw [hlen];refine ⟨.ref s.heap.objs.size,_,I.laid (t':=s.toks) (o:=.tup (aj2 xs lo hi)) (λb ob q=>Heap.get?_push_of_some _ q) (Nat.le_refl _) ?_,rfl,q _ (I.hok.fresh (Nat.le_refl _))⟩;exact ⟨Nat.le_trans (a4r xs lo hi) hz,_,(r.drop (HT.sIx xs.length 0 lo)).take (HT.sIx xs.length xs.length hi - HT.sIx xs.length 0 lo),IsTup.new _ _⟩
def aoj(K:PySem.W.Frag):R2:=λx y H Q=>∃ a b xs ys,x = .ref a/\y = .ref b/\SqT K H a xs/\SqT K H b ys/\xs≠[]/\xs.length+ys.length<=sizeLine /\
 (ys=[]->Q (.ref a) H)/\(ys≠[]->∀ p,H p=none->Q (.ref p) (upd H p (.tup (xs++ys))))
theorem Vals.nil_iff{xs:List V}{us:List Value}(r:Vals xs us):us=[]↔xs=[]:=by
 cases r with
 | nil=>simp
 | cons _ _=>simp
theorem ako:OpR X (binaryOp .Add) (aoj X.K):=by
 intro pins s σ H x y v u Q I rx ry h
 obtain ⟨a,b,xs,ys,rfl,rfl,ha,hb,hx,hz,q1,q2⟩:=h;cases rx
 cases ry
 obtain ⟨its,r1,p1,_⟩:=I.tuple ha;obtain ⟨its2,r2,p2,_⟩:=I.tuple hb;refine HT.akk p1 p2 (λz=>hx (r1.nil_iff.mp z)) (λz=>⟨.ref a,H,I,rfl,q1 (r2.nil_iff.mp z)⟩) (λz=>?_) (by rw [<-r1.length,<-r2.length];exact hz)
 refine ⟨.ref s.heap.objs.size,_,I.laid (t':=s.toks) (o:=.tup (xs++ys)) (λb ob q=>Heap.get?_push_of_some _ q) (Nat.le_refl _) ?_,rfl,q2 (λw=>z (r2.nil_iff.mpr w)) _ (I.hok.fresh (Nat.le_refl _))⟩;exact ⟨by rw [List.length_append];exact hz,_,r1.append r2,IsTup.new _ _⟩
end
def ixN(n:Nat)(i:Int):Option Nat:=if 0<=i then (if i<n then some i.toNat else none) else if -(n:Int)<=i then some (i+n).toNat else none
def atI{α:Type}(xs:List α)(i:Int):Option α:=(ixN xs.length i).bind λj=>xs[j]?
theorem acx{n:Nat}{i:Int}{j:Nat}(h:ixN n i=some j):seqIndex? i n=some j/\j<n /\ -(n:Int)<=i/\i<n:=by
 unfold ixN at h
 by_cases h0:0<=i
 ·rw [if_pos h0] at h
  by_cases h1:i<n
  ·rw [if_pos h1] at h;have e:i.toNat=j:=Option.some.inj h;exact ⟨by rw [seqIndex_of h0 h1,e],by omega,by omega,h1⟩
  ·rw [if_neg h1] at h;cases h
 ·rw [if_neg h0] at h
  by_cases h1 : -(n:Int)<=i
  ·rw [if_pos h1] at h;have e:(i+n).toNat=j:=Option.some.inj h;exact ⟨by rw [seqIndex_neg (by omega) h1,e],by omega,h1,by omega⟩
  ·rw [if_neg h1] at h;cases h
theorem a93{α:Type}{xs:List α}{i:Int}{v:α}(h:atI xs i=some v):∃ j,seqIndex? i xs.length=some j/\xs[j]? = some v/\j<xs.length /\ -(xs.length:Int)<=i/\i<xs.length:=by
 unfold atI at h
 cases e:ixN xs.length i with
 | none=>rw [e] at h;cases h
 | some j =>
  rw [e] at h;obtain ⟨h1,h2,h3,h4⟩:=acx e;exact ⟨j,h1,h,h2,h3,h4⟩
theorem vm{α:Type}{xs:List α}{j:Nat}{v:α}(h:xs[j]? = some v):atI xs (j:Int)=some v:=by
 have hj:j<xs.length:=(List.getElem?_eq_some_iff.mp h).1;have e:ixN xs.length (j:Int)=some j:=by
  unfold ixN;rw [if_pos (by omega),if_pos (by omega)];simp
 unfold atI;rw [e];exact h
def a94(b:Expr):Prop:=∀ o i,subscripted b false o i=operate [o,i] (getItem o i)
def IxR(X:Cx)(r:R2):Prop :=
 ∀ (value slice:Expr) (pins:List (Addr × Obj)) (s:Shared) (σ:St) (H:Hp) (x y:V) (v u:Value) (Q:VK),Inv X pins σ H s->RelV x v->RelV y u->r x y H Q->
  subscripted slice false v u=operate [v,u] (getItem v u)->wpAny (model X.prog X.w) X.A (subscriptTail value slice v u) (EP X pins σ Q) X.xe s
def MtR(X:Cx)(id:String)(r:V->List V->Hp->VK->Prop):Prop :=
 ∀ (pins:List (Addr × Obj)) (s:Shared) (σ:St) (H:Hp) (x:V) (xs:List V) (v:Value) (us:List Value) (Q:VK),Inv X pins σ H s->RelV x v->Vals xs us->r x xs H Q->
  wpAny (model X.prog X.w) X.A (call (.builtin id) (v::us)) (EP X pins σ Q) X.xe s
section
variable{X:Cx}{a b:Expr}{ta tb:TE}{pos:Pos}
theorem IxR.or{r r':R2}(h:IxR X r)(h':IxR X r'):IxR X (λx y H Q=>r x y H Q\/r' x y H Q):=by
 intro value slice pins s σ H x y v u Q I rx ry q hs
 rcases q with q | q
 ·exact h value slice pins s σ H x y v u Q I rx ry q hs
 ·exact h' value slice pins s σ H x y v u Q I rx ry q hs
theorem atg{r:R2}(hr:IxR X r)(ha:PE X a ta)(hb:PE X b tb)(hs:a94 b):PE X (.Subscript a b pos) (tOp r ta tb):=by
 intro pins s σ H Q I h
 exact Subscript_ (at8 ha hb I h λv u s2 x y H2 I2 rx ry q=>hr a b pins s2 σ H2 x y v u Q I2 rx ry q (hs _ _))
def aup(K:PySem.W.Frag):R2:=λx y H Q=>∃ p xs i v,x = .ref p/\y = .int i/\SqL K H p xs/\atI xs i=some v/\Q v H
def auq(K:PySem.W.Frag):R2:=λx y H Q=>∃ p xs i v,x = .ref p/\y = .int i/\SqT K H p xs/\atI xs i=some v/\Q v H
def aur:R2:=λx y H Q=>∃ z i c,x = .str z/\y = .int i/\z.length<=sizeLine/\atI z.cps.toList i=some c/\Q (.str ⟨#[c]⟩) H
theorem akp:IxR X (aup X.K):=by
 intro value slice pins s σ H x y v u Q I rx ry h hs
 obtain ⟨p,xs,i,z,rfl,rfl,hq,he,q⟩:=h;cases rx
 obtain ⟨t,rfl⟩:=ry;obtain ⟨its,r,pl,hz⟩:=I.list hq;obtain ⟨j,h1,h2,h3,h4,h5⟩:=a93 he;obtain ⟨w,ew,rw'⟩:=r.get h2;have hl:=r.length;have hn:=a4n;have fin:EP X pins σ Q w s:=⟨z,H,I,rw',q⟩
 by_cases h0:0<=i
 ·have hj:i.toNat=j:=by
   rw [seqIndex_of h0 h5] at h1;exact Option.some.inj h1
  exact item_listR pl.isList h0 (by omega) (by rw [hj];simpa using ew) fin hs
 ·have hj:(i+(its.toArray.size:Int)).toNat=j:=by
   rw [seqIndex_neg (by omega) h4] at h1
   rw [List.size_toArray,<-hl];exact Option.some.inj h1
  exact subscriptTail_builtinR (x:=w) pl.isList.typeIs slot_list_getitem.lookup
   (wpAny_getItem_list_neg (Q:=λr s'=>r=w/\EP X pins σ Q r s') pl.isList (by omega) (by rw [List.size_toArray]<;>omega) (by omega) (by rw [hj];simpa using ew) ⟨rfl,fin⟩) hs
theorem a3g:IxR X (auq X.K):=by
 intro value slice pins s σ H x y v u Q I rx ry h hs
 obtain ⟨p,xs,i,z,rfl,rfl,hq,he,q⟩:=h;cases rx
 obtain ⟨t,rfl⟩:=ry;obtain ⟨its,r,pl,hz⟩:=I.tuple hq;obtain ⟨j,h1,h2,h3,h4,h5⟩:=a93 he;obtain ⟨w,ew,rw'⟩:=r.get h2;have hl:=r.length;have hn:=a4n;have fin:EP X pins σ Q w s:=⟨z,H,I,rw',q⟩;exact subscriptTail_builtinR (x:=w) pl.typeIs slot_tuple_getitem.lookup
  (getItem_tuple (j:=j) (Q:=λr s'=>r=w/\EP X pins σ Q r s') pl (by omega) (by omega) (by rw [List.size_toArray,<-hl];exact h1) (by simpa using ew) ⟨rfl,fin⟩) hs
theorem aok:IxR X aur:=by
 intro value slice pins s σ H x y v u Q I rx ry h hs
 obtain ⟨z,i,c,rfl,rfl,hz,he,q⟩:=h;obtain ⟨t,rfl⟩:=rx;obtain ⟨t',rfl⟩:=ry;obtain ⟨j,h1,h2,h3,h4,h5⟩:=a93 he;have hl:z.cps.toList.length=z.length:=by simp [Str.length]
 rw [hl] at h1 h4 h5;have hn:=a4n;exact tail_any (typeIs_str s z t) slot_str_getitem.lookup (getItem_str (c:=c) (by
  have e1:decide (i < -(2 ^ 63:Int))=false:=decide_eq_false (by omega)
  have e2:decide (i≥2 ^ 63)=false:=decide_eq_false (by omega)
  rw [e1,e2,Bool.or_false]) (by rw [h1];simpa using h2) ⟨.str ⟨#[c]⟩,H,I.tok _,⟨_,rfl⟩,q⟩) hs
def rIx(K:PySem.W.Frag):R2:=λx y H Q=>aup K x y H Q\/auq K x y H Q\/aur x y H Q
theorem aol:IxR X (rIx X.K):=akp.or (a3g.or aok)
theorem abd(its:List Value)(n j:Nat)(u:Value):Obj.mapSeq (·.setIfInBounds j u) { cls:=.type "list",data:=.seq its.toArray n }={ cls:=.type "list",data:=.seq (its.set j u).toArray n }:=by
 simp [Obj.mapSeq]
theorem Inv.lst{pins:List (Addr × Obj)}{σ:St}{H:Hp}{s:Shared}{p:Addr}{xs:List V}(I:Inv X pins σ H s)(h:H p=some (.lst xs)) :
  ∃ (its:List Value) (n:Nat),Vals xs its/\s.heap.get? p=some { cls:=.type "list",data:=.seq its.toArray n }/\xs.length<=sizeLine:=by
 obtain ⟨z,its,n,r,e⟩:=I.hok p _ h;exact ⟨its,n,r,e,z⟩
theorem Inv.lstUpd{pins:List (Addr × Obj)}{σ:St}{H:Hp}{s:Shared}{p:Addr}{xs ys:List V}{its its':List Value}{n n':Nat}{f:Obj->Obj}(I:Inv X pins σ H s)(h:H p=some (.lst xs))
  (ho:s.heap.get? p=some { cls:=.type "list",data:=.seq its.toArray n }) (hf:f { cls:=.type "list",data:=.seq its.toArray n }={ cls:=.type "list",data:=.seq its'.toArray n' }) (r:Vals ys its') (hz:ys.length<=sizeLine) (t:Nat) :
  Inv X pins σ (upd H p (.lst ys)) { s with heap:=s.heap.update p f,toks:=t }:=by
 have e:(s.heap.update p f).get? p=some { cls:=.type "list",data:=.seq its'.toArray n' }:=by
  rw [Heap.get?_update_self f ho (by rw [hf]<;>rfl),hf]
 refine I.write (x:=p) (e:=p) (by rw [h];trivial) (.inl rfl) (λb u hb q=>(Heap.get?_update_other _ _ (Ne.symm hb)).trans q) ⟨_,e⟩ ?_
 exact ⟨hz,its',n',r,e⟩
def aom:V->V->V->Hp->(Hp->Prop)->Prop:=λo i v H Q=>∃ p xs k j,o = .ref p/\i = .int k/\H p=some (.lst xs)/\ixN xs.length k=some j/\Q (upd H p (.lst (xs.set j v)))
theorem set_list:auk X aom:=by
 intro pins s σ H o i v ov iv u Q I ro ri rv h
 obtain ⟨p,xs,k,j,rfl,rfl,hp,hj,q⟩:=h;cases ro
 obtain ⟨t,rfl⟩:=ri;obtain ⟨its,n,r,ho,hz⟩:=I.lst hp;obtain ⟨h1,h2,h3,h4⟩:=acx hj;have hl:=r.length;have hn:=a4n;have I':Inv X pins σ (upd H p (.lst (xs.set j v))) { s with heap:=s.heap.update p (Obj.mapSeq (·.setIfInBounds j u)) } :=
  I.lstUpd hp ho (abd its n j u) (r.set rv j) (by rw [List.length_set];exact hz) s.toks
 by_cases h0:0<=k
 ·have hk:k.toNat=j:=by
   rw [seqIndex_of h0 h4] at h1;exact Option.some.inj h1
  exact PySem.W.ki_setAt ho h0 (by omega) (by rw [List.size_toArray,<-hl];exact h4) (by rw [hk];exact ⟨_,I',q⟩)
 ·have hk:(k+(its.toArray.size:Int)).toNat=j:=by
   rw [seqIndex_neg (by omega) h3] at h1
   rw [List.size_toArray,<-hl];exact Option.some.inj h1
  exact PySem.W.ki_setBack ho (by omega) (by rw [List.size_toArray,<-hl];exact h3) (by omega) (by rw [hk];exact ⟨_,I',q⟩)
theorem a82(lo hi:Option Int)(n:Nat):(sliceBounds lo hi none n).1=((HT.sIx n 0 lo:Nat):Int)/\(sliceBounds lo hi none n).2.1=((HT.sIx n n hi:Nat):Int)/\(sliceBounds lo hi none n).2.2=1:=by
 refine ⟨?_,?_,rfl⟩
 ·cases lo with
  | none=>simp [sliceBounds,HT.sIx]
  | some i =>
   simp only [sliceBounds,HT.sIx,Option.getD_none,show (1:Int) > 0 by decide,if_true]
   by_cases h:i<0
   ·simp only [h,if_true]<;>omega
   ·simp only [h,if_false]<;>omega
 ·cases hi with
  | none=>simp [sliceBounds,HT.sIx]
  | some i =>
   simp only [sliceBounds,HT.sIx,Option.getD_none,show (1:Int) > 0 by decide,if_true]
   by_cases h:i<0
   ·simp only [h,if_true]<;>omega
   ·simp only [h,if_false]<;>omega
theorem a6p(its:List Value)(lo hi:Option Int):slicePick its.toArray lo hi none=((its.drop (HT.sIx its.length 0 lo)).take (HT.sIx its.length its.length hi - HT.sIx its.length 0 lo)).toArray:=by
 obtain ⟨h1,h2,h3⟩:=a82 lo hi its.toArray.size;unfold slicePick;rw [h1,h2,h3];simp only [sliceRange_one,pick_run,List.size_toArray]<;>rfl
def ath(K:PySem.W.Frag):V->Option Int->Option Int->Hp->VK->Prop:=λx lo hi H Q=>∃ a xs,x = .ref a/\SqL K H a xs/\∀ p,H p=none->Q (.ref p) (upd H p (.lst (aj2 xs lo hi)))
theorem akq:SlR X (ath X.K):=by
 intro pins s σ H x v vl vu lo hi sl Q I rx hs pl pu h
 obtain ⟨a,xs,rfl,hx,q⟩:=h;cases rx
 obtain ⟨its,r,ht,hz⟩:=I.list hx;have hlen:=r.length;refine ⟨"list",_,slot_list_getitem.lookup,ht.isList.typeIs,?_⟩;refine wpAny_getItem_list_slice ht.isList hs pl pu .none (by simp) ?_ (by rw [List.size_toArray]<;>omega)
 rw [a6p,<-hlen];refine ⟨.ref s.heap.objs.size,_,I.laid (t':=s.toks) (o:=.lst (aj2 xs lo hi)) (λb ob q=>Heap.get?_push_of_some _ q) (Nat.le_refl _) ?_,rfl,q _ (I.hok.fresh (Nat.le_refl _))⟩;exact ⟨Nat.le_trans (a4r xs lo hi) hz,_,0,(r.drop (HT.sIx xs.length 0 lo)).take (HT.sIx xs.length xs.length hi - HT.sIx xs.length 0 lo),Heap.get?_push_size _ rfl⟩
def a1l:V->Bool
 | .non=>true
 | .bl _=>true
 | .int _=>true
 | .str _=>true
 | _=>false
def eqV:V->V->Bool
 | .non, .non=>true
 | .bl a, .bl b=>a == b
 | .bl a, .int b=>(if a then 1 else 0) == b
 | .int a, .bl b=>a == (if b then 1 else 0)
 | .int a, .int b=>a == b
 | .str a, .str b=>a == b
 | _,_=>false
theorem acy{A:Around}{s:Shared}{y x:V}{u v:Value}(ry:RelV y u)(rx:RelV x v)(fy:a1l y=true)(fx:a1l x=true):SeqAt.EqAt A s u v (eqV y x):=by
 cases y with
 | non =>
  cases ry
  cases x with
  | non=>cases rx;exact SeqAt.EqAt.same _
  | bl b=>cases rx;exact SeqAt.EqAt.none_bool b
  | int b=>obtain ⟨t,rfl⟩:=rx;exact SeqAt.EqAt.none_int b t
  | str b=>obtain ⟨t,rfl⟩:=rx;exact SeqAt.EqAt.none_str b t
  | _=>exact absurd (show false=true from fx) Bool.false_ne_true
 | bl a =>
  cases ry
  cases x with
  | non=>cases rx;exact SeqAt.EqAt.bool_none a
  | bl b=>cases rx;exact SeqAt.EqAt.bool_bool a b
  | int b=>obtain ⟨t,rfl⟩:=rx;exact SeqAt.EqAt.bool_int a b t
  | str b=>obtain ⟨t,rfl⟩:=rx;exact SeqAt.EqAt.bool_str a b t
  | _=>exact absurd (show false=true from fx) Bool.false_ne_true
 | int a =>
  obtain ⟨t',rfl⟩:=ry
  cases x with
  | non=>cases rx;exact SeqAt.EqAt.int_none a t'
  | bl b=>cases rx;exact SeqAt.EqAt.int_bool a t' b
  | int b=>obtain ⟨t,rfl⟩:=rx;exact SeqAt.EqAt.int_int a t' b t
  | str b=>obtain ⟨t,rfl⟩:=rx;exact SeqAt.EqAt.int_str a t' b t
  | _=>exact absurd (show false=true from fx) Bool.false_ne_true
 | str a =>
  obtain ⟨t',rfl⟩:=ry
  cases x with
  | non=>cases rx;exact SeqAt.EqAt.str_none a t'
  | bl b=>cases rx;exact SeqAt.EqAt.str_bool a t' b
  | int b=>obtain ⟨t,rfl⟩:=rx;exact SeqAt.EqAt.str_int a t' b t
  | str b=>obtain ⟨t,rfl⟩:=rx;exact SeqAt.EqAt.str_str a t' b t
  | _=>exact absurd (show false=true from fx) Bool.false_ne_true
 | _=>exact absurd (show false=true from fy) Bool.false_ne_true
def eqU(x:V)(u:Value):Bool:=match u with
 | .none=>eqV .non x
 | .bool b=>eqV (.bl b) x
 | .int i _=>eqV (.int i) x
 | .str z _=>eqV (.str z) x
 | _=>false
theorem aj3{x y:V}{u:Value}(r:RelV y u)(f:a1l y=true):eqU x u=eqV y x:=by
 cases y with
 | non=>cases r;rfl
 | bl b=>cases r;rfl
 | int i=>obtain ⟨t,rfl⟩:=r;rfl
 | str z=>obtain ⟨t,rfl⟩:=r;rfl
 | _=>exact absurd (show false=true from f) Bool.false_ne_true
theorem a4s{x:V}:∀ {xs:List V} {us:List Value},Vals xs us->xs.all a1l=true->us.any (eqU x)=xs.any λy=>eqV y x
 | _,_, .nil,_=>rfl
 | y::xs,u::us, .cons r t,f=>by
  rw [List.all_cons,Bool.and_eq_true] at f;rw [List.any_cons,List.any_cons,aj3 r f.1,a4s t f.2]
theorem a1u{A:Around}{s:Shared}{x:V}{v:Value}(rx:RelV x v)(fx:a1l x=true):∀ {xs:List V} {us:List Value},Vals xs us->xs.all a1l=true->∀ u∈us,SeqAt.EqAt A s u v (eqU x u)
 | _,_, .nil,_=>λu hu=>by cases hu
 | y::xs,u::us, .cons r t,f=>λu' hu=>by
  rw [List.all_cons,Bool.and_eq_true] at f
  rcases List.mem_cons.mp hu with rfl | hu
  ·rw [aj3 r f.1];exact acy r rx f.1 fx
  ·exact a1u rx fx t f.2 u' hu
def inV(x:V)(xs:List V):Bool:=xs.any λy=>eqV y x
def rIn(K:PySem.W.Frag)(neg:Bool):R2:=λx y H Q=>∃ p xs,y = .ref p/\(SqL K H p xs\/SqT K H p xs)/\a1l x=true/\xs.all a1l=true/\Q (.bl (if neg then !inV x xs else inV x xs)) H
theorem acz:OpR X (compareOp .In) (rIn X.K false):=by
 intro pins s σ H x y v u Q I rx ry h
 obtain ⟨p,xs,rfl,hq,fx,fs,q⟩:=h;cases ry
 rcases hq with hq | hq
 ·obtain ⟨its,r,pl,hz⟩:=I.list hq;refine SeqAt.in_listAt (eqU x) pl.isList (λw hw=>a1u rx fx r fs w (by simpa using hw)) ⟨.bl _,H,I,rfl,?_⟩
  rw [show its.toArray.any (eqU x)=its.any (eqU x) by simp,a4s r fs]
  exact q
 ·obtain ⟨its,r,pl,hz⟩:=I.tuple hq;refine SeqAt.in_tupleAt (eqU x) pl (λw hw=>a1u rx fx r fs w (by simpa using hw)) ⟨.bl _,H,I,rfl,?_⟩
  rw [show its.toArray.any (eqU x)=its.any (eqU x) by simp,a4s r fs]
  exact q
theorem a3h:OpR X (compareOp .NotIn) (rIn X.K true):=by
 intro pins s σ H x y v u Q I rx ry h
 obtain ⟨p,xs,rfl,hq,fx,fs,q⟩:=h;cases ry
 rcases hq with hq | hq
 ·obtain ⟨its,r,pl,hz⟩:=I.list hq;refine SeqAt.notIn_listAt (eqU x) pl.isList (λw hw=>a1u rx fx r fs w (by simpa using hw)) ⟨.bl _,H,I,rfl,?_⟩
  rw [show its.toArray.any (eqU x)=its.any (eqU x) by simp,a4s r fs]
  exact q
 ·obtain ⟨its,r,pl,hz⟩:=I.tuple hq;refine SeqAt.notIn_tupleAt (eqU x) pl (λw hw=>a1u rx fx r fs w (by simpa using hw)) ⟨.bl _,H,I,rfl,?_⟩
  rw [show its.toArray.any (eqU x)=its.any (eqU x) by simp,a4s r fs]
  exact q
theorem iw:CallR X (.builtin "len") (λxs H Q=>∃ p ys,xs=[.ref p]/\(SqL X.K H p ys\/SqT X.K H p ys)/\Q (.int ys.length) H):=by
 intro pins s σ H xs us Q I r h
 obtain ⟨p,ys,rfl,hq,q⟩:=h;obtain ⟨u,rfl,rx⟩:=vals1 r;cases rx
 have hn:=a4n
 rcases hq with hq | hq
 ·obtain ⟨its,r',pl,hz⟩:=I.list hq;have hlen:=r'.length;exact Calls.call_len_list pl.isList (by simp only [List.size_toArray]<;>omega) ⟨.int ys.length,H,I.tok _,⟨s.toks+1,by rw [List.size_toArray,hlen]⟩,q⟩
 ·obtain ⟨its,r',pl,hz⟩:=I.tuple hq;have hlen:=r'.length;exact len_tuple pl (by simp only [List.size_toArray]<;>omega) ⟨.int ys.length,H,I.tok _,⟨s.toks+1,by rw [List.size_toArray,hlen]⟩,q⟩
theorem iy:CallR X (.builtin "len") (λxs H Q=>∃ z,xs=[.str z]/\z.length<=sizeLine/\Q (.int z.length) H):=by
 intro pins s σ H xs us Q I r h
 obtain ⟨z,rfl,hz,q⟩:=h;obtain ⟨u,rfl,t,rfl⟩:=vals1 r;have hn:=a4n;exact len_str (by omega) ⟨.int z.length,H,I.tok _,⟨_,rfl⟩,q⟩
theorem CallR.or{f:Value}{r r':List V->Hp->VK->Prop}(h:CallR X f r)(h':CallR X f r'):CallR X f (λxs H Q=>r xs H Q\/r' xs H Q):=by
 intro pins s σ H xs us Q I rs q
 rcases q with q | q
 ·exact h pins s σ H xs us Q I rs q
 ·exact h' pins s σ H xs us Q I rs q
theorem m7:CallR X (.type "tuple") (λxs H Q=>∃ p ys,xs=[.ref p]/\((SqL X.K H p ys/\∀ l,H l=none->Q (.ref l) (upd H l (.tup ys)))\/(SqT X.K H p ys/\Q (.ref p) H))):=by
 intro pins s σ H xs us Q I r h
 obtain ⟨p,ys,rfl,h⟩:=h;obtain ⟨u,rfl,rx⟩:=vals1 r;cases rx
 rcases h with ⟨hq,q⟩ | ⟨hq,q⟩
 ·obtain ⟨its,r',pl,hz⟩:=I.list hq;have hlen:=r'.length;refine call_tuple_list pl.isList (λh' kp=>?_) (by simp only [List.size_toArray]<;>omega)
  have I1:Inv X pins σ H { s with heap:=h' }:=I.kept (t':=s.toks) kp
  have I2:Inv X pins σ (upd H h'.objs.size (.tup ys)) { s with heap:=h'.push { cls:=.type "tuple",data:=.seq its.toArray } } :=
   I1.laid (t':=s.toks) (λb o e=>Heap.get?_push_of_some _ e) (Nat.le_refl _) (show ObjOk X.prog X.w _ _ _ (.tup ys) from ⟨hz,its,r',IsTup.new _ _⟩)
  exact ⟨.ref h'.objs.size,_,I2,rfl,q _ (I1.hok.fresh (Nat.le_refl _))⟩
 ·obtain ⟨its,r',pl,hz⟩:=I.tuple hq;exact call_tuple_same pl ⟨.ref p,H,I,rfl,q⟩
def tyV(K:PySem.W.Frag)(T:String)(x:V)(H:Hp):Prop:=match x with
 | .str _=>T = "str"
 | .int _=>T = "int"
 | .ref p=>(T = "list"/\∃ xs,SqL K H p xs)\/(T = "tuple"/\∃ o,K.lookup p=some o/\o.cls = .type "tuple"/\o.dict=none) \/
   (T = "dict"/\((∃ kvs,H p=some (.dK kvs))\/∃ kvs,H p=some (.dT kvs)))\/(T = "set"/\∃ S n,H p=some (.set S n))
 | _=>False
theorem ad0{pins:List (Addr × Obj)}{σ:St}{H:Hp}{s:Shared}{T:String}{x:V}{v:Value}(I:Inv X pins σ H s)(r:RelV x v)(ty:tyV X.K T x H) :
  s.TypeIs v T/\∀ a,v = .ref a->∃ ob,s.heap.get? a=some ob/\ob.dict=none:=by
 cases x with
 | str z =>
  obtain ⟨t,rfl⟩:=r
  cases (show T = "str" from ty)
  exact ⟨typeIs_str s z t,λ_ e=>nomatch e⟩
 | int i =>
  obtain ⟨t,rfl⟩:=r
  cases (show T = "int" from ty)
  exact ⟨typeIs_int s i t,λ_ e=>nomatch e⟩
 | ref p =>
  cases r
  rcases ty with ⟨rfl,xs,hq⟩ | ⟨rfl,o,hk,hc,hd⟩ | ⟨rfl,hk⟩ | ⟨rfl,S,n,hk⟩
  ·obtain ⟨its,_,pl,_⟩:=I.list hq;refine ⟨pl.isList.typeIs,λa e=>?_⟩;cases e
   obtain ⟨o,n,e,c,hd,_⟩:=pl;exact ⟨o,e,hd⟩
  ·refine ⟨⟨o,I.kIn p o hk,hc⟩,λa e=>?_⟩;cases e
   exact ⟨o,I.kIn _ o hk,hd⟩
  ·have z:∃ o,s.heap.get? p=some o/\o.ExactDict:=by
    rcases hk with ⟨kvs,hk⟩ | ⟨kvs,hk⟩
    ·obtain ⟨_,_,_,_,o,_,_,e,ex,_⟩:=I.hok p _ hk;exact ⟨o,e,ex⟩
    ·obtain ⟨_,_,_,_,o,_,_,e,ex,_⟩:=I.hok p _ hk;exact ⟨o,e,ex⟩
   obtain ⟨o,e,ex⟩:=z;refine ⟨⟨o,e,ex.1⟩,λa e2=>?_⟩;cases e2
   exact ⟨o,e,ex.2.1⟩
  ·obtain ⟨o,_,_,_,e,ex,_⟩:=I.hok p _ hk;refine ⟨⟨o,e,ex.1⟩,λa e2=>?_⟩;cases e2
   exact ⟨o,e,ex.2.1⟩
 | _=>exact False.elim ty
def aw5(K:PySem.W.Frag)(T:String)(r:V->List V->Hp->VK->Prop)(to:TE):TE:=λσ H Q=>to σ H λx H1=>tyV K T x H1/\r x [] H1 Q
def tBM(K:PySem.W.Frag)(T:String)(r:V->List V->Hp->VK->Prop)(to:TE)(t:TA):TE:=λσ H Q=>to σ H λx H1=>tyV K T x H1/\t σ H1 λxs H2=>r x xs H2 Q
variable{o e:Expr}{es:List Expr}{to:TE}{t:TA}{name:Str}{apos cpos:Pos}{T id:String}{r:V->List V->Hp->VK->Prop}
theorem aon(pa:PlainAttrs T)(slot:Slot T name id)(hty:typeOf (.builtin id)=pure (.type "method_descriptor"))(hm:MtR X id r)(ho:PE X o to)
  (hbase:attributeBase o name X.env (eval o X.env)=eval o X.env:=by rfl) (hline:(apos.endLine == cpos.line)=true:=by rfl):PE X (.Call (.Attribute o name apos) [] [] cpos) (aw5 X.K T r to):=by
 intro pins s σ H Q I h
 refine wpAny_Call_method0_late hbase hline (thn (ho pins s σ H _ I h) λv s1 ⟨x,H1,I1,r1,ty,q1⟩=>?_);obtain ⟨h1,h2⟩:=ad0 I1 r1 ty;exact ⟨T,id,pa,slot,hty,h1,h2,Calls.callWith_builtin rfl (PySem.evalArgs_none (hm pins s1 σ H1 x [] v [] Q I1 r1 .nil q1))⟩
theorem ati(pa:PlainAttrs T)(slot:Slot T name id)(hty:typeOf (.builtin id)=pure (.type "method_descriptor"))(hm:MtR X id r)(ho:PE X o to)(ha:PA X (e::es) t)
  (hbase:attributeBase o name X.env (eval o X.env)=eval o X.env:=by rfl)
  (hfew:((backTo cpos (starEach (e::es) X.env)).all (λx => !x.1) && (backToKw cpos (keywordEach [] X.env)).all (λx=>x.1.isSome)
   && decide ((e::es).length+([]:List Keyword).length+(if ([]:List Keyword).isEmpty then 0 else 1)<30))=true:=by rfl)
  (hline:(apos.endLine == cpos.line)=true:=by rfl) (hs:starEach (e::es) X.env=(false,eval e X.env)::starEach es X.env:=by rfl) (hplain:(backTo cpos (starEach es X.env)).any (·.1)=false:=by rfl) :
  PE X (.Call (.Attribute o name apos) (e::es) [] cpos) (tBM X.K T r to t):=by
 intro pins s σ H Q I h
 refine wpAny_Call_method_late hbase hfew hline rfl (thn (ho pins s σ H _ I h) λv s1 ⟨x,H1,I1,r1,ty,q1⟩=>?_);obtain ⟨h1,h2⟩:=ad0 I1 r1 ty;refine ⟨T,id,pa,slot,hty,h1,h2,?_⟩;have hA:=ha cpos pins s1 σ H1 _ I1 q1;rw [hs] at hA ⊢;refine Calls.callWith_builtin (by show (false || (backTo cpos (starEach es X.env)).any (·.1))=false;rw [hplain]<;>rfl) (Calls.evalArgs_plain ?_)
 exact thn hA λus s2 ⟨vs,H2,I2,r2,q2⟩=>hm pins s2 σ H2 x vs v us Q I2 r1 r2 q2
end
def MtM(X:Cx)(id:String)(r:V->List V->Hp->VK->Prop):Prop :=
 ∀ (pins:List (Addr × Obj)) (s:Shared) (σ:St) (H:Hp) (x:V) (xs:List V) (v:Value) (us:List Value) (Q:VK),Inv X pins σ H s->RelV x v->Vals xs us->r x xs H Q->
  wpAny (model X.prog X.w) X.A (call (.builtin id) (v::us)) (EP X pins σ Q) X.xe s
theorem Vals.one:∀ {x:V} {us:List Value},Vals [x] us->∃ u,us=[u]/\RelV x u
 | _,_, .cons r .nil=>⟨_,rfl,r⟩
theorem Vals.zero:∀ {us:List Value},Vals [] us->us=[]
 | _, .nil=>rfl
theorem Vals.dropLast{xs:List V}{us:List Value}(h:Vals xs us):Vals xs.dropLast us.dropLast:=by
 induction h with
 | nil=>exact .nil
 | cons r t ih =>
  cases t with
  | nil=>exact .nil
  | cons q t'=>exact .cons r ih
theorem Vals.rep{xs:List V}{us:List Value}(h:Vals xs us):∀ k:Nat,Vals (List.replicate k xs).flatten (List.replicate k us).flatten
 | 0=>.nil
 | k+1=>by
  rw [List.replicate_succ,List.replicate_succ,List.flatten_cons,List.flatten_cons];exact Vals.append h (Vals.rep h k)
theorem abe{α:Type}(l:List α):l.eraseIdx (l.length - 1)=l.dropLast:=by
 induction l with
 | nil=>rfl
 | cons a r ih =>
  cases r with
  | nil=>rfl
  | cons b r =>
   have e:(a::b::r).length - 1=((b::r).length - 1)+1:=by
    have h1:(a::b::r).length=r.length+2:=rfl;have h2:(b::r).length=r.length+1:=rfl;omega
   rw [e,List.eraseIdx_cons_succ,ih]
   all_goals rfl
theorem foldl_rep(its:List Value):∀ (k:Nat) (acc:List Value),
  List.foldl (λx1 x2=>x1++x2) acc.toArray (List.replicate k its.toArray)=(acc++(List.replicate k its).flatten).toArray
 | 0,acc=>by simp
 | k+1,acc=>by
  have e:acc.toArray++its.toArray=(acc++its).toArray:=by simp
  have e2:(acc++its)++(List.replicate k its).flatten=acc++(List.replicate (k+1) its).flatten:=by
   rw [List.replicate_succ,List.flatten_cons,List.append_assoc]
  rw [<-e2,<-foldl_rep its k (acc++its),<-e,List.replicate_succ,List.foldl_cons]
section
variable{X:Cx}{pins:List (Addr × Obj)}{σ:St}{H:Hp}{s:Shared}{l b:Addr}{xs ys zs:List V}
theorem Inv.lset{its its':List Value}{n:Nat}{f:Array Value->Array Value}{t':Nat}(I:Inv X pins σ H s)(hH:H l=some (.lst xs))
  (e:s.heap.get? l=some { cls:=.type "list",data:=.seq its.toArray n }) (hf:f its.toArray=its'.toArray) (hv:Vals ys its') (hz:ys.length<=sizeLine) :
  Inv X pins σ (upd H l (.lst ys)) { s with heap:=s.heap.update l (Obj.mapSeq f),toks:=t' }:=by
 have q:=PySem.IsL.update e f;rw [hf] at q;refine I.write (x:=l) (e:=l) (by rw [hH];exact trivial) (.inl rfl) (λb' u hb hu=>(Heap.get?_update_other s.heap (Obj.mapSeq f) (Ne.symm hb)).trans hu) ⟨_,q⟩ ?_
 exact ⟨hz,its',_,hv,q⟩
theorem Inv.lnew{its:List Value}{t':Nat}(I:Inv X pins σ H s)(hv:Vals ys its)(hz:ys.length<=sizeLine) :
  Inv X pins σ (upd H s.heap.objs.size (.lst ys)) { s with heap:=s.heap.push { cls:=.type "list",data:=.seq its.toArray },toks:=t' } :=
 I.laid (λ_ _ q=>Heap.get?_push_of_some _ q) (Nat.le_refl _) ⟨hz,its,0,hv,Heap.get?_push_size _ rfl⟩
theorem Inv.fresh(I:Inv X pins σ H s):H s.heap.objs.size=none:=I.hok.fresh (Nat.le_refl _)
theorem Inv.lstM(I:Inv X pins σ H s)(hH:H l=some (.lst xs)):xs.length<=sizeLine/\∃ (its:List Value) (n:Nat),Vals xs its/\xs.length=its.length/\s.heap.get? l=some { cls:=.type "list",data:=.seq its.toArray n }:=by
 obtain ⟨z,its,n,r,e⟩:=I.hok l _ hH;exact ⟨z,its,n,r,r.length,e⟩
theorem aa2{n:Nat}(h:n<=sizeLine):Builtin.List.listTooLong n=false:=by
 unfold Builtin.List.listTooLong;exact decide_eq_false (by omega)
end
section
variable{X:Cx}
def ad1:V->List V->Hp->VK->Prop:=λx vs H Q=>∃ l xs y,x = .ref l/\vs=[y]/\H l=some (.lst xs)/\xs.length<sizeLine/\Q .non (upd H l (.lst (xs++[y])))
theorem o6:MtM X "list.append" ad1:=by
 intro pins s σ H x vs v us Q I rx rv h
 obtain ⟨l,xs,y,rfl,rfl,hH,hz,q⟩:=h;cases rx
 obtain ⟨u,rfl,ru⟩:=rv.one;obtain ⟨z,its,n,r,hl,e⟩:=I.lstM hH;refine call_meets F.slot_list_append ⟨_,e,rfl⟩ F.entry_list_append (F.args_list_append_2 _ _) (PySem.list_append l its.toArray n u (by rw [List.size_toArray];omega)) ⟨e,?_⟩
 refine ⟨.non,_,I.lset (its':=its++[u]) hH e (by simp) (r.append (.cons ru .nil)) ?_,rfl,q⟩
 rw [List.length_append,List.length_singleton];omega
def aus:V->List V->Hp->VK->Prop:=λx vs H Q=>∃ l xs y,x = .ref l/\vs=[]/\H l=some (.lst xs)/\xs[xs.length - 1]? = some y/\Q y (upd H l (.lst xs.dropLast))
theorem aoo:MtM X "list.pop" aus:=by
 intro pins s σ H x vs v us Q I rx rv h
 obtain ⟨l,xs,y,rfl,rfl,hH,hy,q⟩:=h;cases rx
 have hus:=rv.zero;subst hus;obtain ⟨z,its,n,r,hl,e⟩:=I.lstM hH;obtain ⟨u,hu,ru⟩:=r.get hy;have hy':its.toArray[its.toArray.size - 1]? = some u:=by
  show its.toArray[its.length - 1]? = some u;rw [<-Array.getElem?_toList,<-hl];exact hu
 refine call_meets F.slot_list_pop ⟨_,e,rfl⟩ F.entry_list_pop (F.args_list_pop_1 _) (MeetsSeq.list_pop_last l its.toArray n u hy' (by rw [List.size_toArray];omega)) ⟨e,?_⟩
 refine ⟨y,_,I.lset (its':=its.dropLast) hH e ?_ r.dropLast ?_,ru,q⟩
 ·show its.toArray.eraseIdxIfInBounds (its.toArray.size - 1)=its.dropLast.toArray;rw [List.size_toArray,List.eraseIdxIfInBounds_toArray,abe]
 ·rw [List.length_dropLast];omega
def as9:R2:=λx y H Q=>∃ l k xs,x = .ref l/\y = .int k/\H l=some (.lst xs) /\ -(2 ^ 63)<=k/\k<2 ^ 63/\xs.length*k.toNat<=sizeLine /\
 ∀ p,H p=none->Q (.ref p) (upd H p (.lst (List.replicate k.toNat xs).flatten))
theorem len_rep{α:Type}(xs:List α)(k:Nat):(List.replicate k xs).flatten.length=k*xs.length:=by
 induction k with
 | zero=>simp
 | succ k ih=>rw [List.replicate_succ,List.flatten_cons,List.length_append,ih,Nat.succ_mul,Nat.add_comm]
theorem aop:OpR X (binaryOp .Mult) as9:=by
 intro pins s σ H x y v u Q I rx ry h
 obtain ⟨l,k,xs,rfl,rfl,hH,h1,h2,hz,q⟩:=h;cases rx
 obtain ⟨t,rfl⟩:=ry;obtain ⟨z,its,n,r,hl,e⟩:=I.lstM hH;have hlen:its.toArray.size*k.toNat<=sizeLine:=by rw [List.size_toArray,<-hl];exact hz
 have hcap:¬ its.toArray.size*k.toNat > (2 ^ 63 - 1) / 8:=by
  have:(sizeLine:Nat)<=(2 ^ 63 - 1) / 8:=by decide
  omega
 have hfit:¬ (!Builtin.List.listFitsIndex k)=true:=by
  rw [fitsIndex_both h1 h2];exact Bool.false_ne_true
 have hlong:¬ Builtin.List.listTooLong (its.toArray.size*k.toNat)=true:=by
  rw [aa2 hlen];exact Bool.false_ne_true
 have hnew:List.foldl (λx1 x2=>x1++x2) #[] (List.replicate (if its.toArray.isEmpty=true then 0 else k.toNat) its.toArray)=(List.replicate k.toNat its).flatten.toArray:=by
  have f0:∀ m:Nat,List.foldl (λx1 x2=>x1++x2) #[] (List.replicate m its.toArray)=(List.replicate m its).flatten.toArray:=λm=>by
   have:=foldl_rep its m []
   rw [List.nil_append] at this;exact this
  rw [f0]
  cases its with
  | nil=>simp
  | cons a r'=>rw [if_neg (by simp)]
 refine wpAny_binaryOp_repeat_ref (T := "list") (U := "int") (by decide) ⟨_,e,rfl⟩ (λs'=>typeIs_int s' k t) noFill_list_mul F.fills_int_mul F.slot_int_rmul repeat_list F.slot_int_index.lookup
  (call_meets F.slot_int_rmul (typeIs_int s k t) F.entry_int_rmul (F.args_int_rmul_2 _ _) (int___rmul___int_list k t l its.toArray n)
   ⟨e,rfl,⟨_,e,rfl⟩,call_meets F.slot_list_mul ⟨_,e,rfl⟩ F.entry_list_mul (F.args_list_mul_2 _ _) (AutoListH.list___mul___list_int_3 l its.toArray n k t hfit hcap hlong) ⟨e,?_⟩⟩)
 rw [hnew];exact ⟨.ref _,_,I.lnew (t':=s.toks) (r.rep k.toNat) (by rw [len_rep,Nat.mul_comm];exact hz),rfl,q _ I.fresh⟩
end
end L2
namespace Att
open PySem PySem.W PySem.Calls PyProof.Rows
theorem a4t{P:Params}{h:Heap}:∀ (ns:List Int) (vs:List Value),WellAll P h vs (ns.map WData.int)->IntsAre vs ns:=by
 intro ns
 induction ns with
 | nil =>
  intro vs w
  rw [List.map_nil] at w;cases w
  exact .nil
 | cons n ns ih =>
  intro vs w
  rw [List.map_cons] at w
  cases w with
  | cons a b =>
   cases a
   exact .cons _ _ (ih _ b)
theorem ad3{l:OpenLaw}{n:Nat}(hn:l.most=some n){P:Params}{h:Heap}{args:List WData}{vals:List Value}
  (hpre:l.row.toRowW.claim.pre args=true) (hwl:WellAll P h vals args) :
  ∃ a vs ns,vals=[Value.ref a]/\args=[WData.list (ns.map WData.int)]/\h.get? a=some { cls:=.type "list",data:=.seq vs.toArray }/\IntsAre vs ns/\ns.length<=n:=by
 have hsh:WShape.hasAll [] args [.list .int]=true:=(pre_splitW hpre).1;have hc:l.pre.holds [] { args:=args }=true:=(pre_splitW hpre).2;obtain ⟨d,r,rfl,h1,h2⟩:=hasAllW_cons hsh;obtain rfl:=hasAllW_nil h2;obtain ⟨xs,rfl,h3⟩:=hasW_list h1;obtain ⟨ns,rfl⟩:=items_int h3;have hlen:ns.length<=n:=by
  unfold OpenLaw.pre at hc;have h4:(WTm.not (.lt (.lit (.int (n:Int))) (.len (.arg 0)))).holds [] { args:=[.list (ns.map .int)] }=true:=by
   have h4:=(holds_andW hc).1;rw [hn] at h4;exact h4
  have h5:=condW_of h4 (w_not (w_lt w_lit (w_len_list (w_arg rfl))));rw [List.length_map] at h5;refine Nat.le_of_not_lt λq=>?_;have q':(n:Int)<((ns.length:Nat):Int):=by omega
  first
   | (rw [decide_eq_true q'] at h5;exact absurd h5 (by decide))
   | (simp at h5;omega)
 cases hwl with
 | cons w1 w2 =>
  cases w2
  cases w1 with
  | list ho hall=>exact ⟨_,_,ns,rfl,rfl,ho,a4t ns _ hall,hlen⟩
theorem ad4(l:OpenLaw)(args:List WData):l.row.toRowW.claim.post args (.bool true) args=true :=
 postW_of (r:=l.row.toRowW) (X:=(true == true))
  (show WShape.has [] (.bool true) .bool=true by first | rfl | decide | simp [WShape.has,WShape.arms,WShape.armsAll])
  (show (WTm.eq .res (.lit (.bool true))).value [] { args:=args,res:=some (.bool true),after:=args }=some (.bool (true == true)) from w_eq_bool (w_res rfl) w_lit) rfl
theorem a95{l:OpenLaw}{n:Nat}{q:Program}{loose:List Str}{XP:(Str->Option Value)->Heap->Prop}{YP:World->Heap->Prop}{d:DefRec}
  (hn:l.most=some n) (hdf:d.params.defaults=[])
  (call:∀ (w:World) (s₀ s₁:Shared) (mg mb:Str->Option Value) (fa:Addr) (o:Obj) (pm cd doc:Value) (a:Addr) (vs:List Value) (ns:List Int),
   Ground q loose [] XP w s₀ mg mb s₁.heap->YP w s₁.heap->
   s₁.heap.get? fa=some o->o.data = .func (docDef d.name d.params d.body d.scope pm cd doc)->s₁.heap.CodeRec cd d.name->mg d.name=some (.ref fa)->
   s₁.heap.get? a=some { cls:=.type "list",data:=.seq vs.toArray }->IntsAre vs ns->ns.length<=n->s₁.gens = #[]->
   codeAny (model l.prog w) callerA (.call (.ref fa) ⟨[.ref a],[]⟩) (λr s'=>r = .ok (.ret (.bool true))/\OldK s₁.heap s'.heap/\s'.os=s₁.os/\AllBare s'.gens) s₁) :
  WalkO q loose XP YP l.row.toRowW d [] (λf vs=>PySem.call f vs):=by
 intro w s₀ s₁ mg mb G Y fa o pm cd doc dV kV ho hd hcd hD hmg hg args vals as hpre hlay hrd hwl hlo
 obtain rfl:dV = .none:=Dflts.none hD hdf
 obtain rfl:kV = .none:=Dflts.noKw hD
 obtain ⟨a,vs,ns,rfl,rfl,hobj,hints,hlen⟩:=ad3 hn hpre hwl;refine enter_call (codeAny_mono (call w s₀ s₁ mg mb fa o pm cd doc a vs ns G Y ho (fd_plain hd) hcd hmg hobj hints hlen hg) λr s' hq=>?_);obtain ⟨rfl,h2,h3,h4⟩:=hq;exact ⟨.inl ⟨.bool true, .bool true,[],rfl,λ_=>rfl, .bool true,ad4 l _,λ_=>⟨List.Pairwise.nil,λ_ hm=>(nomatch hm)⟩⟩,h2,h3,h4⟩
end Att
namespace L2
open PySem PySem.Spec PyProof.Rows
theorem a83:∀ {vs:List Value} {ns:List Int},IntsAre vs ns->Vals (ns.map V.int) vs
 | _,_, .nil=>.nil
 | _,_, .cons n t h=>.cons ⟨t,rfl⟩ (a83 h)
def Only(H:Hp):Prop:=∀ b,H b=none\/∃ o xs,H b=some (.frz o (.lst xs))
theorem ag8{P:Program}{w:World}{K:PySem.W.Frag}{mg mb:Str->Option Value}{CX:CXT}{k:Nat}{fa a:Addr}{fd:FuncData}{x:Str}{sp:Sp}{s₁:Shared}{vs:List Value}{ns:List Int}
  (KX:K.In s₁.heap) (hns:s₁.heap.Ns mainGlobals mg) (hb:s₁.heap.Ns builtinsNs mb) (hbb:∀ x:Str,x ≠ "__name__"->mb x=bootBuiltins x) (hlim:s₁.heap.NoLimit) (hg:s₁.gens = #[])
  (ha:s₁.heap.get? a=some { cls:=.type "list",data:=.seq vs.toArray }) (hi:IntsAre vs ns) (hl:ns.length<=sizeLine) (hr:Room k callerA)
  (F:∀ base:Heap,K.In base->base.Ns mainGlobals mg->FnOk P w K mg base CX k fa fd [x] sp) (hbind:∀ (s:Shared) (u:Value),BindsTo s fd ⟨[u],[]⟩ [(x,u)])
  (hsp:∀ H:Hp,Only H->SqL K H a (ns.map V.int)->sp [.ref a] H (λv _=>v = .bl true) λ_ _ _=>False)
  (hCX:∀ H e s',CX [] H s₁ (λ_ _ _=>False) e s'->False) :
  codeAny (model P w) callerA (.call (.ref fa) ⟨[.ref a],[]⟩) (λr s'=>r = .ok (.ret (.bool true))/\OldK s₁.heap s'.heap/\s'.os=s₁.os/\AllBare s'.gens) s₁:=by
 have rv:=a83 hi;have lenV:=hi.length;have core:∀ H:Hp,Only H->SqL K H a (ns.map V.int)->HOk P w H s₁.heap->(∀ b,H b≠none->b=a)->(H a≠none->K.lookup a=none)->
   codeAny (model P w) callerA (.call (.ref fa) ⟨[.ref a],[]⟩) (λr s'=>r = .ok (.ret (.bool true))/\OldK s₁.heap s'.heap/\s'.os=s₁.os/\AllBare s'.gens) s₁:=by
  intro H hO hS hok hA hK
  have base_of:∀ {b:Addr} {o:Obj},s₁.heap.get? b=some o->H b=none->(afx s₁.heap H).get? b=some o:=λe n=>afy e n;have noA:∀ {b:Addr} {o:Obj} {es:Array DictEntry} {ep:Nat},s₁.heap.get? b=some o->o.data = .dict es ep->H b=none:=λ{b o es ep} e d=>by
   cases q:H b with
   | none=>rfl
   | some u =>
    have e':b=a:=hA b (by rw [q];simp)
    subst e';rw [ha] at e;cases e
    have d':Data.seq vs.toArray _=Data.dict es ep:=d
    cases d'
  have nsK:∀ {b:Addr} {m:Str->Option Value},s₁.heap.Ns b m->(afx s₁.heap H).Ns b m:=λ{b m} ⟨o,es,ep,e,d,r⟩=>⟨o,es,ep,base_of e (noA e d),d,r⟩;have hKb:K.In (afx s₁.heap H):=λb o e=>base_of (KX b o e) (by
   cases q:H b with
   | none=>rfl
   | some u =>
    have e':b=a:=hA b (by rw [q];simp)
    subst e';rw [hK (by rw [q];simp)] at e;cases e)
  have hM:Mod K mg (afx s₁.heap H):=⟨hKb,nsK hns,⟨mb,nsK hb,hbb⟩,let ⟨mc,h1,h2⟩:=hlim; ⟨mc,nsK h1,h2⟩⟩;have e0:Env0 P w K mg (afx s₁.heap H) callerA [] s₁ H:=⟨rfl,hM,λb o e=>ak8 e,Nat.le_of_eq (acb _ _),trivial,λb hb=>absurd (show b∈([]:List Addr) from hb) (by simp),hok, .of_eq hg⟩
  refine codeAny_mono ((F _ hKb (nsK hns)).run callerA [] s₁ H ⟨[.ref a],[]⟩ [.ref a] [.ref a] _ _ hr e0 (hbind s₁ (.ref a)) (.cons rfl .nil) (hsp H hO hS)) λr s' h=>?_
  cases r with
  | error e=>exact (hCX H e s' h).elim
  | ok fl =>
   cases fl with
   | next=>exact False.elim h
   | brk=>exact False.elim h
   | cont=>exact False.elim h
   | ret u =>
    obtain ⟨v,H',os,bare,un,hok',r',q⟩:=h;have q':v = .bl true:=q;subst q';obtain rfl:u=Value.bool true:=r';refine ⟨rfl,OldK.of_keep λb o e=>?_,os,bare⟩
    cases q:H b with
    | none=>exact un.keep b o e q (by intro z;exact absurd (show b∈([]:List Addr) from z) (by simp)) (by simp)
    | some u =>
     rcases hO b with z | ⟨ob,xs,z⟩
     ·rw [q] at z;cases z
     ·have z2:=un.frzs b ob _ z;obtain ⟨e1,_⟩:=hok b _ z;obtain ⟨e2,_⟩:=hok' b _ z2;rw [e] at e1;cases e1
      exact e2
 cases hk:K.lookup a with
 | some o =>
  have e:=KX a o hk;rw [ha] at e;cases e
  refine core (λ_=>none) (λ_=>.inl rfl) (.inr ⟨_,vs.toArray,_,hk,rfl,rfl,rfl,by rw [List.size_toArray,lenV];exact hl,by simpa using rv⟩) (λb u z=>by have z':(none:Option HO)=some u:=z;cases z') (λb z=>absurd rfl z) λz=>absurd rfl z
 | none =>
  refine core (λb=>if b=a then some (.frz { cls:=.type "list",data:=.seq vs.toArray } (.lst (ns.map V.int))) else none) (λb=>?_) (.inl (.inr ⟨{ cls:=.type "list",data:=.seq vs.toArray },if_pos rfl⟩)) (λb u z=>?_) (λb z=>?_) λ_=>hk
  ·by_cases hb:b=a
   ·exact .inr ⟨_,_,if_pos hb⟩
   ·exact .inl (if_neg hb)
  ·by_cases hb:b=a
   ·have z':=(if_pos hb).symm.trans z
    cases z'
    subst hb;exact ⟨ha,by rw [List.length_map];exact hl,vs,_,rv,ha⟩
   ·have z':=(if_neg hb).symm.trans z
    cases z'
  ·by_cases hb:b=a
   ·exact hb
   ·exact absurd (if_neg hb) z
theorem akr{l:PySem.W.OpenLaw}{n k:Nat}{q:Program}{loose:List Str}{XP:(Str->Option Value)->Heap->Prop}{YP:World->Heap->Prop}{d:DefRec}{K:Params->PySem.W.Frag}{CX:World->CXT}{sp:World->Sp}{x:Str}
  (hn:l.most=some n) (hn2:n<=sizeLine) (hdf:d.params.defaults=[]) (hr:Room k callerA)
  (hY:∀ (w:World) (h:Heap),YP w h->(K w.params).In h)
  (F:∀ (w:World) (mg:Str->Option Value) (fa:Addr) (h:Heap),(K w.params).In h->h.Ns mainGlobals mg->mg d.name=some (.ref fa)->
   ∃ fd:FuncData,(∀ (s:Shared) (u:Value),BindsTo s fd ⟨[u],[]⟩ [(x,u)]) /\
    ∀ base:Heap,(K w.params).In base->base.Ns mainGlobals mg->FnOk l.prog w (K w.params) mg base (CX w) k fa fd [x] (sp w))
  (hsp:∀ (w:World) (H:Hp) (a:Addr) (ns:List Int),ns.length<=n->Only H->SqL (K w.params) H a (ns.map V.int)->sp w [.ref a] H (λv _=>v = .bl true) λ_ _ _=>False)
  (hCX:∀ (w:World) (H:Hp) (s:Shared) (e:Value) (s':Shared),CX w [] H s (λ_ _ _=>False) e s'->False) :
  PySem.W.WalkO q loose XP YP l.row.toRowW d [] (λf vs=>PySem.call f vs):=by
 refine Att.a95 hn hdf λw s₀ s₁ mg mb fa o pm cd doc a vs ns G Y ho hd hcd hmg hobj hints hlen hg=>?_;have KX:=hY w _ Y;obtain ⟨fd,hb,hF⟩:=F w mg fa _ KX G.T.g hmg;exact ag8 KX G.T.g G.T.b G.T.builtins G.T.nolimit hg hobj hints (Nat.le_trans hlen hn2) hr hF hb (λH hO hS=>hsp w H a ns hlen hO hS) λH e s'=>hCX w H s₁ e s'
def a2q(s:Stmt):Arguments:=match s with
 | .FunctionDef _ a _ _ _ _ _ _ _ _=>a
 | _=>{ posonlyargs:=[],args:=[],vararg:=none,kwonlyargs:=[],kw_defaults:=[],kwarg:=none,defaults:=[] }
def jc(s:Stmt):List Stmt:=match s with
 | .FunctionDef _ _ b _ _ _ _ _ _ _=>b
 | _=>[]
def az(s:Stmt):Scope:=match s with
 | .FunctionDef _ _ _ _ _ _ sc _ _ _=>sc
 | _=>{ kind:=.function,names:=[],isGenerator:=false,isCoroutine:=false }
abbrev CX0:CXT:=λ_ _ _ _ _ _=>False
abbrev E0:XK:=λ_ _ _=>False
theorem ag9{X:Cx}:a4q CX0 X E0:=λ_ _ _ _ _ _ _ h=>h.elim
structure Fun (K:PySem.W.Frag) (x qual:Str) (st:Stmt) (f:Addr) (fd:FuncData):Prop where
 ex:∃ (oc:Value) (od:Option Addr) (kV doc pm:Value) (an:Option Addr) (cdv ct:Value) (osl:Array (Option Value)),
  fd=PySem.W.fnOf x qual (a2q st) (jc st) (az st) .none kV doc pm an cdv ct/\K.lookup f=some ⟨oc,od, .func fd,osl⟩/\PySem.W.codeIn K cdv qual=true
 kp:PySem.W.keepIn K (.ref f)=true
section
variable{P:Program}{w:World}{K:PySem.W.Frag}{mg:Str->Option Value}{base:Heap}
theorem Fun.ok{x qual:Str}{st:Stmt}{f:Addr}{fd:FuncData}{N ps:List Str}{k:Nat}{sp:Sp}(F:Fun K x qual st f fd)(S:FnScope N ps (az st))(len:∀ vs H Q E,sp vs H Q E->vs.length=ps.length)
  (hbody:∀ (cdv:Value) (A:Around) (outer:List Env) (s:Shared) (H:Hp) (vs:List V) (Q:VK) (E:XK),Room k (A.deeper (envOfC qual (az st) s.heap.objs.size f cdv))->sp vs H Q E->
   ∃ t,PSs (a1g CX0 P w K mg base N qual (az st) f cdv A outer s H E).nox (jc st) t/\t { nx:=λ_ H'=>Q .non H',rt:=Q } (start N vs) H):FnOk P w K mg base CX0 (k+1) f fd ps sp:=by
 obtain ⟨oc,od,kV,doc,pm,an,cdv,ct,osl,rfl,lk,hcd⟩:=F.ex;refine aoh lk hcd S len λA outer s H vs Q E hr hsp=>?_;obtain ⟨t,h,q⟩:=hbody cdv A outer s H vs Q E hr hsp;exact ⟨t,h.nox,q⟩
theorem Fun.binds{x qual:Str}{st:Stmt}{f:Addr}{fd:FuncData}{ps:List Str}(F:Fun K x qual st f fd)
  (h:∀ (kV doc pm:Value) (an:Option Addr) (cdv ct:Value) (us:List Value),us.length=ps.length->bindArgs (PySem.W.fnOf x qual (a2q st) (jc st) (az st) .none kV doc pm an cdv ct) ⟨us,[]⟩=pure (ps.zip us)):Binds K fd ps []:=by
 obtain ⟨oc,od,kV,doc,pm,an,cdv,ct,osl,rfl,lk,hcd⟩:=F.ex;exact .all (h kV doc pm an cdv ct)
theorem aoq{x qual:Str}{st:Stmt}{f:Addr}{oc:Value}{od an:Option Addr}{osl:Array (Option Value)}{kV doc pm cdv ct:Value}(l:K.lookup f=some ⟨oc,od, .func (PySem.W.fnOf x qual (a2q st) (jc st) (az st) .none kV doc pm an cdv ct),osl⟩)
  (c:PySem.W.codeIn K cdv qual=true) (k:PySem.W.keepIn K (.ref f)=true):Fun K x qual st f (PySem.W.fnOf x qual (a2q st) (jc st) (az st) .none kV doc pm an cdv ct):=⟨⟨oc,od,kV,doc,pm,an,cdv,ct,osl,rfl,l,c⟩,k⟩
end
section
variable{X:Cx}
theorem a6q:OpR X (compareOp .Is) (λx y H Q=>∃ i j,x = .bl i/\y = .bl j/\Q (.bl (i == j)) H):=by
 intro pins s σ H x y v u Q I rx ry h
 obtain ⟨i,j,rfl,rfl,q⟩:=h;cases rx
 cases ry
 exact is_bool (a4m I q rfl)
theorem a96:OpR X (compareOp .IsNot) (λx y H Q=>∃ i j,x = .bl i/\y = .bl j/\Q (.bl (i != j)) H):=by
 intro pins s σ H x y v u Q I rx ry h
 obtain ⟨i,j,rfl,rfl,q⟩:=h;cases rx
 cases ry
 exact isnot_bool (a4m I q rfl)
def a2r{α:Type}(xs:List α)(lo hi:Option Int):List α:=(xs.drop (HT.sIx xs.length 0 lo)).take (HT.sIx xs.length xs.length hi - HT.sIx xs.length 0 lo)
def atj:V->Option Int->Option Int->Hp->VK->Prop:=λx lo hi H Q=>∃ z,x = .str z/\z.length<=sizeLine/\Q (.str ⟨(a2r z.cps.toList lo hi).toArray⟩) H
theorem aor(lo hi:Option Int)(n:Nat):Builtin.Str.strSliceIndices lo hi 1 n=(List.range (HT.sIx n n hi - HT.sIx n 0 lo)).map λk=>HT.sIx n 0 lo+k:=by
 have e1:Builtin.Str.strSliceIndices lo hi 1 n=sliceRange ((HT.sIx n 0 lo:Nat):Int) ((HT.sIx n n hi:Nat):Int) 1:=by
  unfold Builtin.Str.strSliceIndices;dsimp only
  congr 1
  ·cases lo with
   | none=>simp [HT.sIx]
   | some i=>simp only [HT.sIx,show (1:Int) > 0 by decide,if_true];split<;>omega
  ·cases hi with
   | none=>simp [HT.sIx]
   | some i=>simp only [HT.sIx,show (1:Int) > 0 by decide,if_true];split<;>omega
 rw [e1];exact sliceRange_one _ _
theorem aos{α:Type}(xs:List α)(a:Nat):∀ k,a+k<=xs.length->((List.range k).map λj=>a+j).filterMap (xs[·]?)=(xs.drop a).take k
 | 0,_=>by simp
 | k+1,h=>by
  rw [List.range_succ,List.map_append,List.filterMap_append,aos xs a k (by omega)]
  have hk:a+k<xs.length:=by omega
  rw [List.take_succ]
  congr 1
  simp [List.getElem?_drop,hk]
theorem aot:SlR X atj:=by
 intro pins s σ H x v vl vu lo hi sl Q I rx hs pl pu h
 obtain ⟨z,rfl,hz,q⟩:=h;obtain ⟨t,rfl⟩:=rx;refine ⟨"str",_,PyProof.Rows.slot_str_getitem.lookup,typeIs_str s z t,?_⟩;have hl:z.cps.toList.length=z.length:=by simp [Str.length]
 have fin:∀ (l u:Option (Int × Tok)),vl=partValue l->vu=partValue u->l.map (·.1)=lo->u.map (·.1)=hi->wpAny (model X.prog X.w) X.A (getItem (.str z t) (.ref sl)) (EP X pins σ Q) X.xe s:=by
  intro l u e1 e2 e3 e4
  subst e1 e2;refine wpAny_getItem_str_slice (l:=l) (u:=u) (st:=none) hs rfl ?_;have hp:slicePicked z l u none=(List.range (HT.sIx z.length z.length hi - HT.sIx z.length 0 lo)).map λk=>HT.sIx z.length 0 lo+k:=by
   unfold slicePicked;rw [e3,e4];exact aor lo hi z.length
  have hb1:HT.sIx z.length z.length hi<=z.length:=HT.acv _ _ (Nat.le_refl _) _;have hb2:HT.sIx z.length 0 lo<=z.length:=HT.acv _ _ (Nat.zero_le _) _;unfold sliceMade
  split
  ·rename_i c;simp only [Bool.and_eq_true,beq_iff_eq] at c;obtain ⟨_,c⟩:=c;rw [hp,List.length_map,List.length_range] at c;have e:(⟨(a2r z.cps.toList lo hi).toArray⟩:Str)=z:=by
    unfold a2r;rw [hl];have z1:HT.sIx z.length 0 lo=0:=by omega
    have z2:HT.sIx z.length z.length hi=z.length:=by omega
    rw [z1,z2,List.drop_zero,Nat.sub_zero,List.take_of_length_le (by omega)]
   rw [e] at q;exact ⟨.str z,H,I,⟨_,rfl⟩,q⟩
  ·have e:(⟨(a2r z.cps.toList lo hi).toArray⟩:Str)=⟨((slicePicked z l u none).filterMap (z.cps[·]?)).toArray⟩:=by
    rw [hp];unfold a2r;rw [hl]
    by_cases hc:HT.sIx z.length 0 lo<=HT.sIx z.length z.length hi
    ·rw [<-aos z.cps.toList _ _ (by omega)]
     simp only [Array.getElem?_toList]
    ·rw [show HT.sIx z.length z.length hi - HT.sIx z.length 0 lo=0 by omega]
     simp
   rw [e] at q;refine ⟨?_, .str _,H,I.tok _,⟨_,rfl⟩,q⟩;rw [<-e];show (a2r z.cps.toList lo hi).toArray.size<=sizeLine;rw [List.size_toArray];unfold a2r;rw [List.length_take,List.length_drop,hl];omega
 cases pl with
 | none=>cases pu with
  | none=>exact fin none none rfl rfl rfl rfl
  | int j t'=>exact fin none (some (j,t')) rfl rfl rfl rfl
 | int i t'=>cases pu with
  | none=>exact fin (some (i,t')) none rfl rfl rfl rfl
  | int j t''=>exact fin (some (i,t')) (some (j,t'')) rfl rfl rfl rfl
theorem p8:CallR X (.builtin "isinstance") (λxs H Q=>∃ x T t b,xs=[x, .ty T]/\TyOf X.K H x t/\PySem.W.kitOne X.K t (.type T)=some b/\Q (.bl b) H):=by
 intro pins s σ H xs us Q I r h
 obtain ⟨x,T,t,b,rfl,ty,e,q⟩:=h;obtain ⟨u,w',rfl,rx,rt⟩:=vals2 r;cases rt
 exact acr I rx ty e λtk=>⟨.bl b,H,I.tok tk,rfl,q⟩
theorem a84(bs:List Bool):((List.range bs.length).all λi=>(bs[i]?).getD true)=bs.all id:=by
 have e:(List.range bs.length).map (λi=>(bs[i]?).getD true)=bs:=by
  apply List.ext_getElem (by simp)
  intro i h1 h2
  simp [h2]
 have f:((List.range bs.length).map λi=>(bs[i]?).getD true).all id=bs.all id:=by rw [e]
 rw [<-f,List.all_map];rfl
theorem a97(hc:X.calm=true):CallR X (.builtin "all") (λxs H Q=>∃ (p:Addr) (bs:List Bool),xs=[.ref p]/\SqL X.K H p (bs.map V.bl)/\Q (.bl (bs.all id)) H):=by
 intro pins s σ H xs us Q I r h
 obtain ⟨p,bs,rfl,hq,q⟩:=h;obtain ⟨u,rfl,rx⟩:=vals1 r;cases rx
 obtain ⟨its,r',pl,hz⟩:=I.list hq;have hl:=r'.length;rw [List.length_map] at hl;have hlt:p<s.heap.objs.size:=by obtain ⟨_,e,_⟩:=pl.isList;exact Heap.lt_size e
 refine call_all_walk (wpAny_pyIter_list pl.isList ?_);refine ⟨s.heap.objs.size,[s.heap.objs.size,p],[s.heap.objs.size],its.toArray.size,_,_,λi=>(bs[i]?).getD true,rfl,Walks.list (A:=X.A.in1) (I.ok.hd hc) _ p (Nat.ne_of_lt hlt) its.toArray,
  ⟨⟨_,Heap.get?_push_size _ rfl,rfl,rfl⟩,pl.isList.push _⟩,λi v s' Q' E' hP hQ=>?_,λh' tk hk=>?_⟩
 ·have hP':its[i]? = some v:=by simpa using hP
  have hi:i<bs.length:=by
   have:=(List.getElem?_eq_some_iff.mp hP').1
   omega
  obtain ⟨u,e,ru⟩:=r'.get (i:=i) (x:=.bl bs[i]) (by simp [hi])
  rw [hP'] at e;cases e
  cases ru
  simp only [List.getElem?_eq_getElem hi,Option.getD_some] at hQ;exact wpAny_truthy_bool hQ
 ·have e:((List.range its.toArray.size).all λi=>(bs[i]?).getD true)=bs.all id:=by
   rw [List.size_toArray,<-hl];exact a84 bs
  rw [e];exact ⟨.bl _,H,I.kept λb x e=>hk b x (λhm=>by rw [List.mem_singleton.mp hm] at e;exact Nat.lt_irrefl _ (Heap.lt_size e)) (Heap.get?_push_of_some _ e),rfl,q⟩
def a0r(x:Str):List V:=x.cps.toList.map λc=>V.str ⟨#[c]⟩
theorem abf{x:Str}{acc:Array Value}(h:ItemsOf (SignAt x) acc x.cps.size):Vals (a0r x) acc.toList:=by
 obtain ⟨hs,ha⟩:=h;have key:∀ (cs:List Nat) (us:List Value),us.length=cs.length->(∀ (j:Nat) (v:Value),us[j]? = some v->∃ c u,cs[j]? = some c/\v = .str ⟨#[c]⟩ u)->Vals (cs.map λc=>V.str ⟨#[c]⟩) us:=by
  intro cs
  induction cs with
  | nil=>intro us hl _;cases us with | nil=>exact .nil | cons _ _=>simp at hl
  | cons c cs ih =>
   intro us hl hp
   cases us with
   | nil=>simp at hl
   | cons u us =>
    refine .cons ?_ (ih us (by simpa using hl) λj v e=>hp (j+1) v (by simpa using e))
    obtain ⟨c',t,e1,e2⟩:=hp 0 u rfl;simp at e1;subst e1;exact ⟨t,e2⟩
 refine key _ _ (by simp [hs]) λj v e=>?_
 obtain ⟨c,u,e1,e2⟩:=ha j v (by simpa using e)
 exact ⟨c,u,by simpa using e1,e2⟩
theorem m9(hc:X.calm=true):CallR X (.type "tuple") (λxs H Q=>∃ z,xs=[.str z]/\z.length<=sizeLine/\∀ l,H l=none->Q (.ref l) (upd H l (.tup (a0r z)))):=by
 intro pins s σ H xs us Q I r h
 obtain ⟨z,rfl,hz,q⟩:=h;obtain ⟨u,rfl,t,rfl⟩:=vals1 r;refine PySem.call_tuple_str (I.ok.hd hc) z t (λh' tk acc kp hi=>?_) (by simpa [Str.length] using hz)
 have I1:Inv X pins σ H { s with heap:=h',toks:=tk }:=I.kept kp
 have I2:Inv X pins σ (upd H h'.objs.size (.tup (a0r z))) { s with heap:=h'.push { cls:=.type "tuple",data:=.seq acc },toks:=tk } :=
  I1.laid (t':=tk) (λb o e=>Heap.get?_push_of_some _ e) (Nat.le_refl _) (show ObjOk X.prog X.w _ _ _ (.tup (a0r z)) from ⟨by simpa [a0r,Str.length] using hz,acc.toList,abf hi,by simpa using IsTup.new h' acc⟩)
 exact ⟨.ref h'.objs.size,_,I2,rfl,q _ (I1.hok.fresh (Nat.le_refl _))⟩
end
def Its(x:Str):It:=⟨λi _=>i<x.cps.size,λi H v H'=>H'=H/\∃ c,x.cps.toList[i]? = some c/\v = .str ⟨#[c]⟩,λi _=>i=x.cps.size⟩
theorem aa3{P:Program}{w:World}{K:PySem.W.Frag}{tg:Expr}(it:Addr)(x:Str)(t:Tok)(ty:String)
  (hty:["enumerate", "zip", "dict_itemiterator", "dict_reverseitemiterator", "odict_iterator", "itertools.zip_longest", "itertools.pairwise"].contains ty=false)
  (W:∀ A':Around,A'.handled=none->Walks P w A' it [it] [it] x.cps.size (SignAt x) (λi h=>h.IsStrIter it ty x t i))
  (slf:∀ (A:Around) (i:Nat) (s:Shared) (Q:Value->Shared->Prop) (E:Value->Shared->Prop),s.heap.IsStrIter it ty x t i->Q (.ref it) s->wpAny (model P w) A (pyIter (.ref it)) Q E s) :
  Turn P w K tg (Its x) [it] it (λi h=>h.IsStrIter it ty x t i) where
 mem:=by simp
 obj:=λi h st b hb=>by
  have e:b=it:=by simpa using hb
  subst e;obtain ⟨o,e,c,d⟩:=st;exact ⟨o,e,λv z=>by rw [d] at z;cases z⟩
 keep:=λi h h' st k=>by
  obtain ⟨o,e,c,d⟩:=st;exact ⟨o,k it (by simp) o e,c,d⟩
 item:=by
  intro X hP hw hK hc i pins s σ H E I hf st hg
  subst hP hw hK;obtain ⟨f0,f1,f2,f3,f4,f5⟩:=hf it (by simp)
  refine (W X.A (I.ok.hd hc)).item i s _ _ hg st λv h' tk hv st' kk=>?_;obtain ⟨c,u,hx,rfl⟩:=hv;have I1:Inv X pins σ H { s with heap:=h',toks:=tk }:=I.turned (λb o hb e=>kk b o (by simpa using hb) e) f0 f1 f3 f4 f5
  obtain ⟨o,e,oc,d⟩:=id st';exact ⟨_,rfl,ag2 (s:={ s with heap:=h',toks:=tk }) e oc d hty ⟨.str ⟨#[c]⟩,H,I1,⟨_,rfl⟩,⟨rfl,c,by simpa using hx,rfl⟩,st',λb hb=>(hf b hb).1⟩⟩
 done:=by
  intro X hP hw hK hc i pins s σ H E I hf st hg
  subst hP hw hK;obtain ⟨f0,f1,f2,f3,f4,f5⟩:=hf it (by simp)
  have hg':i=x.cps.size:=hg;subst hg';exact (W X.A (I.ok.hd hc)).done s _ _ st λh' tk eb=>⟨rfl,I.turned (λb o hb e=>eb b o (by simpa using hb) e) f0 f1 f3 f4 f5⟩
 self:=slf
section
variable{X:Cx}{tg:Expr}
def aw6(tl:TE):TI:=λσ H R=>tl σ H λx H1=>∃ z,x = .str z/\R (Its z) H1
theorem aj4{l:Expr}{tl:TE}(hl:PE X l tl):PI X tg l (aw6 tl):=by
 intro pins s σ H R I h
 refine thn (hl pins s σ H _ I h) λv s1 ⟨x,H1,I1,r1,q1⟩=>?_;obtain ⟨z,e,q⟩:=q1;subst e;obtain ⟨t,rfl⟩:=r1;have fp:∀ b∈[s1.heap.objs.size],a8z X pins H1 b:=λb hb=>by
  have e:b=s1.heap.objs.size:=by simpa using hb
  subst e;exact I1.fpOk (Nat.le_refl _) (I1.hok.fresh (Nat.le_refl _))
 cases ha:z.cps.all (· < 128)
 ·exact wpAny_pyIter_wide ha ⟨s1.heap.objs.size,[s1.heap.objs.size],_,_,H1,rfl,I1.kept (t':=s1.toks) λb o e=>Heap.get?_push_of_some _ e,
   aa3 _ z t "str_iterator" (by decide) (λA' hA=>Walks.strWide hA _ z t) (λ_ _ _ _ _ st h=>wpAny_pyIter_striter_wide st h),⟨_,Heap.get?_push_size _ rfl,rfl,rfl⟩,fp,q⟩
 ·exact wpAny_pyIter_ascii ha ⟨s1.heap.objs.size,[s1.heap.objs.size],_,_,H1,rfl,I1.kept (t':=s1.toks) λb o e=>Heap.get?_push_of_some _ e,
   aa3 _ z t "str_ascii_iterator" (by decide) (λA' hA=>Walks.strAscii hA _ z t) (λ_ _ _ _ _ st h=>wpAny_pyIter_striter_ascii st h),⟨_,Heap.get?_push_size _ rfl,rfl,rfl⟩,fp,q⟩
end
def cxC(X:Cx)(N:List Str)(scope:Scope)(cl:List (Str × Addr))(C:Addr)(fp:List Addr)(s:Shared)(H:Hp):Cx where
 prog:=X.prog
 w:=X.w
 K:=X.K
 mg:=X.mg
 base:=X.base
 A:=X.A
 N:=N
 s₀:=s
 H₀:=H
 env:=compEnvC scope cl C X.env
 outer:=X.stack
 stack:=X.stack
 ex:=fp
 fn:=λ_=>false
 calm:=X.calm
 pn:=[]
 xe:=λ_ _=>False
structure CSc (X:Cx) (scope:Scope) (cl:List (Str × Addr)) (ts fr:List Str) (ix:List Nat):Prop where
 clos:closureFor scope X.env=pure cl
 kind:scope.kind = .function
 nocell:∀ y∈scope.names,y.2≠.cell
 names:∀ y∈scope.names,y.2 = .local->scope.names.lookup y.1=some .local
 sub:∀ y c,cl.lookup y=some c->X.env.cells.lookup y=some c
 has:∀ y,((relabel scope X.env).names.lookup y=some .cell\/(relabel scope X.env).names.lookup y=some .free)->∃ c,cl.lookup y=some c
 nofn:∀ y∈ts,(relabel scope X.env).names.lookup y=some .local
 len:ix.length=fr.length
 vis:∀ (j:Nat) (y:Str),fr[j]? = some y->∃ i:Nat,ix[j]? = some i/\X.N[i]? = some y/\(X.env.kindOf y=some .cell\/X.env.kindOf y=some .free)/\((relabel scope X.env).names.lookup y=some .cell\/(relabel scope X.env).names.lookup y=some .free)
def Ext(a b:St):Prop:=b.length=a.length/\∀ (i:Nat) v,a[i]? = some (some v)->b[i]? = some (some v)
def ug(nt:Nat)(ix:List Nat)(σ:St):St:=List.replicate nt none++ix.map λi=>(σ[i]?).join
def aou(J:It)(s0:St)(g:TG)(te:TE)(Q:VK)(H1:Hp):Prop:=∃ W:Nat->Nat->List V->Hp->Prop,(∃ m,W 0 m [] H1)/\∀ i m ys H,W i m ys H->
 (J.stop i H/\∀ p,H p=none->Q (.ref p) (upd H p (.lst ys))) \/
 (J.go i H/\ys.length<sizeLine/\∀ x H',J.yld i H x H'->g x s0 H' λσ2 H2=>Ext s0 σ2/\te σ2 H2 λy H3=>∃ m',m'<m/\W (i+1) m' (ys++[y]) H3)
def aga(wi:TI)(s0:St->St)(g:TG)(te:TE):TE:=λσ H Q=>wi σ H λJ H1=>aou J (s0 σ) g te Q H1
theorem ad5{prog:Program}{w:World}{A:Around}{R:Result->Shared->Prop}{s:Shared}{elt target iter:Expr}{scope:Scope}{pos:Pos}{it acc:Value}{env:Env}(J:Nat->Shared->Prop)
  (step:∀ m z,J m z->wpAny (model prog w) A (pyNext it) (λgot z1=>match got with
   | none=>R (.ok .next) z1
   | some v=>wpAny (model prog w) A (letOwnedTupleGo target it v) (λ_ z2=>wpAny (model prog w) A (assign target env v) (λ_ z3=>wpAny (model prog w) A (eval elt env) (λx z4 =>
     wpAny (model prog w) A (call (.builtin "list.append") [acc,x]) (λ_ z5=>∃ m',m'<m/\J m' z5) (λ_ _=>False) z4)
     (λ_ _=>False) z3) (λ_ _=>False) z2) (λ_ _=>False) z1) (λ_ _=>False) z)
  (m:Nat) (j0:J m s):codeAny (model prog w) A (.compLoop (.ListComp elt [⟨target,iter,[],0⟩] scope pos) 0 it acc env) R s:=by
 refine codeAny_loop rfl J (λm z hj=>(wpAny_noted ?_:wpAny _ _ ((compTurn (.ListComp elt [⟨target,iter,[],0⟩] scope pos) 0 it acc env).onRaise _) _ _ z)) m j0;rw [compTurn_list1];refine wpAny_bind (wpAny_standAt (wpAny_bind (wpAny_mono (step m z hj) (λgot z1 h1=>?_) λ_ _ no=>no.elim)))
 match got,h1 with
 | none,h1=>exact wpAny_pure h1
 | some v,h1 =>
  refine wpAny_bind (wpAny_mono h1 (λ_ z2 h2=>wpAny_bind (wpAny_mono h2 (λ_ z3 h3=>?_) λ_ _ no=>no.elim)) λ_ _ no=>no.elim);refine wpAny_bind (wpAny_bind (wpAny_mono h3 (λx z4 h4=>?_) λ_ _ no=>no.elim));exact wpAny_bind (wpAny_mono h4 (λ_ z5 h5=>wpAny_pure (wpAny_pure ⟨rfl,h5⟩)) λ_ _ no=>no.elim)
section
variable{X:Cx}
theorem a85{pins:List (Addr × Obj)}{σ:St}{H:Hp}{s:Shared}{scope:Scope}{cl:List (Str × Addr)}{ts fr:List Str}{ix:List Nat}{C:Addr}{fp:List Addr}(S:CSc X scope cl ts fr ix)(I:Inv X pins σ H s)
  (hf:∀ b∈fp,a8z X pins H b) (hb:∀ b∈fp,b<s.heap.objs.size) (hC:s.heap.objs.size<=C):(cxC X (ts++fr) scope cl C fp s H).Ok where
 mod:=I.ok.mod
 kind:=S.kind
 glob:=I.ok.glob
 blt:=I.ok.blt
 above:=hC
 inj:=λx y c h1 h2=>I.ok.inj x y c (S.sub x c h1) (S.sub y c h2)
 has:=S.has
 cab:=λ_ _ z=>nomatch z
 hd:=I.ok.hd
 frames:=I.ok.frames
 stk:=.inl rfl
 exf:=λb hb'=>⟨Nat.ne_of_lt (Nat.lt_of_lt_of_le (hb b hb') hC),λx c e=>(hf b hb').2.2.2.2.1 x c (S.sub x c e)⟩
 bs:=λb o e=>I.bs b o e
 bsz:=Nat.le_trans I.ok.bsz I.sz
 noex:=λb o e hb'=>by
  rcases (hf b hb').2.2.2.1 with z | z
  ·exact I.ok.noex b o e z
  ·exact absurd (Nat.lt_of_lt_of_le (Heap.lt_size e) (Nat.le_trans I.ok.bsz z)) (Nat.lt_irrefl _)
 exfs:=λb hb' z=>by
  rcases List.mem_cons.mp (I.stkSub b z) with e | e
  ·exact (hf b hb').2.1 e
  ·exact (hf b hb').2.2.1 e
 funs:=I.stack
 frf:=λb hb'=>I.stkFree b hb'
theorem abg{nt:Nat}{ix:List Nat}{σ:St}:(ug nt ix σ).length=nt+ix.length:=by
 unfold ug;rw [List.length_append,List.length_replicate,List.length_map]
theorem ad6{pins:List (Addr × Obj)}{σ:St}{H:Hp}{s s4:Shared}{scope:Scope}{cl:List (Str × Addr)}{ts fr:List Str}{ix:List Nat}{C:Addr}{fp:List Addr}{m:Str->Option Value}(S:CSc X scope cl ts fr ix)(I:Inv X pins σ H s)
  (hf:∀ b∈fp,a8z X pins H b) (hb:∀ b∈fp,b<s.heap.objs.size) (hC:s.heap.objs.size<=C)
  (k:∀ b o,s.heap.get? b=some o->s4.heap.get? b=some o) (hn:s4.heap.Ns C m) (ho:s4.os=s.os) (hg:s4.gens=s.gens) :
  Inv (cxC X (ts++fr) scope cl C fp s H) [] (ug ts.length ix σ) H s4 where
 ok:=a85 S I hf hb hC
 os:=ho
 bare:=by rw [hg];exact I.bare
 base:=Un.kept k
 loc:=by
  refine ⟨m,hn,λi x v e1 e2 e3=>?_⟩;have e1:(ts++fr)[i]? = some x:=e1
  by_cases hi:i<ts.length
  ·unfold ug at e2;rw [List.getElem?_append_left (by simpa using hi),List.getElem?_replicate,if_pos hi] at e2
   cases e2
  ·rw [List.getElem?_append_right (by omega)] at e1
   unfold ug at e2;rw [List.getElem?_append_right (by simpa using hi),List.length_replicate,List.getElem?_map] at e2
   obtain ⟨j,h1,h2,h3,h4⟩:=S.vis _ x e1;rw [h1] at e2;have e2':(σ[j]?).join=some v:=Option.some.inj e2;have e5:σ[j]? = some (some v):=by
    cases q:σ[j]? with
    | none=>rw [q] at e2';cases e2'
    | some o=>rw [q] at e2';simp at e2';rw [e2']
   obtain ⟨m0,_,hl⟩:=I.loc;have vis:Vis X.env.scope x:=h3.elim (λz=>.inr (.inl z)) λz=>.inr (.inr z);obtain ⟨u,ru,l⟩:=hl j x v h2 e5 vis;refine ⟨u,ru,?_⟩
   rcases l with ⟨z,_⟩ | ⟨_,c,hc,hcell⟩
   ·rcases h3 with h3 | h3<;>rw [h3] at z<;>cases z
   ·obtain ⟨c',hc'⟩:=S.has x h4;have e6:c'=c:=Option.some.inj ((S.sub x c' hc').symm.trans hc);subst e6;obtain ⟨o,ho,hd⟩:=hcell;exact .inr ⟨h4,c',hc',o,k _ _ ho,hd⟩
 cell:=λx c e=>by
  obtain ⟨v,o,ho,hd⟩:=I.cell x c (S.sub x c e);exact ⟨v,o,k _ _ ho,hd⟩
 free:=I.hok.fresh hC
 freeC:=λx c e=>I.freeC x c (S.sub x c e)
 pin:=λp hp=>absurd (show p∈([]:List (Addr × Obj)) from hp) (by simp)
 hok:=I.hok.kept k
 len:=by
  rw [abg];show _=(ts++fr).length;rw [List.length_append,S.len]
theorem Inv.unpinned'{pins:List (Addr × Obj)}{σ:St}{H:Hp}{s:Shared}(I:Inv X pins σ H s):Inv X [] σ H s:=I.pins_of λ_ hp=>nomatch hp
theorem comp_back{pins:List (Addr × Obj)}{σ σ':St}{H H':Hp}{s s':Shared}{scope:Scope}{cl:List (Str × Addr)}{N:List Str}{C acc:Addr}{fp:List Addr}{h':Heap}{ys:List V}{its:List Value}{n:Nat}(I:Inv X pins σ H s)
  (hf:∀ b∈fp,a8z X pins H b) (hC:s.heap.objs.size<=C) (hacc:s.heap.objs.size<=acc) (hCa:C≠acc)
  (J:Inv (cxC X N scope cl C fp s H) [] σ' H' s') (hn:H' acc=none) (ha:s'.heap.get? acc=some { cls:=.type "list",data:=.seq its.toArray n }) (rv:Vals ys its) (hz:ys.length<=sizeLine) (sb:Heap.SameBut C s'.heap h') :
  Inv X pins σ (upd H' acc (.lst ys)) { s' with heap:=h' }:=by
 have k:∀ b o,b≠C->s'.heap.get? b=some o->h'.get? b=some o:=λb o hb e=>sb.extBut b o hb e;have old:∀ b o,s.heap.get? b=some o->b≠C/\b≠acc:=λb o e=>⟨Nat.ne_of_lt (Nat.lt_of_lt_of_le (Heap.lt_size e) hC),Nat.ne_of_lt (Nat.lt_of_lt_of_le (Heap.lt_size e) hacc)⟩;have u0:Un (frs X.stack) fp H H' s.heap s'.heap:=J.base;have fC:H' C=none:=J.free;have u:Un (frs X.stack) fp H (upd H' acc (.lst ys)) s.heap h':=by
  refine ⟨λb o e n' hb hx=>k b o (old b o e).1 (u0.keep b o e n' hb hx),λb o e n' hb hx=>?_,λb o e n' hx=>?_,λb o e hx=>?_,λb xs e=>?_,λb o v e=>?_,λb ps e=>?_⟩
  ·obtain ⟨sl,e1⟩:=u0.slot b o e n' hb hx;exact ⟨sl,k b _ (old b o e).1 e1⟩
  ·rw [jw (old b o e).2];exact u0.free b o e n' hx
  ·obtain ⟨o',e1⟩:=u0.there b o e hx;exact ⟨o',k b _ (old b o e).1 e1⟩
  ·rw [jw (jt (u0.tups b xs e) hn)];exact u0.tups b xs e
  ·rw [jw (jt (u0.frzs b o v e) hn)];exact u0.frzs b o v e
  ·obtain ⟨more,e1⟩:=u0.tbls b ps e;exact ⟨more,by rw [jw (jt e1 hn)];exact e1⟩
 have hok:HOk X.prog X.w (upd H' acc (.lst ys)) h':=λb o e=>by
  by_cases hb:b=acc
  ·subst hb;rw [qe] at e;cases e
   exact ⟨hz,its,n,rv,k _ _ (Ne.symm hCa) ha⟩
  ·rw [jw hb] at e;refine (J.hok b o e).stay (λc v hc q=>k c v ?_ q) (λc q=>by rw [jw (jt q hn)];exact q) λc xs q=>by rw [jw (jt q hn)];exact q
   rcases hc with z | z
   ·rw [z];exact jt e fC
   ·exact jt z fC
 have J':=I.call (g':=s'.gens) (t':=s'.toks) (d':=s'.drawn) (ch:=fp) u hok J.bare λb hb=>⟨(hf b hb).2.2.2.1,(hf b hb).2.1,(hf b hb).2.2.2.2.1,(hf b hb).2.2.2.2.2⟩;have eo:s'.os=s.os:=J.os;obtain ⟨hp,g,d,t,o⟩:=s';have eo':o=s.os:=eo;subst eo';exact J'
def a6r(X:Cx)(pins:List (Addr × Obj))(σ:St)(use:Option (Value->Sem Unit))(Q:VK)(Qf:Value->Shared->Prop):Prop :=
 ∀ (acc C:Addr) (s6:Shared) (H6:Hp) (m6:Str->Option Value),s6.heap.Ns C m6->a8z X pins H6 C->(∀ h',Heap.SameBut C s6.heap h'->Inv X pins σ H6 { s6 with heap:=h' })->Q (.ref acc) H6->
  compPost (model X.prog X.w) X.A X.xe use Qf (.ref acc) C (.ok .next) s6
theorem aa4{pins:List (Addr × Obj)}{σ:St}{Q:VK}:a6r X pins σ none Q (EP X pins σ Q):=λacc C s6 H6 m6 hn _ k q=>⟨m6,hn,λh' sb=>⟨.ref acc,H6,k h' sb,rfl,q⟩⟩
theorem aa5{pins:List (Addr × Obj)}{σ:St}{D:Ends}{i:Nat}{x:Str}{pos':Pos}(hN:X.N.Nodup)(hi:X.N[i]? = some x)(hx:Loc X.env.scope x)(hf:X.fn x=true\/X.env.scope.names.lookup x=some .local) :
  a6r X pins σ (some (assign (.Name x pos') X.env)) (λv H1=>a6k i v σ H1 D.nx) (λ_ s'=>SP X pins D .next s'):=by
 intro acc C s6 H6 m6 hn fp k q
 obtain ⟨f1,f2,f3,f4,f5,f6⟩:=fp;have I6:Inv X pins σ H6 s6:=k s6.heap (Heap.SameBut.refl _ _);refine wpAny_assign_Name (a7w (v:=.ref acc) I6 hN hi hx rfl (λs' I' ⟨a,sb,ha⟩=>⟨m6,hn.sameBut sb ?_,λh' sb'=>⟨_,H6,I'.turned (t':=s'.toks) (it:=C) (λb o hb e=>sb'.extBut b o hb e) f1 f2 f4 f5 f6,q⟩⟩) hf)
 rcases ha with ha | ha
 ·rw [ha];exact f2
 ·exact λz=>f5 x a ha z.symm
theorem a86{elt tg iter:Expr}{scope:Scope}{pos ppos:Pos}{cl:List (Str × Addr)}{ts fr:List Str}{ix:List Nat}{wi:TI}{g:TG}{te:TE}(hc:X.calm=true)(S:CSc X scope cl ts fr ix)(hi:PI X tg iter wi)
  (hg:∀ C fp s H,PG (cxC X (ts++fr) scope cl C fp s H) tg g) (he:∀ C fp s H,PE (cxC X (ts++fr) scope cl C fp s H) elt te) (hs:∀ x,foldedSetIterable iter X.env x=pure x)
  (use:Option (Value->Sem Unit)) {pins:List (Addr × Obj)} {s:Shared} {σ:St} {H:Hp} {Q:VK} {Qf:Value->Shared->Prop} (I:Inv X pins σ H s) (h:aga wi (ug ts.length ix) g te σ H Q) (fin:a6r X pins σ use Q Qf) :
  wpAny (model X.prog X.w) X.A (comprehension (.ListComp elt [⟨tg,iter,[],0⟩] scope pos) scope X.env ppos (newList []) false (eval iter X.env) use) Qf X.xe s:=by
 refine wpAny_comprehension_free (use:=use) rfl hs S.clos S.kind S.names (thn (hi pins s σ H _ I h) λv s1 h1=>thn h1 λitv s2 h2=>?_);obtain ⟨it,fp,tn,J,H2,e,I2,T,st2,f2,W,⟨m0,w0⟩,turn⟩:=h2;subst e;have hob:∀ b∈fp,b<s2.heap.objs.size:=λb hb=>let ⟨o,e,_⟩:=T.obj _ _ st2 b hb;Heap.lt_size e;refine wpAny_newObj_type (wpAny_newFunctionEnv S.nocell (by intro y hy;simp at hy) (λh4 hns4 hsb4=>?_) S.kind)
 dsimp only at hns4 hsb4 ⊢
 generalize hH2:s2.heap.push { cls:=.type "list",dict:=none,data:=.seq ([]:List Value).toArray }=G at hns4 hsb4 ⊢
 have hCs:G.objs.size=s2.heap.objs.size+1:=by rw [<-hH2,Heap.size_push]
 have hCle:s2.heap.objs.size<=G.objs.size:=by omega
 have hne:G.objs.size≠s2.heap.objs.size:=by omega
 have old:∀ b o,s2.heap.get? b=some o->h4.get? b=some o:=λb o e=>by
  have hlt:=Heap.lt_size e;exact hsb4.extBut b o (Nat.ne_of_lt (Nat.lt_of_lt_of_le hlt hCle)) (Heap.get?_push_of_some _ (hH2 ▸ Heap.get?_push_of_some _ e))
 have hacc:h4.get? s2.heap.objs.size=some { cls:=.type "list",data:=.seq ([]:List Value).toArray 0 } :=
  hsb4.extBut _ _ (Ne.symm hne) (Heap.get?_push_of_some _ (hH2 ▸ Heap.get?_push_size _ rfl))
 have K0:Inv (cxC X (ts++fr) scope cl G.objs.size fp s2 H2) [] (ug ts.length ix σ) H2 { s2 with heap:=h4,toks:=s2.toks+([]:List (Str × Value)).length } :=
  ad6 S I2 f2 hob hCle old hns4 rfl rfl
 have st4:tn 0 h4:=T.keep _ _ _ st2 λb _ o e=>old b o e;have accF:s2.heap.objs.size ∉ fp:=λz=>Nat.lt_irrefl _ (hob _ z);have stat:∀ {H':Hp},(∀ b∈fp,H' b=none)->∀ b∈fp,a8z (cxC X (ts++fr) scope cl G.objs.size fp s2 H2) [] H' b:=λhn b hb =>
  ⟨hn b hb,λz=>by have h1:=hob b hb;have z':b=G.objs.size:=z;exact Nat.ne_of_lt (Nat.lt_of_lt_of_le h1 hCle) z',λz=>(a85 S I2 f2 hob hCle).exfs b hb z, .inl hb,λx c e=>(f2 b hb).2.2.2.2.1 x c (S.sub x c e),λp hp=>absurd (show p∈([]:List (Addr × Obj)) from hp) (by simp)⟩
 have statA:∀ {H':Hp},H' s2.heap.objs.size=none->a8z (cxC X (ts++fr) scope cl G.objs.size fp s2 H2) [] H' s2.heap.objs.size:=λhn =>
  ⟨hn,λz=>hne (show G.objs.size=s2.heap.objs.size from z.symm),λz=>by
   obtain ⟨_,o,ho,_⟩:=(a85 S I2 f2 hob hCle).funs.mem z;exact Nat.lt_irrefl _ (Heap.lt_size ho), .inr (Nat.le_refl _),λx c e z=>by
   obtain ⟨v,o,ho,_⟩:=I2.cell x c (S.sub x c e);rw [z] at ho;exact Nat.lt_irrefl _ (Heap.lt_size ho),λp hp=>absurd (show p∈([]:List (Addr × Obj)) from hp) (by simp)⟩
 have loop:∀ s4:Shared,s4={ s2 with heap:=h4,toks:=s2.toks+([]:List (Str × Value)).length }->
   codeAny (model X.prog X.w) X.A (.compLoop (.ListComp elt [⟨tg,iter,[],0⟩] scope pos) 0 (.ref it) (.ref s2.heap.objs.size) (compEnvC scope cl G.objs.size X.env))
    (compPost (model X.prog X.w) X.A X.xe use Qf (.ref s2.heap.objs.size) G.objs.size) s4:=by
  rintro s4 rfl
  refine ad5 (λn s'=>∃ i σ' H' ys its k,Inv (cxC X (ts++fr) scope cl G.objs.size fp s2 H2) [] σ' H' s'/\Ext (ug ts.length ix σ) σ'/\tn i s'.heap/\(∀ b∈fp,H' b=none)/\H' s2.heap.objs.size=none /\
   s'.heap.get? s2.heap.objs.size=some { cls:=.type "list",data:=.seq its.toArray k }/\Vals ys its/\ys.length<=sizeLine/\W i n ys H') ?_ m0
   ⟨0,_,H2,[],[],0,K0,⟨rfl,λ_ _ z=>z⟩,st4,λb hb=>(f2 b hb).1,I2.hok.fresh (Nat.le_refl _),hacc, .nil,Nat.zero_le _,w0⟩
  rintro n s5 ⟨i,σ5,H5,ys,its,k5,I5,x5,st5,fr5,fa5,ac5,rv5,hz5,w5⟩
  have I5':Inv (cxC X (ts++fr) scope cl G.objs.size fp s2 H2) [] (ug ts.length ix σ) H5 s5:=I5.weak x5.1.symm x5.2
  rcases turn i n ys H5 w5 with ⟨stop,qn⟩ | ⟨go,hlt,step⟩
  ·refine thn (T.done (cxC X (ts++fr) scope cl G.objs.size fp s2 H2) rfl rfl rfl hc i [(s2.heap.objs.size,{ cls:=.type "list",data:=.seq its.toArray k5 })] s5 _ H5 _ (I5'.pins_of λp hp=>?_) (λb hb=>?_) st5 stop) λr s6 ⟨hr,I6⟩=>?_
   ·have e:p=(s2.heap.objs.size,{ cls:=.type "list",data:=.seq its.toArray k5 }):=by simpa using hp
    subst e;obtain ⟨a0,a1,a2,_⟩:=statA fa5;exact ⟨ac5,a0,a1,a2,λv z=>by cases z⟩
   ·obtain ⟨b0,b1,b2,b3,b4,b5⟩:=stat fr5 b hb;refine ⟨b0,b1,b2,b3,b4,λp hp=>?_⟩;have e:p=(s2.heap.objs.size,{ cls:=.type "list",data:=.seq its.toArray k5 }):=by
     have hp':p∈[(s2.heap.objs.size,_)]:=hp;simpa using hp'
    subst e;exact λz=>accF (by have z':s2.heap.objs.size=b:=z;rw [z'];exact hb)
   ·subst hr;have e6:=(I6.pin (s2.heap.objs.size,{ cls:=.type "list",data:=.seq its.toArray k5 }) (by show _∈[]++[_];simp)).1
    obtain ⟨m6,hn6,_⟩:=I6.loc;exact fin _ _ s6 _ m6 hn6 (I2.fpOk hCle (by rw [jw hne];exact I6.free)) (λh' sb=>comp_back I2 f2 hCle (Nat.le_refl _) hne I6.unpinned' fa5 e6 rv5 hz5 sb) (qn _ fa5)
  ·refine thn (T.item (cxC X (ts++fr) scope cl G.objs.size fp s2 H2) rfl rfl rfl hc i [(s2.heap.objs.size,{ cls:=.type "list",data:=.seq its.toArray k5 })] s5 _ H5 _ (I5'.pins_of λp hp=>?_) (λb hb=>?_) st5 go) λr s6 ⟨u,hr,h6⟩=>?_
   ·have e:p=(s2.heap.objs.size,{ cls:=.type "list",data:=.seq its.toArray k5 }):=by simpa using hp
    subst e;obtain ⟨a0,a1,a2,_⟩:=statA fa5;exact ⟨ac5,a0,a1,a2,λv z=>by cases z⟩
   ·obtain ⟨b0,b1,b2,b3,b4,b5⟩:=stat fr5 b hb;refine ⟨b0,b1,b2,b3,b4,λp hp=>?_⟩;have e:p=(s2.heap.objs.size,{ cls:=.type "list",data:=.seq its.toArray k5 }):=by
     have hp':p∈[(s2.heap.objs.size,_)]:=hp;simpa using hp'
    subst e;exact λz=>accF (by have z':s2.heap.objs.size=b:=z;rw [z'];exact hb)
   ·subst hr;refine thn h6 λ_ s7 ⟨x,H7,I7,r7,y7,st7,fr7⟩=>?_;have fa7:H7 s2.heap.objs.size=none:=(I7.pin (s2.heap.objs.size,{ cls:=.type "list",data:=.seq its.toArray k5 }) (by show _∈[]++[_];simp)).2.1
    have ac7:=(I7.pin (s2.heap.objs.size,{ cls:=.type "list",data:=.seq its.toArray k5 }) (by show _∈[]++[_];simp)).1
    have I7':Inv (cxC X (ts++fr) scope cl G.objs.size fp s2 H2) ([]++a5w (s2.heap.objs.size::fp) s7.heap) (ug ts.length ix σ) H7 s7:=by
     refine Inv.pinned I7.unpinned' (λb hb=>?_) λb hb=>?_
     ·rcases List.mem_cons.mp hb with e | e
      ·subst e;exact statA fa7
      ·exact stat fr7 b e
     ·rcases List.mem_cons.mp hb with e | e
      ·subst e;exact ⟨_,ac7,λv z=>by cases z⟩
      ·exact T.obj _ _ st7 b e
    refine thn (hg G.objs.size fp s2 H2 _ s7 _ H7 x u _ I7' r7 (step x H7 y7)) λ_ s8 ⟨σ8,H8,I8,x8,q8⟩=>?_;refine thn (he G.objs.size fp s2 H2 _ s8 _ H8 _ I8 q8) λyv s9 ⟨y,H9,I9,r9,m',hm',w9⟩=>?_;obtain ⟨ac9,fa9,_⟩:=I9.pin (s2.heap.objs.size,{ cls:=.type "list",data:=.seq its.toArray k5 }) (by show _∈[]++([]++_);simp;exact uw List.mem_cons_self ac7)
    have keep9:∀ b∈fp,∀ o,s7.heap.get? b=some o->s9.heap.get? b=some o/\H9 b=none:=λb hb o e=>by
     obtain ⟨z1,z2,_⟩:=I9.pin (b,o) (by show _∈[]++([]++_);simp;exact uw (List.mem_cons_of_mem _ hb) e)
     exact ⟨z1,z2⟩
    have hl:=rv5.length;refine call_meets F.slot_list_append ⟨_,ac9,rfl⟩ F.entry_list_append (F.args_list_append_2 _ _) (PySem.list_append s2.heap.objs.size its.toArray k5 yv (by rw [List.size_toArray];omega)) ⟨ac9,?_⟩
    have q:=PySem.IsL.update ac9 (λa=>a.push yv);have qo:∀ b o,b≠s2.heap.objs.size->s9.heap.get? b=some o->(s9.heap.update s2.heap.objs.size (Obj.mapSeq (λa=>a.push yv))).get? b=some o:=λb o hb e=>(Heap.get?_update_other s9.heap _ (Ne.symm hb)).trans e;have q':∃ k,(s9.heap.update s2.heap.objs.size (Obj.mapSeq (λa=>a.push yv))).get? s2.heap.objs.size=some { cls:=.type "list",data:=.seq (its++[yv]).toArray k }:=⟨_,by rw [q];simp;rfl⟩
    obtain ⟨k9,q9⟩:=q';obtain ⟨a0,a1,a2,a3,a4,a5⟩:=statA (show H9 s2.heap.objs.size=none from fa9)
    refine ⟨m',hm',i+1,σ8,H9,ys++[y],its++[yv],k9,(I9.unpinned').turned qo a0 a1 a3 a4 a5,x8,?_,?_,fa9,q9,rv5.append (.cons r9 .nil),?_,w9⟩
    ·refine T.keep _ _ _ st7 λb hb o e=>qo b o (λz=>accF (z ▸ hb)) (keep9 b hb o e).1
    ·intro b hb
     obtain ⟨o,e,_⟩:=T.obj _ _ st7 b hb;exact (keep9 b hb o e).2
    ·rw [List.length_append,List.length_singleton];omega
 exact codeAny_compStart_list (loop _ rfl) (T.self _ 0 _ _ _ st4 (loop _ rfl))
theorem agb{elt tg iter:Expr}{scope:Scope}{pos:Pos}{cl:List (Str × Addr)}{ts fr:List Str}{ix:List Nat}{wi:TI}{g:TG}{te:TE}(hc:X.calm=true)(S:CSc X scope cl ts fr ix)(hi:PI X tg iter wi)
  (hg:∀ C fp s H,PG (cxC X (ts++fr) scope cl C fp s H) tg g) (he:∀ C fp s H,PE (cxC X (ts++fr) scope cl C fp s H) elt te)
  (hs:∀ x,foldedSetIterable iter X.env x=pure x:=by intro _;rfl) :
  PE X (.ListComp elt [⟨tg,iter,[],0⟩] scope pos) (aga wi (ug ts.length ix) g te):=by
 intro pins s σ H Q I h
 rw [eval_ListComp];exact a86 hc S hi hg he hs none I h aa4
theorem agc{elt tg iter:Expr}{scope:Scope}{pos:Pos}{cl:List (Str × Addr)}{ts fr:List Str}{ix:List Nat}{wi:TI}{g:TG}{te:TE}{i:Nat}{x:Str}{pos' spos:Pos}(hN:X.N.Nodup)(hi':X.N[i]? = some x)(hx:Loc X.env.scope x)(hc:X.calm=true)(S:CSc X scope cl ts fr ix)(hi:PI X tg iter wi)
  (hg:∀ C fp s H,PG (cxC X (ts++fr) scope cl C fp s H) tg g) (he:∀ C fp s H,PE (cxC X (ts++fr) scope cl C fp s H) elt te)
  (hs:∀ x,foldedSetIterable iter X.env x=pure x:=by intro _;rfl) (hsw:swapsWith (.ListComp elt [⟨tg,iter,[],0⟩] scope pos) (some (.Name x pos')) spos.line X.env=pure true:=by rfl) (hf:X.fn x=true\/X.env.scope.names.lookup x=some .local:=by first | exact .inl rfl | exact .inr rfl | assumption) :
  PS X (.Assign [.Name x pos'] (.ListComp elt [⟨tg,iter,[],0⟩] scope pos) spos) (as8 (aga wi (ug ts.length ix) g te) (a6k i)):=by
 intro pins s σ H D I h
 rw [exec_Assign_Name_used _ _ _ _ hsw];refine wpAny_bind (wpAny_standAt (wpAny_bind ?_));refine wpAny_bind (wpAny_mono (a86 hc S hi hg he hs (some (assign (.Name x pos') X.env)) I h (aa5 hN hi' hx hf)) (λ_ s' hq=>wpAny_pure (wpAny_pure hq)) λ_ _ e=>e)
end
end L2
namespace L2
open PySem PySem.Spec
theorem uh:bootBuiltins "len" = some (.builtin "len"):=PySem.boot_len
theorem jn:bootBuiltins "isinstance" = some (.builtin "isinstance"):=by first | exact PySem.boot_isinstance | exact PyProof.Rows.boot_isinstance
theorem ad7:bootBuiltins "str" = some (.type "str"):=by first | exact PySem.boot_str | exact PyProof.Rows.boot_str
theorem aov:bootBuiltins "all" = some (.builtin "all"):=by first | exact PySem.boot_all | exact PyProof.Rows.boot_all
theorem aj5:bootBuiltins "abs" = some (.builtin "abs"):=by first | exact PySem.boot_abs | exact PyProof.Rows.boot_abs
theorem aj6:bootBuiltins "int" = some (.type "int"):=by first | exact PySem.boot_int | exact PyProof.Rows.boot_int
theorem a98:bootBuiltins "list" = some (.type "list"):=by first | exact PySem.boot_list | exact PyProof.Rows.boot_list
theorem qu:bootBuiltins "tuple" = some (.type "tuple"):=by first | exact PySem.boot_tuple | exact PyProof.Rows.boot_tuple
structure Dn (P:Program) (w:World) (K:PySem.W.Frag) (mg:Str->Option Value) (base:Heap) (k:Nat) (x:Str) (ps:List Str) (sp:Sp) (f:Addr) (fd:FuncData):Prop where
 ok:FnOk P w K mg base CX0 k f fd ps sp
 m:mg x=some (.ref f)
 kp:PySem.W.keepIn K (.ref f)=true
 b:Binds K fd ps []
theorem atk:sizeLine=16777216:=sizeLine_eq
theorem a99{n:Nat}(h:n<=16777216):n<=sizeLine:=by rw [sizeLine_eq];exact h
theorem CSc.noFree{X:Cx}{scope:Scope}{ts:List Str}(kind:scope.kind = .function)(h:∀ y∈scope.names,y.2≠.cell/\y.2≠.free)(names:∀ y∈scope.names,y.2 = .local->scope.names.lookup y.1=some .local)
  (ht:∀ y∈ts,scope.names.lookup y=some .local):CSc X scope [] ts [] []:=by
 have e:(relabel scope X.env).names=scope.names:=by
  show scope.names.map _=_;refine map_eq_self λy hy=>?_;obtain ⟨n,k⟩:=y;have:(k == NameKind.free)=false:=by simpa using (h _ hy).2
  simp [this]
 refine ⟨closureFor_none λy hy=>(h y hy).2,kind,λy hy=>(h y hy).1,names,(λ_ _ z=>nomatch z),λy z=>?_,λy hy=>by rw [e];exact ht y hy,rfl,(λ_ _ z=>by simp at z)⟩
 rw [e] at z
 rcases z with z | z
 ·exact absurd rfl (h _ (PySem.mem_of_lookup z)).1
 ·exact absurd rfl (h _ (PySem.mem_of_lookup z)).2
theorem atl(x y:Str):(x++y).cps.toList=x.cps.toList++y.cps.toList:=by
 show (x.cps++y.cps).toList=_;simp
theorem ad8{α:Type}(xs:List α)(k:Nat):a2r xs none (some (k:Int))=xs.take k:=by
 unfold a2r;rw [HT.a6n,HT.a6o,List.drop_zero,Nat.sub_zero]
 by_cases h:k<=xs.length
 ·rw [Nat.min_eq_left h]
 ·rw [Nat.min_eq_right (by omega),List.take_of_length_le (Nat.le_refl _),List.take_of_length_le (by omega)]
theorem a4u{α:Type}(xs:List α)(k:Nat):a2r xs (some (k:Int)) none=xs.drop k:=by
 unfold a2r;rw [HT.a6n,HT.a6o]
 by_cases h:k<=xs.length
 ·rw [Nat.min_eq_left h,List.take_of_length_le (by rw [List.length_drop];omega)]
 ·rw [Nat.min_eq_right (by omega),List.drop_eq_nil_of_le (Nat.le_refl _),List.drop_eq_nil_of_le (by omega),List.take_nil]
theorem aks{α:Type}(xs:List α)(j k:Nat):a2r xs (some (j:Int)) (some (k:Int))=(xs.drop j).take (k - j):=by
 unfold a2r;rw [HT.a6o,HT.a6o]
 by_cases h:j<=xs.length
 ·rw [Nat.min_eq_left h]
  by_cases h2:k<=xs.length
  ·rw [Nat.min_eq_left h2]
  ·rw [Nat.min_eq_right (by omega),List.take_of_length_le (by rw [List.length_drop];omega),List.take_of_length_le (by rw [List.length_drop];omega)]
 ·rw [Nat.min_eq_right (show xs.length<=j by omega),List.drop_eq_nil_of_le (Nat.le_refl _),List.drop_eq_nil_of_le (by omega),List.take_nil,List.take_nil]
end L2
namespace L2
open PySem PySem.Spec PyProof.Rows
def ad9(J:It)(s0:St)(g:TG)(tc:TT)(te:TE)(Q:VK)(H1:Hp):Prop:=∃ W:Nat->Nat->List V->Hp->Prop,(∃ m,W 0 m [] H1)/\∀ i m ys H,W i m ys H->
 (J.stop i H/\∀ p,H p=none->Q (.ref p) (upd H p (.lst ys))) \/
 (J.go i H/\ys.length<sizeLine/\∀ x H',J.yld i H x H'->g x s0 H' λσ2 H2=>Ext s0 σ2/\tc σ2 H2 λok H2'=>if ok=true then te σ2 H2' (λy H3=>∃ m',m'<m/\W (i+1) m' (ys++[y]) H3) else ∃ m',m'<m/\W (i+1) m' ys H2')
def a6s(wi:TI)(s0:St->St)(g:TG)(tc:TT)(te:TE):TE:=λσ H Q=>wi σ H λJ H1=>ad9 J (s0 σ) g tc te Q H1
theorem a4v(elt target iter cnd:Expr)(scope:Scope)(pos:Pos)(it acc:Value)(env:Env) :
  compTurn (.ListComp elt [⟨target,iter,[cnd],0⟩] scope pos) 0 it acc env=(standAt iter.pos>>=λ_=>pyNext it>>=λr=>match r with
   | none=>pure (.done .next)
   | some v=>letOwnedTupleGo target it v>>=λ_=>assign target env v>>=λ_=>isTrue cnd env (eval cnd env)>>=λok =>
    (if ok=true then (eval elt env>>=λx=>call (.builtin "list.append") [acc,x]>>=λ_=>pure ()) else pure ())>>=λ_ =>
     again (.compLoop (.ListComp elt [⟨target,iter,[cnd],0⟩] scope pos) 0 it acc env)):=by
 first
  | rfl
  | (unfold compTurn;simp only [List.getElem?_cons_zero];rfl)
  | (show (standAt iter.pos>>=λ_=>pyNext it>>=λr=>_)=_
     congr 1;funext _;congr 1;funext r
     cases r with
     | none=>rfl
     | some v =>
      show (letOwnedTupleGo target it v>>=λ_=>assign target env v>>=λ_=>_)=(letOwnedTupleGo target it v>>=λ_=>assign target env v>>=λ_=>_)
      congr 1;funext _;congr 1;funext _
      simp
      congr 1;funext ok
      cases ok with
      | false=>rw [if_neg Bool.false_ne_true,if_neg Bool.false_ne_true,pure_bind]
      | true =>
       rw [if_pos rfl,if_pos rfl,bind_assoc]
       congr 1;funext x
       rw [map_eq_pure_bind,bind_assoc]
       congr 1)
theorem abh{prog:Program}{w:World}{A:Around}{R:Result->Shared->Prop}{s:Shared}{elt target iter cnd:Expr}{scope:Scope}{pos:Pos}{it acc:Value}{env:Env}(J:Nat->Shared->Prop)
  (step:∀ m z,J m z->wpAny (model prog w) A (pyNext it) (λgot z1=>match got with
   | none=>R (.ok .next) z1
   | some v=>wpAny (model prog w) A (letOwnedTupleGo target it v) (λ_ z2=>wpAny (model prog w) A (assign target env v) (λ_ z3=>wpAny (model prog w) A (isTrue cnd env (eval cnd env)) (λok z3'=>if ok=true then wpAny (model prog w) A (eval elt env) (λx z4 =>
     wpAny (model prog w) A (call (.builtin "list.append") [acc,x]) (λ_ z5=>∃ m',m'<m/\J m' z5) (λ_ _=>False) z4)
     (λ_ _=>False) z3' else ∃ m',m'<m/\J m' z3') (λ_ _=>False) z3) (λ_ _=>False) z2) (λ_ _=>False) z1) (λ_ _=>False) z)
  (m:Nat) (j0:J m s):codeAny (model prog w) A (.compLoop (.ListComp elt [⟨target,iter,[cnd],0⟩] scope pos) 0 it acc env) R s:=by
 refine codeAny_loop rfl J (λm z hj=>(wpAny_noted ?_:wpAny _ _ ((compTurn (.ListComp elt [⟨target,iter,[cnd],0⟩] scope pos) 0 it acc env).onRaise _) _ _ z)) m j0;rw [a4v];refine wpAny_bind (wpAny_standAt (wpAny_bind (wpAny_mono (step m z hj) (λgot z1 h1=>?_) λ_ _ no=>no.elim)))
 match got,h1 with
 | none,h1=>exact wpAny_pure h1
 | some v,h1 =>
  refine wpAny_bind (wpAny_mono h1 (λ_ z2 h2=>wpAny_bind (wpAny_mono h2 (λ_ z3 h3=>wpAny_bind (wpAny_mono h3 (λok z3' h3'=>?_) λ_ _ no=>no.elim)) λ_ _ no=>no.elim)) λ_ _ no=>no.elim)
  match ok,h3' with
  | true,h3' =>
   rw [if_pos rfl] at h3';refine wpAny_bind (wpAny_bind (wpAny_mono h3' (λx z4 h4=>?_) λ_ _ no=>no.elim));exact wpAny_bind (wpAny_mono h4 (λ_ z5 h5=>wpAny_pure (wpAny_pure ⟨rfl,h5⟩)) λ_ _ no=>no.elim)
  | false,h3' =>
   rw [if_neg Bool.false_ne_true] at h3';exact wpAny_bind (wpAny_pure (wpAny_pure ⟨rfl,h3'⟩))
section
variable{X:Cx}
theorem a4w{elt tg iter cnd:Expr}{scope:Scope}{pos ppos:Pos}{cl:List (Str × Addr)}{ts fr:List Str}{ix:List Nat}{wi:TI}{g:TG}{tc:TT}{te:TE}(hc:X.calm=true)(S:CSc X scope cl ts fr ix)(hi:PI X tg iter wi)
  (hg:∀ C fp s H,PG (cxC X (ts++fr) scope cl C fp s H) tg g) (he:∀ C fp s H,PE (cxC X (ts++fr) scope cl C fp s H) elt te) (ht:∀ C fp s H,PT (cxC X (ts++fr) scope cl C fp s H) cnd tc) (hs:∀ x,foldedSetIterable iter X.env x=pure x)
  (use:Option (Value->Sem Unit)) {pins:List (Addr × Obj)} {s:Shared} {σ:St} {H:Hp} {Q:VK} {Qf:Value->Shared->Prop} (I:Inv X pins σ H s) (h:a6s wi (ug ts.length ix) g tc te σ H Q) (fin:a6r X pins σ use Q Qf) :
  wpAny (model X.prog X.w) X.A (comprehension (.ListComp elt [⟨tg,iter,[cnd],0⟩] scope pos) scope X.env ppos (newList []) false (eval iter X.env) use) Qf X.xe s:=by
 refine wpAny_comprehension_free (use:=use) rfl hs S.clos S.kind S.names (thn (hi pins s σ H _ I h) λv s1 h1=>thn h1 λitv s2 h2=>?_);obtain ⟨it,fp,tn,J,H2,e,I2,T,st2,f2,W,⟨m0,w0⟩,turn⟩:=h2;subst e;have hob:∀ b∈fp,b<s2.heap.objs.size:=λb hb=>let ⟨o,e,_⟩:=T.obj _ _ st2 b hb;Heap.lt_size e;refine wpAny_newObj_type (wpAny_newFunctionEnv S.nocell (by intro y hy;simp at hy) (λh4 hns4 hsb4=>?_) S.kind)
 dsimp only at hns4 hsb4 ⊢
 generalize hH2:s2.heap.push { cls:=.type "list",dict:=none,data:=.seq ([]:List Value).toArray }=G at hns4 hsb4 ⊢
 have hCs:G.objs.size=s2.heap.objs.size+1:=by rw [<-hH2,Heap.size_push]
 have hCle:s2.heap.objs.size<=G.objs.size:=by omega
 have hne:G.objs.size≠s2.heap.objs.size:=by omega
 have old:∀ b o,s2.heap.get? b=some o->h4.get? b=some o:=λb o e=>by
  have hlt:=Heap.lt_size e;exact hsb4.extBut b o (Nat.ne_of_lt (Nat.lt_of_lt_of_le hlt hCle)) (Heap.get?_push_of_some _ (hH2 ▸ Heap.get?_push_of_some _ e))
 have hacc:h4.get? s2.heap.objs.size=some { cls:=.type "list",data:=.seq ([]:List Value).toArray 0 } :=
  hsb4.extBut _ _ (Ne.symm hne) (Heap.get?_push_of_some _ (hH2 ▸ Heap.get?_push_size _ rfl))
 have K0:Inv (cxC X (ts++fr) scope cl G.objs.size fp s2 H2) [] (ug ts.length ix σ) H2 { s2 with heap:=h4,toks:=s2.toks+([]:List (Str × Value)).length } :=
  ad6 S I2 f2 hob hCle old hns4 rfl rfl
 have st4:tn 0 h4:=T.keep _ _ _ st2 λb _ o e=>old b o e;have accF:s2.heap.objs.size ∉ fp:=λz=>Nat.lt_irrefl _ (hob _ z);have stat:∀ {H':Hp},(∀ b∈fp,H' b=none)->∀ b∈fp,a8z (cxC X (ts++fr) scope cl G.objs.size fp s2 H2) [] H' b:=λhn b hb =>
  ⟨hn b hb,λz=>by have h1:=hob b hb;have z':b=G.objs.size:=z;exact Nat.ne_of_lt (Nat.lt_of_lt_of_le h1 hCle) z',λz=>(a85 S I2 f2 hob hCle).exfs b hb z, .inl hb,λx c e=>(f2 b hb).2.2.2.2.1 x c (S.sub x c e),λp hp=>absurd (show p∈([]:List (Addr × Obj)) from hp) (by simp)⟩
 have statA:∀ {H':Hp},H' s2.heap.objs.size=none->a8z (cxC X (ts++fr) scope cl G.objs.size fp s2 H2) [] H' s2.heap.objs.size:=λhn =>
  ⟨hn,λz=>hne (show G.objs.size=s2.heap.objs.size from z.symm),λz=>by
   obtain ⟨_,o,ho,_⟩:=(a85 S I2 f2 hob hCle).funs.mem z;exact Nat.lt_irrefl _ (Heap.lt_size ho), .inr (Nat.le_refl _),λx c e z=>by
   obtain ⟨v,o,ho,_⟩:=I2.cell x c (S.sub x c e);rw [z] at ho;exact Nat.lt_irrefl _ (Heap.lt_size ho),λp hp=>absurd (show p∈([]:List (Addr × Obj)) from hp) (by simp)⟩
 have loop:∀ s4:Shared,s4={ s2 with heap:=h4,toks:=s2.toks+([]:List (Str × Value)).length }->
   codeAny (model X.prog X.w) X.A (.compLoop (.ListComp elt [⟨tg,iter,[cnd],0⟩] scope pos) 0 (.ref it) (.ref s2.heap.objs.size) (compEnvC scope cl G.objs.size X.env))
    (compPost (model X.prog X.w) X.A X.xe use Qf (.ref s2.heap.objs.size) G.objs.size) s4:=by
  rintro s4 rfl
  refine abh (λn s'=>∃ i σ' H' ys its k,Inv (cxC X (ts++fr) scope cl G.objs.size fp s2 H2) [] σ' H' s'/\Ext (ug ts.length ix σ) σ'/\tn i s'.heap/\(∀ b∈fp,H' b=none)/\H' s2.heap.objs.size=none /\
   s'.heap.get? s2.heap.objs.size=some { cls:=.type "list",data:=.seq its.toArray k }/\Vals ys its/\ys.length<=sizeLine/\W i n ys H') ?_ m0
   ⟨0,_,H2,[],[],0,K0,⟨rfl,λ_ _ z=>z⟩,st4,λb hb=>(f2 b hb).1,I2.hok.fresh (Nat.le_refl _),hacc, .nil,Nat.zero_le _,w0⟩
  rintro n s5 ⟨i,σ5,H5,ys,its,k5,I5,x5,st5,fr5,fa5,ac5,rv5,hz5,w5⟩
  have I5':Inv (cxC X (ts++fr) scope cl G.objs.size fp s2 H2) [] (ug ts.length ix σ) H5 s5:=I5.weak x5.1.symm x5.2
  rcases turn i n ys H5 w5 with ⟨stop,qn⟩ | ⟨go,hlt,step⟩
  ·refine thn (T.done (cxC X (ts++fr) scope cl G.objs.size fp s2 H2) rfl rfl rfl hc i [(s2.heap.objs.size,{ cls:=.type "list",data:=.seq its.toArray k5 })] s5 _ H5 _ (I5'.pins_of λp hp=>?_) (λb hb=>?_) st5 stop) λr s6 ⟨hr,I6⟩=>?_
   ·have e:p=(s2.heap.objs.size,{ cls:=.type "list",data:=.seq its.toArray k5 }):=by simpa using hp
    subst e;obtain ⟨a0,a1,a2,_⟩:=statA fa5;exact ⟨ac5,a0,a1,a2,λv z=>by cases z⟩
   ·obtain ⟨b0,b1,b2,b3,b4,b5⟩:=stat fr5 b hb;refine ⟨b0,b1,b2,b3,b4,λp hp=>?_⟩;have e:p=(s2.heap.objs.size,{ cls:=.type "list",data:=.seq its.toArray k5 }):=by
     have hp':p∈[(s2.heap.objs.size,_)]:=hp;simpa using hp'
    subst e;exact λz=>accF (by have z':s2.heap.objs.size=b:=z;rw [z'];exact hb)
   ·subst hr;have e6:=(I6.pin (s2.heap.objs.size,{ cls:=.type "list",data:=.seq its.toArray k5 }) (by show _∈[]++[_];simp)).1
    obtain ⟨m6,hn6,_⟩:=I6.loc;exact fin _ _ s6 _ m6 hn6 (I2.fpOk hCle (by rw [jw hne];exact I6.free)) (λh' sb=>comp_back I2 f2 hCle (Nat.le_refl _) hne I6.unpinned' fa5 e6 rv5 hz5 sb) (qn _ fa5)
  ·refine thn (T.item (cxC X (ts++fr) scope cl G.objs.size fp s2 H2) rfl rfl rfl hc i [(s2.heap.objs.size,{ cls:=.type "list",data:=.seq its.toArray k5 })] s5 _ H5 _ (I5'.pins_of λp hp=>?_) (λb hb=>?_) st5 go) λr s6 ⟨u,hr,h6⟩=>?_
   ·have e:p=(s2.heap.objs.size,{ cls:=.type "list",data:=.seq its.toArray k5 }):=by simpa using hp
    subst e;obtain ⟨a0,a1,a2,_⟩:=statA fa5;exact ⟨ac5,a0,a1,a2,λv z=>by cases z⟩
   ·obtain ⟨b0,b1,b2,b3,b4,b5⟩:=stat fr5 b hb;refine ⟨b0,b1,b2,b3,b4,λp hp=>?_⟩;have e:p=(s2.heap.objs.size,{ cls:=.type "list",data:=.seq its.toArray k5 }):=by
     have hp':p∈[(s2.heap.objs.size,_)]:=hp;simpa using hp'
    subst e;exact λz=>accF (by have z':s2.heap.objs.size=b:=z;rw [z'];exact hb)
   ·subst hr;refine thn h6 λ_ s7 ⟨x,H7,I7,r7,y7,st7,fr7⟩=>?_;have fa7:H7 s2.heap.objs.size=none:=(I7.pin (s2.heap.objs.size,{ cls:=.type "list",data:=.seq its.toArray k5 }) (by show _∈[]++[_];simp)).2.1
    have ac7:=(I7.pin (s2.heap.objs.size,{ cls:=.type "list",data:=.seq its.toArray k5 }) (by show _∈[]++[_];simp)).1
    have I7':Inv (cxC X (ts++fr) scope cl G.objs.size fp s2 H2) ([]++a5w (s2.heap.objs.size::fp) s7.heap) (ug ts.length ix σ) H7 s7:=by
     refine Inv.pinned I7.unpinned' (λb hb=>?_) λb hb=>?_
     ·rcases List.mem_cons.mp hb with e | e
      ·subst e;exact statA fa7
      ·exact stat fr7 b e
     ·rcases List.mem_cons.mp hb with e | e
      ·subst e;exact ⟨_,ac7,λv z=>by cases z⟩
      ·exact T.obj _ _ st7 b e
    refine thn (hg G.objs.size fp s2 H2 _ s7 _ H7 x u _ I7' r7 (step x H7 y7)) λ_ s8 ⟨σ8,H8,I8,x8,q8⟩=>?_;refine thn (ht G.objs.size fp s2 H2 _ s8 _ H8 _ I8 q8) λok s8' ⟨H8',I8',q8'⟩=>?_
    cases ok with
    | false =>
     rw [if_neg Bool.false_ne_true] at q8' ⊢;obtain ⟨m',hm',w9⟩:=q8';obtain ⟨ac9,fa9,_⟩:=I8'.pin (s2.heap.objs.size,{ cls:=.type "list",data:=.seq its.toArray k5 }) (by show _∈[]++([]++_);simp;exact uw List.mem_cons_self ac7)
     have keep9:∀ b∈fp,∀ o,s7.heap.get? b=some o->s8'.heap.get? b=some o/\H8' b=none:=λb hb o e=>by
      obtain ⟨z1,z2,_⟩:=I8'.pin (b,o) (by show _∈[]++([]++_);simp;exact uw (List.mem_cons_of_mem _ hb) e)
      exact ⟨z1,z2⟩
     refine ⟨m',hm',i+1,σ8,H8',ys,its,k5,I8'.unpinned',x8,?_,?_,fa9,ac9,rv5,hz5,w9⟩
     ·exact T.keep _ _ _ st7 λb hb o e=>(keep9 b hb o e).1
     ·intro b hb
      obtain ⟨o,e,_⟩:=T.obj _ _ st7 b hb;exact (keep9 b hb o e).2
    | true =>
     rw [if_pos rfl] at q8' ⊢;refine thn (he G.objs.size fp s2 H2 _ s8' _ H8' _ I8' q8') λyv s9 ⟨y,H9,I9,r9,m',hm',w9⟩=>?_;obtain ⟨ac9,fa9,_⟩:=I9.pin (s2.heap.objs.size,{ cls:=.type "list",data:=.seq its.toArray k5 }) (by show _∈[]++([]++_);simp;exact uw List.mem_cons_self ac7)
     have keep9:∀ b∈fp,∀ o,s7.heap.get? b=some o->s9.heap.get? b=some o/\H9 b=none:=λb hb o e=>by
      obtain ⟨z1,z2,_⟩:=I9.pin (b,o) (by show _∈[]++([]++_);simp;exact uw (List.mem_cons_of_mem _ hb) e)
      exact ⟨z1,z2⟩
     have hl:=rv5.length;refine call_meets F.slot_list_append ⟨_,ac9,rfl⟩ F.entry_list_append (F.args_list_append_2 _ _) (PySem.list_append s2.heap.objs.size its.toArray k5 yv (by rw [List.size_toArray];omega)) ⟨ac9,?_⟩
     have q:=PySem.IsL.update ac9 (λa=>a.push yv);have qo:∀ b o,b≠s2.heap.objs.size->s9.heap.get? b=some o->(s9.heap.update s2.heap.objs.size (Obj.mapSeq (λa=>a.push yv))).get? b=some o:=λb o hb e=>(Heap.get?_update_other s9.heap _ (Ne.symm hb)).trans e;have q':∃ k,(s9.heap.update s2.heap.objs.size (Obj.mapSeq (λa=>a.push yv))).get? s2.heap.objs.size=some { cls:=.type "list",data:=.seq (its++[yv]).toArray k }:=⟨_,by rw [q];simp;rfl⟩
     obtain ⟨k9,q9⟩:=q';obtain ⟨a0,a1,a2,a3,a4,a5⟩:=statA (show H9 s2.heap.objs.size=none from fa9)
     refine ⟨m',hm',i+1,σ8,H9,ys++[y],its++[yv],k9,(I9.unpinned').turned qo a0 a1 a3 a4 a5,x8,?_,?_,fa9,q9,rv5.append (.cons r9 .nil),?_,w9⟩
     ·refine T.keep _ _ _ st7 λb hb o e=>qo b o (λz=>accF (z ▸ hb)) (keep9 b hb o e).1
     ·intro b hb
      obtain ⟨o,e,_⟩:=T.obj _ _ st7 b hb;exact (keep9 b hb o e).2
     ·rw [List.length_append,List.length_singleton];omega
 exact codeAny_compStart_list (loop _ rfl) (T.self _ 0 _ _ _ st4 (loop _ rfl))
theorem abi{elt tg iter cnd:Expr}{scope:Scope}{pos:Pos}{cl:List (Str × Addr)}{ts fr:List Str}{ix:List Nat}{wi:TI}{g:TG}{tc:TT}{te:TE}(hc:X.calm=true)(S:CSc X scope cl ts fr ix)(hi:PI X tg iter wi)
  (hg:∀ C fp s H,PG (cxC X (ts++fr) scope cl C fp s H) tg g) (he:∀ C fp s H,PE (cxC X (ts++fr) scope cl C fp s H) elt te) (ht:∀ C fp s H,PT (cxC X (ts++fr) scope cl C fp s H) cnd tc)
  (hs:∀ x,foldedSetIterable iter X.env x=pure x:=by intro _;rfl) :
  PE X (.ListComp elt [⟨tg,iter,[cnd],0⟩] scope pos) (a6s wi (ug ts.length ix) g tc te):=by
 intro pins s σ H Q I h
 rw [eval_ListComp];exact a4w hc S hi hg he ht hs none I h aa4
theorem abj{elt tg iter cnd:Expr}{scope:Scope}{pos:Pos}{cl:List (Str × Addr)}{ts fr:List Str}{ix:List Nat}{wi:TI}{g:TG}{tc:TT}{te:TE}{i:Nat}{x:Str}{pos' spos:Pos}(hN:X.N.Nodup)(hi':X.N[i]? = some x)(hx:Loc X.env.scope x)(hc:X.calm=true)(S:CSc X scope cl ts fr ix)(hi:PI X tg iter wi)
  (hg:∀ C fp s H,PG (cxC X (ts++fr) scope cl C fp s H) tg g) (he:∀ C fp s H,PE (cxC X (ts++fr) scope cl C fp s H) elt te) (ht:∀ C fp s H,PT (cxC X (ts++fr) scope cl C fp s H) cnd tc)
  (hs:∀ x,foldedSetIterable iter X.env x=pure x:=by intro _;rfl) (hsw:swapsWith (.ListComp elt [⟨tg,iter,[cnd],0⟩] scope pos) (some (.Name x pos')) spos.line X.env=pure true:=by rfl) (hf:X.fn x=true\/X.env.scope.names.lookup x=some .local:=by first | exact .inl rfl | exact .inr rfl | assumption) :
  PS X (.Assign [.Name x pos'] (.ListComp elt [⟨tg,iter,[cnd],0⟩] scope pos) spos) (as8 (a6s wi (ug ts.length ix) g tc te) (a6k i)):=by
 intro pins s σ H D I h
 rw [exec_Assign_Name_used _ _ _ _ hsw];refine wpAny_bind (wpAny_standAt (wpAny_bind ?_));refine wpAny_bind (wpAny_mono (a4w hc S hi hg he ht hs (some (assign (.Name x pos') X.env)) I h (aa5 hN hi' hx hf)) (λ_ s' hq=>wpAny_pure (wpAny_pure hq)) λ_ _ e=>e)
end
section
variable{X:Cx}
def a1v(T:Str)(c:Nat):Int:=Txt.find T ⟨#[c]⟩
theorem a9a(s sub:Str)(hi limit:Nat):∀ (l:List Nat) (st:Array Nat × Nat) (k:Nat),k∈(forIn l st (StrLaws.occBody s sub hi limit)).run.fst.toList->k∈st.fst.toList\/(k+sub.length<=hi/\Builtin.Str.subAt s sub k=true)
 | [],st,k,h=>.inl h
 | a::l,st,k,h=>by
  rw [List.forIn_cons] at h;unfold StrLaws.occBody at h
  split at h
  ·rename_i c
   rcases a9a s sub hi limit l _ k h with z | z
   ·simp at z
    rcases z with z | z
    ·exact .inl (by simpa using z)
    ·subst z;exact .inr ⟨c.1.2,c.2⟩
   ·exact .inr z
  ·rcases a9a s sub hi limit l _ k h with z | z
   ·exact .inl z
   ·exact .inr z
theorem aa6{T:Str}{c:Nat}(h:c∈T.cps.toList):∃ i:Nat,a1v T c=(i:Int)/\T.cps.toList[i]? = some c/\∃ rest,Builtin.Str.occurrences T ⟨#[c]⟩ 0 T.length 1=i::rest:=by
 have h1:=StrLaws.found_one T c;rw [decide_eq_true h] at h1
 cases ho:Builtin.Str.occurrences T ⟨#[c]⟩ 0 T.length 1 with
 | nil=>rw [ho] at h1;cases h1
 | cons i rest =>
  refine ⟨i,by simp [a1v,Txt.find,ho],?_,rest,rfl⟩
  rw [StrLaws.occ_eq] at ho;have hm:=a9a T ⟨#[c]⟩ T.length 1 (List.range' 0 (T.length+1 - 0)) (#[],0) i (by rw [ho];exact List.mem_cons_self)
  rcases hm with z | z
  ·simp at z
  ·exact (StrLaws.subAt_one T c i).mp z
theorem akt:OpR X (compareOp .In) (λx y H Q=>∃ c T,x = .str ⟨#[c]⟩/\y = .str T/\Q (.bl (decide (c∈T.cps.toList))) H):=by
 intro pins s σ H x y v u Q I rx ry h
 obtain ⟨c,T,rfl,rfl,q⟩:=h;exact acn pins s σ H _ _ v u Q I rx ry ⟨_,_,rfl,rfl,by rw [StrLaws.found_one];exact q⟩
theorem a5z:OpR X (compareOp .NotIn) (λx y H Q=>∃ c T,x = .str ⟨#[c]⟩/\y = .str T/\Q (.bl (!decide (c∈T.cps.toList))) H):=by
 intro pins s σ H x y v u Q I rx ry h
 obtain ⟨c,T,rfl,rfl,q⟩:=h;exact a7x pins s σ H _ _ v u Q I rx ry ⟨_,_,rfl,rfl,by rw [StrLaws.found_one];exact q⟩
theorem aku:MtR X "str.find" (λx xs H Q=>∃ T c,x = .str T/\xs=[.str ⟨#[c]⟩]/\Q (.int (a1v T c)) H):=by
 intro pins s σ H x xs v us Q I rx rs h
 obtain ⟨T,c,rfl,rfl,q⟩:=h;obtain ⟨t,rfl⟩:=rx;obtain ⟨u,rfl,t',rfl⟩:=vals1 rs;exact call_meets F.slot_str_find (typeIs_str _ _ _) F.entry_str_find (F.args_str_find_2 _ _) (gives_str_find _ _ _ _).meets ⟨.int (a1v T c),H,I.tok _,⟨_,rfl⟩,q⟩
theorem agd:MtR X "str.index" (λx xs H Q=>∃ T c,x = .str T/\xs=[.str ⟨#[c]⟩]/\c∈T.cps.toList/\Q (.int (a1v T c)) H):=by
 intro pins s σ H x xs v us Q I rx rs h
 obtain ⟨T,c,rfl,rfl,hc,q⟩:=h;obtain ⟨t,rfl⟩:=rx;obtain ⟨u,rfl,t',rfl⟩:=vals1 rs;obtain ⟨i,e1,e2,rest,ho⟩:=aa6 hc;refine call_meets F.slot_str_index (typeIs_str _ _ _) F.entry_str_index (F.args_str_index_2 _ _) (gives_str_index _ _ _ _ i rest ho).meets ⟨.int (a1v T c),H,I.tok _,⟨_,by rw [e1]⟩,q⟩
theorem akv{zs:List Str}:∀ {us:List Value},Vals (zs.map V.str) us->StrsAre us zs:=by
 induction zs with
 | nil=>intro us r;rw [List.map_nil] at r;cases r;exact .nil
 | cons z zs ih =>
  intro us r
  rw [List.map_cons] at r
  cases r with
  | cons r1 r2 =>
   obtain ⟨t,e⟩:=r1;subst e;exact .cons z t (ih r2)
theorem akx:MtR X "str.join" (λx xs H Q=>∃ sep p zs,x = .str sep/\xs=[.ref p]/\SqL X.K H p (zs.map V.str)/\(zs.map (·.length)).sum+zs.length*sep.length<=16777216/\Q (.str (Txt.join sep zs)) H):=by
 intro pins s σ H x xs v us Q I rx rs h
 obtain ⟨sep,p,zs,rfl,rfl,hp,hz,q⟩:=h;obtain ⟨t,rfl⟩:=rx;obtain ⟨u,rfl,ru⟩:=vals1 rs;cases ru
 obtain ⟨its,r,pl,_⟩:=I.list hp;exact join_list pl.isList (by simpa using akv r) hz λt' k=>⟨.str _,H,I.tok _,⟨_,rfl⟩,q⟩
end
theorem CSc.of{X:Cx}{scope:Scope}{cl:List (Str × Addr)}{ts fr:List Str}{ix:List Nat}(clos:closureFor scope X.env=pure cl)(kind:scope.kind = .function)
  (nocell:(scope.names.all λp=>p.2 != .cell)=true) (names:(scope.names.all λp=>p.2 != .local || scope.names.lookup p.1 == some .local)=true) (sub:∀ p∈cl,X.env.cells.lookup p.1=some p.2)
  (has:((relabel scope X.env).names.all λp => !(p.2 == .cell || p.2 == .free) || (cl.lookup p.1).isSome)=true) (nofn:(ts.all λy=>(relabel scope X.env).names.lookup y == some .local)=true)
  (len:ix.length=fr.length) (vis:((fr.zip ix).all λp=>X.N[p.2]? == some p.1 && (X.env.kindOf p.1 == some .cell || X.env.kindOf p.1 == some .free) && ((relabel scope X.env).names.lookup p.1 == some .cell || (relabel scope X.env).names.lookup p.1 == some .free))=true) :
  CSc X scope cl ts fr ix:=by
 refine ⟨clos,kind,λy hy=>?_,λy hy e=>?_,λy c e=>sub _ (PySem.mem_of_lookup e),λy z=>?_,λy hy=>?_,len,λj y e=>?_⟩
 ·have:=List.all_eq_true.mp nocell y hy
  simpa using this
 ·have:=List.all_eq_true.mp names y hy
  rw [e] at this;simpa using this
 ·have key:∀ k,(relabel scope X.env).names.lookup y=some k->(k == .cell || k == .free)=true->∃ c,cl.lookup y=some c:=λk e hk=>by
   have:=List.all_eq_true.mp has _ (PySem.mem_of_lookup e)
   rw [hk] at this;exact Option.isSome_iff_exists.mp (by simpa using this)
  rcases z with z | z
  ·exact key _ z rfl
  ·exact key _ z rfl
 ·have:=List.all_eq_true.mp nofn y hy
  simpa using this
 ·obtain ⟨hj,_⟩:=List.getElem?_eq_some_iff.mp e;have hj2:j<ix.length:=by omega
  have hm:(y,ix[j])∈fr.zip ix:=by
   rw [List.mem_iff_getElem?];exact ⟨j,by rw [List.getElem?_zip_eq_some];exact ⟨e,List.getElem?_eq_getElem hj2⟩⟩
  have:=List.all_eq_true.mp vis _ hm
  simp only [Bool.and_eq_true,Bool.or_eq_true,beq_iff_eq] at this;exact ⟨ix[j],List.getElem?_eq_getElem hj2,this.1.1,this.1.2,this.2⟩
end L2
namespace HT
open PySem PySem.Spec PyProof.Rows
end HT
namespace L2
open PySem PySem.Spec PyProof.Rows
def tSM(r:V->List V->Hp->VK->Prop)(to:TE)(t:TA):TE:=λσ H Q=>to σ H λx H1=>(∃ z,x = .str z)/\t σ H1 λxs H2=>r x xs H2 Q
theorem atm{X:Cx}{o e:Expr}{es:List Expr}{to:TE}{t:TA}{name:Str}{apos cpos:Pos}{id:String}{r:V->List V->Hp->VK->Prop}(slot:Slot "str" name id)(hty:typeOf (.builtin id)=pure (.type "method_descriptor"))(hm:MtR X id r)(ho:PE X o to)(ha:PA X (e::es) t)
  (hbase:attributeBase o name X.env (eval o X.env)=eval o X.env:=by rfl)
  (hfew:((backTo cpos (starEach (e::es) X.env)).all (λx => !x.1) && (backToKw cpos (keywordEach [] X.env)).all (λx=>x.1.isSome)
   && decide ((e::es).length+([]:List Keyword).length+(if ([]:List Keyword).isEmpty then 0 else 1)<30))=true:=by rfl)
  (hline:(apos.endLine == cpos.line)=true:=by rfl) (hs:starEach (e::es) X.env=(false,eval e X.env)::starEach es X.env:=by rfl) (hplain:(backTo cpos (starEach es X.env)).any (·.1)=false:=by rfl) :
  PE X (.Call (.Attribute o name apos) (e::es) [] cpos) (tSM r to t):=by
 intro pins s σ H Q I h
 refine wpAny_Call_method_late hbase hfew hline rfl (thn (ho pins s σ H _ I h) λv s1 ⟨x,H1,I1,r1,⟨z,hz⟩,q1⟩=>?_);subst hz;obtain ⟨h1,h2⟩:=ad0 (T := "str") I1 r1 rfl;refine ⟨"str",id,PySem.F.plainAttrs_str,slot,hty,h1,h2,?_⟩;have hA:=ha cpos pins s1 σ H1 _ I1 q1;rw [hs] at hA ⊢;refine Calls.callWith_builtin (by show (false || (backTo cpos (starEach es X.env)).any (·.1))=false;rw [hplain]<;>rfl) (Calls.evalArgs_plain ?_)
 exact thn hA λus s2 ⟨vs,H2,I2,r2,q2⟩=>hm pins s2 σ H2 _ vs v us Q I2 r1 r2 q2
end L2
namespace SHP
open PySem L2
end SHP
namespace L2
open PySem PySem.Spec PyProof.Rows
def mxI:List Int->Int
 | []=>0
 | [a]=>a
 | a::b::r=>if mxI (b::r)<=a then a else mxI (b::r)
theorem ada:∀ {l:List Int},l≠[]->mxI l∈l/\∀ x∈l,x<=mxI l
 | [],h=>absurd rfl h
 | [a],_=>⟨List.mem_singleton.mpr rfl,λx hx=>by rw [List.mem_singleton.mp hx];exact Int.le_refl a⟩
 | a::b::r,_=>by
  obtain ⟨i,m⟩:=ada (l:=b::r) (by simp)
  unfold mxI
  split
  ·rename_i h;refine ⟨List.mem_cons_self,λx hx=>?_⟩
   rcases List.mem_cons.mp hx with rfl | hx
   ·exact Int.le_refl _
   ·exact Int.le_trans (m x hx) h
  ·rename_i h;refine ⟨List.mem_cons_of_mem _ i,λx hx=>?_⟩
   rcases List.mem_cons.mp hx with rfl | hx
   ·omega
   ·exact m x hx
theorem aow{l:List Int}{k:Int}(h1:k∈l)(h2:∀ x∈l,x<=k):k=mxI l:=by
 obtain ⟨a,b⟩:=ada (l:=l) (by intro z;subst z;cases h1)
 have:=b k h1
 have:=h2 _ a
 omega
end L2
namespace SHP
open PySem L2
end SHP
namespace MI
open PySem L2
inductive D where
 | non | bl (b:Bool) | int (i:Int) | str (x:Str) | ty (n:String) | tup (xs:List D) | rol (xs:List D) | ref (i:Nat) | scr (xs:List D) | rod (ks:List Key) (xs:List D) | rdT (ks:List (List Key)) (xs:List D) | exc (c:Str)
inductive O where
 | lst (xs:List D) | dK (kvs:List (Key × D)) | dT (kvs:List (List Key × D))
abbrev Hd:=List O
abbrev Sd:=List (Option D)
inductive R (α:Type) where
 | ok (a:α) (h:Hd) | ex (c:Str) (h:Hd) | no
def R.bind{α β:Type}:R α->(α->Hd->R β)->R β
 | .ok a h,k=>k a h
 | .ex c h,_=>.ex c h
 | .no,_=>.no
inductive Fl where
 | nx (σ:Sd) (h:Hd) | rt (d:D) (h:Hd) | bk (σ:Sd) (h:Hd) | ct (σ:Sd) (h:Hd) | ex (c:Str) (h:Hd) | no
def R.fl{α:Type}:R α->(α->Hd->Fl)->Fl
 | .ok a h,k=>k a h
 | .ex c h,_=>.ex c h
 | .no,_=>.no
abbrev SE:=Sd->Hd->R D
abbrev ST:=Sd->Hd->R Bool
abbrev SA:=Sd->Hd->R (List D)
abbrev SS:=Sd->Hd->Fl
def SqF(K:PySem.W.Frag)(H:Hp)(a:Addr)(vs:List V):Prop:=(∃ o,H a=some (.frz o (.lst vs)))\/SqL K (λ_=>none) a vs
theorem SqF.l{K:PySem.W.Frag}{H:Hp}{a:Addr}{vs:List V}(h:SqF K H a vs):SqL K H a vs:=by
 rcases h with ⟨o,h⟩ | h
 ·exact .inl (.inr ⟨o,h⟩)
 ·rcases h with (h | ⟨o,h⟩) | h
  ·cases h
  ·cases h
  ·exact .inr h
def SqZ(H:Hp)(a:Addr)(vs:List V):Prop:=∃ o,H a=some (.frz o (.lst vs))
theorem SqZ.l{K:PySem.W.Frag}{H:Hp}{a:Addr}{vs:List V}(h:SqZ H a vs):SqL K H a vs:=let ⟨o,e⟩:=h; .inl (.inr ⟨o,e⟩)
def exO(a:Addr):HO:=.ext λh=>∃ o,h.get? a=some o
mutual
inductive Rep (K:PySem.W.Frag) (ι:List Addr) (H:Hp):V->D->Prop
 | non:Rep K ι H .non .non
 | bl (b:Bool):Rep K ι H (.bl b) (.bl b)
 | int (i:Int):Rep K ι H (.int i) (.int i)
 | str (x:Str):Rep K ι H (.str x) (.str x)
 | ty (n:String):Rep K ι H (.ty n) (.ty n)
 | tup {a:Addr} {vs:List V} {xs:List D} (h:H a=some (.tup vs)) (r:Reps K ι H vs xs):Rep K ι H (.ref a) (.tup xs)
 | rol {a:Addr} {vs:List V} {xs:List D} (h:SqZ H a vs) (r:Reps K ι H vs xs):Rep K ι H (.ref a) (.rol xs)
 | scr {a:Addr} {vs:List V} {xs:List D} (h:SqF K H a vs) (r:Reps K ι H vs xs):Rep K ι H (.ref a) (.scr xs)
 | ref {a:Addr} {i:Nat} (h:ι[i]? = some a):Rep K ι H (.ref a) (.ref i)
 | rod {a:Addr} {o:Obj} {us:List (Key × V)} {ks:List Key} {xs:List D} (h:H a=some (.frz o (.dK us))) (e:us.map (·.1)=ks) (r:Reps K ι H (us.map (·.2)) xs):Rep K ι H (.ref a) (.rod ks xs)
 | rdT {a:Addr} {o:Obj} {us:List (List Key × V)} {ks:List (List Key)} {xs:List D} (h:H a=some (.frz o (.dT us))) (e:us.map (·.1)=ks) (r:Reps K ι H (us.map (·.2)) xs):Rep K ι H (.ref a) (.rdT ks xs)
 | exc {a C:Addr} {o:Obj} {c:Str} (h:H a=some (.frz o (exO a))) (hc:o.cls = .ref C) (hn:PySem.W.nsIn K mainGlobals c=some (some (.ref C))):Rep K ι H (.ref a) (.exc c)
inductive Reps (K:PySem.W.Frag) (ι:List Addr) (H:Hp):List V->List D->Prop
 | nil:Reps K ι H [] []
 | cons {v:V} {d:D} {vs:List V} {ds:List D} (r:Rep K ι H v d) (rs:Reps K ι H vs ds):Reps K ι H (v::vs) (d::ds)
end
structure Gw (ι:List Addr) (H:Hp) (ι':List Addr) (H':Hp):Prop where
 pre:∃ m,ι'=ι++m
 tup:∀ a vs,H a=some (.tup vs)->H' a=some (.tup vs)
 frz:∀ a o u,H a=some (.frz o u)->H' a=some (.frz o u)
structure Gr (ι:List Addr) (H:Hp) (ι':List Addr) (H':Hp):Prop where
 pre:∃ m,ι'=ι++m/\∀ a∈m,H a=none
 tup:∀ a vs,H a=some (.tup vs)->H' a=some (.tup vs)
 frz:∀ a o u,H a=some (.frz o u)->H' a=some (.frz o u)
 oth:∀ a u,H a=some u->a ∉ ι->H' a=some u
 kp:∀ a u,H a=some u->∃ u',H' a=some u'
theorem Gr.w{ι ι':List Addr}{H H':Hp}(g:Gr ι H ι' H'):Gw ι H ι' H':=⟨let ⟨m,e,_⟩:=g.pre; ⟨m,e⟩,g.tup,g.frz⟩
theorem Gr.refl(ι:List Addr)(H:Hp):Gr ι H ι H:=⟨⟨[],by simp,by simp⟩,λ_ _ h=>h,λ_ _ _ h=>h,λ_ _ h _=>h,λ_ u h=>⟨u,h⟩⟩
theorem Gr.trans{ι ι1 ι2:List Addr}{H H1 H2:Hp}(a:Gr ι H ι1 H1)(b:Gr ι1 H1 ι2 H2):Gr ι H ι2 H2:=by
 obtain ⟨m,rfl,hm⟩:=a.pre;obtain ⟨n,rfl,hn⟩:=b.pre;refine ⟨⟨m++n,by simp,λx hx=>?_⟩,λx vs h=>b.tup x vs (a.tup x vs h),λx o u h=>b.frz x o u (a.frz x o u h),λx u h hx=>?_,λx u h=>?_⟩
 ·rcases List.mem_append.mp hx with hx | hx
  ·exact hm x hx
  ·cases e:H x with
   | none=>rfl
   | some u =>
    obtain ⟨u',e'⟩:=a.kp x u e;rw [hn x hx] at e';cases e'
 ·refine b.oth x u (a.oth x u h hx) λz=>?_
  rcases List.mem_append.mp z with z | z
  ·exact hx z
  ·rw [hm x z] at h;cases h
 ·obtain ⟨u',e⟩:=a.kp x u h;exact b.kp x u' e
theorem Gw.at{ι ι':List Addr}{H H':Hp}(g:Gw ι H ι' H'){i:Nat}{a:Addr}(h:ι[i]? = some a):ι'[i]? = some a:=by
 obtain ⟨m,rfl⟩:=g.pre;rw [List.getElem?_append_left (List.getElem?_eq_some_iff.mp h).1];exact h
theorem Gr.at{ι ι':List Addr}{H H':Hp}(g:Gr ι H ι' H'){i:Nat}{a:Addr}(h:ι[i]? = some a):ι'[i]? = some a:=g.w.at h
theorem SqF.monoW{K:PySem.W.Frag}{ι ι':List Addr}{H H':Hp}(g:Gw ι H ι' H'){a:Addr}{vs:List V}(h:SqF K H a vs):SqF K H' a vs:=by
 rcases h with ⟨o,h⟩ | h
 ·exact .inl ⟨o,g.frz _ _ _ h⟩
 ·exact .inr h
theorem SqZ.monoW{ι ι':List Addr}{H H':Hp}(g:Gw ι H ι' H'){a:Addr}{vs:List V}(h:SqZ H a vs):SqZ H' a vs:=let ⟨o,e⟩:=h; ⟨o,g.frz _ _ _ e⟩
theorem SqZ.mono{ι ι':List Addr}{H H':Hp}(g:Gr ι H ι' H'){a:Addr}{vs:List V}(h:SqZ H a vs):SqZ H' a vs:=h.monoW g.w
mutual
theorem Rep.monoW{K:PySem.W.Frag}{ι ι':List Addr}{H H':Hp}(g:Gw ι H ι' H'):∀ {v:V} {d:D},Rep K ι H v d->Rep K ι' H' v d
 | _,_, .non=>.non
 | _,_, .bl b=>.bl b
 | _,_, .int i=>.int i
 | _,_, .str x=>.str x
 | _,_, .ty n=>.ty n
 | _,_, .tup h r=>.tup (g.tup _ _ h) (Reps.monoW g r)
 | _,_, .rol h r=>.rol (h.monoW g) (Reps.monoW g r)
 | _,_, .scr h r=>.scr (h.monoW g) (Reps.monoW g r)
 | _,_, .ref h=>.ref (g.at h)
 | _,_, .rod h e r=>.rod (g.frz _ _ _ h) e (Reps.monoW g r)
 | _,_, .rdT h e r=>.rdT (g.frz _ _ _ h) e (Reps.monoW g r)
 | _,_, .exc h hc hn=>.exc (g.frz _ _ _ h) hc hn
theorem Reps.monoW{K:PySem.W.Frag}{ι ι':List Addr}{H H':Hp}(g:Gw ι H ι' H'):∀ {vs:List V} {ds:List D},Reps K ι H vs ds->Reps K ι' H' vs ds
 | _,_, .nil=>.nil
 | _,_, .cons r rs=>.cons (Rep.monoW g r) (Reps.monoW g rs)
end
theorem Rep.mono{K:PySem.W.Frag}{ι ι':List Addr}{H H':Hp}(g:Gr ι H ι' H'){v:V}{d:D}(r:Rep K ι H v d):Rep K ι' H' v d:=r.monoW g.w
theorem Reps.mono{K:PySem.W.Frag}{ι ι':List Addr}{H H':Hp}(g:Gr ι H ι' H'){vs:List V}{ds:List D}(r:Reps K ι H vs ds):Reps K ι' H' vs ds:=r.monoW g.w
section
variable{K:PySem.W.Frag}{ι:List Addr}{H:Hp}
theorem Reps.len{vs:List V}{ds:List D}:Reps K ι H vs ds->vs.length=ds.length
 | .nil=>rfl
 | .cons _ rs=>by rw [List.length_cons,List.length_cons,rs.len]
theorem Reps.get:∀ {vs:List V} {ds:List D} {i:Nat} {d:D},Reps K ι H vs ds->ds[i]? = some d->∃ v,vs[i]? = some v/\Rep K ι H v d
 | _,_,_,_, .nil,e=>by simp at e
 | _,_,0,_, .cons r _,e=>by simp at e;subst e;exact ⟨_,rfl,r⟩
 | _,_,i+1,d, .cons _ rs,e=>by
  obtain ⟨u,h1,h2⟩:=Reps.get (i:=i) (d:=d) rs (by simpa using e)
  exact ⟨u,by simpa using h1,h2⟩
theorem Reps.app:∀ {vs us:List V} {ds es:List D},Reps K ι H vs ds->Reps K ι H us es->Reps K ι H (vs++us) (ds++es)
 | _,_,_,_, .nil,s=>s
 | _,_,_,_, .cons r rs,s=>.cons r (Reps.app rs s)
theorem Reps.set{v:V}{d:D}(q:Rep K ι H v d):∀ {vs:List V} {ds:List D} (i:Nat),Reps K ι H vs ds->Reps K ι H (vs.set i v) (ds.set i d)
 | _,_,_, .nil=>.nil
 | _,_,0, .cons _ rs=>.cons q rs
 | _,_,i+1, .cons r rs=>.cons r (Reps.set q i rs)
theorem Reps.take:∀ {vs:List V} {ds:List D} (n:Nat),Reps K ι H vs ds->Reps K ι H (vs.take n) (ds.take n)
 | _,_,0,_=>.nil
 | _,_,_+1, .nil=>.nil
 | _,_,n+1, .cons r rs=>.cons r (Reps.take n rs)
theorem Reps.drop:∀ {vs:List V} {ds:List D} (n:Nat),Reps K ι H vs ds->Reps K ι H (vs.drop n) (ds.drop n)
 | _,_,0,r=>r
 | _,_,_+1, .nil=>.nil
 | _,_,n+1, .cons _ rs=>Reps.drop n rs
theorem Reps.snoc{vs:List V}{ds:List D}{v:V}{d:D}(r:Reps K ι H vs ds)(q:Rep K ι H v d):Reps K ι H (vs++[v]) (ds++[d]):=r.app (.cons q .nil)
theorem Reps.flat:∀ {vs:List V} {ds:List D} (k:Nat),Reps K ι H vs ds->Reps K ι H (List.replicate k vs).flatten (List.replicate k ds).flatten
 | _,_,0,_=>.nil
 | vs,ds,k+1,r=>by
  rw [List.replicate_succ,List.replicate_succ,List.flatten_cons,List.flatten_cons];exact r.app (Reps.flat k r)
end
def KRep{κ:Type}(K:PySem.W.Frag)(ι:List Addr)(H:Hp)(us:List (κ × V))(kvs:List (κ × D)):Prop:=us.map (·.1)=kvs.map (·.1)/\Reps K ι H (us.map (·.2)) (kvs.map (·.2))
def ORep(K:PySem.W.Frag)(ι:List Addr)(H:Hp)(a:Addr):O->Prop
 | .lst xs=>∃ vs,H a=some (.lst vs)/\Reps K ι H vs xs
 | .dK kvs=>∃ us,H a=some (.dK us)/\KRep K ι H us kvs
 | .dT kvs=>∃ us,H a=some (.dT us)/\KRep K ι H us kvs
structure HRep (K:PySem.W.Frag) (ι:List Addr) (H:Hp) (h:Hd):Prop where
 nd:ι.Nodup
 len:ι.length=h.length
 obj:∀ (i:Nat) (a:Addr) (o:O),ι[i]? = some a->h[i]? = some o->ORep K ι H a o
section
variable{K:PySem.W.Frag}{ι:List Addr}{H:Hp}{h:Hd}
theorem ORep.some{a:Addr}{o:O}(r:ORep K ι H a o):∃ u,H a=some u/\(∀ vs,u≠.tup vs)/\(∀ o' u',u≠.frz o' u'):=by
 cases o with
 | lst xs=>obtain ⟨vs,e,_⟩:=r;exact ⟨_,e,λ_ z=>(by cases z),λ_ _ z=>(by cases z)⟩
 | dK kvs=>obtain ⟨us,e,_⟩:=r;exact ⟨_,e,λ_ z=>(by cases z),λ_ _ z=>(by cases z)⟩
 | dT kvs=>obtain ⟨us,e,_⟩:=r;exact ⟨_,e,λ_ z=>(by cases z),λ_ _ z=>(by cases z)⟩
theorem HRep.at(r:HRep K ι H h){i:Nat}{a:Addr}(e:ι[i]? = some a):∃ o,h[i]? = some o/\ORep K ι H a o:=by
 have hi:i<h.length:=by rw [<-r.len];exact (List.getElem?_eq_some_iff.mp e).1
 exact ⟨h[i],List.getElem?_eq_getElem hi,r.obj i a _ e (List.getElem?_eq_getElem hi)⟩
theorem HRep.addr(r:HRep K ι H h){i:Nat}{o:O}(e:h[i]? = some o):∃ a,ι[i]? = some a/\ORep K ι H a o:=by
 have hi:i<ι.length:=by rw [r.len];exact (List.getElem?_eq_some_iff.mp e).1
 exact ⟨ι[i],List.getElem?_eq_getElem hi,r.obj i _ o (List.getElem?_eq_getElem hi) e⟩
theorem HRep.notin(r:HRep K ι H h){p:Addr}(e:H p=none):p ∉ ι:=λz=>by
 obtain ⟨i,hi⟩:=List.getElem?_of_mem z;obtain ⟨o,_,q⟩:=r.at hi;obtain ⟨u,q,_⟩:=q.some;rw [e] at q;cases q
theorem ORep.monoW{ι':List Addr}{H':Hp}{a:Addr}{o:O}(g:Gw ι H ι' H')(e:H' a=H a)(r:ORep K ι H a o):ORep K ι' H' a o:=by
 cases o with
 | lst xs=>obtain ⟨vs,h1,h2⟩:=r;exact ⟨vs,by rw [e];exact h1,h2.monoW g⟩
 | dK kvs=>obtain ⟨us,h1,h2,h3⟩:=r;exact ⟨us,by rw [e];exact h1,h2,h3.monoW g⟩
 | dT kvs=>obtain ⟨us,h1,h2,h3⟩:=r;exact ⟨us,by rw [e];exact h1,h2,h3.monoW g⟩
theorem ORep.mono{ι':List Addr}{H':Hp}{a:Addr}{o:O}(g:Gr ι H ι' H')(e:H' a=H a)(r:ORep K ι H a o):ORep K ι' H' a o:=r.monoW g.w e
theorem xu{p:Addr}(e:H p=none)(o:HO):Gr ι H ι (upd H p o) :=
 ⟨⟨[],by simp,by simp⟩,λa vs h=>by rw [jw (jt h e)];exact h,λa o u h=>by rw [jw (jt h e)];exact h,λa u h _=>by rw [jw (jt h e)];exact h,λa u h=>⟨u,by rw [jw (jt h e)];exact h⟩⟩
theorem HRep.aside(r:HRep K ι H h){p:Addr}(e:H p=none)(o:HO):HRep K ι (upd H p o) h:=by
 refine ⟨r.nd,r.len,λi a o' e1 e2=>?_⟩;have q:=r.obj i a o' e1 e2;obtain ⟨u,hu,_⟩:=q.some;exact q.mono (xu e o) (jw (jt hu e))
theorem adb{p:Addr}(e:H p=none)(o:HO):Gr ι H (ι++[p]) (upd H p o) :=
 ⟨⟨[p],rfl,by simpa using e⟩,(xu (ι:=ι) e o).tup,(xu (ι:=ι) e o).frz,(xu (ι:=ι) e o).oth,(xu (ι:=ι) e o).kp⟩
theorem HRep.add(r:HRep K ι H h){p:Addr}(e:H p=none){o:HO}{ob:O}(q:ORep K (ι++[p]) (upd H p o) p ob):HRep K (ι++[p]) (upd H p o) (h++[ob]):=by
 refine ⟨?_,by simp [r.len],λi a o' e1 e2=>?_⟩
 ·rw [List.nodup_append];exact ⟨r.nd,by simp,λa ha b hb z=>r.notin e (by rw [List.mem_singleton.mp hb] at z;rw [<-z];exact ha)⟩
 ·by_cases hi:i<ι.length
  ·rw [List.getElem?_append_left hi] at e1;rw [List.getElem?_append_left (by rw [<-r.len];exact hi)] at e2
   have q:=r.obj i a o' e1 e2;obtain ⟨u,hu,_⟩:=q.some;exact q.mono (adb e o) (jw (jt hu e))
  ·have hi2:i<(ι++[p]).length:=(List.getElem?_eq_some_iff.mp e1).1;have:i=ι.length:=by simp at hi2;omega
   subst this;rw [List.getElem?_append_right (Nat.le_refl _)] at e1;rw [r.len,List.getElem?_append_right (Nat.le_refl _)] at e2;simp at e1 e2;subst e1 e2;exact q
theorem a65{a:Addr}{i:Nat}(r:HRep K ι H h)(e:ι[i]? = some a)(o:HO):Gr ι H ι (upd H a o):=by
 obtain ⟨_,_,q⟩:=r.at e;obtain ⟨u,hu,n1,n2⟩:=q.some;refine ⟨⟨[],by simp,by simp⟩,λb vs hb=>?_,λb o' u' hb=>?_,λb u' hb hn=>?_,λb u' hb=>?_⟩
 ·rw [jw (λz=>by subst z;rw [hu] at hb;exact n1 _ (Option.some.inj hb))];exact hb
 ·rw [jw (λz=>by subst z;rw [hu] at hb;exact n2 _ _ (Option.some.inj hb))];exact hb
 ·rw [jw (λz=>hn (by subst z;exact List.mem_of_getElem? e))];exact hb
 ·by_cases z:b=a
  ·subst z;exact ⟨o,qe⟩
  ·exact ⟨u',by rw [jw z];exact hb⟩
theorem HRep.put(r:HRep K ι H h){a:Addr}{i:Nat}(e:ι[i]? = some a){o:HO}{ob:O}(q:ORep K ι (upd H a o) a ob):HRep K ι (upd H a o) (h.set i ob):=by
 refine ⟨r.nd,by rw [List.length_set];exact r.len,λj b o' e1 e2=>?_⟩
 by_cases hj:i=j
 ·subst hj;rw [e] at e1;cases e1
  have hi:i<h.length:=by rw [<-r.len];exact (List.getElem?_eq_some_iff.mp e).1
  rw [List.getElem?_set_self hi] at e2;cases e2
  exact q
 ·rw [List.getElem?_set_ne hj] at e2;have hne:b≠a:=λz=>by
   subst z;obtain ⟨h1,g1⟩:=List.getElem?_eq_some_iff.mp e;obtain ⟨h2,g2⟩:=List.getElem?_eq_some_iff.mp e1;have np:=List.pairwise_iff_getElem.mp r.nd
   rcases Nat.lt_or_gt_of_ne hj with l | l
   ·exact np i j h1 h2 l (g1.trans g2.symm)
   ·exact np j i h2 h1 l (g2.trans g1.symm)
  exact (r.obj j b o' e1 e2).mono (a65 r e o) (jw hne)
end
structure SRep (K:PySem.W.Frag) (ι:List Addr) (H:Hp) (σ:St) (τ:Sd):Prop where
 len:σ.length=τ.length
 val:∀ (i:Nat) (d:D),τ[i]? = some (some d)->∃ v,σ[i]? = some (some v)/\Rep K ι H v d
theorem SRep.mono{K:PySem.W.Frag}{ι ι':List Addr}{H H':Hp}{σ:St}{τ:Sd}(g:Gr ι H ι' H')(s:SRep K ι H σ τ):SRep K ι' H' σ τ :=
 ⟨s.len,λi d e=>let ⟨v,h1,h2⟩:=s.val i d e; ⟨v,h1,h2.mono g⟩⟩
theorem SRep.set{K:PySem.W.Frag}{ι:List Addr}{H:Hp}{σ:St}{τ:Sd}(s:SRep K ι H σ τ){v:V}{d:D}(r:Rep K ι H v d)(i:Nat):SRep K ι H (σ.set i (some v)) (τ.set i (some d)):=by
 refine ⟨by simp [s.len],λj d' e=>?_⟩
 by_cases hj:i=j
 ·subst hj;have hi:i<τ.length:=by
   have:=(List.getElem?_eq_some_iff.mp e).1
   simpa using this
  rw [List.getElem?_set_self hi] at e;cases e
  exact ⟨v,by rw [List.getElem?_set_self (by rw [s.len];exact hi)],r⟩
 ·rw [List.getElem?_set_ne hj] at e ⊢;exact s.val j d' e
abbrev XD:=Str->List Addr->Hp->Hd->Prop
def out{α β:Type}(K:PySem.W.Frag)(E:XD)(Rp:List Addr->Hp->β->α->Prop)(ι:List Addr)(H:Hp)(r:R α)(Q:β->Hp->Prop):Prop :=
 match r with
 | .ok a h=>∀ ι' H' b,Gr ι H ι' H'->Rp ι' H' b a->HRep K ι' H' h->Q b H'
 | .ex c h=>∀ ι' H',Gr ι H ι' H'->HRep K ι' H' h->E c ι' H' h
 | .no=>False
theorem a6t{α β:Type}{K:PySem.W.Frag}{E:XD}{Rp:List Addr->Hp->β->α->Prop}{ι ι1:List Addr}{H H1:Hp}{r:R α}{Q:β->Hp->Prop}(o:out K E Rp ι H r Q)(g:Gr ι H ι1 H1):out K E Rp ι1 H1 r Q:=by
 cases r with
 | ok a h=>exact λι' H' b g'=>o ι' H' b (g.trans g')
 | ex c h=>exact λι' H' g'=>o ι' H' (g.trans g')
 | no=>exact o
theorem fu{α β γ δ:Type}{K:PySem.W.Frag}{E:XD}{Rp:List Addr->Hp->β->α->Prop}{Sp:List Addr->Hp->δ->γ->Prop}{ι:List Addr}{H:Hp}{r:R α}{k:α->Hd->R γ}{Q:δ->Hp->Prop}{P:β->Hp->Prop}
  (o:out K E Sp ι H (r.bind k) Q) (hP:∀ a h ι1 H1 b,Gr ι H ι1 H1->Rp ι1 H1 b a->HRep K ι1 H1 h->out K E Sp ι1 H1 (k a h) Q->P b H1):out K E Rp ι H r P:=by
 cases r with
 | ok a h=>exact λι' H' b g r' hr=>hP a h ι' H' b g r' hr (a6t o g)
 | ex c h=>exact o
 | no=>exact o
abbrev yw(K:PySem.W.Frag):List Addr->Hp->V->D->Prop:=λι H v d=>Rep K ι H v d
abbrev aw7(K:PySem.W.Frag):List Addr->Hp->List V->List D->Prop:=λι H v d=>Reps K ι H v d
abbrev aj7:List Addr->Hp->Bool->Bool->Prop:=λ_ _ a b=>a=b
abbrev aw8:List Addr->Hp->Option Int->Option Int->Prop:=λ_ _ a b=>a=b
def aft(K:PySem.W.Frag)(E:XD)(ι:List Addr)(H:Hp)(r:Fl)(N:Ends):Prop :=
 match r with
 | .nx τ h=>∀ ι' H' σ,Gr ι H ι' H'->SRep K ι' H' σ τ->HRep K ι' H' h->N.nx σ H'
 | .bk τ h=>∀ ι' H' σ,Gr ι H ι' H'->SRep K ι' H' σ τ->HRep K ι' H' h->N.bk σ H'
 | .ct τ h=>∀ ι' H' σ,Gr ι H ι' H'->SRep K ι' H' σ τ->HRep K ι' H' h->N.ct σ H'
 | .rt d h=>∀ ι' H' v,Gr ι H ι' H'->Rep K ι' H' v d->HRep K ι' H' h->N.rt v H'
 | .ex c h=>∀ ι' H',Gr ι H ι' H'->HRep K ι' H' h->E c ι' H' h
 | .no=>False
theorem ul{K:PySem.W.Frag}{E:XD}{ι ι1:List Addr}{H H1:Hp}{r:Fl}{N:Ends}(o:aft K E ι H r N)(g:Gr ι H ι1 H1):aft K E ι1 H1 r N:=by
 cases r with
 | nx τ h=>exact λι' H' b g'=>o ι' H' b (g.trans g')
 | bk τ h=>exact λι' H' b g'=>o ι' H' b (g.trans g')
 | ct τ h=>exact λι' H' b g'=>o ι' H' b (g.trans g')
 | rt d h=>exact λι' H' b g'=>o ι' H' b (g.trans g')
 | ex c h=>exact λι' H' g'=>o ι' H' (g.trans g')
 | no=>exact o
theorem a08{α β:Type}{K:PySem.W.Frag}{E:XD}{Rp:List Addr->Hp->β->α->Prop}{ι:List Addr}{H:Hp}{r:R α}{k:α->Hd->Fl}{N:Ends}{P:β->Hp->Prop}
  (o:aft K E ι H (r.fl k) N) (hP:∀ a h ι1 H1 b,Gr ι H ι1 H1->Rp ι1 H1 b a->HRep K ι1 H1 h->aft K E ι1 H1 (k a h) N->P b H1):out K E Rp ι H r P:=by
 cases r with
 | ok a h=>exact λι' H' b g r' hr=>hP a h ι' H' b g r' hr (ul o g)
 | ex c h=>exact o
 | no=>exact o
def lift{α β:Type}(K:PySem.W.Frag)(E:XD)(Rp:List Addr->Hp->β->α->Prop)(f:Sd->Hd->R α):St->Hp->(β->Hp->Prop)->Prop:=λσ H Q =>
 ∃ ι τ h,SRep K ι H σ τ/\HRep K ι H h/\out K E Rp ι H (f τ h) Q
def a4x(K:PySem.W.Frag)(E:XD)(f:SS):TS:=λN σ H=>∃ ι τ h,SRep K ι H σ τ/\HRep K ι H h/\aft K E ι H (f τ h) N
abbrev ME(X:Cx)(E:XD)(e:Expr)(f:SE):Prop:=PE X e (lift X.K E (yw X.K) f)
abbrev MT(X:Cx)(E:XD)(e:Expr)(f:ST):Prop:=PT X e (lift X.K E aj7 f)
abbrev MW(X:Cx)(E:XD)(e:Expr)(f:ST):Prop:=PW X e (lift X.K E aj7 f)
abbrev MA(X:Cx)(E:XD)(es:List Expr)(f:SA):Prop:=PA X es (lift X.K E (aw7 X.K) f)
abbrev MS(X:Cx)(E:XD)(st:Stmt)(f:SS):Prop:=PS X st (a4x X.K E f)
abbrev MSs(X:Cx)(E:XD)(st:List Stmt)(f:SS):Prop:=PSs X st (a4x X.K E f)
theorem PE.weak{X:Cx}{e:Expr}{t t':TE}(h:PE X e t)(i:∀ σ H Q,t' σ H Q->t σ H Q):PE X e t':=λpins s σ H Q I q=>h pins s σ H Q I (i _ _ _ q)
theorem PT.weak{X:Cx}{e:Expr}{t t':TT}(h:PT X e t)(i:∀ σ H Q,t' σ H Q->t σ H Q):PT X e t':=λpins s σ H Q I q=>h pins s σ H Q I (i _ _ _ q)
theorem PW.weak{X:Cx}{e:Expr}{t t':TT}(h:PW X e t)(i:∀ σ H Q,t' σ H Q->t σ H Q):PW X e t':=λwh pins s σ H Q I q=>h wh pins s σ H Q I (i _ _ _ q)
theorem PA.weak{X:Cx}{e:List Expr}{t t':TA}(h:PA X e t)(i:∀ σ H Q,t' σ H Q->t σ H Q):PA X e t':=λpos pins s σ H Q I q=>h pos pins s σ H Q I (i _ _ _ q)
theorem PS.weak{X:Cx}{e:Stmt}{t t':TS}(h:PS X e t)(i:∀ N σ H,t' N σ H->t N σ H):PS X e t':=λpins s σ H N I q=>h pins s σ H N I (i _ _ _ q)
theorem PSs.weak{X:Cx}{e:List Stmt}{t t':TS}(h:PSs X e t)(i:∀ N σ H,t' N σ H->t N σ H):PSs X e t':=λpins s σ H N I q=>h pins s σ H N I (i _ _ _ q)
abbrev LINE:Nat:=16777216
theorem ll{n:Nat}(h:n<=LINE):n<=sizeLine:=a99 h
def sV(i:Nat):SE:=λτ h=>match τ[i]? with | some (some d)=>.ok d h | _=>.no
def sC(d:D):SE:=λ_ h=>.ok d h
section
variable{X:Cx}{E:XD}{a b c e:Expr}{fa fb fc:SE}{pos:Pos}
theorem bh(i:Nat){x:Str}{pos:Pos}(hN:X.N[i]? = some x:=by rfl)(hv:Vis X.env.scope x:=by first | exact Or.inl rfl | exact Or.inr (Or.inl rfl) | exact Or.inr (Or.inr rfl))(hd:(x == ("__debug__" : Str))=false:=by decide)
  (hcd:(x == ("__classdict__" : Str))=false:=by decide):ME X E (.Name x pos) (sV i):=by
 refine PE.weak (acd hN hv hd hcd) λσ H Q ⟨ι,τ,h,S,Rh,o⟩=>?_;unfold sV at o
 split at o
 ·rename_i d e;obtain ⟨v,h1,h2⟩:=S.val i d e;exact ⟨v,h1,o ι H v (.refl _ _) h2 Rh⟩
 ·exact o.elim
theorem aox{v:V}{d:D}(h:PE X e (tC v))(r:∀ ι H,Rep X.K ι H v d):ME X E e (sC d) :=
 PE.weak h λσ H Q ⟨ι,τ,h,S,Rh,o⟩=>o ι H v (.refl _ _) (r ι H) Rh
theorem bc{i j pos}:ME X E (.Constant (.int i) j pos) (sC (.int i)):=aox ano λ_ _=>.int i
theorem adc{i j pos}:ME X E (.Constant (.bool i) j pos) (sC (.bl i)):=aox asq λ_ _=>.bl i
theorem mj{i j pos}:ME X E (.Constant (.str i) j pos) (sC (.str i)):=aox anq λ_ _=>.str i
theorem a3i{j pos}:ME X E (.Constant .none j pos) (sC .non):=aox anp λ_ _=>.non
theorem a4y{x:Str}{n:String}{pos:Pos}(hg:Gl X x)(hm:X.mg x=none)(hv:bootBuiltins x=some (.type n))(hn:x ≠ "__name__":=by decide)(hd:(x == ("__debug__" : Str))=false:=by decide):ME X E (.Name x pos) (sC (.ty n)) :=
 aox (ace (v:=.ty n) hg hm hv rfl hn hd) λ_ _=>.ty n
def s2(g:D->D->Hd->R D)(fa fb:SE):SE:=λτ h=>(fa τ h).bind λx h1=>(fb τ h1).bind λy h2=>g x y h2
def s1(g:D->Hd->R D)(fa:SE):SE:=λτ h=>(fa τ h).bind g
def a3j(K:PySem.W.Frag)(g:D->D->Hd->R D)(r:R2):Prop:=∀ (E:XD) ι H h x y dx dy Q,Rep K ι H x dx->Rep K ι H y dy->HRep K ι H h->out K E (yw K) ι H (g dx dy h) Q->r x y H Q
def aw9(K:PySem.W.Frag)(g:D->Hd->R D)(r:V->Hp->VK->Prop):Prop:=∀ (E:XD) ι H h x dx Q,Rep K ι H x dx->HRep K ι H h->out K E (yw K) ι H (g dx h) Q->r x H Q
def ac4(K:PySem.W.Frag)(g:List D->Hd->R D)(r:List V->Hp->VK->Prop):Prop:=∀ (E:XD) ι H h xs ds Q,Reps K ι H xs ds->HRep K ι H h->out K E (yw K) ι H (g ds h) Q->r xs H Q
theorem asa{g:D->D->Hd->R D}{r:R2}{K:PySem.W.Frag}(hs:a3j K g r){σ:St}{H:Hp}{Q:VK}(q:lift K E (yw K) (s2 g fa fb) σ H Q):tOp r (lift K E (yw K) fa) (lift K E (yw K) fb) σ H Q:=by
 obtain ⟨ι,τ,h,S,Rh,o⟩:=q;refine ⟨ι,τ,h,S,Rh,fu o λd h1 ι1 H1 v g1 r1 hr1 o1=>?_⟩;refine ⟨ι1,τ,h1,S.mono g1,hr1,fu o1 λd2 h2 ι2 H2 u g2 r2 hr2 o2=>?_⟩;exact hs E ι2 H2 h2 v u d d2 Q (r1.mono g2) r2 hr2 o2
theorem a9b{op:Operator}{r:R2}{g:D->D->Hd->R D}(ho:OpR X (binaryOp op) r)(hs:a3j X.K g r)(ha:ME X E a fa)(hb:ME X E b fb):ME X E (.BinOp a op b pos) (s2 g fa fb) :=
 PE.weak (at9 ho ha hb) λσ H Q q=>asa hs q
theorem a1m{op:CmpOp}{r:R2}{g:D->D->Hd->R D}(ho:OpR X (compareOp op) r)(hs:a3j X.K g r)(ha:ME X E a fa)(hb:ME X E b fb)(hm:behindInMarks op b=false):ME X E (.Compare a [op] [b] pos) (s2 g fa fb) :=
 PE.weak (akg ho ha hb hm) λσ H Q q=>asa hs q
theorem atn{op:UnaryOp}{r:V->Hp->VK->Prop}{g:D->Hd->R D}(ho:UnR X (unaryOp op) r)(hs:aw9 X.K g r)(ha:ME X E a fa):ME X E (.UnaryOp op a pos) (s1 g fa):=by
 refine PE.weak (ata ho ha) λσ H Q ⟨ι,τ,h,S,Rh,o⟩=>?_;exact ⟨ι,τ,h,S,Rh,fu o λd h1 ι1 H1 v g1 r1 hr1 o1=>hs E ι1 H1 h1 v d Q r1 hr1 o1⟩
theorem ato{r:R2}{g:D->D->Hd->R D}(ho:IxR X r)(hs:a3j X.K g r)(ha:ME X E a fa)(hb:ME X E b fb)(hp:a94 b):ME X E (.Subscript a b pos) (s2 g fa fb) :=
 PE.weak (atg ho ha hb hp) λσ H Q q=>asa hs q
def asB(d:D)(h:Hd):R Bool:=match d with | .bl b=>.ok b h | _=>.no
def sT(f:SE):ST:=λτ h=>(f τ h).bind asB
theorem aky{K:PySem.W.Frag}{t:TE}{f:SE}(hi:∀ σ H Q,lift K E (yw K) f σ H Q->t σ H Q){σ:St}{H:Hp}{Q:Bool->Hp->Prop}(q:lift K E aj7 (sT f) σ H Q):aob t σ H Q:=by
 refine hi σ H _ ?_;obtain ⟨ι,τ,h,S,Rh,o⟩:=q;refine ⟨ι,τ,h,S,Rh,fu o λd h1 ι1 H1 v g1 r1 hr1 o1=>?_⟩
 cases r1 with
 | bl b=>exact ⟨b,rfl,o1 ι1 H1 b (.refl _ _) rfl hr1⟩
 | _=>exact o1.elim
theorem j9{op:CmpOp}{r:R2}{g:D->D->Hd->R D}(ho:OpR X (compareOp op) r)(hs:a3j X.K g r)(ha:ME X E a fa)(hb:ME X E b fb)(hm:behindInMarks op b=false):MT X E (.Compare a [op] [b] pos) (sT (s2 g fa fb)) :=
 PT.weak (akh ho ha hb hm) λσ H Q q=>aky (λ_ _ _=>asa hs) q
def sCh(g g':D->D->Hd->R D)(fa fb fc:SE):SE:=λτ h=>(fa τ h).bind λx h1=>(fb τ h1).bind λy h2=>(g x y h2).bind λz h3=>match z with
 | .bl true=>(fc τ h3).bind λw h4=>g' y w h4
 | .bl false=>.ok (.bl false) h3
 | _=>.no
def tru(d:D)(h:Hd):R Bool:=match d with
 | .non=>.ok false h
 | .bl b=>.ok b h
 | .int i=>.ok (i != 0) h
 | .str x=>if x.length<=LINE then .ok ((x.length:Int) != 0) h else .no
 | .tup xs=>.ok (!xs.isEmpty) h
 | .rol xs=>.ok (!xs.isEmpty) h
 | .ref i=>match h[i]? with
  | some (.lst xs)=>.ok (!xs.isEmpty) h
  | some (.dK kvs)=>.ok (!kvs.isEmpty) h
  | _=>.no
 | _=>.no
theorem Reps.emp{K:PySem.W.Frag}{ι:List Addr}{H:Hp}{vs:List V}{ds:List D}(r:Reps K ι H vs ds):vs.isEmpty=ds.isEmpty:=by cases r<;>rfl
theorem KRep.emp{κ:Type}{K:PySem.W.Frag}{ι:List Addr}{H:Hp}{us:List (κ × V)}{kvs:List (κ × D)}(r:KRep K ι H us kvs):us.isEmpty=kvs.isEmpty:=by
 have:=congrArg List.length r.1
 cases us<;>cases kvs<;>simp at this ⊢
theorem akz{K:PySem.W.Frag}{ι:List Addr}{H:Hp}{h:Hd}{x:V}{d:D}{Q:Bool->Hp->Prop}(r:Rep K ι H x d)(hr:HRep K ι H h)(o:out K E aj7 ι H (tru d h) Q):∃ k,atc K x H k/\Q k H:=by
 cases r with
 | non=>exact ⟨false,rfl,o ι H _ (.refl _ _) rfl hr⟩
 | bl b=>exact ⟨b,rfl,o ι H _ (.refl _ _) rfl hr⟩
 | int i=>exact ⟨_,rfl,o ι H _ (.refl _ _) rfl hr⟩
 | str x =>
  by_cases hl:x.length<=LINE
  ·simp only [tru,if_pos hl] at o;exact ⟨_,⟨ll hl,rfl⟩,o ι H _ (.refl _ _) rfl hr⟩
  ·simp only [tru,if_neg hl] at o;exact o.elim
 | ty n=>exact o.elim
 | rod _ _ _=>exact o.elim
 | scr _ _=>exact o.elim
 | rdT _ _ _=>exact o.elim
 | exc _ _ _=>exact o.elim
 | tup e rs=>exact ⟨_, .inr (.inl ⟨_,SqT.of e,rfl⟩),by rw [rs.emp];exact o ι H _ (.refl _ _) rfl hr⟩
 | rol e rs=>exact ⟨_, .inl ⟨_,e.l,rfl⟩,by rw [rs.emp];exact o ι H _ (.refl _ _) rfl hr⟩
 | @ref a i e =>
  obtain ⟨ob,h1,h2⟩:=hr.at e;simp only [tru,h1] at o
  cases ob with
  | lst xs =>
   obtain ⟨vs,h3,h4⟩:=h2;exact ⟨_, .inl ⟨_,SqL.of h3,rfl⟩,by rw [h4.emp];exact o ι H _ (.refl _ _) rfl hr⟩
  | dK kvs =>
   obtain ⟨us,h3,h4⟩:=h2;exact ⟨_, .inr (.inr ⟨_,h3,rfl⟩),by rw [h4.emp];exact o ι H _ (.refl _ _) rfl hr⟩
  | dT kvs=>exact o.elim
def a87(f:SE):ST:=λτ h=>(f τ h).bind tru
theorem a1w(ha:ME X E a fa)(he:∀ whole,isTrue a X.env whole=(do let v <-whole;standAt a.pos;holding [v] (truthy v)):=by intro _;rfl):MT X E a (a87 fa):=by
 refine PT.weak (ag4 ha he) λσ H Q ⟨ι,τ,h,S,Rh,o⟩=>?_;exact ⟨ι,τ,h,S,Rh,fu o λd h1 ι1 H1 v g1 r1 hr1 o1=>akz r1 hr1 o1⟩
def anb(f g:ST):ST:=λτ h=>(f τ h).bind λb h1=>if b=true then g τ h1 else .ok false h1
def sOr(f g:ST):ST:=λτ h=>(f τ h).bind λb h1=>if b=true then .ok true h1 else g τ h1
def a90(f:ST):ST:=λτ h=>(f τ h).bind λb h1=>.ok (!b) h1
variable{ga gb:ST}
theorem al0(ha:MT X E a ga):MW X E (.BoolOp .And [a] pos) ga:=aka ha
theorem aa7(ha:MT X E a ga):MW X E (.BoolOp .Or [a] pos) ga:=anr ha
theorem aoy{rest:List Expr}(ha:MT X E a ga)(hb:MW X E (.BoolOp .And (b::rest) pos) gb):MW X E (.BoolOp .And (a::b::rest) pos) (anb ga gb):=by
 refine PW.weak (ant ha hb) λσ H Q ⟨ι,τ,h,S,Rh,o⟩=>?_;refine ⟨ι,τ,h,S,Rh,fu o λd h1 ι1 H1 v g1 r1 hr1 o1=>?_⟩;cases r1
 cases d with
 | true=>exact ⟨ι1,τ,h1,S.mono g1,hr1,o1⟩
 | false=>exact o1 ι1 H1 false (.refl _ _) rfl hr1
theorem age{rest:List Expr}(ha:MT X E a ga)(hb:MW X E (.BoolOp .Or (b::rest) pos) gb):MW X E (.BoolOp .Or (a::b::rest) pos) (sOr ga gb):=by
 refine PW.weak (asr ha hb) λσ H Q ⟨ι,τ,h,S,Rh,o⟩=>?_;refine ⟨ι,τ,h,S,Rh,fu o λd h1 ι1 H1 v g1 r1 hr1 o1=>?_⟩;cases r1
 cases d with
 | true=>exact o1 ι1 H1 true (.refl _ _) rfl hr1
 | false=>exact ⟨ι1,τ,h1,S.mono g1,hr1,o1⟩
theorem a66(ha:MT X E a ga):MT X E (.UnaryOp .Not a pos) (a90 ga):=by
 refine PT.weak (anu ha) λσ H Q ⟨ι,τ,h,S,Rh,o⟩=>?_;refine ⟨ι,τ,h,S,Rh,fu o λd h1 ι1 H1 v g1 r1 hr1 o1=>?_⟩;cases r1
 exact o1 ι1 H1 _ (.refl _ _) rfl hr1
def a09(f g:SE):SE:=λτ h=>(f τ h).bind λd h1=>match d with | .bl true=>g τ h1 | .bl false=>.ok (.bl false) h1 | _=>.no
def aj8(f g:SE):SE:=λτ h=>(f τ h).bind λd h1=>match d with | .bl true=>.ok (.bl true) h1 | .bl false=>g τ h1 | _=>.no
def a88(f:SE):SE:=λτ h=>(f τ h).bind λd h1=>match d with | .bl b=>.ok (.bl (!b)) h1 | _=>.no
theorem a4z{op}(ha:ME X E a fa):ME X E (.BoolOp op [a] pos) fa:=anv ha
theorem a5a{rest:List Expr}(ha:ME X E a fa)(hb:ME X E (.BoolOp .And (b::rest) pos) fb):ME X E (.BoolOp .And (a::b::rest) pos) (a09 fa fb):=by
 refine PE.weak (anw ha hb) λσ H Q ⟨ι,τ,h,S,Rh,o⟩=>?_;refine ⟨ι,τ,h,S,Rh,fu o λd h1 ι1 H1 v g1 r1 hr1 o1=>?_⟩
 cases r1 with
 | bl k =>
  refine ⟨k,rfl,?_⟩
  cases k with
  | true=>exact ⟨ι1,τ,h1,S.mono g1,hr1,o1⟩
  | false=>exact o1 ι1 H1 _ (.refl _ _) (.bl _) hr1
 | _=>exact o1.elim
theorem atp{rest:List Expr}(ha:ME X E a fa)(hb:ME X E (.BoolOp .Or (b::rest) pos) fb):ME X E (.BoolOp .Or (a::b::rest) pos) (aj8 fa fb):=by
 refine PE.weak (asv ha hb) λσ H Q ⟨ι,τ,h,S,Rh,o⟩=>?_;refine ⟨ι,τ,h,S,Rh,fu o λd h1 ι1 H1 v g1 r1 hr1 o1=>?_⟩
 cases r1 with
 | bl k =>
  refine ⟨k,rfl,?_⟩
  cases k with
  | false=>exact ⟨ι1,τ,h1,S.mono g1,hr1,o1⟩
  | true=>exact o1 ι1 H1 _ (.refl _ _) (.bl _) hr1
 | _=>exact o1.elim
theorem aoz(ha:ME X E a fa):ME X E (.UnaryOp .Not a pos) (a88 fa):=by
 refine PE.weak (anx ha) λσ H Q ⟨ι,τ,h,S,Rh,o⟩=>?_;refine ⟨ι,τ,h,S,Rh,fu o λd h1 ι1 H1 v g1 r1 hr1 o1=>?_⟩
 cases r1 with
 | bl k=>exact ⟨k,rfl,o1 ι1 H1 _ (.refl _ _) (.bl _) hr1⟩
 | _=>exact o1.elim
def ade(c:ST)(f g:SE):SE:=λτ h=>(c τ h).bind λb h1=>if b=true then f τ h1 else g τ h1
theorem aj9(hc:MT X E c ga)(ha:ME X E a fa)(hb:ME X E b fb):ME X E (.IfExp c a b pos) (ade ga fa fb):=by
 refine PE.weak (afz hc ha hb) λσ H Q ⟨ι,τ,h,S,Rh,o⟩=>?_;refine ⟨ι,τ,h,S,Rh,fu o λd h1 ι1 H1 v g1 r1 hr1 o1=>?_⟩;cases r1
 cases d with
 | true=>exact ⟨ι1,τ,h1,S.mono g1,hr1,o1⟩
 | false=>exact ⟨ι1,τ,h1,S.mono g1,hr1,o1⟩
def dj:SA:=λ_ h=>.ok [] h
def aj(f:SE)(g:SA):SA:=λτ h=>(f τ h).bind λd h1=>(g τ h1).bind λds h2=>.ok (d::ds) h2
variable{es:List Expr}{ka:SA}
theorem au:MA X E [] dj:=PA.weak a4p λσ H Q ⟨ι,τ,h,S,Rh,o⟩=>o ι H [] (.refl _ _) .nil Rh
theorem aa(ha:ME X E e fa)(hr:MA X E es ka)(hs:starEach (e::es) X.env=(false,eval e X.env)::starEach es X.env:=by rfl):MA X E (e::es) (aj fa ka):=by
 refine PA.weak (qi ha hr hs) λσ H Q ⟨ι,τ,h,S,Rh,o⟩=>?_;refine ⟨ι,τ,h,S,Rh,fu o λd h1 ι1 H1 v g1 r1 hr1 o1=>?_⟩;refine ⟨ι1,τ,h1,S.mono g1,hr1,fu o1 λd2 h2 ι2 H2 u g2 r2 hr2 o2=>?_⟩;exact o2 ι2 H2 _ (.refl _ _) (.cons (r1.mono g2) r2) hr2
def qp(ds:List D)(h:Hd):R D:=if ds.length<=LINE then .ok (.tup ds) h else .no
def yx(ds:List D)(h:Hd):R D:=if ds.length<=LINE then .ok (.ref h.length) (h++[.lst ds]) else .no
def sA(g:List D->Hd->R D)(k:SA):SE:=λτ h=>(k τ h).bind g
theorem a0w{K:PySem.W.Frag}{ι:List Addr}{H:Hp}{h:Hd}{vs:List V}{ds:List D}{Q:VK}(r:Reps K ι H vs ds)(hr:HRep K ι H h)(o:out K E (yw K) ι H (.ok (.tup ds) h) Q):∀ p,H p=none->Q (.ref p) (upd H p (.tup vs)):=λp hp =>
 o ι _ _ (xu hp _) (.tup qe (r.mono (xu hp _))) (hr.aside hp _)
theorem a0f{K:PySem.W.Frag}{ι:List Addr}{H:Hp}{h:Hd}{vs:List V}{ds:List D}{Q:VK}(r:Reps K ι H vs ds)(hr:HRep K ι H h)(o:out K E (yw K) ι H (.ok (.ref h.length) (h++[.lst ds])) Q):∀ p,H p=none->Q (.ref p) (upd H p (.lst vs)):=λp hp =>
 o (ι++[p]) _ _ (adb hp _) (.ref (by rw [List.getElem?_append_right (by rw [hr.len];exact Nat.le_refl _),hr.len];simp)) (hr.add hp ⟨_,qe,r.mono (adb hp _)⟩)
theorem adf{K:PySem.W.Frag}{ι:List Addr}{H:Hp}{h:Hd}{i:Nat}{a:Addr}{vs:List V}{ds:List D}{d:D}{v:V}{Q:VK}(r:Reps K ι H vs ds)(hr:HRep K ι H h)(hi:ι[i]? = some a)(rd:Rep K ι H v d)(o:out K E (yw K) ι H (.ok d (h.set i (.lst ds))) Q):Q v (upd H a (.lst vs)) :=
 o ι _ _ (a65 hr hi _) (rd.mono (a65 hr hi _)) (hr.put hi ⟨_,qe,r.mono (a65 hr hi _)⟩)
theorem km{x1}(h:MA X E es ka):ME X E (.Tuple es x1 pos) (sA qp ka):=by
 refine PE.weak (aj0 h) λσ H Q ⟨ι,τ,h,S,Rh,o⟩=>?_;refine ⟨ι,τ,h,S,Rh,fu o λd h1 ι1 H1 v g1 r1 hr1 o1=>?_⟩;unfold qp at o1
 split at o1
 ·rename_i hl;exact ⟨ll (by rw [r1.len];exact hl),a0w r1 hr1 o1⟩
 ·exact o1.elim
theorem p6(h:MA X E es ka):ME X E (.List es pos) (sA yx ka):=by
 refine PE.weak (aoe h) λσ H Q ⟨ι,τ,h,S,Rh,o⟩=>?_;refine ⟨ι,τ,h,S,Rh,fu o λd h1 ι1 H1 v g1 r1 hr1 o1=>?_⟩;unfold yx at o1
 split at o1
 ·rename_i hl;exact ⟨ll (by rw [r1.len];exact hl),a0f r1 hr1 o1⟩
 ·exact o1.elim
theorem ph{x:Str}{p:Pos}{id:String}{r:List V->Hp->VK->Prop}{g:List D->Hd->R D}(hc:CallR X (.builtin id) r)(hs:ac4 X.K g r)(hg:Gl X x)(hm:X.mg x=none)(hv:bootBuiltins x=some (.builtin id))(ha:MA X E (e::es) ka)(hn:x ≠ "__name__":=by decide)(hdb:(x == ("__debug__" : Str))=false:=by decide)
  (he:starEach (e::es) X.env=(false,eval e X.env)::starEach es X.env:=by rfl) (hpl:(backTo pos (starEach es X.env)).any (·.1)=false:=by rfl):ME X E (.Call (.Name x p) (e::es) [] pos) (sA g ka):=by
 refine PE.weak (a6m hc hg hm hv ha hn hdb he hpl) λσ H Q ⟨ι,τ,h,S,Rh,o⟩=>?_;exact ⟨ι,τ,h,S,Rh,fu o λd h1 ι1 H1 v g1 r1 hr1 o1=>hs E ι1 H1 h1 v d Q r1 hr1 o1⟩
theorem yz{x:Str}{p:Pos}{id:String}{r:List V->Hp->VK->Prop}{g:List D->Hd->R D}(hc:CallR X (.type id) r)(hs:ac4 X.K g r)(hg:Gl X x)(hm:X.mg x=none)(hv:bootBuiltins x=some (.type id))(ha:MA X E (e::es) ka)(hn:x ≠ "__name__":=by decide)(hdb:(x == ("__debug__" : Str))=false:=by decide)
  (he:starEach (e::es) X.env=(false,eval e X.env)::starEach es X.env:=by rfl) (hpl:(backTo pos (starEach es X.env)).any (·.1)=false:=by rfl):ME X E (.Call (.Name x p) (e::es) [] pos) (sA g ka):=by
 refine PE.weak (acu hc hg hm hv ha hn hdb he hpl) λσ H Q ⟨ι,τ,h,S,Rh,o⟩=>?_;exact ⟨ι,τ,h,S,Rh,fu o λd h1 ι1 H1 v g1 r1 hr1 o1=>hs E ι1 H1 h1 v d Q r1 hr1 o1⟩
end
def j5(f g:SS):SS:=λτ h=>match f τ h with | .nx τ1 h1=>g τ1 h1 | r=>r
def sNx:SS:=λτ h=>.nx τ h
def vf(f:SE):SS:=λτ h=>(f τ h).fl λd h1=>.rt d h1
def um(f:SE):SS:=λτ h=>(f τ h).fl λ_ h1=>.nx τ h1
def sIf(c:ST)(f g:SS):SS:=λτ h=>(c τ h).fl λb h1=>if b=true then f τ h1 else g τ h1
def lq(i:Nat)(f:SE):SS:=λτ h=>(f τ h).fl λd h1=>.nx (τ.set i (some d)) h1
def asb(i:Nat)(g:D->D->Hd->R D)(f:SE):SS:=λτ h=>match τ[i]? with
 | some (some x)=>(f τ h).fl λy h1=>(g x y h1).fl λz h2=>.nx (τ.set i (some z)) h2
 | _=>.no
section
variable{X:Cx}{E:XD}{e o:Expr}{es:List Expr}{fa fb fc:SE}{ga:ST}{st:Stmt}{sts a b:List Stmt}{f g:SS}{pos:Pos}
theorem jm:MSs X E [] sNx:=PSs.weak akb λN σ H ⟨ι,τ,h,S,Rh,o⟩=>o ι H σ (.refl _ _) S Rh
theorem ap0{K:PySem.W.Frag}{N:Ends}{σ:St}{H:Hp}(q:a4x K E (j5 f g) N σ H):a4x K E f { N with nx:=a4x K E g N } σ H:=by
 obtain ⟨ι,τ,h,S,Rh,o⟩:=q;refine ⟨ι,τ,h,S,Rh,?_⟩;unfold j5 at o
 cases hf:f τ h with
 | nx τ1 h1 =>
  rw [hf] at o;exact λι1 H1 σ1 g1 S1 R1=>⟨ι1,τ1,h1,S1,R1,ul o g1⟩
 | _=>rw [hf] at o;exact o
theorem ao(h1:MS X E st f)(h2:MSs X E sts g):MSs X E (st::sts) (j5 f g):=PSs.weak (ag0 h1 h2) λN σ H q=>ap0 q
theorem dm(h1:MS X E st f):MSs X E [st] f:=akc h1
theorem kj(he:ME X E e fa):MS X E (.Return (some e) pos) (vf fa):=by
 refine PS.weak (anz he) λN σ H ⟨ι,τ,h,S,Rh,o⟩=>?_;exact ⟨ι,τ,h,S,Rh,a08 o λd h1 ι1 H1 v g1 r1 hr1 o1=>o1 ι1 H1 v (.refl _ _) r1 hr1⟩
theorem uv(he:ME X E e fa)(hs:swapsWith e none pos.line X.env=pure false:=by rfl):MS X E (.Expr e pos) (um fa):=by
 refine PS.weak (akd he hs) λN σ H ⟨ι,τ,h,S,Rh,o⟩=>?_;exact ⟨ι,τ,h,S,Rh,a08 o λd h1 ι1 H1 v g1 r1 hr1 o1=>o1 ι1 H1 σ (.refl _ _) (S.mono g1) hr1⟩
theorem qj{c:Expr}(hc:MT X E c ga)(ha:MSs X E a f)(hb:MSs X E b g):MS X E (.If c a b pos) (sIf ga f g):=by
 refine PS.weak (asy hc ha hb) λN σ H ⟨ι,τ,h,S,Rh,o⟩=>?_;refine ⟨ι,τ,h,S,Rh,a08 o λd h1 ι1 H1 v g1 r1 hr1 o1=>?_⟩;cases r1
 cases d with
 | true=>exact ⟨ι1,τ,h1,S.mono g1,hr1,o1⟩
 | false=>exact ⟨ι1,τ,h1,S.mono g1,hr1,o1⟩
theorem dz{i:Nat}{x:Str}{pos':Pos}(hN:X.N.Nodup)(hi:X.N[i]? = some x)(hx:Loc X.env.scope x)(he:ME X E e fa)(hs:swapsWith e (some (.Name x pos')) pos.line X.env=pure false:=by rfl)(hf:X.fn x=true\/X.env.scope.names.lookup x=some .local:=by first | exact .inl rfl | exact .inr rfl | assumption) :
  MS X E (.Assign [.Name x pos'] e pos) (lq i fa):=by
 refine PS.weak (ao1 hN hi hx he hs hf) λN σ H ⟨ι,τ,h,S,Rh,o⟩=>?_;exact ⟨ι,τ,h,S,Rh,a08 o λd h1 ι1 H1 v g1 r1 hr1 o1=>o1 ι1 H1 _ (.refl _ _) ((S.mono g1).set r1 i) hr1⟩
def put(o k v:D)(h:Hd):Option Hd:=match o,k with
 | .ref i, .int j=>match h[i]? with
  | some (.lst xs)=>match ixN xs.length j with
   | some m=>some (h.set i (.lst (xs.set m v)))
   | none=>none
  | _=>none
 | _,_=>none
theorem al1{K:PySem.W.Frag}{ι:List Addr}{H:Hp}{h h':Hd}{o k v:V}{od kd vd:D}{Q:Hp->Prop}(r1:Rep K ι H o od)(r2:Rep K ι H k kd)(r3:Rep K ι H v vd)(hr:HRep K ι H h)(e:put od kd vd h=some h')
  (q:∀ H',Gr ι H ι H'->HRep K ι H' h'->Q H'):aom o k v H Q:=by
 cases r1 with
 | @ref a i ha =>
  cases r2 with
  | int j =>
   obtain ⟨ob,h1,h2⟩:=hr.at ha
   cases ob with
   | lst xs =>
    obtain ⟨vs,h3,h4⟩:=h2;simp only [put,h1] at e
    cases hm:ixN xs.length j with
    | none=>rw [hm] at e;cases e
    | some m =>
     rw [hm] at e;cases e
     exact ⟨a,vs,j,m,rfl,rfl,h3,by rw [h4.len];exact hm,q _ (a65 hr ha _) (hr.put ha ⟨_,qe,(h4.set r3 m).mono (a65 hr ha _)⟩)⟩
   | dK _=>simp only [put,h1] at e;cases e
   | dT _=>simp only [put,h1] at e;cases e
  | _=>cases e
 | _=>cases e
def ac6(fe fo fi:SE):SS:=λτ h=>(fe τ h).fl λv h1=>(fo τ h1).fl λo h2=>(fi τ h2).fl λk h3=>match put o k v h3 with | some h4=>.nx τ h4 | none=>.no
theorem aa8{i:Expr}{pos':Pos}(he:ME X E e fa)(ho:ME X E o fb)(hi:ME X E i fc)
  (hs:swapsWithSole [.Subscript o i pos'] e pos.line X.env=pure false:=by rfl) (hw:swappedStores [.Subscript o i pos'] e X.env=pure none:=by rfl)
  (h1:(assignEach [.Subscript o i pos'] X.env).map (·.2)=[assign (.Subscript o i pos') X.env]:=by rfl)
  (ha:∀ v,assign (.Subscript o i pos') X.env v=(do
   let ov <-holding [v] (eval o X.env)
   let iv <-holding [v,ov] (eval i X.env)
   standAt pos'
   holding [v,ov,iv] (setItem ov iv v)
   release [v,ov,iv] []):=by intro _;rfl):MS X E (.Assign [.Subscript o i pos'] e pos) (ac6 fa fb fc):=by
 refine PS.weak (aiy he (ao0 ho hi set_list ha) hs hw h1) λN σ H ⟨ι,τ,h,S,Rh,oo⟩=>?_;refine ⟨ι,τ,h,S,Rh,a08 oo λd h1 ι1 H1 v g1 r1 hr1 o1=>?_⟩;refine ⟨ι1,τ,h1,S.mono g1,hr1,a08 o1 λd2 h2 ι2 H2 u g2 r2 hr2 o2=>?_⟩;refine ⟨ι2,τ,h2,(S.mono g1).mono g2,hr2,a08 o2 λd3 h3 ι3 H3 w g3 r3 hr3 o3=>?_⟩
 cases hp:put d2 d3 d h3 with
 | none=>rw [hp] at o3;exact o3.elim
 | some h4 =>
  rw [hp] at o3;exact al1 (r2.mono g3) r3 ((r1.mono g2).mono g3) hr3 hp λH' g4 hr4=>o3 ι3 H' σ g4 ((((S.mono g1).mono g2).mono g3).mono g4) hr4
def sWh(c:ST)(f:SS):Nat->SS
 | 0,_,_=>.no
 | n+1,τ,h=>(c τ h).fl λb h1=>if b=true then (match f τ h1 with | .nx τ2 h2=>sWh c f n τ2 h2 | .ct τ2 h2=>sWh c f n τ2 h2 | .bk τ2 h2=>.nx τ2 h2 | r=>r) else .nx τ h1
theorem a6u(n:Nat){c:Expr}(hp:PassesOwn (model X.prog X.w) X.A X.env X.xe)(hc:MT X E c ga)(hb:MSs X E a f):MS X E (.While c a [] pos) (sWh ga f n):=by
 refine PS.weak (ag1 hp hc hb) λN σ H q=>?_;refine ⟨λm σ H=>a4x X.K E (sWh ga f m) N σ H,⟨n,q⟩,?_⟩
 rintro m σ1 H1 ⟨ι,τ,h,S,Rh,o⟩
 cases m with
 | zero=>exact o.elim
 | succ m =>
  refine ⟨ι,τ,h,S,Rh,a08 o λd h1 ι1 H1 v g1 r1 hr1 o1=>?_⟩;cases r1
  cases d with
  | false=>exact o1 ι1 H1 _ (.refl _ _) (S.mono g1) hr1
  | true =>
   refine ⟨λσ' H'=>a4x X.K E (sWh ga f m) N σ' H',λσ' H' q=>⟨m,Nat.lt_succ_self m,q⟩,ι1,τ,h1,S.mono g1,hr1,?_⟩;rw [if_pos rfl] at o1
   cases hf:f τ h1 with
   | nx τ2 h2=>rw [hf] at o1;exact λι2 H2 σ2 g2 S2 R2=>⟨ι2,τ2,h2,S2,R2,ul o1 g2⟩
   | ct τ2 h2=>rw [hf] at o1;exact λι2 H2 σ2 g2 S2 R2=>⟨ι2,τ2,h2,S2,R2,ul o1 g2⟩
   | bk τ2 h2=>rw [hf] at o1;exact o1
   | rt d h2=>rw [hf] at o1;exact o1
   | ex c h2=>rw [hf] at o1;exact o1
   | no=>rw [hf] at o1;exact o1.elim
end
abbrev SG:=D->Sd->Hd->Fl
def al2(K:PySem.W.Frag)(E:XD)(g:SG):TG:=λv σ H Q=>∃ ι τ h d,Rep K ι H v d/\SRep K ι H σ τ/\HRep K ι H h/\aft K E ι H (g d τ h) { nx:=Q,rt:=λ_ _=>False }
abbrev MG(X:Cx)(E:XD)(tg:Expr)(g:SG):Prop:=PG X tg (al2 X.K E g)
abbrev SGs:=List D->Sd->Hd->Fl
def adg(K:PySem.W.Frag)(E:XD)(g:SGs):TGs:=λvs σ H Q=>∃ ι τ h ds,Reps K ι H vs ds/\SRep K ι H σ τ/\HRep K ι H h/\aft K E ι H (g ds τ h) { nx:=Q,rt:=λ_ _=>False }
abbrev MGs(X:Cx)(E:XD)(tg:List Expr)(g:SGs):Prop:=PGs X tg (adg X.K E g)
theorem PG.weak{X:Cx}{e:Expr}{t t':TG}(h:PG X e t)(i:∀ v σ H Q,t' v σ H Q->t v σ H Q):PG X e t':=λpins s σ H v u Q I r q=>h pins s σ H v u Q I r (i _ _ _ _ q)
theorem PGs.weak{X:Cx}{e:List Expr}{t t':TGs}(h:PGs X e t)(i:∀ v σ H Q,t' v σ H Q->t v σ H Q):PGs X e t':=λpins s σ H v u Q I r q=>h pins s σ H v u Q I r (i _ _ _ _ q)
def kN(i:Nat):SG:=λd τ h=>.nx (τ.set i (some d)) h
def a1t:SGs:=λds τ h=>match ds with | []=>.nx τ h | _=>.no
def jj(g:SG)(k:SGs):SGs:=λds τ h=>match ds with | d::r=>(match g d τ h with | .nx τ1 h1=>k r τ1 h1 | _=>.no) | []=>.no
def a1n(n:Nat)(k:SGs):SG:=λd τ h=>match d with | .tup ds=>if ds.length=n then k ds τ h else .no | _=>.no
section
variable{X:Cx}{E:XD}{e:Expr}{es:List Expr}{fa:SE}{pos:Pos}{g:SG}{ks:SGs}
theorem jg{i:Nat}{x:Str}(hN:X.N.Nodup)(hi:X.N[i]? = some x)(hx:Loc X.env.scope x)(hf:X.fn x=true\/X.env.scope.names.lookup x=some .local:=by first | exact .inl rfl | exact .inr rfl | assumption):MG X E (.Name x pos) (kN i) :=
 PG.weak (vh hN hi hx hf) λv σ H Q ⟨ι,τ,h,d,r,S,Rh,o⟩=>o ι H _ (.refl _ _) (S.set r i) Rh
theorem a03:MGs X E [] a1t:=by
 refine PGs.weak acg λvs σ H Q ⟨ι,τ,h,ds,r,S,Rh,o⟩=>?_
 cases r with
 | nil=>exact ⟨rfl,o ι H σ (.refl _ _) S Rh⟩
 | cons _ _=>exact o.elim
theorem agf{K:PySem.W.Frag}{vs:List V}{σ:St}{H:Hp}{Q:St->Hp->Prop}(q:adg K E (jj g ks) vs σ H Q):acf (al2 K E g) (adg K E ks) vs σ H Q:=by
 obtain ⟨ι,τ,h,ds,r,S,Rh,o⟩:=q
 cases r with
 | nil=>exact o.elim
 | @cons v d vs ds r rs =>
  refine ⟨v,vs,rfl,ι,τ,h,d,r,S,Rh,?_⟩;simp only [jj] at o
  cases hg:g d τ h with
  | nx τ1 h1 =>
   rw [hg] at o;exact λι1 H1 σ1 g1 S1 R1=>⟨ι1,τ1,h1,ds,rs.mono g1,S1,R1,ul o g1⟩
  | _=>rw [hg] at o;exact o.elim
theorem a1h{k n:Nat}(hc:X.calm=true)(h:MGs X E es ks)(hn:(assignEach es X.env).length=n:=by rfl)(hst:(assignEach es X.env).findIdx? (·.1)=none:=by rfl):MG X E (.Tuple es k pos) (a1n n ks):=by
 refine PG.weak (aix hc h hn hst) λv σ H Q ⟨ι,τ,h,d,r,S,Rh,o⟩=>?_
 cases r with
 | @tup a vs xs e rs =>
  simp only [a1n] at o
  by_cases hl:xs.length=n
  ·rw [if_pos hl] at o;exact ⟨a,vs,rfl,SqT.of e,by rw [rs.len];exact hl,ι,τ,h,xs,rs,S,Rh,o⟩
  ·rw [if_neg hl] at o;exact o.elim
 | _=>exact o.elim
def a5p(f:SE)(g:SG):SS:=λτ h=>(f τ h).fl λd h1=>match g d τ h1 with | .nx τ2 h2=>.nx τ2 h2 | _=>.no
theorem a67{tg:Expr}(he:ME X E e fa)(hg:MG X E tg g)(hs:swapsWithSole [tg] e pos.line X.env=pure false:=by rfl)(hw:swappedStores [tg] e X.env=pure none:=by rfl)
  (h1:(assignEach [tg] X.env).map (·.2)=[assign tg X.env]:=by rfl):MS X E (.Assign [tg] e pos) (a5p fa g):=by
 refine PS.weak (aiy he hg hs hw h1) λN σ H ⟨ι,τ,h,S,Rh,o⟩=>?_;refine ⟨ι,τ,h,S,Rh,a08 o λd h1 ι1 H1 v g1 r1 hr1 o1=>⟨ι1,τ,h1,d,r1,S.mono g1,hr1,?_⟩⟩
 cases hg:g d τ h1 with
 | nx τ1 h1=>rw [hg] at o1;exact o1
 | _=>rw [hg] at o1;exact o1.elim
end
structure Itm where
 xs:List D
 ck:Hd->Prop
def anc(K:PySem.W.Frag)(ι0:List Addr)(H0:Hp)(J:It)(it:Itm):Prop:=∀ ι H h,Gr ι0 H0 ι H->HRep K ι H h->it.ck h->
 (∀ (i:Nat) (d:D),it.xs[i]? = some d->J.go i H/\∀ x H',J.yld i H x H'->Gr ι H ι H'/\Rep K ι H' x d/\HRep K ι H' h)/\J.stop it.xs.length H
abbrev atq(K:PySem.W.Frag):List Addr->Hp->It->Itm->Prop:=λι H J it=>anc K ι H J it
abbrev SI:=Sd->Hd->R Itm
abbrev MI(X:Cx)(E:XD)(tg iter:Expr)(f:SI):Prop:=PI X tg iter (lift X.K E (atq X.K) f)
def a0a(x:Str):List D:=x.cps.toList.map λc=>D.str ⟨#[c]⟩
def adh(d:D)(h:Hd):R Itm:=match d with
 | .tup xs=>.ok ⟨xs,λ_=>True⟩ h
 | .rol xs=>.ok ⟨xs,λ_=>True⟩ h
 | .str x=>.ok ⟨a0a x,λ_=>True⟩ h
 | .ref i=>match h[i]? with
  | some (.lst xs)=>.ok ⟨xs,λh=>h[i]? = some (.lst xs)⟩ h
  | _=>.no
 | _=>.no
def sIt(f:SE):SI:=λτ h=>(f τ h).bind adh
theorem aja{K:PySem.W.Frag}{ι0:List Addr}{H0:Hp}{a:Addr}{xs:List D}{ck:Hd->Prop}(hl:∀ ι H h,Gr ι0 H0 ι H->HRep K ι H h->ck h->∃ vs,SqL K H a vs/\Reps K ι H vs xs):anc K ι0 H0 (Itl K a) ⟨xs,ck⟩:=by
 intro ι H h g hr c
 obtain ⟨vs,h1,h2⟩:=hl ι H h g hr c;refine ⟨λi d e=>?_,⟨vs,h1,by rw [h2.len];exact Nat.le_refl _⟩⟩
 obtain ⟨v,e1,r⟩:=h2.get e;refine ⟨⟨vs,v,h1,e1⟩,λx H' y=>?_⟩;obtain ⟨rfl,y⟩:=y;have:=y vs h1;rw [e1] at this;cases this
 exact ⟨.refl _ _,r,hr⟩
theorem a1i{X:Cx}{E:XD}{tg l:Expr}{f:SE}(hl:ME X E l f):MI X E tg l (sIt f):=by
 intro pins s σ H Rr I ⟨ι,τ,h,S,Rh,o⟩
 unfold sIt at o
 cases hf:f τ h with
 | no=>rw [hf] at o;exact o.elim
 | ex c h1 =>
  rw [hf] at o;exact aj4 hl pins s σ H Rr I ⟨ι,τ,h,S,Rh,by rw [hf];exact o⟩
 | ok d h1 =>
  rw [hf] at o
  cases d with
  | tup xs =>
   refine ao3 hl pins s σ H Rr I ⟨ι,τ,h,S,Rh,?_⟩;rw [hf]
   intro ι1 H1 v g1 r1 hr1
   cases r1 with
   | @tup a vs _ e rs =>
    refine ⟨a,rfl,⟨vs,SqT.of e⟩,o ι1 H1 _ g1 ?_ hr1⟩
    intro ι2 H2 h2 g2 hr2 _
    have e2:=g2.tup _ _ e;have rs2:=rs.mono g2;refine ⟨λi d ed=>?_,⟨vs,SqT.of e2,by rw [rs2.len];exact Nat.le_refl _⟩⟩
    obtain ⟨v,e1,r⟩:=rs2.get ed;refine ⟨⟨vs,v,SqT.of e2,e1⟩,λx H' y=>?_⟩;obtain ⟨rfl,y⟩:=y;have:=y vs (SqT.of e2);rw [e1] at this;cases this
    exact ⟨.refl _ _,r,hr2⟩
  | rol xs =>
   refine aci hl pins s σ H Rr I ⟨ι,τ,h,S,Rh,?_⟩;rw [hf]
   intro ι1 H1 v g1 r1 hr1
   cases r1 with
   | @rol a vs _ e rs =>
    refine ⟨a,rfl,⟨vs,e.l⟩,o ι1 H1 _ g1 ?_ hr1⟩;exact aja (λι2 H2 h2 g2 hr2 _=>⟨vs,(e.mono g2).l,rs.mono g2⟩)
  | str x =>
   refine aj4 hl pins s σ H Rr I ⟨ι,τ,h,S,Rh,?_⟩;rw [hf]
   intro ι1 H1 v g1 r1 hr1
   cases r1
   refine ⟨x,rfl,o ι1 H1 _ g1 ?_ hr1⟩
   intro ι2 H2 h2 g2 hr2 _
   refine ⟨λi d ed=>?_,by show (a0a x).length=_;simp [a0a]⟩
   simp only [a0a,List.getElem?_map,Option.map_eq_some_iff] at ed;obtain ⟨c,ec,rfl⟩:=ed;refine ⟨by show i<x.cps.size;have:=(List.getElem?_eq_some_iff.mp ec).1;simpa using this,λy H' q=>?_⟩
   obtain ⟨rfl,c',ec',rfl⟩:=q;rw [ec] at ec';cases ec'
   exact ⟨.refl _ _, .str _,hr2⟩
  | ref i =>
   simp only [R.bind,adh] at o
   cases ho:h1[i]? with
   | none=>rw [ho] at o;exact o.elim
   | some ob =>
    rw [ho] at o
    cases ob with
    | dK _=>exact o.elim
    | dT _=>exact o.elim
    | lst xs =>
     refine aci hl pins s σ H Rr I ⟨ι,τ,h,S,Rh,?_⟩;rw [hf]
     intro ι1 H1 v g1 r1 hr1
     cases r1 with
     | @ref a _ e =>
      obtain ⟨vs,e1,rs⟩:=hr1.obj i a _ e ho;refine ⟨a,rfl,⟨vs,SqL.of e1⟩,o ι1 H1 _ g1 ?_ hr1⟩;refine aja (λι2 H2 h2 g2 hr2 c=>?_);obtain ⟨us,e3,rs3⟩:=hr2.obj i a _ (g2.at e) c;exact ⟨us,SqL.of e3,rs3⟩
  | _=>exact o.elim
def rng(lo:Int)(n:Nat):List D:=(List.range n).map λi=>D.int (lo+(i:Nat))
def B62(j:Int):Prop := -(2 ^ 62)<=j/\j<2 ^ 62
instance (j:Int):Decidable (B62 j):=by unfold B62;exact inferInstance
def a0g(ds:List D)(h:Hd):R Itm:=match ds with
 | [.int j]=>if B62 j then .ok ⟨rng 0 j.toNat,λ_=>True⟩ h else .no
 | _=>.no
def a89(ds:List D)(h:Hd):R Itm:=match ds with
 | [.int i, .int j]=>if B62 i/\B62 j then .ok ⟨rng i (j - i).toNat,λ_=>True⟩ h else .no
 | _=>.no
def sRg(g:List D->Hd->R Itm)(k:SA):SI:=λτ h=>(k τ h).bind g
theorem ajb{K:PySem.W.Frag}{ι0:List Addr}{H0:Hp}(lo:Int)(n:Nat):anc K ι0 H0 (Itr lo n) ⟨rng lo n,λ_=>True⟩:=by
 intro ι H h g hr _
 refine ⟨λi d ed=>?_,by show n<=(rng lo n).length;simp [rng]⟩
 simp only [rng,List.getElem?_map,Option.map_eq_some_iff] at ed;obtain ⟨j,ej,rfl⟩:=ed;obtain ⟨hj,e⟩:=List.getElem?_eq_some_iff.mp ej;simp at e hj;subst e;refine ⟨hj,λy H' q=>?_⟩;obtain ⟨rfl,rfl⟩:=q;exact ⟨.refl _ _, .int _,hr⟩
theorem a04{X:Cx}{E:XD}{tg a:Expr}{k:SA}{p pos:Pos}(hg:Gl X "range")(hm:X.mg "range" = none)(ha:MA X E [a] k)(hs:starEach [a] X.env=[(false,eval a X.env)]:=by rfl):MI X E tg (.Call (.Name "range" p) [a] [] pos) (sRg a0g k):=by
 intro pins s σ H Rr I ⟨ι,τ,h,S,Rh,o⟩
 refine acj hg hm ha hs pins s σ H Rr I ⟨ι,τ,h,S,Rh,fu o λds h1 ι1 H1 vs g1 r1 hr1 o1=>?_⟩;unfold a0g at o1
 split at o1
 ·rename_i j
  cases r1 with
  | cons r rs =>
   cases r;cases rs
   by_cases hb:B62 j
   ·rw [if_pos hb] at o1;exact ⟨j,rfl,hb.1,hb.2,o1 ι1 H1 _ (.refl _ _) (ajb 0 j.toNat) hr1⟩
   ·rw [if_neg hb] at o1;exact o1.elim
 ·exact o1.elim
theorem al3{X:Cx}{E:XD}{tg a b:Expr}{k:SA}{p pos:Pos}(hg:Gl X "range")(hm:X.mg "range" = none)(ha:MA X E [a,b] k)(hs:starEach [a,b] X.env=[(false,eval a X.env),(false,eval b X.env)]:=by rfl)(hs2:starEach [b] X.env=[(false,eval b X.env)]:=by rfl):MI X E tg (.Call (.Name "range" p) [a,b] [] pos) (sRg a89 k):=by
 intro pins s σ H Rr I ⟨ι,τ,h,S,Rh,o⟩
 refine ack hg hm ha hs hs2 pins s σ H Rr I ⟨ι,τ,h,S,Rh,fu o λds h1 ι1 H1 vs g1 r1 hr1 o1=>?_⟩;unfold a89 at o1
 split at o1
 ·rename_i i j
  cases r1 with
  | cons r rs =>
   cases r
   cases rs with
   | cons r rs =>
   cases r;cases rs
   by_cases hb:B62 i/\B62 j
   ·rw [if_pos hb] at o1;exact ⟨i,j,rfl,⟨hb.1.1,hb.1.2,hb.2.1,hb.2.2⟩,o1 ι1 H1 _ (.refl _ _) (ajb i _) hr1⟩
   ·rw [if_neg hb] at o1;exact o1.elim
 ·exact o1.elim
open Classical in
noncomputable def forL(ck:Hd->Prop)(g:SG)(b:SS):List D->Sd->Hd->Fl
 | [],τ,h=>if ck h then .nx τ h else .no
 | x::xs,τ,h=>if ck h then (match g x τ h with
   | .nx τ1 h1=>(match b τ1 h1 with
    | .nx τ2 h2=>forL ck g b xs τ2 h2
    | .ct τ2 h2=>forL ck g b xs τ2 h2
    | .bk τ2 h2=>.nx τ2 h2
    | r=>r)
   | _=>.no) else .no
noncomputable def a3x(f:SI)(g:SG)(b:SS):SS:=λτ h=>(f τ h).fl λit h1=>forL it.ck g b it.xs τ h1
theorem al4{K:PySem.W.Frag}{E:XD}{ι0:List Addr}{H0:Hp}{J:It}{it:Itm}{g:SG}{b:SS}{N:Ends}{σ0:St}{τ0:Sd}{h0:Hd}(ir:anc K ι0 H0 J it)(S:SRep K ι0 H0 σ0 τ0)(Rh:HRep K ι0 H0 h0)(o:aft K E ι0 H0 (forL it.ck g b it.xs τ0 h0) N) :
  ∃ W:Nat->Nat->St->Hp->Prop,(∃ m,W 0 m σ0 H0)/\∀ i m σ H,W i m σ H->
   (J.stop i H/\N.nx σ H)\/(J.go i H/\∃ M:St->Hp->Prop,(∀ σ' H',M σ' H'->∃ m',m'<m/\W (i+1) m' σ' H')/\∀ x H',J.yld i H x H'->al2 K E g x σ H' λσ2 H2=>a4x K E b { N with nx:=M,ct:=M,bk:=N.nx } σ2 H2):=by
 refine ⟨λi m σ H=>m=it.xs.length - i/\i<=it.xs.length/\∃ ι τ h,Gr ι0 H0 ι H/\SRep K ι H σ τ/\HRep K ι H h/\aft K E ι H (forL it.ck g b (it.xs.drop i) τ h) N,⟨_,rfl,Nat.zero_le _,ι0,τ0,h0, .refl _ _,S,Rh,o⟩,?_⟩
 rintro i m σ H ⟨rfl,hi,ι,τ,h,g0,S,Rh,o⟩
 by_cases hlt:i<it.xs.length
 ·rw [List.drop_eq_getElem_cons hlt,forL] at o
  by_cases hc:it.ck h
  ·rw [if_pos hc] at o;obtain ⟨go,yl⟩:=(ir ι H h g0 Rh hc).1 i _ (List.getElem?_eq_getElem hlt);refine .inr ⟨go,λσ' H'=>it.xs.length - (i+1)<it.xs.length - i/\∃ ι τ h,Gr ι0 H0 ι H'/\SRep K ι H' σ' τ/\HRep K ι H' h/\aft K E ι H' (forL it.ck g b (it.xs.drop (i+1)) τ h) N,λσ' H' q=>⟨_,q.1,rfl,hlt,q.2⟩,λx H' y=>?_⟩;obtain ⟨g1,r1,hr1⟩:=yl x H' y;refine ⟨ι,τ,h,_,r1,S.mono g1,hr1,?_⟩;have o':=ul o g1
   cases hg:g it.xs[i] τ h with
   | nx τ1 h1 =>
    rw [hg] at o';dsimp only at o'
    intro ι2 H2 σ2 g2 S2 R2
    refine ⟨ι2,τ1,h1,S2,R2,?_⟩;have o2:=ul o' g2;have gg:=(g0.trans g1).trans g2
    cases hb:b τ1 h1 with
    | nx τ2 h2=>rw [hb] at o2;exact λι3 H3 σ3 g3 S3 R3=>⟨by omega,ι3,τ2,h2,gg.trans g3,S3,R3,ul o2 g3⟩
    | ct τ2 h2=>rw [hb] at o2;exact λι3 H3 σ3 g3 S3 R3=>⟨by omega,ι3,τ2,h2,gg.trans g3,S3,R3,ul o2 g3⟩
    | bk τ2 h2=>rw [hb] at o2;exact o2
    | rt d h2=>rw [hb] at o2;exact o2
    | ex c h2=>rw [hb] at o2;exact o2
    | no=>rw [hb] at o2;exact o2.elim
   | _=>rw [hg] at o';exact o'.elim
  ·rw [if_neg hc] at o;exact o.elim
 ·have e:i=it.xs.length:=by omega
  subst e;rw [List.drop_eq_nil_of_le (Nat.le_refl _),forL] at o
  by_cases hc:it.ck h
  ·rw [if_pos hc] at o;exact .inl ⟨(ir ι H h g0 Rh hc).2,o ι H σ (.refl _ _) S Rh⟩
  ·rw [if_neg hc] at o;exact o.elim
theorem zm{X:Cx}{E:XD}{tg iter:Expr}{body:List Stmt}{f:SI}{g:SG}{b:SS}{pos:Pos}(hp:PassesOwn (model X.prog X.w) X.A X.env X.xe)(hc:X.calm=true)(hi:MI X E tg iter f)(hg:MG X E tg g)(hb:MSs X E body b)(hs:∀ x,foldedSetIterable iter X.env x=pure x:=by intro _;rfl):MS X E (.For tg iter body [] pos) (a3x f g b):=by
 refine PS.weak (ao4 hp hc hi hg hb hs) λN σ H ⟨ι,τ,h,S,Rh,o⟩=>?_;exact ⟨ι,τ,h,S,Rh,a08 o λit h1 ι1 H1 J g1 r1 hr1 o1=>al4 r1 (S.mono g1) hr1 o1⟩
end MI
namespace MI
open PySem PySem.Spec L2
theorem R.bind_assoc{α β γ:Type}(r:R α)(f:α->Hd->R β)(g:β->Hd->R γ):(r.bind f).bind g=r.bind λa h=>(f a h).bind g:=by cases r<;>rfl
open Classical in
noncomputable def mapR(ck:Hd->Prop)(f:D->Hd->R D):List D->Hd->R (List D)
 | [],h=>if ck h then .ok [] h else .no
 | x::xs,h=>if ck h then (f x h).bind λy h1=>(mapR ck f xs h1).bind λys h2=>.ok (y::ys) h2 else .no
open Classical in
noncomputable def afu(ck:Hd->Prop)(f:D->Hd->R (Option D)):List D->Hd->R (List D)
 | [],h=>if ck h then .ok [] h else .no
 | x::xs,h=>if ck h then (f x h).bind λy h1=>(afu ck f xs h1).bind λys h2=>.ok (y.toList++ys) h2 else .no
def frs'(ix:List Nat)(τ:Sd):Sd:=ix.map λi=>(τ[i]?).join
def t1(d:D):Option Sd:=some [some d]
def tN(n:Nat)(d:D):Option Sd:=match d with | .tup ds=>if ds.length=n then some (ds.map some) else none | _=>none
def a5q(t:D->Option Sd)(fe:SE)(rest:Sd)(x:D)(h:Hd):R D:=match t x with | some ts=>fe (ts++rest) h | none=>.no
def a9c(t:D->Option Sd)(c:ST)(fe:SE)(rest:Sd)(x:D)(h:Hd):R (Option D):=match t x with
 | some ts=>(c (ts++rest) h).bind λb h1=>if b=true then (fe (ts++rest) h1).bind λy h2=>.ok (some y) h2 else .ok none h1
 | none=>.no
def aa9(yd zs:List D)(h:Hd):R D:=.ok (.ref h.length) (h++[.lst (yd++zs)])
theorem ap1(r:R D)(m:Hd->R (List D))(yd:List D):(r.bind λy h1=>(m h1).bind λys h2=>.ok (y::ys) h2).bind (aa9 yd)=r.bind λy h1=>(m h1).bind (aa9 (yd++[y])):=by
 cases r with
 | ok y h1 =>
  show ((m h1).bind _).bind _=(m h1).bind _
  cases m h1 with
  | ok ys h2=>simp [R.bind,aa9]
  | _=>rfl
 | _=>rfl
theorem atr(r:R (Option D))(m:Hd->R (List D))(yd:List D):(r.bind λy h1=>(m h1).bind λys h2=>.ok (y.toList++ys) h2).bind (aa9 yd)=r.bind λy h1=>(m h1).bind (aa9 (yd++y.toList)):=by
 cases r with
 | ok y h1 =>
  show ((m h1).bind _).bind _=(m h1).bind _
  cases m h1 with
  | ok ys h2=>simp [R.bind,aa9]
  | _=>rfl
 | _=>rfl
noncomputable def uz(fi:SI)(t:D->Option Sd)(fe:SE)(ix:List Nat):SE:=λτ h=>(fi τ h).bind λit h1=>if it.xs.length<=LINE then (mapR it.ck (a5q t fe (frs' ix τ)) it.xs h1).bind (aa9 []) else .no
noncomputable def a1x(fi:SI)(t:D->Option Sd)(c:ST)(fe:SE)(ix:List Nat):SE:=λτ h=>(fi τ h).bind λit h1=>if it.xs.length<=LINE then (afu it.ck (a9c t c fe (frs' ix τ)) it.xs h1).bind (aa9 []) else .no
def afv(K:PySem.W.Frag)(n:Nat)(g:TG)(t:D->Option Sd):Prop:=∀ ι H v d ts (r:St) (Q:St->Hp->Prop),Rep K ι H v d->t d=some ts->(∀ us:St,us.length=n->SRep K ι H us ts->Q (us++r) H)->g v (List.replicate n none++r) H Q
theorem a6v{K:PySem.W.Frag}{ι:List Addr}{H:Hp}:SRep K ι H [] []:=⟨rfl,λi d e=>by simp at e⟩
theorem a0x{K:PySem.W.Frag}{ι:List Addr}{H:Hp}{v:V}{d:D}{σ:St}{τ:Sd}(r:Rep K ι H v d)(s:SRep K ι H σ τ):SRep K ι H (some v::σ) (some d::τ):=by
 refine ⟨by simp [s.len],λi d' e=>?_⟩
 cases i with
 | zero=>simp at e;subst e;exact ⟨v,rfl,r⟩
 | succ i=>simpa using s.val i d' (by simpa using e)
theorem a3y{K:PySem.W.Frag}{ι:List Addr}{H:Hp}{σ σ':St}{τ τ':Sd}(s:SRep K ι H σ τ)(s':SRep K ι H σ' τ'):SRep K ι H (σ++σ') (τ++τ'):=by
 refine ⟨by simp [s.len,s'.len],λi d e=>?_⟩
 by_cases hi:i<τ.length
 ·rw [List.getElem?_append_left hi] at e;rw [List.getElem?_append_left (by rw [s.len];exact hi)]
  exact s.val i d e
 ·rw [List.getElem?_append_right (by omega)] at e
  rw [List.getElem?_append_right (by rw [s.len];omega),s.len]
  exact s'.val _ d e
theorem a3z{K:PySem.W.Frag}{ι:List Addr}{H:Hp}{σ:St}{τ:Sd}(s:SRep K ι H σ τ)(ix:List Nat):SRep K ι H (ix.map λi=>(σ[i]?).join) (frs' ix τ):=by
 refine ⟨by simp [frs'],λj d e=>?_⟩
 simp only [frs',List.getElem?_map,Option.map_eq_some_iff] at e;obtain ⟨i,hi,e⟩:=e;have:τ[i]? = some (some d):=by
  cases q:τ[i]? with
  | none=>rw [q] at e;cases e
  | some o=>rw [q] at e;simp at e;rw [e]
 obtain ⟨v,h1,h2⟩:=s.val i d this;exact ⟨v,by simp [hi,h1],h2⟩
theorem a1y{K:PySem.W.Frag}:afv K 1 (a6k 0) t1:=λι H v d ts r Q hr e q=>by
 cases e
 exact q [some v] rfl (a0x hr a6v)
theorem agg{K:PySem.W.Frag}:afv K 3 (L2.qp K 3 (acf (a6k 0) (acf (a6k 1) (acf (a6k 2) aul)))) (tN 3):=λι H v d ts r Q hr e q=>by
 unfold tN at e
 cases hr with
 | @tup a vs xs h rs =>
  simp only at e
  split at e
  ·rename_i hl;cases e
   match xs,hl,rs with
   | [_,_,_],_, .cons r1 (.cons r2 (.cons r3 .nil))=>exact ⟨a,_,rfl,SqT.of h,rfl,_,_,rfl,_,_,rfl,_,_,rfl,rfl,q [some _,some _,some _] rfl (a0x r1 (a0x r2 (a0x r3 a6v)))⟩
  ·cases e
 | _=>cases e
theorem adi{n:Nat}{us r:St}(h:us.length=n):L2.Ext (List.replicate n none++r) (us++r):=by
 refine ⟨by simp [h],λi v e=>?_⟩
 by_cases hi:i<n
 ·rw [List.getElem?_append_left (by simpa using hi),List.getElem?_replicate,if_pos hi] at e
  cases e
 ·rw [List.getElem?_append_right (by simpa using hi),List.length_replicate] at e
  rw [List.getElem?_append_right (by omega),h]
  exact e
theorem aaa{K:PySem.W.Frag}{E:XD}{ι0:List Addr}{H0:Hp}{J:It}{it:Itm}{g:TG}{t:D->Option Sd}{fe:SE}{n:Nat}{r:St}{rd:Sd}{h0:Hd}{Q:VK}(ir:anc K ι0 H0 J it)(tg:afv K n g t)(S:SRep K ι0 H0 r rd)(Rh:HRep K ι0 H0 h0)(hl:it.xs.length<=LINE)
  (o:out K E (yw K) ι0 H0 ((mapR it.ck (a5q t fe rd) it.xs h0).bind (aa9 [])) Q):aou J (List.replicate n none++r) g (lift K E (yw K) fe) Q H0:=by
 refine ⟨λi m ys H=>m=it.xs.length - i/\i<=it.xs.length/\ys.length<=i/\∃ ι h yd,Gr ι0 H0 ι H/\HRep K ι H h/\Reps K ι H ys yd/\out K E (yw K) ι H ((mapR it.ck (a5q t fe rd) (it.xs.drop i) h).bind (aa9 yd)) Q,
  ⟨_,rfl,Nat.zero_le _,Nat.zero_le _,ι0,h0,[], .refl _ _,Rh, .nil,o⟩,?_⟩
 rintro i m ys H ⟨rfl,hi,hy,ι,h,yd,g0,Rh,ry,o⟩
 by_cases hlt:i<it.xs.length
 ·rw [List.drop_eq_getElem_cons hlt,mapR] at o
  by_cases hc:it.ck h
  ·rw [if_pos hc,ap1] at o;obtain ⟨go,yl⟩:=(ir ι H h g0 Rh hc).1 i _ (List.getElem?_eq_getElem hlt);refine .inr ⟨go,Nat.lt_of_le_of_lt hy (Nat.lt_of_lt_of_le hlt (ll hl)),λx H' y=>?_⟩;obtain ⟨g1,r1,hr1⟩:=yl x H' y;have o':=a6t o g1
   cases ht:t it.xs[i] with
   | none=>simp only [a5q,ht] at o';exact o'.elim
   | some ts =>
    simp only [a5q,ht] at o';refine tg ι H' x _ ts r _ r1 ht λus hus su=>⟨adi hus,ι,ts++rd,h,a3y su (S.mono (g0.trans g1)),hr1,fu o' λd2 h2 ι2 H2 u g2 r2 hr2 o2=>?_⟩;refine ⟨it.xs.length - (i+1),by omega,rfl,hlt,by simp;omega,ι2,h2,yd++[d2],(g0.trans g1).trans g2,hr2,((ry.mono g1).mono g2).snoc r2,o2⟩
  ·rw [if_neg hc] at o;exact o.elim
 ·have e:i=it.xs.length:=by omega
  subst e;rw [List.drop_eq_nil_of_le (Nat.le_refl _),mapR] at o
  by_cases hc:it.ck h
  ·rw [if_pos hc] at o;refine .inl ⟨(ir ι H h g0 Rh hc).2,a0f (E:=E) ry Rh ?_⟩;simpa [R.bind,aa9] using o
  ·rw [if_neg hc] at o;exact o.elim
theorem a8a{K:PySem.W.Frag}{E:XD}{ι0:List Addr}{H0:Hp}{J:It}{it:Itm}{g:TG}{t:D->Option Sd}{c:ST}{fe:SE}{n:Nat}{r:St}{rd:Sd}{h0:Hd}{Q:VK}(ir:anc K ι0 H0 J it)(tg:afv K n g t)(S:SRep K ι0 H0 r rd)(Rh:HRep K ι0 H0 h0)(hl:it.xs.length<=LINE)
  (o:out K E (yw K) ι0 H0 ((afu it.ck (a9c t c fe rd) it.xs h0).bind (aa9 [])) Q):ad9 J (List.replicate n none++r) g (lift K E aj7 c) (lift K E (yw K) fe) Q H0:=by
 refine ⟨λi m ys H=>m=it.xs.length - i/\i<=it.xs.length/\ys.length<=i/\∃ ι h yd,Gr ι0 H0 ι H/\HRep K ι H h/\Reps K ι H ys yd/\out K E (yw K) ι H ((afu it.ck (a9c t c fe rd) (it.xs.drop i) h).bind (aa9 yd)) Q,
  ⟨_,rfl,Nat.zero_le _,Nat.zero_le _,ι0,h0,[], .refl _ _,Rh, .nil,o⟩,?_⟩
 rintro i m ys H ⟨rfl,hi,hy,ι,h,yd,g0,Rh,ry,o⟩
 by_cases hlt:i<it.xs.length
 ·rw [List.drop_eq_getElem_cons hlt,afu] at o
  by_cases hc:it.ck h
  ·rw [if_pos hc,atr] at o;obtain ⟨go,yl⟩:=(ir ι H h g0 Rh hc).1 i _ (List.getElem?_eq_getElem hlt);refine .inr ⟨go,Nat.lt_of_le_of_lt hy (Nat.lt_of_lt_of_le hlt (ll hl)),λx H' y=>?_⟩;obtain ⟨g1,r1,hr1⟩:=yl x H' y;have o':=a6t o g1
   cases ht:t it.xs[i] with
   | none=>simp only [a9c,ht] at o';exact o'.elim
   | some ts =>
    simp only [a9c,ht] at o';rw [R.bind_assoc] at o';refine tg ι H' x _ ts r _ r1 ht λus hus su=>⟨adi hus,ι,ts++rd,h,a3y su (S.mono (g0.trans g1)),hr1,fu o' λb h1 ι1 H1 b' g2 rb hrb ob=>?_⟩;have su1:SRep K ι1 H1 (us++r) (ts++rd):=(a3y su (S.mono (g0.trans g1))).mono g2;cases rb
    cases b with
    | true =>
     rw [if_pos rfl] at ob ⊢;rw [R.bind_assoc] at ob;refine ⟨ι1,ts++rd,h1,su1,hrb,fu ob λd2 h2 ι2 H2 u g3 r2 hr2 o2=>?_⟩;refine ⟨it.xs.length - (i+1),by omega,rfl,hlt,by simp;omega,ι2,h2,yd++[d2],((g0.trans g1).trans g2).trans g3,hr2,(((ry.mono g1).mono g2).mono g3).snoc r2,?_⟩
     simpa [R.bind] using o2
    | false =>
     rw [if_neg Bool.false_ne_true] at ob ⊢;refine ⟨it.xs.length - (i+1),by omega,rfl,hlt,by omega,ι1,h1,yd,(g0.trans g1).trans g2,hrb,(ry.mono g1).mono g2,?_⟩
     simpa [R.bind] using ob
  ·rw [if_neg hc] at o;exact o.elim
 ·have e:i=it.xs.length:=by omega
  subst e;rw [List.drop_eq_nil_of_le (Nat.le_refl _),afu] at o
  by_cases hc:it.ck h
  ·rw [if_pos hc] at o;refine .inl ⟨(ir ι H h g0 Rh hc).2,a0f (E:=E) ry Rh ?_⟩;simpa [R.bind,aa9] using o
  ·rw [if_neg hc] at o;exact o.elim
section
variable{X:Cx}{E:XD}{elt tg iter cnd:Expr}{scope:Scope}{pos:Pos}{cl:List (Str × Addr)}{ts fr:List Str}{ix:List Nat}{fi:SI}{g:TG}{t:D->Option Sd}{fe:SE}{fc:ST}
theorem a1o(hc:X.calm=true)(S:CSc X scope cl ts fr ix)(hi:MI X E tg iter fi)(hg:∀ C fp s H,PG (cxC X (ts++fr) scope cl C fp s H) tg g)(ht:afv X.K ts.length g t)(he:∀ C fp s H,ME (cxC X (ts++fr) scope cl C fp s H) E elt fe)
  (hs:∀ x,foldedSetIterable iter X.env x=pure x:=by intro _;rfl):ME X E (.ListComp elt [⟨tg,iter,[],0⟩] scope pos) (uz fi t fe ix):=by
 refine PE.weak (agb (te:=lift X.K E (yw X.K) fe) hc S hi hg he hs) λσ H Q ⟨ι,τ,h,Sr,Rh,o⟩=>?_;refine ⟨ι,τ,h,Sr,Rh,fu o λit h1 ι1 H1 J g1 r1 hr1 o1=>?_⟩
 by_cases hl:it.xs.length<=LINE
 ·rw [if_pos hl] at o1;exact aaa r1 ht (a3z (Sr.mono g1) ix) hr1 hl o1
 ·rw [if_neg hl] at o1;exact o1.elim
theorem agh(hc:X.calm=true)(S:CSc X scope cl ts fr ix)(hi:MI X E tg iter fi)(hg:∀ C fp s H,PG (cxC X (ts++fr) scope cl C fp s H) tg g)(ht:afv X.K ts.length g t)(he:∀ C fp s H,ME (cxC X (ts++fr) scope cl C fp s H) E elt fe)
  (hq:∀ C fp s H,MT (cxC X (ts++fr) scope cl C fp s H) E cnd fc)
  (hs:∀ x,foldedSetIterable iter X.env x=pure x:=by intro _;rfl):ME X E (.ListComp elt [⟨tg,iter,[cnd],0⟩] scope pos) (a1x fi t fc fe ix):=by
 refine PE.weak (abi (te:=lift X.K E (yw X.K) fe) (tc:=lift X.K E aj7 fc) hc S hi hg he hq hs) λσ H Q ⟨ι,τ,h,Sr,Rh,o⟩=>?_;refine ⟨ι,τ,h,Sr,Rh,fu o λit h1 ι1 H1 J g1 r1 hr1 o1=>?_⟩
 by_cases hl:it.xs.length<=LINE
 ·rw [if_pos hl] at o1;exact a8a r1 ht (a3z (Sr.mono g1) ix) hr1 hl o1
 ·rw [if_neg hl] at o1;exact o1.elim
end
mutual
def clo(n:Nat):D->Prop
 | .tup xs=>clos n xs
 | .rol xs=>clos n xs
 | .rod _ xs=>clos n xs
 | .scr xs=>clos n xs
 | .rdT _ xs=>clos n xs
 | .ref i=>i<n
 | _=>True
def clos(n:Nat):List D->Prop
 | []=>True
 | x::xs=>clo n x/\clos n xs
end
mutual
theorem Rep.clo{K:PySem.W.Frag}{ι:List Addr}{H:Hp}:∀ {v:V} {d:D},Rep K ι H v d->clo ι.length d
 | _,_, .non=>by simp [MI.clo]
 | _,_, .bl b=>by simp [MI.clo]
 | _,_, .int i=>by simp [MI.clo]
 | _,_, .str x=>by simp [MI.clo]
 | _,_, .ty n=>by simp [MI.clo]
 | _,_, .tup h r=>by simp only [MI.clo];exact Reps.clo r
 | _,_, .rol h r=>by simp only [MI.clo];exact Reps.clo r
 | _,_, .ref h=>by simp only [MI.clo];exact (List.getElem?_eq_some_iff.mp h).1
 | _,_, .rod h e r=>by simp only [MI.clo];exact Reps.clo r
 | _,_, .scr h r=>by simp only [MI.clo];exact Reps.clo r
 | _,_, .rdT h e r=>by simp only [MI.clo];exact Reps.clo r
 | _,_, .exc h hc hn=>by simp [MI.clo]
theorem Reps.clo{K:PySem.W.Frag}{ι:List Addr}{H:Hp}:∀ {vs:List V} {ds:List D},Reps K ι H vs ds->clos ι.length ds
 | _,_, .nil=>by simp [MI.clos]
 | _,_, .cons r rs=>by simp only [MI.clos];exact ⟨Rep.clo r,Reps.clo rs⟩
end
mutual
theorem Rep.cut{K:PySem.W.Frag}{ι:List Addr}{H:Hp}{n:Nat}:∀ {v:V} {d:D},Rep K ι H v d->clo n d->Rep K (ι.take n) H v d
 | _,_, .non,_=>.non
 | _,_, .bl b,_=>.bl b
 | _,_, .int i,_=>.int i
 | _,_, .str x,_=>.str x
 | _,_, .ty n,_=>.ty n
 | _,_, .tup h r,c=>.tup h (Reps.cut r (by simpa only [MI.clo] using c))
 | _,_, .rol h r,c=>.rol h (Reps.cut r (by simpa only [MI.clo] using c))
 | _,_, .ref h,c=>.ref (by simp only [MI.clo] at c;rw [List.getElem?_take,if_pos c];exact h)
 | _,_, .rod h e r,c=>.rod h e (Reps.cut r (by simpa only [MI.clo] using c))
 | _,_, .scr h r,c=>.scr h (Reps.cut r (by simpa only [MI.clo] using c))
 | _,_, .rdT h e r,c=>.rdT h e (Reps.cut r (by simpa only [MI.clo] using c))
 | _,_, .exc h hc hn,_=>.exc h hc hn
theorem Reps.cut{K:PySem.W.Frag}{ι:List Addr}{H:Hp}{n:Nat}:∀ {vs:List V} {ds:List D},Reps K ι H vs ds->clos n ds->Reps K (ι.take n) H vs ds
 | _,_, .nil,_=>.nil
 | _,_, .cons r rs,c=>by simp only [MI.clos] at c;exact .cons (Rep.cut r c.1) (Reps.cut rs c.2)
end
def zj(n:Nat):O->Prop
 | .lst xs=>clos n xs
 | .dK kvs=>clos n (kvs.map (·.2))
 | .dT kvs=>clos n (kvs.map (·.2))
def ap2(n:Nat)(h:Hd):Prop:=∀ o∈h,zj n o
theorem ORep.clo{K:PySem.W.Frag}{ι:List Addr}{H:Hp}{a:Addr}{o:O}(r:ORep K ι H a o):zj ι.length o:=by
 cases o with
 | lst xs=>obtain ⟨vs,_,r⟩:=r;exact r.clo
 | dK kvs=>obtain ⟨us,_,_,r⟩:=r;exact r.clo
 | dT kvs=>obtain ⟨us,_,_,r⟩:=r;exact r.clo
theorem ORep.cut{K:PySem.W.Frag}{ι:List Addr}{H:Hp}{a:Addr}{o:O}{n:Nat}(r:ORep K ι H a o)(c:zj n o):ORep K (ι.take n) H a o:=by
 cases o with
 | lst xs=>obtain ⟨vs,h,r⟩:=r;exact ⟨vs,h,r.cut c⟩
 | dK kvs=>obtain ⟨us,h,e,r⟩:=r;exact ⟨us,h,e,r.cut c⟩
 | dT kvs=>obtain ⟨us,h,e,r⟩:=r;exact ⟨us,h,e,r.cut c⟩
theorem HRep.clo{K:PySem.W.Frag}{ι:List Addr}{H:Hp}{h:Hd}(r:HRep K ι H h):ap2 h.length h:=λo ho=>by
 obtain ⟨i,hi⟩:=List.getElem?_of_mem ho;obtain ⟨a,_,q⟩:=r.addr hi;rw [<-r.len];exact q.clo
theorem HRep.cut{K:PySem.W.Frag}{ι:List Addr}{H:Hp}{h g:Hd}(r:HRep K ι H (h++g))(c:ap2 h.length h):HRep K (ι.take h.length) H h:=by
 refine ⟨r.nd.sublist (List.take_sublist _ _),?_,λi a o e1 e2=>?_⟩
 ·have:=r.len
  rw [List.length_append] at this;rw [List.length_take];omega
 ·have hi:i<h.length:=(List.getElem?_eq_some_iff.mp e2).1;rw [List.getElem?_take,if_pos hi] at e1;exact (r.obj i a o e1 (by rw [List.getElem?_append_left hi];exact e2)).cut (c o (List.mem_of_getElem? e2))
def X0:XD:=λ_ _ _ _=>False
abbrev SF:=List D->Hd->R D
def uo(K:PySem.W.Frag)(n:Nat)(F:SF):Sp:=λvs H Q _=>vs.length=n/\∃ ι ds h,Reps K ι H vs ds/\HRep K ι H h/\out K X0 (yw K) ι H (F ds h) Q
def a0y(n:Nat)(ds:List D):Sd:=ds.map some++List.replicate (n - ds.length) none
def o9(b:SS)(n:Nat)(ds:List D)(h:Hd):R D:=match b (a0y n ds) h with
 | .rt d h1=>.ok d h1
 | .nx _ h1=>.ok .non h1
 | .ex c h1=>.ex c h1
 | _=>.no
def Rf(n:Nat)(r' r:R D):Prop:=match r with
 | .no=>True
 | .ok d h1=>∃ g,r' = .ok d (h1++g)/\(g=[]\/(n<=h1.length/\clo h1.length d/\ap2 h1.length h1))
 | .ex c h1=>∃ g,r' = .ex c (h1++g)/\(g=[]\/(n<=h1.length/\ap2 h1.length h1))
theorem Rf.same{n:Nat}{r' r:R D}(h:r'=r):Rf n r' r:=by
 subst h
 cases r' with
 | ok d h1=>exact ⟨[],by simp, .inl rfl⟩
 | ex c h1=>exact ⟨[],by simp, .inl rfl⟩
 | no=>exact True.intro
theorem a68{K:PySem.W.Frag}{ι:List Addr}{H:Hp}{vs:List V}{ds:List D}{N:List Str}(r:Reps K ι H vs ds):SRep K ι H (start N vs) (a0y N.length ds):=by
 refine a3y ?_ ?_
 ·clear N
  induction r using Reps.rec (motive_1:=λ_ _ _=>True) with
  | nil=>exact a6v
  | cons r rs _ ih=>exact a0x r ih
  | _=>trivial
 ·rw [r.len];exact ⟨by simp,λi d e=>by rw [List.getElem?_replicate] at e;split at e<;>cases e⟩
theorem ajc{ι ι':List Addr}{H H':Hp}{n:Nat}(g:Gr ι H ι' H')(hn:ι.length<=n):Gr ι H (ι'.take n) H':=by
 obtain ⟨m,rfl,hm⟩:=g.pre;exact ⟨⟨m.take (n - ι.length),by rw [List.take_append,List.take_of_length_le hn],λa ha=>hm a (List.mem_of_mem_take ha)⟩,g.tup,g.frz,g.oth,g.kp⟩
section
variable{P:Program}{w:World}{K:PySem.W.Frag}{mg:Str->Option Value}{base:Heap}
theorem ap3{x qual:Str}{st:Stmt}{f:Addr}{fd:FuncData}{N ps:List Str}{k:Nat}{b:SS}{F:SF}(Fu:Fun K x qual st f fd)(S:FnScope N ps (az st))
  (hb:∀ (cdv:Value) (A:Around) (outer:List Env) (s:Shared) (H:Hp) (E:XK),Room k (A.deeper (PyProof.Rows.envOfC qual (az st) s.heap.objs.size f cdv))->MSs (a1g CX0 P w K mg base N qual (az st) f cdv A outer s H E).nox X0 (jc st) b)
  (hF:∀ ds h,ds.length=ps.length->clos h.length ds->ap2 h.length h->Rf h.length (o9 b N.length ds h) (F ds h)):FnOk P w K mg base CX0 (k+1) f fd ps (uo K ps.length F):=by
 refine Fu.ok S (λvs H Q E h=>h.1) λcdv A outer s H vs Q E hr h=>⟨_,hb cdv A outer s H E hr,?_⟩;obtain ⟨hl,ι,ds,h,r,hr',o⟩:=h;refine ⟨ι,a0y N.length ds,h,a68 r,hr',?_⟩;have q:=hF ds h (by rw [<-r.len];exact hl) (by rw [<-hr'.len];exact r.clo) hr'.clo
 unfold o9 at q
 cases hFd:F ds h with
 | no=>rw [hFd] at o;exact o.elim
 | ex c h1 =>
  rw [hFd] at q o;obtain ⟨g,e,cl⟩:=q;have fin:∀ ι' H',Gr ι H ι' H'->HRep K ι' H' (h1++g)->X0 c ι' H' (h1++g):=λι' H' g1 hr1=>by
   rcases cl with rfl | ⟨hn,c2⟩
   ·rw [List.append_nil] at hr1;exact o ι' H' g1 hr1
   ·exact o (ι'.take h1.length) H' (ajc g1 (by rw [hr'.len];exact hn)) (hr1.cut c2)
  cases hbd:b (a0y N.length ds) h with
  | ex c' h' =>
   rw [hbd] at e
   injection e with e1 e2
   subst e1 e2;exact fin
  | _=>rw [hbd] at e;cases e
 | ok d h1 =>
  rw [hFd] at q o;obtain ⟨g,e,cl⟩:=q;have fin:∀ ι' H' v,Gr ι H ι' H'->Rep K ι' H' v d->HRep K ι' H' (h1++g)->Q v H':=λι' H' v g1 r1 hr1=>by
   rcases cl with rfl | ⟨hn,c1,c2⟩
   ·rw [List.append_nil] at hr1;exact o ι' H' v g1 r1 hr1
   ·exact o (ι'.take h1.length) H' v (ajc g1 (by rw [hr'.len];exact hn)) (r1.cut c1) (hr1.cut c2)
  cases hbd:b (a0y N.length ds) h with
  | rt d' h' =>
   rw [hbd] at e
   injection e with e1 e2
   subst e1 e2;exact fin
  | nx τ' h' =>
   rw [hbd] at e
   injection e with e1 e2
   subst e1 e2;exact λι' H' σ' g1 S1 hr1=>fin ι' H' .non g1 .non hr1
  | _=>rw [hbd] at e;cases e
def sN(n:Nat)(F:SF):SF:=λds h=>if ds.length=n then F ds h else .no
theorem ap4{n:Nat}{F:SF}{ι:List Addr}{H:Hp}{vs:List V}{ds:List D}{h:Hd}{Q:VK}(r:Reps K ι H vs ds)(hr:HRep K ι H h)(o:out K X0 (yw K) ι H (sN n F ds h) Q)(E:XK):uo K n F vs H Q E:=by
 unfold sN at o
 split at o
 ·rename_i hl;exact ⟨by rw [r.len];exact hl,ι,ds,h,r,hr,o⟩
 ·exact o.elim
end
theorem al5{X:Cx}{k n:Nat}{f:Addr}{fd:FuncData}{ps:List Str}{x:Str}{F:SF}{ka:SA}{e:Expr}{es:List Expr}{p pos:Pos}(G:Dn X.prog X.w X.K X.mg X.base k x ps (uo X.K n F) f fd)(hr:Room k X.A)(hg:Gl X x)(ha:MA X X0 (e::es) ka)
  (hdb:(x == ("__debug__" : Str))=false:=by decide) (he:starEach (e::es) X.env=(false,eval e X.env)::starEach es X.env:=by rfl) (hpl:(backTo pos (starEach es X.env)).any (·.1)=false:=by rfl):ME X X0 (.Call (.Name x p) (e::es) [] pos) (sA (sN n F) ka):=by
 refine PE.weak (a2o G.ok hr hg G.m G.kp G.b .nil ag9 ha hdb he hpl) λσ H Q ⟨ι,τ,h,S,Rh,o⟩=>?_;refine ⟨ι,τ,h,S,Rh,fu o λds h1 ι1 H1 vs g1 r1 hr1 o1=>?_⟩;rw [List.append_nil];exact ap4 r1 hr1 o1 _
section
variable{K:PySem.W.Frag}{E:XD}{ι:List Addr}{H:Hp}{h:Hd}{Q:VK}
theorem ans{d:D}{v:V}(o:out K E (yw K) ι H (.ok d h) Q)(r:Rep K ι H v d)(hr:HRep K ι H h):Q v H:=o ι H v (.refl _ _) r hr
theorem HRep.lst(hr:HRep K ι H h){i:Nat}{a:Addr}{xs:List D}(e:ι[i]? = some a)(hi:h[i]? = some (.lst xs)):∃ vs,H a=some (.lst vs)/\Reps K ι H vs xs:=hr.obj i a _ e hi
end
def ac3:D->D->Hd->R D
 | .int i, .int j,h=>.ok (.int (i - j)) h
 | _,_,_=>.no
open Classical in
noncomputable def ap5:D->D->Hd->R D
 | .int i, .int j,h=>if CMul i j then .ok (.int (i*j)) h else .no
 | .ref i, .int k,h=>match h[i]? with
  | some (.lst xs)=>if (-(2 ^ 63)<=k/\k<2 ^ 63)/\xs.length*k.toNat<=LINE then .ok (.ref h.length) (h++[.lst (List.replicate k.toNat xs).flatten]) else .no
  | _=>.no
 | _,_,_=>.no
def a6w:D->D->Hd->R D
 | .int i, .int j,h=>if 0<j then .ok (.int (i % j)) h else .no
 | _,_,_=>.no
def adk:D->D->Hd->R D
 | .int i, .int j,h=>if 0<j/\j<1073741824 then .ok (.int (i / j)) h else .no
 | _,_,_=>.no
def adl:D->D->Hd->R D
 | .int i, .int j,h=>if 0<=j/\j<=1000000/\i.natAbs<2 ^ 64 then .ok (.int (i ^ j.toNat)) h else .no
 | _,_,_=>.no
section
variable{X:Cx}{K:PySem.W.Frag}
theorem al6:a3j K ac3 (rI0 λi j=>.int (i - j)):=by
 intro E ι H h x y dx dy Q rx ry hr o
 cases rx with
 | int i =>
  cases ry with
  | int j=>exact ⟨i,j,rfl,rfl,ans o (.int _) hr⟩
  | _=>exact o.elim
 | _=>exact o.elim
theorem al7:a3j K a6w (rI (λ_ j=>0<j) λi j=>.int (i % j)):=by
 intro E ι H h x y dx dy Q rx ry hr o
 cases rx with
 | int i =>
  cases ry with
  | int j =>
   by_cases hc:0<j
   ·simp only [a6w,if_pos hc] at o;exact ⟨i,j,rfl,rfl,hc,ans o (.int _) hr⟩
   ·simp only [a6w,if_neg hc] at o;exact o.elim
  | _=>exact o.elim
 | _=>exact o.elim
theorem al8:a3j K adk (rI aun λi j=>.int (i / j)):=by
 intro E ι H h x y dx dy Q rx ry hr o
 cases rx with
 | int i =>
  cases ry with
  | int j =>
   by_cases hc:0<j/\j<1073741824
   ·simp only [adk,if_pos hc] at o;exact ⟨i,j,rfl,rfl,hc,ans o (.int _) hr⟩
   ·simp only [adk,if_neg hc] at o;exact o.elim
  | _=>exact o.elim
 | _=>exact o.elim
theorem al9:a3j K adl (rI auo λi j=>.int (i ^ j.toNat)):=by
 intro E ι H h x y dx dy Q rx ry hr o
 cases rx with
 | int i =>
  cases ry with
  | int j =>
   by_cases hc:0<=j/\j<=1000000/\i.natAbs<2 ^ 64
   ·simp only [adl,if_pos hc] at o;exact ⟨i,j,rfl,rfl,hc,ans o (.int _) hr⟩
   ·simp only [adl,if_neg hc] at o;exact o.elim
  | _=>exact o.elim
 | _=>exact o.elim
theorem adm:a3j K ap5 (λx y H Q=>rI CMul (λi j=>.int (i*j)) x y H Q\/as9 x y H Q):=by
 intro E ι H h x y dx dy Q rx ry hr o
 cases rx with
 | int i =>
  cases ry with
  | int j =>
   by_cases hc:CMul i j
   ·simp only [ap5,if_pos hc] at o;exact .inl ⟨i,j,rfl,rfl,hc,ans o (.int _) hr⟩
   ·simp only [ap5,if_neg hc] at o;exact o.elim
  | _=>exact o.elim
 | @ref a i ha =>
  cases ry with
  | int k =>
   simp only [ap5] at o
   split at o
   ·rename_i xs hx;obtain ⟨vs,h3,h4⟩:=hr.lst ha hx
    split at o
    ·rename_i hc;exact .inr ⟨a,k,vs,rfl,rfl,h3,hc.1.1,hc.1.2,ll (by rw [h4.len];exact hc.2),a0f (h4.flat _) hr o⟩
    ·exact o.elim
   ·exact o.elim
  | _=>exact o.elim
 | _=>exact o.elim
variable{E:XD}{a b e:Expr}{es:List Expr}{fa fb:SE}{ka:SA}{pos:Pos}
theorem ajd(ha:ME X E a fa)(hb:ME X E b fb):ME X E (.BinOp a .Sub b pos) (s2 ac3 fa fb):=a9b ao6 al6 ha hb
theorem a3k(ha:ME X E a fa)(hb:ME X E b fb):ME X E (.BinOp a .Mod b pos) (s2 a6w fa fb):=a9b ao7 al7 ha hb
theorem adn(ha:ME X E a fa)(hb:ME X E b fb):ME X E (.BinOp a .FloorDiv b pos) (s2 adk fa fb):=a9b ake al8 ha hb
theorem aje(ha:ME X E a fa)(hb:ME X E b fb):ME X E (.BinOp a .Pow b pos) (s2 adl fa fb):=a9b ao8 al9 ha hb
def a2l:D->Hd->R D
 | .int i,h=>.ok (.int (-i)) h
 | _,_=>.no
theorem zp(ha:ME X E a fa):ME X E (.UnaryOp .USub a pos) (s1 a2l fa):=atn ao9 (λE ι H h x dx Q rx hr o=>by
 cases rx with
 | int i=>exact ⟨i,rfl,ans o (.int _) hr⟩
 | _=>exact o.elim) ha
def gLt:D->D->Hd->R D
 | .int i, .int j,h=>.ok (.bl (decide (i<j))) h
 | .str i, .str j,h=>.ok (.bl (decide (i.cps.toList<j.cps.toList))) h
 | _,_,_=>.no
def gLe:D->D->Hd->R D
 | .int i, .int j,h=>.ok (.bl (decide (i<=j))) h
 | .str i, .str j,h=>.ok (.bl (!decide (j.cps.toList<i.cps.toList))) h
 | _,_,_=>.no
def gGt:D->D->Hd->R D
 | .int i, .int j,h=>.ok (.bl (decide (j<i))) h
 | _,_,_=>.no
def gGe:D->D->Hd->R D
 | .int i, .int j,h=>.ok (.bl (decide (j<=i))) h
 | _,_,_=>.no
theorem a1z:a3j K gLt (λx y H Q=>rI0 (λi j=>.bl (decide (i<j))) x y H Q\/∃ i j,x = .str i/\y = .str j/\Q (.bl (decide (i.cps.toList<j.cps.toList))) H):=by
 intro E ι H h x y dx dy Q rx ry hr o
 cases rx with
 | int i =>
  cases ry with
  | int j=>exact .inl ⟨i,j,rfl,rfl,ans o (.bl _) hr⟩
  | _=>exact o.elim
 | str i =>
  cases ry with
  | str j=>exact .inr ⟨i,j,rfl,rfl,ans o (.bl _) hr⟩
  | _=>exact o.elim
 | _=>exact o.elim
theorem aab:a3j K gGt (rI0 λi j=>.bl (decide (j<i))):=by
 intro E ι H h x y dx dy Q rx ry hr o
 cases rx with
 | int i =>
  cases ry with
  | int j=>exact ⟨i,j,rfl,rfl,ans o (.bl _) hr⟩
  | _=>exact o.elim
 | _=>exact o.elim
theorem ajf:a3j K gGe (rI0 λi j=>.bl (decide (j<=i))):=by
 intro E ι H h x y dx dy Q rx ry hr o
 cases rx with
 | int i =>
  cases ry with
  | int j=>exact ⟨i,j,rfl,rfl,ans o (.bl _) hr⟩
  | _=>exact o.elim
 | _=>exact o.elim
def a5r:D->Bool
 | .non=>true
 | _=>false
theorem aac{ι:List Addr}{H:Hp}{x:V}{d:D}(r:Rep K ι H x d):decide (x = .non)=a5r d:=by cases r<;>simp [a5r]
def gIs:D->D->Hd->R D
 | x, .non,h=>.ok (.bl (a5r x)) h
 | .bl i, .bl j,h=>.ok (.bl (i == j)) h
 | _,_,_=>.no
def a8b:D->D->Hd->R D
 | x, .non,h=>.ok (.bl (!a5r x)) h
 | .bl i, .bl j,h=>.ok (.bl (i != j)) h
 | _,_,_=>.no
theorem ado:a3j K gIs (λx y H Q=>(y = .non/\Q (.bl (decide (x = .non))) H)\/∃ i j,x = .bl i/\y = .bl j/\Q (.bl (i == j)) H):=by
 intro E ι H h x y dx dy Q rx ry hr o
 cases ry with
 | non=>exact .inl ⟨rfl,by rw [aac rx];simp only [gIs] at o;exact ans o (.bl _) hr⟩
 | bl j =>
  cases rx with
  | bl i=>exact .inr ⟨i,j,rfl,rfl,ans o (.bl _) hr⟩
  | _=>exact o.elim
 | _=>cases rx<;>exact o.elim
theorem adp:a3j K a8b (λx y H Q=>(y = .non/\Q (.bl (!decide (x = .non))) H)\/∃ i j,x = .bl i/\y = .bl j/\Q (.bl (i != j)) H):=by
 intro E ι H h x y dx dy Q rx ry hr o
 cases ry with
 | non=>exact .inl ⟨rfl,by rw [aac rx];simp only [a8b] at o;exact ans o (.bl _) hr⟩
 | bl j =>
  cases rx with
  | bl i=>exact .inr ⟨i,j,rfl,rfl,ans o (.bl _) hr⟩
  | _=>exact o.elim
 | _=>cases rx<;>exact o.elim
def a1p:D->Bool
 | .non=>true | .bl _=>true | .int _=>true | .str _=>true
 | _=>false
def eqF:D->D->Bool
 | .non, .non=>true
 | .bl i, .bl j=>i == j
 | .int i, .int j=>i == j
 | .str i, .str j=>i == j
 | .int i, .bl j=>i == (if j then 1 else 0)
 | .bl i, .int j=>(if i then 1 else 0) == j
 | _,_=>false
end
section
variable{X:Cx}{K:PySem.W.Frag}{E:XD}{a b e o:Expr}{es:List Expr}{fa fb:SE}{ka:SA}{pos:Pos}
def a0u(d:D)(h:Hd):Option (List D):=match d with
 | .tup xs=>some xs
 | .rol xs=>some xs
 | .ref i=>match h[i]? with | some (.lst xs)=>some xs | _=>none
 | _=>none
def gIx(x y:D)(h:Hd):R D:=match y with
 | .int i=>(match x with
  | .str z=>if z.length<=LINE then (match atI z.cps.toList i with | some c=>.ok (.str ⟨#[c]⟩) h | none=>.no) else .no
  | x=>match a0u x h with
   | some xs=>(match atI xs i with | some d=>.ok d h | none=>.no)
   | none=>.no)
 | _=>.no
theorem agi{ι:List Addr}{H:Hp}{vs:List V}{xs:List D}{i:Int}{d:D}(r:Reps K ι H vs xs)(e:atI xs i=some d):∃ v,atI vs i=some v/\Rep K ι H v d:=by
 unfold atI at e ⊢;rw [r.len]
 cases hx:ixN xs.length i with
 | none=>rw [hx] at e;cases e
 | some j=>rw [hx] at e;exact r.get e
theorem ap6:a3j K gIx (rIx K):=by
 intro E ι H h x y dx dy Q rx ry hr o
 cases ry with
 | int i =>
  have go:∀ {p:Addr} {vs:List V} {xs:List D},Reps K ι H vs xs->out K E (yw K) ι H (match atI xs i with | some d=>.ok d h | none=>.no) Q->∃ v,atI vs i=some v/\Q v H:=λ{p vs xs} r o=>by
   cases he:atI xs i with
   | none=>rw [he] at o;exact o.elim
   | some d =>
    rw [he] at o;obtain ⟨v,h1,h2⟩:=agi r he;exact ⟨v,h1,ans o h2 hr⟩
  cases rx with
  | str z =>
   by_cases hc:z.length<=LINE
   ·simp only [gIx,if_pos hc] at o
    cases he:atI z.cps.toList i with
    | none=>rw [he] at o;exact o.elim
    | some c=>rw [he] at o;exact .inr (.inr ⟨z,i,c,rfl,rfl,ll hc,he,ans o (.str _) hr⟩)
   ·simp only [gIx,if_neg hc] at o;exact o.elim
  | @tup p vs xs hp r =>
   simp only [gIx,a0u] at o;obtain ⟨v,h1,h2⟩:=go (p:=p) r o;exact .inr (.inl ⟨p,vs,i,v,rfl,rfl,SqT.of hp,h1,h2⟩)
  | @rol p vs xs hp r =>
   simp only [gIx,a0u] at o;obtain ⟨v,h1,h2⟩:=go (p:=p) r o;exact .inl ⟨p,vs,i,v,rfl,rfl,hp.l,h1,h2⟩
  | @ref p j hp =>
   obtain ⟨ob,e1,e2⟩:=hr.at hp
   cases ob with
   | lst xs =>
    simp only [gIx,a0u,e1] at o;obtain ⟨vs,h3,h4⟩:=e2;obtain ⟨v,h1,h2⟩:=go (p:=p) h4 o;exact .inl ⟨p,vs,i,v,rfl,rfl,SqL.of h3,h1,h2⟩
   | dK _=>simp only [gIx,a0u,e1] at o;exact o.elim
   | dT _=>simp only [gIx,a0u,e1] at o;exact o.elim
  | _=>exact o.elim
 | _=>exact o.elim
theorem bj(ha:ME X E a fa)(hb:ME X E b fb)(hp:a94 b):ME X E (.Subscript a b pos) (s2 gIx fa fb):=ato aol ap6 ha hb hp
abbrev SO:=Sd->Hd->R (Option Int)
abbrev MO(X:Cx)(E:XD)(e:Option Expr)(f:SO):Prop:=PO X e (lift X.K E aw8 f)
def oN:SO:=λ_ h=>.ok none h
def oS(f:SE):SO:=λτ h=>(f τ h).bind λd h1=>match d with | .int i=>.ok (some i) h1 | _=>.no
theorem PO.weak{e:Option Expr}{t t':St->Hp->(Option Int->Hp->Prop)->Prop}(h:PO X e t)(i:∀ σ H Q,t' σ H Q->t σ H Q):PO X e t':=λpins s σ H Q I q=>h pins s σ H Q I (i _ _ _ q)
theorem v4:MO X E none oN:=PO.weak akm λσ H Q ⟨ι,τ,h,S,Rh,o⟩=>o ι H none (.refl _ _) rfl Rh
theorem ud(he:ME X E e fa):MO X E (some e) (oS fa):=by
 refine PO.weak (akn he) λσ H Q ⟨ι,τ,h,S,Rh,o⟩=>?_;refine ⟨ι,τ,h,S,Rh,fu o λd h1 ι1 H1 v g1 r1 hr1 o1=>?_⟩
 cases r1 with
 | int i=>exact ⟨i,rfl,o1 ι1 H1 _ (.refl _ _) rfl hr1⟩
 | _=>exact o1.elim
def whole(n:Nat)(lo hi:Option Int):Prop:=HT.sIx n 0 lo=0/\HT.sIx n n hi=n
instance (n:Nat) (lo hi:Option Int):Decidable (whole n lo hi):=by unfold whole;exact inferInstance
def gSl(d:D)(lo hi:Option Int)(h:Hd):R D:=match d with
 | .str z=>if z.length<=LINE then .ok (.str ⟨(a2r z.cps.toList lo hi).toArray⟩) h else .no
 | .tup xs=>if ¬ whole xs.length lo hi then .ok (.tup (a2r xs lo hi)) h else .no
 | .rol xs=>.ok (.ref h.length) (h++[.lst (a2r xs lo hi)])
 | .scr xs=>.ok (.ref h.length) (h++[.lst (a2r xs lo hi)])
 | .ref i=>match h[i]? with | some (.lst xs)=>.ok (.ref h.length) (h++[.lst (a2r xs lo hi)]) | _=>.no
 | _=>.no
theorem a2a{ι:List Addr}{H:Hp}{vs:List V}{xs:List D}(r:Reps K ι H vs xs)(lo hi:Option Int):Reps K ι H (aj2 vs lo hi) (a2r xs lo hi):=by
 unfold aj2 a2r;rw [r.len];exact (r.drop _).take _
theorem aad{ι:List Addr}{H:Hp}{h:Hd}{x:V}{d:D}{lo hi:Option Int}{Q:VK}(rx:Rep K ι H x d)(hr:HRep K ι H h)(o:out K E (yw K) ι H (gSl d lo hi h) Q):atj x lo hi H Q\/atf K x lo hi H Q\/ath K x lo hi H Q:=by
 cases rx with
 | str z =>
  by_cases hc:z.length<=LINE
  ·simp only [gSl,if_pos hc] at o;exact .inl ⟨z,rfl,ll hc,ans o (.str _) hr⟩
  ·simp only [gSl,if_neg hc] at o;exact o.elim
 | @tup p vs xs hp r =>
  by_cases hc:¬ whole xs.length lo hi
  ·simp only [gSl,if_pos hc] at o;exact .inr (.inl ⟨p,vs,rfl,SqT.of hp,by rw [r.len];exact hc,a0w (a2a r lo hi) hr o⟩)
  ·simp only [gSl,if_neg hc] at o;exact o.elim
 | @rol p vs xs hp r=>exact .inr (.inr ⟨p,vs,rfl,hp.l,a0f (a2a r lo hi) hr o⟩)
 | @scr p vs xs hp r=>exact .inr (.inr ⟨p,vs,rfl,hp.l,a0f (a2a r lo hi) hr o⟩)
 | @ref p j hp =>
  obtain ⟨ob,e1,e2⟩:=hr.at hp
  cases ob with
  | lst xs =>
   simp only [gSl,e1] at o;obtain ⟨vs,h3,h4⟩:=e2;exact .inr (.inr ⟨p,vs,rfl,SqL.of h3,a0f (a2a h4 lo hi) hr o⟩)
  | dK _=>simp only [gSl,e1] at o;exact o.elim
  | dT _=>simp only [gSl,e1] at o;exact o.elim
 | _=>exact o.elim
theorem adq{ι:List Addr}{H:Hp}{x:V}{d:D}(r:Rep K ι H x d)(f:a1p d=true):a1l x=true:=by cases r<;>first | rfl | cases f
theorem ap7{ι:List Addr}{H:Hp}{x y:V}{d c:D}(r:Rep K ι H x d)(q:Rep K ι H y c):a1p d=true->a1p c=true->eqV x y=eqF d c:=λf g=>by
 cases r<;>cases q<;>first | rfl | (cases f;done) | (cases g;done)
def inD(x:D)(xs:List D):Bool:=xs.any λy=>eqF y x
theorem agj{ι:List Addr}{H:Hp}{vs:List V}{xs:List D}(r:Reps K ι H vs xs)(f:xs.all a1p=true):vs.all a1l=true:=by
 induction r using Reps.rec (motive_1:=λ_ _ _=>True) with
 | nil=>rfl
 | cons r rs _ ih =>
  rw [List.all_cons,Bool.and_eq_true] at f ⊢;exact ⟨adq r f.1,ih f.2⟩
 | _=>trivial
theorem ap8{ι:List Addr}{H:Hp}{x:V}{d:D}{vs:List V}{xs:List D}(rx:Rep K ι H x d)(fx:a1p d=true)(r:Reps K ι H vs xs)(f:xs.all a1p=true):inV x vs=inD d xs:=by
 unfold inV inD
 induction r using Reps.rec (motive_1:=λ_ _ _=>True) with
 | nil=>rfl
 | cons r rs _ ih =>
  rw [List.all_cons,Bool.and_eq_true] at f;rw [List.any_cons,List.any_cons,ih f.2,ap7 r rx f.1 fx]
 | _=>trivial
def gIn(neg:Bool)(x y:D)(h:Hd):R D:=match y with
 | .str T=>(match x with
  | .str z=>(match z.cps.toList with | [c]=>.ok (.bl (if neg then !decide (c∈T.cps.toList) else decide (c∈T.cps.toList))) h | _=>.no)
  | _=>.no)
 | y=>match a0u y h with
  | some xs=>if a1p x=true/\xs.all a1p=true then .ok (.bl (if neg then !inD x xs else inD x xs)) h else .no
  | none=>.no
theorem one_sign{z:Str}{c:Nat}(h:z.cps.toList=[c]):z=⟨#[c]⟩:=by
 obtain ⟨cps⟩:=z
 congr
 exact Array.ext' (by simpa using h)
theorem ajg(neg:Bool){r1:R2}(h1:∀ c T H (Q:VK),Q (.bl (if neg then !decide (c∈T.cps.toList) else decide (c∈T.cps.toList))) H->r1 (.str ⟨#[c]⟩) (.str T) H Q):a3j K (gIn neg) (λx y H Q=>r1 x y H Q\/rIn K neg x y H Q):=by
 intro E ι H h x y dx dy Q rx ry hr o
 have go:∀ {p:Addr} {vs:List V} {xs:List D},(SqL K H p vs\/SqT K H p vs)->Reps K ι H vs xs->out K E (yw K) ι H (if a1p dx=true/\xs.all a1p=true then .ok (.bl (if neg then !inD dx xs else inD dx xs)) h else .no) Q->rIn K neg x (.ref p) H Q:=λ{p vs xs} sq r o=>by
  split at o
  ·rename_i hc;exact ⟨p,vs,rfl,sq,adq rx hc.1,agj r hc.2,by rw [ap8 rx hc.1 r hc.2];exact ans o (.bl _) hr⟩
  ·exact o.elim
 cases ry with
 | str T =>
  cases rx with
  | str z =>
   simp only [gIn] at o
   split at o
   ·rename_i c hz;rw [one_sign hz];exact .inl (h1 c T H Q (ans o (.bl _) hr))
   ·exact o.elim
  | _=>exact o.elim
 | @tup p vs xs hp r=>simp only [gIn,a0u] at o;exact .inr (go (.inr (SqT.of hp)) r o)
 | @rol p vs xs hp r=>simp only [gIn,a0u] at o;exact .inr (go (.inl hp.l) r o)
 | @ref p j hp =>
  obtain ⟨ob,e1,e2⟩:=hr.at hp
  cases ob with
  | lst xs =>
   simp only [gIn,a0u,e1] at o;obtain ⟨vs,h3,h4⟩:=e2;exact .inr (go (.inl (SqL.of h3)) h4 o)
  | dK _=>simp only [gIn,a0u,e1] at o;exact o.elim
  | dT _=>simp only [gIn,a0u,e1] at o;exact o.elim
 | _=>exact o.elim
theorem ala:a3j K (gIn false) (λx y H Q=>(∃ c T,x = .str ⟨#[c]⟩/\y = .str T/\Q (.bl (decide (c∈T.cps.toList))) H)\/rIn K false x y H Q):=ajg false λc T H Q q=>⟨c,T,rfl,rfl,q⟩
theorem adt:a3j K (gIn true) (λx y H Q=>(∃ c T,x = .str ⟨#[c]⟩/\y = .str T/\Q (.bl (!decide (c∈T.cps.toList))) H)\/rIn K true x y H Q):=ajg true λc T H Q q=>⟨c,T,rfl,rfl,q⟩
def xx:List D->Hd->R D
 | [.str z],h=>if z.length<=LINE then .ok (.int z.length) h else .no
 | [x],h=>(match a0u x h with | some xs=>.ok (.int xs.length) h | none=>.no)
 | _,_=>.no
theorem oh:ac4 K xx (λxs H Q=>(∃ p ys,xs=[.ref p]/\(SqL K H p ys\/SqT K H p ys)/\Q (.int ys.length) H)\/∃ z,xs=[.str z]/\z.length<=sizeLine/\Q (.int z.length) H):=by
 intro E ι H h xs ds Q r hr o
 cases r with
 | nil=>exact o.elim
 | cons r rs =>
  cases rs with
  | cons _ _=>exact (show False by cases r<;>exact o).elim
  | nil =>
   cases r with
   | str z =>
    by_cases hc:z.length<=LINE
    ·simp only [xx,if_pos hc] at o;exact .inr ⟨z,rfl,ll hc,ans o (.int _) hr⟩
    ·simp only [xx,if_neg hc] at o;exact o.elim
   | @tup p vs xs hp r=>simp only [xx,a0u] at o;exact .inl ⟨p,vs,rfl, .inr (SqT.of hp),by rw [r.len];exact ans o (.int _) hr⟩
   | @rol p vs xs hp r=>simp only [xx,a0u] at o;exact .inl ⟨p,vs,rfl, .inl hp.l,by rw [r.len];exact ans o (.int _) hr⟩
   | @ref p j hp =>
    obtain ⟨ob,e1,e2⟩:=hr.at hp
    cases ob with
    | lst xs =>
     simp only [xx,a0u,e1] at o;obtain ⟨vs,h3,h4⟩:=e2;exact .inl ⟨p,vs,rfl, .inl (SqL.of h3),by rw [h4.len];exact ans o (.int _) hr⟩
    | dK _=>simp only [xx,a0u,e1] at o;exact o.elim
    | dT _=>simp only [xx,a0u,e1] at o;exact o.elim
   | _=>exact o.elim
def ap9:List D->Hd->R D
 | [.int i],h=>.ok (.int (if i<0 then -i else i)) h
 | _,_=>.no
theorem adu:ac4 K ap9 (λxs H Q=>∃ i,xs=[.int i]/\Q (.int (if i<0 then -i else i)) H):=by
 intro E ι H h xs ds Q r hr o
 unfold ap9 at o
 split at o
 ·cases r with | cons r rs=>cases r;cases rs;exact ⟨_,rfl,ans o (.int _) hr⟩
 ·exact o.elim
def agk:List D->Hd->R D
 | [.int i, .int j],h=>.ok (.int (if j > i then j else i)) h
 | _,_=>.no
def a3r:List D->Hd->R D
 | [.int i, .int j],h=>.ok (.int (if j<i then j else i)) h
 | _,_=>.no
theorem a6x:ac4 K a3r (λxs H Q=>∃ i j,xs=[.int i, .int j]/\Q (.int (if j<i then j else i)) H):=by
 intro E ι H h xs ds Q r hr o
 unfold a3r at o
 split at o
 ·cases r with | cons r rs=>cases rs with | cons q rs=>cases r;cases q;cases rs;exact ⟨_,_,rfl,ans o (.int _) hr⟩
 ·exact o.elim
def alb:List D->Hd->R D
 | [.int i],h=>.ok (.int i) h
 | [.bl k],h=>.ok (.int (if k then 1 else 0)) h
 | _,_=>.no
theorem alc:ac4 K alb (λxs H Q=>(∃ i,xs=[.int i]/\Q (.int i) H)\/∃ k,xs=[.bl k]/\Q (.int (if k then 1 else 0)) H):=by
 intro E ι H h xs ds Q r hr o
 unfold alb at o
 split at o
 ·cases r with | cons r rs=>cases r;cases rs;exact .inl ⟨_,rfl,ans o (.int _) hr⟩
 ·cases r with | cons r rs=>cases r;cases rs;exact .inr ⟨_,rfl,ans o (.int _) hr⟩
 ·exact o.elim
def tyD(d:D)(h:Hd):Option String:=match d with
 | .non=>some "NoneType" | .bl _=>some "bool" | .int _=>some "int" | .str _=>some "str" | .tup _=>some "tuple" | .rol _=>some "list"
 | .ref i=>(match h[i]? with | some (.lst _)=>some "list" | some (.dK _)=>some "dict" | _=>none)
 | _=>none
def a69(t T:String):Option Bool :=
 if t∈["NoneType", "bool", "int", "str", "tuple", "list", "dict"]/\T∈["bool", "int", "str", "tuple", "list", "dict"] then some (t == T || (t == "bool" && T == "int")) else none
theorem a9d{t T:String}{b:Bool}(e:a69 t T=some b):PySem.W.kitOne K (.type t) (.type T)=some b:=by
 unfold a69 at e
 split at e
 ·rename_i h;obtain ⟨h1,h2⟩:=h;simp only [List.mem_cons,List.not_mem_nil,or_false] at h1 h2
  rcases h1 with rfl | rfl | rfl | rfl | rfl | rfl | rfl<;>rcases h2 with rfl | rfl | rfl | rfl | rfl | rfl<;>(cases e;rfl)
 ·cases e
def abk:List D->Hd->R D
 | [x, .ty T],h=>(match tyD x h with | some t=>(match a69 t T with | some b=>.ok (.bl b) h | none=>.no) | none=>.no)
 | _,_=>.no
theorem ajh{ι:List Addr}{H:Hp}{h:Hd}{x:V}{d:D}{t:String}(r:Rep K ι H x d)(hr:HRep K ι H h)(e:tyD d h=some t):TyOf K H x (.type t):=by
 cases r with
 | non=>cases e;exact .non
 | bl b=>cases e;exact .bl b
 | int b=>cases e;exact .int b
 | str b=>cases e;exact .str b
 | ty _=>cases e
 | tup hp r=>cases e;exact .tup hp
 | rol hp r=>cases e;obtain ⟨o,hp⟩:=hp;exact .frz hp
 | scr _ _=>cases e
 | rod _ _ _=>cases e
 | rdT _ _ _=>cases e
 | exc _ _ _=>cases e
 | ref hp =>
  obtain ⟨ob,e1,e2⟩:=hr.at hp
  cases ob with
  | lst xs=>simp only [tyD,e1] at e;cases e;obtain ⟨vs,h3,h4⟩:=e2;exact .lst h3
  | dK _=>simp only [tyD,e1] at e;cases e;obtain ⟨vs,h3,h4⟩:=e2;exact .dK h3
  | dT _=>simp only [tyD,e1] at e;cases e
theorem ald:ac4 K abk (λxs H Q=>∃ x T t b,xs=[x, .ty T]/\TyOf K H x t/\PySem.W.kitOne K t (.type T)=some b/\Q (.bl b) H):=by
 intro E ι H h xs ds Q r hr o
 unfold abk at o
 split at o
 ·rename_i d T
  cases r with
  | cons r rs =>
   cases rs with
   | cons q rs =>
    cases q;cases rs
    cases ht:tyD d h with
    | none=>rw [ht] at o;exact o.elim
    | some t =>
     rw [ht] at o
     cases hb:a69 t T with
     | none=>simp only [hb] at o;exact o.elim
     | some b =>
      simp only [hb] at o;exact ⟨_,T, .type t,b,rfl,ajh r hr ht,a9d hb,ans o (.bl _) hr⟩
 ·exact o.elim
end
section
variable{X:Cx}{K:PySem.W.Frag}{E:XD}{a b e o:Expr}{es:List Expr}{fa fb fo:SE}{ka:SA}{pos apos cpos:Pos}{name:Str}{idn:String}
def agl(K:PySem.W.Frag)(g:D->List D->Hd->R D)(r:V->List V->Hp->VK->Prop):Prop:=∀ (E:XD) ι H h x dx xs ds Q,Rep K ι H x dx->Reps K ι H xs ds->HRep K ι H h->out K E (yw K) ι H (g dx ds h) Q->r x xs H Q
def isL(d:D)(h:Hd):Bool:=match d with | .ref i=>(match h[i]? with | some (.lst _)=>true | _=>false) | .rol _=>true | _=>false
def sML(g:D->List D->Hd->R D)(f:SE)(k:SA):SE:=λτ h=>(f τ h).bind λd h1=>if isL d h1=true then (k τ h1).bind λds h2=>g d ds h2 else .no
theorem aji{ι:List Addr}{H:Hp}{h:Hd}{x:V}{d:D}(r:Rep K ι H x d)(hr:HRep K ι H h)(e:isL d h=true):tyV K "list" x H:=by
 cases r with
 | rol hp _=>exact .inl ⟨rfl,_,hp.l⟩
 | ref hp =>
  obtain ⟨ob,e1,e2⟩:=hr.at hp
  cases ob with
  | lst xs=>obtain ⟨vs,h3,_⟩:=e2;exact .inl ⟨rfl,_,SqL.of h3⟩
  | dK _=>simp [isL,e1] at e
  | dT _=>simp [isL,e1] at e
 | _=>cases e
theorem a1q{r:V->List V->Hp->VK->Prop}{g:D->List D->Hd->R D}(slot:Slot "list" name idn)(hty:typeOf (.builtin idn)=pure (.type "method_descriptor"))(hm:MtR X idn r)(hs:agl X.K g r)(ho:ME X E o fo)(ha:MA X E (e::es) ka)
  (hbase:attributeBase o name X.env (eval o X.env)=eval o X.env:=by rfl)
  (hfew:((backTo cpos (starEach (e::es) X.env)).all (λx => !x.1) && (backToKw cpos (keywordEach [] X.env)).all (λx=>x.1.isSome)
   && decide ((e::es).length+([]:List Keyword).length+(if ([]:List Keyword).isEmpty then 0 else 1)<30))=true:=by rfl)
  (hline:(apos.endLine == cpos.line)=true:=by rfl) (hst:starEach (e::es) X.env=(false,eval e X.env)::starEach es X.env:=by rfl) (hplain:(backTo cpos (starEach es X.env)).any (·.1)=false:=by rfl) :
  ME X E (.Call (.Attribute o name apos) (e::es) [] cpos) (sML g fo ka):=by
 refine PE.weak (ati PySem.F.plainAttrs_list slot hty hm ho ha hbase hfew hline hst hplain) λσ H Q ⟨ι,τ,h,S,Rh,o⟩=>?_;refine ⟨ι,τ,h,S,Rh,fu o λd h1 ι1 H1 v g1 r1 hr1 o1=>?_⟩
 by_cases hc:isL d h1=true
 ·rw [if_pos hc] at o1;refine ⟨aji r1 hr1 hc,ι1,τ,h1,S.mono g1,hr1,fu o1 λds h2 ι2 H2 vs g2 r2 hr2 o2=>?_⟩;exact hs E ι2 H2 h2 v d vs ds Q (r1.mono g2) r2 hr2 o2
 ·rw [if_neg hc] at o1;exact o1.elim
theorem apa{r:V->List V->Hp->VK->Prop}{g:D->List D->Hd->R D}(slot:Slot "list" name idn)(hty:typeOf (.builtin idn)=pure (.type "method_descriptor"))(hm:MtR X idn r)(hs:agl X.K g r)(ho:ME X E o fo)
  (hbase:attributeBase o name X.env (eval o X.env)=eval o X.env:=by rfl) (hline:(apos.endLine == cpos.line)=true:=by rfl):ME X E (.Call (.Attribute o name apos) [] [] cpos) (sML g fo dj):=by
 refine PE.weak (aon PySem.F.plainAttrs_list slot hty hm ho hbase hline) λσ H Q ⟨ι,τ,h,S,Rh,o⟩=>?_;refine ⟨ι,τ,h,S,Rh,fu o λd h1 ι1 H1 v g1 r1 hr1 o1=>?_⟩
 by_cases hc:isL d h1=true
 ·rw [if_pos hc] at o1;exact ⟨aji r1 hr1 hc,hs E ι1 H1 h1 v d [] [] Q r1 .nil hr1 o1⟩
 ·rw [if_neg hc] at o1;exact o1.elim
def a3l:D->List D->Hd->R D
 | .ref i,[y],h=>(match h[i]? with | some (.lst xs)=>if xs.length<LINE then .ok .non (h.set i (.lst (xs++[y]))) else .no | _=>.no)
 | _,_,_=>.no
theorem v5:agl K a3l ad1:=by
 intro E ι H h x dx xs ds Q rx r hr o
 unfold a3l at o
 split at o
 ·rename_i i y
  cases rx with
  | @ref p _ hp =>
   cases r with
   | cons r1 rs =>
    cases rs
    split at o
    ·rename_i xs hx;obtain ⟨vs,h3,h4⟩:=hr.lst hp hx
     split at o
     ·rename_i hc;exact ⟨p,vs,_,rfl,rfl,h3,by rw [h4.len,atk];exact hc,adf (h4.snoc r1) hr hp .non o⟩
     ·exact o.elim
    ·exact o.elim
 ·exact o.elim
def ane:D->List D->Hd->R D
 | .ref i,[],h=>(match h[i]? with | some (.lst xs)=>(match xs[xs.length - 1]? with | some y=>.ok y (h.set i (.lst xs.dropLast)) | none=>.no) | _=>.no)
 | _,_,_=>.no
theorem a6y{ι:List Addr}{H:Hp}{vs:List V}{xs:List D}(r:Reps K ι H vs xs):Reps K ι H vs.dropLast xs.dropLast:=by
 rw [List.dropLast_eq_take,List.dropLast_eq_take,r.len];exact r.take _
theorem ale:agl K ane aus:=by
 intro E ι H h x dx xs ds Q rx r hr o
 unfold ane at o
 split at o
 ·rename_i i
  cases rx with
  | @ref p _ hp =>
   cases r
   split at o
   ·rename_i xs hx;obtain ⟨vs,h3,h4⟩:=hr.lst hp hx
    split at o
    ·rename_i y hy;obtain ⟨v,h5,h6⟩:=h4.get hy;exact ⟨p,vs,v,rfl,rfl,h3,by rw [h4.len];exact h5,adf (a6y h4) hr hp h6 o⟩
    ·exact o.elim
   ·exact o.elim
 ·exact o.elim
def sMS(g:D->List D->Hd->R D)(f:SE)(k:SA):SE:=λτ h=>(f τ h).bind λd h1=>match d with | .str z=>(k τ h1).bind λds h2=>g (.str z) ds h2 | _=>.no
theorem alf{r:V->List V->Hp->VK->Prop}{g:D->List D->Hd->R D}(slot:Slot "str" name idn)(hty:typeOf (.builtin idn)=pure (.type "method_descriptor"))(hm:MtR X idn r)(hs:agl X.K g r)(ho:ME X E o fo)(ha:MA X E (e::es) ka)
  (hbase:attributeBase o name X.env (eval o X.env)=eval o X.env:=by rfl)
  (hfew:((backTo cpos (starEach (e::es) X.env)).all (λx => !x.1) && (backToKw cpos (keywordEach [] X.env)).all (λx=>x.1.isSome)
   && decide ((e::es).length+([]:List Keyword).length+(if ([]:List Keyword).isEmpty then 0 else 1)<30))=true:=by rfl)
  (hline:(apos.endLine == cpos.line)=true:=by rfl) (hst:starEach (e::es) X.env=(false,eval e X.env)::starEach es X.env:=by rfl) (hplain:(backTo cpos (starEach es X.env)).any (·.1)=false:=by rfl) :
  ME X E (.Call (.Attribute o name apos) (e::es) [] cpos) (sMS g fo ka):=by
 refine PE.weak (atm slot hty hm ho ha hbase hfew hline hst hplain) λσ H Q ⟨ι,τ,h,S,Rh,o⟩=>?_;refine ⟨ι,τ,h,S,Rh,fu o λd h1 ι1 H1 v g1 r1 hr1 o1=>?_⟩
 cases r1 with
 | str z=>exact ⟨⟨z,rfl⟩,ι1,τ,h1,S.mono g1,hr1,fu o1 λds h2 ι2 H2 vs g2 r2 hr2 o2=>hs E ι2 H2 h2 _ _ vs ds Q (.str z) r2 hr2 o2⟩
 | _=>exact o1.elim
def adv:D->List D->Hd->R D
 | .str T,[.str z],h=>(match z.cps.toList with | [c]=>.ok (.int (a1v T c)) h | _=>.no)
 | _,_,_=>.no
theorem agm:agl K adv (λx xs H Q=>∃ T c,x = .str T/\xs=[.str ⟨#[c]⟩]/\Q (.int (a1v T c)) H):=by
 intro E ι H h x dx xs ds Q rx r hr o
 unfold adv at o
 split at o
 ·cases rx
  cases r with
  | cons r1 rs =>
   cases r1;cases rs
   split at o
   ·rename_i c hz;exact ⟨_,c,rfl,by rw [one_sign hz],ans o (.int _) hr⟩
   ·exact o.elim
 ·exact o.elim
def a6a:D->List D->Hd->R D
 | .str T,[.str z],h=>(match z.cps.toList with | [c]=>if c∈T.cps.toList then .ok (.int (a1v T c)) h else .no | _=>.no)
 | _,_,_=>.no
theorem adw:agl K a6a (λx xs H Q=>∃ T c,x = .str T/\xs=[.str ⟨#[c]⟩]/\c∈T.cps.toList/\Q (.int (a1v T c)) H):=by
 intro E ι H h x dx xs ds Q rx r hr o
 unfold a6a at o
 split at o
 ·cases rx
  cases r with
  | cons r1 rs =>
   cases r1;cases rs
   split at o
   ·rename_i c hz
    split at o
    ·rename_i hc;exact ⟨_,c,rfl,by rw [one_sign hz],hc,ans o (.int _) hr⟩
    ·exact o.elim
   ·exact o.elim
 ·exact o.elim
def a9e:List D->Option (List Str)
 | []=>some []
 | .str z::r=>(a9e r).map (z::·)
 | _::_=>none
theorem a6z{ι:List Addr}{H:Hp}:∀ {vs:List V} {xs:List D} {zs:List Str},Reps K ι H vs xs->a9e xs=some zs->vs=zs.map V.str
 | _,_,_, .nil,e=>by cases e;rfl
 | _,_,zs, .cons (d:=d) r rs,e=>by
  cases r with
  | str z =>
   simp only [a9e,Option.map_eq_some_iff] at e;obtain ⟨ws,h1,rfl⟩:=e;rw [a6z rs h1];rfl
  | _=>cases e
def adx:D->List D->Hd->R D
 | .str sep,[.ref i],h=>(match h[i]? with | some (.lst xs)=>(match a9e xs with | some zs=>if (zs.map (·.length)).sum+zs.length*sep.length<=16777216 then .ok (.str (Txt.join sep zs)) h else .no | none=>.no) | _=>.no)
 | .str sep,[.rol xs],h=>(match a9e xs with | some zs=>if (zs.map (·.length)).sum+zs.length*sep.length<=16777216 then .ok (.str (Txt.join sep zs)) h else .no | none=>.no)
 | _,_,_=>.no
theorem agn:agl K adx (λx xs H Q=>∃ sep p zs,x = .str sep/\xs=[.ref p]/\SqL K H p (zs.map V.str)/\(zs.map (·.length)).sum+zs.length*sep.length<=16777216/\Q (.str (Txt.join sep zs)) H):=by
 intro E ι H h x dx xs ds Q rx r hr o
 unfold adx at o
 split at o
 ·rename_i sep i;cases rx
  cases r with
  | cons r1 rs =>
   cases rs
   cases r1 with
   | @ref p _ hp =>
    split at o
    ·rename_i xs hx;obtain ⟨vs,h3,h4⟩:=hr.lst hp hx
     split at o
     ·rename_i zs hz
      split at o
      ·rename_i hc;exact ⟨sep,p,zs,rfl,rfl,SqL.of (by rw [h3,a6z h4 hz]),hc,ans o (.str _) hr⟩
      ·exact o.elim
     ·exact o.elim
    ·exact o.elim
 ·rename_i sep xs;cases rx
  cases r with
  | cons r1 rs =>
   cases rs
   cases r1 with
   | @rol p vs xs hp r =>
    split at o
    ·rename_i zs hz
     split at o
     ·rename_i hc;exact ⟨sep,p,zs,rfl,rfl,by rw [<-a6z r hz];exact hp.l,hc,ans o (.str _) hr⟩
     ·exact o.elim
    ·exact o.elim
 ·exact o.elim
theorem a6b{ι:List Addr}{H:Hp}(z:Str):Reps K ι H (a0r z) (a0a z):=by
 unfold a0r a0a
 induction z.cps.toList with
 | nil=>exact .nil
 | cons c cs ih=>exact .cons (.str _) ih
def ou:List D->Hd->R D
 | [.str z],h=>if z.length<=LINE then .ok (.tup (a0a z)) h else .no
 | [x],h=>(match a0u x h with | some xs=>.ok (.tup xs) h | none=>.no)
 | _,_=>.no
theorem uq:ac4 K ou (λxs H Q=>(∃ p ys,xs=[.ref p]/\((SqL K H p ys/\∀ l,H l=none->Q (.ref l) (upd H l (.tup ys)))\/(SqT K H p ys/\Q (.ref p) H)))\/∃ z,xs=[.str z]/\z.length<=sizeLine/\∀ l,H l=none->Q (.ref l) (upd H l (.tup (a0r z)))):=by
 intro E ι H h xs ds Q r hr o
 cases r with
 | nil=>exact o.elim
 | cons r rs =>
  cases rs with
  | cons _ _=>exact (show False by cases r<;>exact o).elim
  | nil =>
   cases r with
   | str z =>
    by_cases hc:z.length<=LINE
    ·simp only [ou,if_pos hc] at o;exact .inr ⟨z,rfl,ll hc,a0w (a6b z) hr o⟩
    ·simp only [ou,if_neg hc] at o;exact o.elim
   | @tup p vs xs hp r=>simp only [ou,a0u] at o;exact .inl ⟨p,vs,rfl, .inr ⟨SqT.of hp,ans o (.tup hp r) hr⟩⟩
   | @rol p vs xs hp r=>simp only [ou,a0u] at o;exact .inl ⟨p,vs,rfl, .inl ⟨hp.l,a0w r hr o⟩⟩
   | @ref p j hp =>
    obtain ⟨ob,e1,e2⟩:=hr.at hp
    cases ob with
    | lst xs =>
     simp only [ou,a0u,e1] at o;obtain ⟨vs,h3,h4⟩:=e2;exact .inl ⟨p,vs,rfl, .inl ⟨SqL.of h3,a0w h4 hr o⟩⟩
    | dK _=>simp only [ou,a0u,e1] at o;exact o.elim
    | dT _=>simp only [ou,a0u,e1] at o;exact o.elim
   | _=>exact o.elim
def alg:List D->Option (List Bool)
 | []=>some []
 | .bl z::r=>(alg r).map (z::·)
 | _::_=>none
def a5s:List D->Option (List Int)
 | []=>some []
 | .int z::r=>(a5s r).map (z::·)
 | _::_=>none
theorem a9f{ι:List Addr}{H:Hp}:∀ {vs:List V} {xs:List D} {zs:List Bool},Reps K ι H vs xs->alg xs=some zs->vs=zs.map V.bl
 | _,_,_, .nil,e=>by cases e;rfl
 | _,_,zs, .cons (d:=d) r rs,e=>by
  cases r with
  | bl z =>
   simp only [alg,Option.map_eq_some_iff] at e;obtain ⟨ws,h1,rfl⟩:=e;rw [a9f rs h1];rfl
  | _=>cases e
theorem a4a{ι:List Addr}{H:Hp}:∀ {vs:List V} {xs:List D} {zs:List Int},Reps K ι H vs xs->a5s xs=some zs->vs=zs.map V.int
 | _,_,_, .nil,e=>by cases e;rfl
 | _,_,zs, .cons (d:=d) r rs,e=>by
  cases r with
  | int z =>
   simp only [a5s,Option.map_eq_some_iff] at e;obtain ⟨ws,h1,rfl⟩:=e;rw [a4a rs h1];rfl
  | _=>cases e
theorem ago(bs:List Bool):alg (bs.map D.bl)=some bs:=by
 induction bs with
 | nil=>rfl
 | cons b bs ih=>simp [alg,ih]
def ajj:List D->Hd->R D
 | [.ref i],h=>(match h[i]? with | some (.lst xs)=>(match alg xs with | some bs=>.ok (.bl (bs.all id)) h | none=>.no) | _=>.no)
 | [.rol xs],h=>(match alg xs with | some bs=>.ok (.bl (bs.all id)) h | none=>.no)
 | _,_=>.no
theorem alh:ac4 K ajj (λxs H Q=>∃ (p:Addr) (bs:List Bool),xs=[.ref p]/\SqL K H p (bs.map V.bl)/\Q (.bl (bs.all id)) H):=by
 intro E ι H h xs ds Q r hr o
 unfold ajj at o
 split at o
 ·cases r with
  | cons r rs =>
   cases rs
   cases r with
   | @ref p _ hp =>
    split at o
    ·rename_i xs hx;obtain ⟨vs,h3,h4⟩:=hr.lst hp hx
     split at o
     ·rename_i bs hb;exact ⟨p,bs,rfl,SqL.of (by rw [h3,a9f h4 hb]),ans o (.bl _) hr⟩
     ·exact o.elim
    ·exact o.elim
 ·cases r with
  | cons r rs =>
   cases rs
   cases r with
   | @rol p vs xs hp r =>
    split at o
    ·rename_i bs hb;exact ⟨p,bs,rfl,by rw [<-a9f r hb];exact hp.l,ans o (.bl _) hr⟩
    ·exact o.elim
 ·exact o.elim
end
end MI
theorem L2.Room.u{k:Nat}{A:PySem.Around}(r:L2.Room k A):A.units+64<PySem.cLine:=r.units
namespace MI
open PySem PySem.Spec L2
mutual
def eqD:D->D->Bool
 | .non, .non=>true
 | .bl a, .bl b=>a == b
 | .bl a, .int b=>(if a then 1 else 0) == b
 | .int a, .bl b=>a == (if b then 1 else 0)
 | .int a, .int b=>a == b
 | .str a, .str b=>a == b
 | .tup xs, .tup ys=>aae xs ys
 | _,_=>false
def aae:List D->List D->Bool
 | [],[]=>true
 | x::xs,y::ys=>eqD x y && aae xs ys
 | _,_=>false
end
def pur:Nat->D->Bool
 | _, .non=>true
 | _, .bl _=>true
 | _, .int _=>true
 | _, .str _=>true
 | n+1, .tup xs=>xs.all (pur n)
 | _,_=>false
def pairE(xs ys:List D)(j:Nat):Bool:=match xs[j]?,ys[j]? with | some x,some y=>eqD x y | _,_=>false
theorem a2b:∀ xs ys:List D,((List.range (min xs.length ys.length)).all (pairE xs ys) && xs.length == ys.length)=aae xs ys
 | [],[]=>by simp [aae]
 | [],_::_=>by simp [aae]
 | _::_,[]=>by simp [aae]
 | x::xs,y::ys=>by
  have ih:=a2b xs ys;rw [show min (x::xs).length (y::ys).length=min xs.length ys.length+1 by simp only [List.length_cons];omega,List.range_succ_eq_map]
  rw [List.all_cons,List.all_map];have e:(pairE (x::xs) (y::ys) ∘ Nat.succ)=pairE xs ys:=by funext j;simp [pairE]
  rw [e];simp only [aae];rw [<-ih];have e2:((x::xs).length == (y::ys).length)=(xs.length == ys.length):=by simp
  rw [e2,Bool.and_assoc];rfl
section
variable{K:PySem.W.Frag}{ι:List Addr}{H:Hp}
theorem agp:∀ (n:Nat) {v:V} {d e:D},Rep K ι H v d->Rep K ι H v e->pur n d=true->pur n e=true->eqD d e=true:=by
 intro n
 induction n with
 | zero=>intro v d e r q p1 p2;cases r<;>cases q<;>first | (simp [eqD];done) | (cases p1;done) | (cases p2;done)
 | succ n ih =>
  intro v d e r q p1 p2
  cases r with
  | @tup a vs xs h rs =>
   cases q with
   | @tup _ us ys h' qs =>
    rw [h] at h';cases h'
    simp only [eqD];simp only [pur,List.all_eq_true] at p1 p2
    clear h
    induction rs using Reps.rec (motive_1:=λ_ _ _=>True) generalizing ys with
    | nil=>cases qs;rfl
    | cons r rs _ ih2 =>
     cases qs with
     | cons q qs =>
      simp only [aae,Bool.and_eq_true];exact ⟨ih r q (p1 _ (List.mem_cons_self ..)) (p2 _ (List.mem_cons_self ..)),ih2 qs (λx hx=>p1 x (List.mem_cons_of_mem _ hx)) (λx hx=>p2 x (List.mem_cons_of_mem _ hx))⟩
    | _=>trivial
   | _=>cases p2
  | _=>cases q<;>first | (simp [eqD];done) | (cases p1;done) | (cases p2;done)
theorem a3m{n:Nat}{v:V}{d:D}(r:Rep K ι H v d)(p:pur n d=true):(∃ xs,d = .tup xs)\/(a1l v=true/\a1p d=true):=by
 cases r<;>first | exact .inr ⟨rfl,rfl⟩ | exact .inl ⟨_,rfl⟩ | (cases n<;>cases p)
theorem a70{x y:V}{d e:D}(r:Rep K ι H x d)(q:Rep K ι H y e)(f:a1p d=true)(g:a1p e=true):eqV x y=eqD d e:=by
 cases r<;>cases q<;>first | rfl | (simp [eqV,eqD];done) | (cases f;done) | (cases g;done)
open SeqAt in
theorem ajk{P:Program}{w:World}{s:Shared}(hok:HOk P w H s.heap):∀ (n:Nat) (A:Around) {x y:V} {u v:Value} {d e:D},Rep K ι H x d->Rep K ι H y e->RelV x u->RelV y v->pur n d=true->pur n e=true->A.units+n<cLine->EqAt A s u v (eqD d e):=by
 intro n
 induction n with
 | zero =>
  intro A x y u v d e r q rx ry p1 p2 hu
  rcases a3m r p1 with ⟨xs,rfl⟩ | ⟨f1,f2⟩
  ·cases p1
  ·rcases a3m q p2 with ⟨xs,rfl⟩ | ⟨g1,g2⟩
   ·cases p2
   ·rw [<-a70 r q f2 g2];exact acy rx ry f1 g1
 | succ n ih =>
  intro A x y u v d e r q rx ry p1 p2 hu
  rcases a3m r p1 with ⟨xs,rfl⟩ | ⟨f1,f2⟩
  ·cases r with
   | @tup a vs _ ha rs =>
    cases rx
    obtain ⟨_,its,r1,t1⟩:=(Rd.of ha).ok hok
    rcases a3m q p2 with ⟨ys,rfl⟩ | ⟨g1,g2⟩
    ·cases q with
     | @tup b us _ hb qs =>
      cases ry
      obtain ⟨_,its2,r2,t2⟩:=(Rd.of hb).ok hok
      by_cases hab:a=b
      ·subst hab;rw [agp (n+1) (.tup ha rs) (.tup hb qs) p1 p2];exact EqAt.same _
      ·have l1:its.toArray.size=xs.length:=by rw [List.size_toArray,<-r1.length,rs.len]
       have l2:its2.toArray.size=ys.length:=by rw [List.size_toArray,<-r2.length,qs.len]
       have:=RcAt.tuples (A:=A) (s:=s) (e:=pairE xs ys) t1 t2 (by omega) (λj h1 h2=>by
        have j1:j<xs.length:=by omega
        have j2:j<ys.length:=by omega
        obtain ⟨v1,e1,q1⟩:=rs.get (List.getElem?_eq_getElem j1);obtain ⟨v2,e2,q2⟩:=qs.get (List.getElem?_eq_getElem j2);obtain ⟨u1,e3,q3⟩:=r1.get e1;obtain ⟨u2,e4,q4⟩:=r2.get e2;have f1:its.toArray[j]=u1:=by simpa using (List.getElem?_eq_some_iff.mp e3).2
        have f2:its2.toArray[j]=u2:=by simpa using (List.getElem?_eq_some_iff.mp e4).2
        have pe:pairE xs ys j=eqD xs[j] ys[j]:=by simp [pairE,List.getElem?_eq_getElem j1,List.getElem?_eq_getElem j2]
        rw [f1,f2,pe];simp only [pur,List.all_eq_true] at p1 p2;exact ih A.in1 q1 q2 q3 q4 (p1 _ (List.getElem_mem j1)) (p2 _ (List.getElem_mem j2)) (by rw [Around.in1_units];omega))
       rw [l1,l2,a2b] at this;exact EqAt.of_refs hab this
    ·have e0:eqD (.tup xs) e=false:=by cases e<;>first | rfl | (cases g2;done)
     rw [e0]
     cases y with
     | non=>cases ry;exact EqAt.tuple_none t1 (by omega)
     | bl b=>cases ry;exact EqAt.tuple_bool b t1 (by omega)
     | int b=>obtain ⟨t,rfl⟩:=ry;exact EqAt.tuple_int b t t1 (by omega)
     | str b=>obtain ⟨t,rfl⟩:=ry;exact EqAt.tuple_str b t t1 (by omega)
     | _=>cases g1
  ·rcases a3m q p2 with ⟨ys,rfl⟩ | ⟨g1,g2⟩
   ·cases q with
    | @tup b us _ hb qs =>
     cases ry
     obtain ⟨_,its2,r2,t2⟩:=(Rd.of hb).ok hok;have e0:eqD d (.tup ys)=false:=by cases d<;>first | rfl | (cases f2;done)
     rw [e0]
     cases x with
     | non=>cases rx;exact EqAt.none_tuple t2 (by omega)
     | bl b=>cases rx;exact EqAt.bool_tuple b t2 (by omega)
     | int b=>obtain ⟨t,rfl⟩:=rx;exact EqAt.int_tuple b t t2 (by omega)
     | str b=>obtain ⟨t,rfl⟩:=rx;exact EqAt.str_tuple b t t2 (by omega)
     | _=>cases f1
   ·rw [<-a70 r q f2 g2];exact acy rx ry f1 g1
open SeqAt in
theorem apb{A:Around}{s:Shared}{y x:V}{u v:Value}(ry:RelV y u)(rx:RelV x v)(fy:a1l y=true)(fx:a1l x=true):RcAt A s u v (eqV y x):=by
 cases y with
 | non =>
  cases ry
  cases x with
  | non=>cases rx;exact RcAt.none_none
  | bl b=>cases rx;exact RcAt.none_bool b
  | int b=>obtain ⟨t,rfl⟩:=rx;exact RcAt.none_int b t
  | str b=>obtain ⟨t,rfl⟩:=rx;exact RcAt.none_str b t
  | _=>cases fx
 | bl a =>
  cases ry
  cases x with
  | non=>cases rx;exact RcAt.bool_none a
  | bl b=>cases rx;exact RcAt.bool_bool a b
  | int b=>obtain ⟨t,rfl⟩:=rx;exact RcAt.bool_int a b t
  | str b=>obtain ⟨t,rfl⟩:=rx;exact RcAt.bool_str a b t
  | _=>cases fx
 | int a =>
  obtain ⟨t',rfl⟩:=ry
  cases x with
  | non=>cases rx;exact RcAt.int_none a t'
  | bl b=>cases rx;exact RcAt.int_bool a t' b
  | int b=>obtain ⟨t,rfl⟩:=rx;exact RcAt.int_int a t' b t
  | str b=>obtain ⟨t,rfl⟩:=rx;exact RcAt.int_str a t' b t
  | _=>cases fx
 | str a =>
  obtain ⟨t',rfl⟩:=ry
  cases x with
  | non=>cases rx;exact RcAt.str_none a t'
  | bl b=>cases rx;exact RcAt.str_bool a t' b
  | int b=>obtain ⟨t,rfl⟩:=rx;exact RcAt.str_int a t' b t
  | str b=>obtain ⟨t,rfl⟩:=rx;exact RcAt.str_str a t' b t
  | _=>cases fx
 | _=>cases fy
open SeqAt in
theorem agq{A:Around}{s:Shared}{y x:V}{u v:Value}(ry:RelV y u)(rx:RelV x v)(fy:a1l y=true)(fx:a1l x=true):RcNeAt A s u v (!eqV y x):=by
 cases y with
 | non =>
  cases ry
  cases x with
  | non=>cases rx;exact RcNeAt.none_none
  | bl b=>cases rx;exact RcNeAt.none_bool b
  | int b=>obtain ⟨t,rfl⟩:=rx;exact RcNeAt.none_int b t
  | str b=>obtain ⟨t,rfl⟩:=rx;exact RcNeAt.none_str b t
  | _=>cases fx
 | bl a =>
  cases ry
  cases x with
  | non=>cases rx;exact RcNeAt.bool_none a
  | bl b=>cases rx;exact RcNeAt.bool_bool a b
  | int b=>obtain ⟨t,rfl⟩:=rx;exact RcNeAt.bool_int a b t
  | str b=>obtain ⟨t,rfl⟩:=rx;exact RcNeAt.bool_str a b t
  | _=>cases fx
 | int a =>
  obtain ⟨t',rfl⟩:=ry
  cases x with
  | non=>cases rx;exact RcNeAt.int_none a t'
  | bl b=>cases rx;exact RcNeAt.int_bool a t' b
  | int b=>obtain ⟨t,rfl⟩:=rx;exact RcNeAt.int_int a t' b t
  | str b=>obtain ⟨t,rfl⟩:=rx;exact RcNeAt.int_str a t' b t
  | _=>cases fx
 | str a =>
  obtain ⟨t',rfl⟩:=ry
  cases x with
  | non=>cases rx;exact RcNeAt.str_none a t'
  | bl b=>cases rx;exact RcNeAt.str_bool a t' b
  | int b=>obtain ⟨t,rfl⟩:=rx;exact RcNeAt.str_int a t' b t
  | str b=>obtain ⟨t,rfl⟩:=rx;exact RcNeAt.str_str a t' b t
  | _=>cases fx
 | _=>cases fy
open SeqAt in
theorem tops{P:Program}{w:World}{s:Shared}{A:Around}(hok:HOk P w H s.heap){x y:V}{u v:Value}{d e:D}(r:Rep K ι H x d)(q:Rep K ι H y e)(rx:RelV x u)(ry:RelV y v)(p1:pur 60 d=true)(p2:pur 60 e=true)(hu:A.units+64<cLine) :
  RcAt A s u v (eqD d e)/\RcNeAt A s u v (!eqD d e):=by
 rcases a3m r p1 with ⟨xs,rfl⟩ | ⟨f1,f2⟩
 ·cases r with
  | @tup a vs _ ha rs =>
   cases rx
   obtain ⟨_,its,r1,t1⟩:=(Rd.of ha).ok hok
   rcases a3m q p2 with ⟨ys,rfl⟩ | ⟨g1,g2⟩
   ·cases q with
    | @tup b us _ hb qs =>
     cases ry
     obtain ⟨_,its2,r2,t2⟩:=(Rd.of hb).ok hok;have l1:its.toArray.size=xs.length:=by rw [List.size_toArray,<-r1.length,rs.len]
     have l2:its2.toArray.size=ys.length:=by rw [List.size_toArray,<-r2.length,qs.len]
     have step:∀ j (h1:j<its.toArray.size) (h2:j<its2.toArray.size),EqAt A.in1 s its.toArray[j] its2.toArray[j] (pairE xs ys j):=λj h1 h2=>by
      have j1:j<xs.length:=by omega
      have j2:j<ys.length:=by omega
      obtain ⟨v1,e1,q1⟩:=rs.get (List.getElem?_eq_getElem j1);obtain ⟨v2,e2,q2⟩:=qs.get (List.getElem?_eq_getElem j2);obtain ⟨u1,e3,q3⟩:=r1.get e1;obtain ⟨u2,e4,q4⟩:=r2.get e2;have f1:its.toArray[j]=u1:=by simpa using (List.getElem?_eq_some_iff.mp e3).2
      have f2:its2.toArray[j]=u2:=by simpa using (List.getElem?_eq_some_iff.mp e4).2
      have pe:pairE xs ys j=eqD xs[j] ys[j]:=by simp [pairE,List.getElem?_eq_getElem j1,List.getElem?_eq_getElem j2]
      rw [f1,f2,pe];simp only [pur,List.all_eq_true] at p1 p2;exact ajk hok 59 A.in1 q1 q2 q3 q4 (p1 _ (List.getElem_mem j1)) (p2 _ (List.getElem_mem j2)) (by rw [Around.in1_units];omega)
     have c1:=RcAt.tuples (A:=A) (s:=s) (e:=pairE xs ys) t1 t2 (by omega) step
     have c2:=RcNeAt.tuples (A:=A) (s:=s) (e:=pairE xs ys) t1 t2 (by omega) step
     rw [l1,l2,a2b] at c1 c2;exact ⟨c1,c2⟩
   ·have e0:eqD (.tup xs) e=false:=by cases e<;>first | rfl | (cases g2;done)
    rw [e0]
    cases y with
    | non=>cases ry;exact ⟨RcAt.tuple_none t1 (by omega),RcNeAt.tuple_none t1 (by omega)⟩
    | bl b=>cases ry;exact ⟨RcAt.tuple_bool b t1 (by omega),RcNeAt.tuple_bool b t1 (by omega)⟩
    | int b=>obtain ⟨t,rfl⟩:=ry;exact ⟨RcAt.tuple_int b t t1 (by omega),RcNeAt.tuple_int b t t1 (by omega)⟩
    | str b=>obtain ⟨t,rfl⟩:=ry;exact ⟨RcAt.tuple_str b t t1 (by omega),RcNeAt.tuple_str b t t1 (by omega)⟩
    | _=>cases g1
 ·rcases a3m q p2 with ⟨ys,rfl⟩ | ⟨g1,g2⟩
  ·cases q with
   | @tup b us _ hb qs =>
    cases ry
    obtain ⟨_,its2,r2,t2⟩:=(Rd.of hb).ok hok;have e0:eqD d (.tup ys)=false:=by cases d<;>first | rfl | (cases f2;done)
    rw [e0]
    cases x with
    | non=>cases rx;exact ⟨RcAt.none_tuple t2 (by omega),RcNeAt.none_tuple t2 (by omega)⟩
    | bl b=>cases rx;exact ⟨RcAt.bool_tuple b t2 (by omega),RcNeAt.bool_tuple b t2 (by omega)⟩
    | int b=>obtain ⟨t,rfl⟩:=rx;exact ⟨RcAt.int_tuple b t t2 (by omega),RcNeAt.int_tuple b t t2 (by omega)⟩
    | str b=>obtain ⟨t,rfl⟩:=rx;exact ⟨RcAt.str_tuple b t t2 (by omega),RcNeAt.str_tuple b t t2 (by omega)⟩
    | _=>cases f1
  ·rw [<-a70 r q f2 g2];exact ⟨apb rx ry f1 g1,agq rx ry f1 g1⟩
def auv(K:PySem.W.Frag):R2:=λx y H Q=>∃ ι d e,Rep K ι H x d/\Rep K ι H y e/\pur 60 d=true/\pur 60 e=true/\Q (.bl (eqD d e)) H
def auw(K:PySem.W.Frag):R2:=λx y H Q=>∃ ι d e,Rep K ι H x d/\Rep K ι H y e/\pur 60 d=true/\pur 60 e=true/\Q (.bl (!eqD d e)) H
theorem yc{X:Cx}(hu:X.A.units+64<cLine):OpR X (compareOp .Eq) (auv X.K):=by
 intro pins s σ H x y v u Q I rx ry h
 obtain ⟨ι,d,e,r,q,p1,p2,hq⟩:=h;exact (tops (A:=X.A) I.hok r q rx ry p1 p2 hu).1 X.prog X.w X.xe _ ⟨.bl _,H,I,rfl,hq⟩
theorem a8c{X:Cx}(hu:X.A.units+64<cLine):OpR X (compareOp .NotEq) (auw X.K):=by
 intro pins s σ H x y v u Q I rx ry h
 obtain ⟨ι,d,e,r,q,p1,p2,hq⟩:=h;exact (tops (A:=X.A) I.hok r q rx ry p1 p2 hu).2 X.prog X.w X.xe _ ⟨.bl _,H,I,rfl,hq⟩
def hEq(x y:D)(h:Hd):R D:=if pur 60 x=true/\pur 60 y=true then .ok (.bl (eqD x y)) h else .no
def hNe(x y:D)(h:Hd):R D:=if pur 60 x=true/\pur 60 y=true then .ok (.bl (!eqD x y)) h else .no
theorem ue:a3j K hEq (auv K):=by
 intro E ι H h x y dx dy Q rx ry hr o
 unfold hEq at o
 split at o
 ·rename_i hc;exact ⟨ι,dx,dy,rx,ry,hc.1,hc.2,ans o (.bl _) hr⟩
 ·exact o.elim
theorem a5b:a3j K hNe (auw K):=by
 intro E ι H h x y dx dy Q rx ry hr o
 unfold hNe at o
 split at o
 ·rename_i hc;exact ⟨ι,dx,dy,rx,ry,hc.1,hc.2,ans o (.bl _) hr⟩
 ·exact o.elim
end
section
variable{X:Cx}{E:XD}{K:PySem.W.Frag}
def atu:D->D->Hd->R D
 | .int i, .int j,h=>.ok (.int (i+j)) h
 | .str x, .str y,h=>if x.length+y.length<=LINE then .ok (.str (x++y)) h else .no
 | _,_,_=>.no
theorem apc:bootBuiltins "max" = some (.builtin "max"):=by first | exact PySem.boot_max | exact PyProof.Rows.boot_max
theorem ady:bootBuiltins "min" = some (.builtin "min"):=by first | exact PySem.boot_min | exact PyProof.Rows.boot_min
theorem ali:bootBuiltins "bool" = some (.type "bool"):=by first | exact PySem.boot_bool | exact PyProof.Rows.boot_bool
theorem jq{e:Expr}{es:List Expr}{g:SG}{ks:SGs}(h1:MG X E e g)(h2:MGs X E es ks)(hs:(assignEach (e::es) X.env).map (·.2)=assign e X.env::(assignEach es X.env).map (·.2):=by rfl):MGs X E (e::es) (jj g ks) :=
 PGs.weak (a3w h1 h2 hs) λvs σ H Q q=>agf q
end
end MI
namespace ZP
open PySem PySem.Spec PySem.Builtin PySem.Builtin.SmallTypes
section
variable{prog:Program}{w:World}{A:Around}{E:Value->Shared->Prop}{s:Shared}
theorem alj{α:Type}{Q:α->Shared->Prop}(hh:A.handled=none)(q:∀ h' e,(∀ b o,s.heap.get? b=some o->h'.get? b=some o)->(∃ o,h'.get? e=some o/\o.cls = .type "StopIteration")->E (.ref e) { s with heap:=h' }) :
  wpAny (model prog w) A (stopIteration:Sem α) Q E s:=by
 have none_first:firstArgMember (.type "StopIteration") []=pure Value.none:=by first | rfl | (simp only [firstArgMember];rfl)
 rw [stopIteration]
 apply wpAny_bind
 rw [newExc,newTuple]
 apply wpAny_bind
 apply wpAny_newObj_type _ (by size_fits)
 rw [none_first,pure_bind]
 apply wpAny_newObj_type _ (by size_fits)
 apply wpAny_raiseNew_none hh
 exact q _ _ (λb o z=>Heap.get?_push_of_some _ (Heap.get?_push_of_some _ z)) ⟨_,Heap.get?_push_size _ rfl,rfl⟩
theorem agr{it t:Addr}{i:Nat}{items:Array Value}{x:Value}{Q:Value->Shared->Prop}(hi:s.heap.IsTupleIter it t i)(ht:s.heap.IsTuple t items)(hx:items[i]? = some x)
  (q:∀ h',h'.IsTupleIter it t (i+1)->Heap.SameBut it s.heap h'->Q x { s with heap:=h' }):wpAny (model prog w) A (nextOf (.ref it)) Q E s:=by
 have ty:=hi.typeIs;obtain ⟨o,e1,e2,e3⟩:=id hi;obtain ⟨p,f1,f2,n,f3⟩:=ht;rw [nextOf]
 apply wpAny_bind
 apply wpAny_callSpecial?_slot (name:=Str.ofString "__next__") ty F.slot_tuple_iterator_next
 apply wpAny_call_entry F.slot_tuple_iterator_next ty F.entry_tuple_iterator_next _ (F.args_tuple_iterator_next_1 _)
 change wpAny (model prog w) A.in1 (field (.ref it) 0>>=_) _ _ _
 apply wpAny_bind;apply wpAny_field e1 e3 (x:=.ref t) rfl
 change wpAny (model prog w) A.in1 (field (.ref it) 1>>=_) _ _ _
 apply wpAny_bind;apply wpAny_field e1 e3 (x:=.int i 0) rfl
 change wpAny (model prog w) A.in1 (seqItems? (.ref t)>>=_) _ _ _
 apply wpAny_bind;apply wpAny_seqItems f1 f3
 dsimp only;rw [Int.toNat_natCast,hx]
 apply wpAny_bind
 obtain ⟨c,dd,dt,sl⟩:=o;simp only at e2 e3;subst e2 e3
 apply wpAny_setField e1 rfl (Nat.lt_succ_self 1)
 apply wpAny_pure
 exact ⟨x,rfl,wpAny_pure (q _ ⟨_,Heap.get?_update_self _ e1 rfl,rfl,rfl⟩ (Heap.SameBut.update ..))⟩
theorem alk{it t:Addr}{i:Nat}{items:Array Value}{Q:Value->Shared->Prop}(hh:A.handled=none)(hi:s.heap.IsTupleIter it t i)(ht:s.heap.IsTuple t items)(hx:items[i]? = none)
  (q:∀ h' e,Heap.ExtBut it s.heap h'->(∃ o,h'.get? e=some o/\o.cls = .type "StopIteration")->E (.ref e) { s with heap:=h' }):wpAny (model prog w) A (nextOf (.ref it)) Q E s:=by
 have ty:=hi.typeIs;obtain ⟨o,e1,e2,e3⟩:=id hi;obtain ⟨p,f1,f2,n,f3⟩:=ht;rw [nextOf]
 apply wpAny_bind
 apply wpAny_callSpecial?_slot (name:=Str.ofString "__next__") ty F.slot_tuple_iterator_next
 apply wpAny_call_entry F.slot_tuple_iterator_next ty F.entry_tuple_iterator_next _ (F.args_tuple_iterator_next_1 _)
 change wpAny (model prog w) A.in1 (field (.ref it) 0>>=_) _ _ _
 apply wpAny_bind;apply wpAny_field e1 e3 (x:=.ref t) rfl
 change wpAny (model prog w) A.in1 (field (.ref it) 1>>=_) _ _ _
 apply wpAny_bind;apply wpAny_field e1 e3 (x:=.int i 0) rfl
 change wpAny (model prog w) A.in1 (seqItems? (.ref t)>>=_) _ _ _
 apply wpAny_bind;apply wpAny_seqItems f1 f3
 dsimp only;rw [Int.toNat_natCast,hx];dsimp only;obtain ⟨c,dd,dt,sl⟩:=o;simp only at e2 e3;subst e2 e3
 apply wpAny_bind;apply wpAny_rule
 apply wpAny_bind;apply wpAny_setField e1 rfl (Nat.succ_pos 1)
 apply alj (show A.in1.handled=none from hh)
 exact λh' e k z=>q h' e (λb o nb eb=>k b o ((Heap.SameBut.update ..).extBut b o nb eb)) z
theorem adz{prog:Program}{w:World}{A:Around}(hh:A.handled=none)(it t:Addr)(ne:t≠it)(items:Array Value):Draws prog w A it [it,t] items.size (λi v=>items[i]? = some v) (λi h=>h.IsTupleIter it t i/\h.IsTuple t items) where
 live:=λ_ _ st=>let ⟨o,e,_⟩:=st.1; ⟨o,e⟩
 frame:=λ_ _ _ st k=>⟨let ⟨o,e,r⟩:=st.1; ⟨o,k it (by simp) o e,r⟩,let ⟨o,e,r⟩:=st.2; ⟨o,k t (by simp) o e,r⟩⟩
 item:=λi s Q E hi st q=>agr st.1 st.2 (Array.getElem?_eq_getElem hi) λh' a b=>q _ h' s.toks (Array.getElem?_eq_getElem hi) ⟨a,st.2.extBut b.extBut ne⟩ b
 done:=λs Q E st q=>alk hh st.1 st.2 (by simp) q
end
structure Ap (z TI TO i1 i2:Addr) (p q:List Addr):Prop where
 m1:i1∈p
 m2:i2∈q
 z1:z ∉ p
 z2:z ∉ q
 o1:TO ∉ p
 o2:TO ∉ q
 oz:TO≠z
 x1:i1 ∉ q
 x2:i2 ∉ p
section
variable{prog:Program}{w:World}{A:Around}{E:Value->Shared->Prop}{s:Shared}{z TI TO i1 i2:Addr}{p q:List Addr}{n1 n2 k:Nat}{P1 P2:Nat->Value->Prop}{S1 S2:Nat->Heap->Prop}{a b:Value}
theorem far{D:Draws prog w A i1 p n1 P1 S1}{h h':Heap}{c:Addr}(sb:Heap.SameBut c h h')(nc:c ∉ p)(st:S1 k h):S1 k h':=D.frame _ _ _ st λx hx o e=>sb.extBut x o (λy=>nc (y ▸ hx)) e
theorem ae0{Q:Fin->Shared->Prop}(hz:IsZip s.heap z TI TO .none)(hi:IsPair s.heap TI (.ref i1) (.ref i2))(ho:IsPair s.heap TO a b)(oz:TO≠z)
  (go:∀ h1,IsZip h1 z TI TO .ellipsis->Heap.SameBut z s.heap h1->wpAny (model prog w) A (nextOf (.ref i1))
   (λx s2=>IsPair s2.heap TO a b/\∀ h3,IsPair h3 TO x b->Heap.SameBut TO s2.heap h3->wpAny (model prog w) A (nextOf (.ref i2))
    (λy s4=>IsPair s4.heap TO x b/\∀ h5,IsPair h5 TO x y->Heap.SameBut TO s4.heap h5->IsZip h5 z TI TO .ellipsis/\∀ h8,IsZip h8 z TI TO (rawInt h5.objs.size)->IsPair h8 h5.objs.size x y->h8.objs.size=h5.objs.size+1->
     (∀ c o,c≠z->h5.get? c=some o->h8.get? c=some o)->Q (.done (.ret (.ref h5.objs.size))) { s4 with heap:=h8 })
    (λe s4=>wpAny (model prog w) A (setField (.ref z) 0 .none) (λ_ s5=>E e s5) E s4) { s2 with heap:=h3 })
   (λe s2=>wpAny (model prog w) A (setField (.ref z) 0 .none) (λ_ s3=>E e s3) E s2) { s with heap:=h1 }) :
  wpAny (model prog w) A (Builtin.«zip.__next__» ⟨[.ref z],[]⟩) Q E s:=by
 change wpAny (model prog w) A (field (.ref z) 2>>=_) _ _ _
 apply wpAny_bind;apply wpAny_field hz rfl (x:=.bool false) rfl
 change wpAny (model prog w) A (field (.ref z) 3>>=_) _ _ _
 apply wpAny_bind;apply wpAny_field hz rfl (x:=.ref TI) rfl
 apply wpAny_bind;apply wpAny_seqItems hi rfl
 change wpAny (model prog w) A (ownedTupleIsFree (.ref z)>>=_) _ _ _
 apply wpAny_bind
 rw [ownedTupleIsFree]
 apply wpAny_bind;apply wpAny_field hz rfl (x:=.none) rfl
 apply wpAny_pure
 rw [if_pos rfl]
 apply wpAny_bind;apply wpAny_rule
 apply wpAny_bind;apply wpAny_field hz rfl (x:=.ref TO) rfl
 apply wpAny_bind;apply wpAny_setField_rec hz (Nat.succ_pos _)
 intro h1 z1 b1
 apply wpAny_bind
 simp only [List.zipIdx_cons,List.zipIdx_nil,List.forIn_cons,List.forIn_nil]
 apply wpAny_bind;apply wpAny_bind;apply wpAny_onRaise
 change wpAny (model prog w) A (nextOf (.ref i1)>>=_) _ _ _
 apply wpAny_bind
 apply wpAny_mono (go h1 z1 b1) _ λ_ _ r=>r
 rintro x s2 ⟨o2,g2⟩
 apply wpAny_pure
 apply wpAny_bind;apply wpAny_seqItems o2 rfl
 apply wpAny_bind;apply wpAny_updateSeq_pair o2
 intro h3 o3 b3
 apply wpAny_bind;apply wpAny_letGo;apply wpAny_pure
 apply wpAny_bind;apply wpAny_bind;apply wpAny_onRaise
 change wpAny (model prog w) A (nextOf (.ref i2)>>=_) _ _ _
 apply wpAny_bind
 apply wpAny_mono (g2 h3 o3 b3) _ λ_ _ r=>r
 rintro y s4 ⟨o4,g4⟩
 apply wpAny_pure
 apply wpAny_bind;apply wpAny_seqItems o4 rfl
 apply wpAny_bind;apply wpAny_updateSeq_pair o4
 intro h5 o5 b5
 obtain ⟨z5,g5⟩:=g4 h5 o5 b5
 apply wpAny_bind;apply wpAny_letGo;apply wpAny_pure;apply wpAny_pure
 apply wpAny_bind;apply wpAny_seqItems o5 rfl
 apply wpAny_bind;refine wpAny_newTuple ?_ (by show 2<=sizeLine;decide)
 change wpAny (model prog w) A (ownedTupleHandOut (.ref z) (.ref h5.objs.size)>>=_) _ _ _
 apply wpAny_bind
 rw [ownedTupleHandOut];have z6:IsZip (h5.push { cls:=.type "tuple",data:=.seq #[x,y] }) z TI TO .ellipsis:=Heap.get?_push_of_some _ z5;have lt:z<h5.objs.size:=Heap.lt_size z5
 apply wpAny_bind;apply wpAny_setField_rec z6 (Nat.succ_pos _)
 intro h7 z7 b7
 apply wpAny_setField_rec z7 (by show 1<5;decide)
 intro h8 z8 b8
 apply wpAny_pure
 refine g5 h8 z8 (b8.extBut _ _ (Nat.ne_of_gt lt) (b7.extBut _ _ (Nat.ne_of_gt lt) (Heap.get?_push_size _ rfl))) ?_ λc o nc e=>b8.extBut _ _ nc (b7.extBut _ _ nc (Heap.get?_push_of_some _ e));rw [b8.1,b7.1,Heap.size_push]
theorem ags{Q:Value->Shared->Prop}(D1:Draws prog w A i1 p n1 P1 S1)(D2:Draws prog w A i2 q n2 P2 S2)(ap:Ap z TI TO i1 i2 p q)(hz:IsZip s.heap z TI TO .none)(hi:IsPair s.heap TI (.ref i1) (.ref i2))(ho:IsPair s.heap TO a b)
  (s1:S1 k s.heap) (s2:S2 k s.heap) (k1:k<n1) (k2:k<n2)
  (hQ:∀ x y h' tk,P1 k x->P2 k y->IsZip h' z TI TO (rawInt s.heap.objs.size)->IsPair h' TO x y->S1 (k+1) h'->S2 (k+1) h'->IsPair h' s.heap.objs.size x y->h'.objs.size=s.heap.objs.size+1->
   (∀ c o,c≠z->c≠TO->c≠i1->c≠i2->s.heap.get? c=some o->h'.get? c=some o)->Q (.ref s.heap.objs.size) { s with heap:=h',toks:=tk }) :
  wpAny (model prog w) A (Builtin.«zip.__next__» ⟨[.ref z],[]⟩) (λfin s'=>∃ v,fin = .done (.ret v)/\Q v s') E s:=by
 have ni1:i1≠z:=λe=>ap.z1 (e ▸ ap.m1);have ni2:i2≠z:=λe=>ap.z2 (e ▸ ap.m2);have no1:TO≠i1:=λe=>ap.o1 (e ▸ ap.m1);have no2:TO≠i2:=λe=>ap.o2 (e ▸ ap.m2);refine ae0 hz hi ho ap.oz λh1 z1 b1=>?_;refine D1.item k _ _ _ k1 (far (D:=D1) b1 ap.z1 s1) λx h2 t2 px st2 b2=>?_;refine ⟨b2.extBut _ _ no1 (b1.extBut _ _ ap.oz ho),λh3 o3 b3=>?_⟩;refine D2.item k _ _ _ k2 (far (D:=D2) b3 ap.o2 (far (D:=D2) b2 ap.x1 (far (D:=D2) b1 ap.z2 s2))) λy h4 t4 py st4 b4=>?_;refine ⟨b4.extBut _ _ no2 o3,λh5 o5 b5=>⟨b5.extBut _ _ ap.oz.symm (b4.extBut _ _ ni2.symm (b3.extBut _ _ ap.oz.symm (b2.extBut _ _ ni1.symm z1))),λh8 z8 t8 l8 k8=>⟨_,rfl,?_⟩⟩⟩
 have sz:h5.objs.size=s.heap.objs.size:=by rw [b5.1,b4.1,b3.1,b2.1,b1.1]
 have g1:S1 (k+1) h8:=D1.frame _ _ _ (far (D:=D1) b5 ap.o1 (far (D:=D1) b4 ap.x2 (far (D:=D1) b3 ap.o1 st2))) λc hc o e=>k8 c o (λy=>ap.z1 (y ▸ hc)) e;have g2:S2 (k+1) h8:=D2.frame _ _ _ (far (D:=D2) b5 ap.o2 st4) λc hc o e=>k8 c o (λy=>ap.z2 (y ▸ hc)) e;rw [sz] at z8 t8 l8 ⊢;exact hQ x y h8 t4 px py z8 (k8 _ _ ap.oz o5) g1 g2 t8 l8 λc o c1 c2 c3 c4 e=>k8 c o c1 (b5.extBut _ _ c2 (b4.extBut _ _ c4 (b3.extBut _ _ c2 (b2.extBut _ _ c3 (b1.extBut _ _ c1 e)))))
theorem alm{Q:Fin->Shared->Prop}(D1:Draws prog w A i1 p n1 P1 S1)(D2:Draws prog w A i2 q n2 P2 S2)(ap:Ap z TI TO i1 i2 p q)(hz:IsZip s.heap z TI TO .none)(hi:IsPair s.heap TI (.ref i1) (.ref i2))(ho:IsPair s.heap TO a b)
  (s1:S1 k s.heap) (s2:S2 k s.heap) (kk:k=n1\/(k<n1/\k=n2))
  (hE:∀ h' tk e,(∀ c o,c≠z->c≠TO->c≠i1->c≠i2->s.heap.get? c=some o->h'.get? c=some o)->(∃ o,h'.get? e=some o/\o.cls = .type "StopIteration")->E (.ref e) { s with heap:=h',toks:=tk }) :
  wpAny (model prog w) A (Builtin.«zip.__next__» ⟨[.ref z],[]⟩) Q E s:=by
 have ni1:i1≠z:=λe=>ap.z1 (e ▸ ap.m1);have ni2:i2≠z:=λe=>ap.z2 (e ▸ ap.m2);have no1:TO≠i1:=λe=>ap.o1 (e ▸ ap.m1);have stop:∀ {h:Heap} {e:Addr},(∃ o,h.get? e=some o/\o.cls = .type "StopIteration")->IsZip h z TI TO .ellipsis->e≠z:=λ{h e} ⟨o,eo,ec⟩ zz y=>by
  subst y;rw [zz] at eo;cases eo;simp at ec
 refine ae0 hz hi ho ap.oz λh1 z1 b1=>?_
 rcases kk with rfl | ⟨k1,rfl⟩
 ·refine D1.done _ _ _ (far (D:=D1) b1 ap.z1 s1) λh2 e x2 st=>?_;have z2:IsZip h2 z TI TO .ellipsis:=x2 _ _ ni1.symm z1;have ne:=stop st z2;obtain ⟨oe,f1,f2⟩:=st;refine wpAny_setField_rec z2 (Nat.succ_pos _) λh3 _ b3=>?_;exact hE h3 _ e (λc o c1 _ c3 _ y=>b3.extBut _ _ c1 (x2 _ _ c3 (b1.extBut _ _ c1 y))) ⟨oe,b3.extBut _ _ ne f1,f2⟩
 ·refine D1.item k _ _ _ k1 (far (D:=D1) b1 ap.z1 s1) λx h2 t2 px st2 b2=>?_;refine ⟨b2.extBut _ _ no1 (b1.extBut _ _ ap.oz ho),λh3 o3 b3=>?_⟩;refine D2.done _ _ _ (far (D:=D2) b3 ap.o2 (far (D:=D2) b2 ap.x1 (far (D:=D2) b1 ap.z2 s2))) λh4 e x4 st=>?_;have z4:IsZip h4 z TI TO .ellipsis:=x4 _ _ ni2.symm (b3.extBut _ _ ap.oz.symm (b2.extBut _ _ ni1.symm z1));have ne:=stop st z4;obtain ⟨oe,f1,f2⟩:=st;refine wpAny_setField_rec z4 (Nat.succ_pos _) λh5 _ b5=>?_;exact hE h5 _ e (λc o c1 c2 c3 c4 y=>b5.extBut _ _ c1 (x4 _ _ c4 (b3.extBut _ _ c2 (b2.extBut _ _ c3 (b1.extBut _ _ c1 y))))) ⟨oe,b5.extBut _ _ ne f1,f2⟩
theorem next_item{Q:Option Value->Shared->Prop}(D1:Draws prog w A.in1 i1 p n1 P1 S1)(D2:Draws prog w A.in1 i2 q n2 P2 S2)(ap:Ap z TI TO i1 i2 p q)(hz:IsZip s.heap z TI TO .none)(hi:IsPair s.heap TI (.ref i1) (.ref i2))(ho:IsPair s.heap TO a b)
  (s1:S1 k s.heap) (s2:S2 k s.heap) (k1:k<n1) (k2:k<n2)
  (hQ:∀ x y h' tk,P1 k x->P2 k y->IsZip h' z TI TO (rawInt s.heap.objs.size)->IsPair h' TO x y->S1 (k+1) h'->S2 (k+1) h'->IsPair h' s.heap.objs.size x y->h'.objs.size=s.heap.objs.size+1->
   (∀ c o,c≠z->c≠TO->c≠i1->c≠i2->s.heap.get? c=some o->h'.get? c=some o)->Q (some (.ref s.heap.objs.size)) { s with heap:=h',toks:=tk }):wpAny (model prog w) A (pyNext (.ref z)) Q E s:=by
 have ty:s.TypeIs (.ref z) "zip":=⟨_,hz,rfl⟩;rw [pyNext]
 apply wpAny_bind;apply wpAny_attempt
 apply wpAny_callSpecial?_slot (name:=Str.ofString "__next__") ty F.slot_zip_next
 apply wpAny_call_entry F.slot_zip_next ty F.entry_zip_next _ (F.args_zip_next_1 _)
 exact ags D1 D2 ap hz hi ho s1 s2 k1 k2 λx y h' tk c1 c2 c3 c4 c5 c6 c7 c8 c9=>wpAny_pure (hQ x y h' tk c1 c2 c3 c4 c5 c6 c7 c8 c9)
theorem next_end{Q:Option Value->Shared->Prop}(D1:Draws prog w A.in1 i1 p n1 P1 S1)(D2:Draws prog w A.in1 i2 q n2 P2 S2)(ap:Ap z TI TO i1 i2 p q)(hz:IsZip s.heap z TI TO .none)(hi:IsPair s.heap TI (.ref i1) (.ref i2))(ho:IsPair s.heap TO a b)
  (s1:S1 k s.heap) (s2:S2 k s.heap) (kk:k=n1\/(k<n1/\k=n2))
  (hQ:∀ h' tk,(∀ c o,c≠z->c≠TO->c≠i1->c≠i2->s.heap.get? c=some o->h'.get? c=some o)->Q none { s with heap:=h',toks:=tk }):wpAny (model prog w) A (pyNext (.ref z)) Q E s:=by
 have ty:s.TypeIs (.ref z) "zip":=⟨_,hz,rfl⟩;rw [pyNext]
 apply wpAny_bind;apply wpAny_attempt
 apply wpAny_callSpecial?_slot (name:=Str.ofString "__next__") ty F.slot_zip_next
 apply wpAny_call_entry F.slot_zip_next ty F.entry_zip_next _ (F.args_zip_next_1 _)
 refine alm D1 D2 ap hz hi ho s1 s2 kk λh' tk e kp ⟨o,f1,f2⟩=>?_;refine wpAny_bind (wpAny_isInstance (b:=true) (T := "StopIteration") ⟨o,f1,f2⟩ isSubtype_stop (wpAny_pure (hQ h' tk kp)))
end
end ZP
namespace ZP
open PySem PySem.Spec PySem.Builtin PySem.Builtin.SmallTypes L2
inductive Srk where
 | tup (a:Addr) | lst (a:Addr) | str (x:Str)
def Srk.v:Srk->V
 | .tup a=>.ref a
 | .lst a=>.ref a
 | .str x=>.str x
def its(H:Hp):Srk->Option (List V)
 | .tup a=>match H a with | some (.tup vs)=>some vs | _=>none
 | .lst a=>match H a with | some (.lst vs)=>some vs | some (.frz _ (.lst vs))=>some vs | _=>none
 | .str x=>some (a0r x)
def own(it:Addr)(t:Tok):Srk->Nat->Heap->Prop
 | .tup a,i,h=>h.IsTupleIter it a i
 | .lst a,i,h=>h.IsListIter it a i
 | .str x,i,h=>h.IsStrIter it (strIterType x) x t i
def iob(t:Tok):Srk->Obj
 | .tup a=>{ cls:=.type "tuple_iterator",data:=.fields #[.ref a, .int 0 0] }
 | .lst a=>{ cls:=.type "list_iterator",data:=.fields #[.ref a, .int 0 0] }
 | .str x=>{ cls:=.type (strIterType x),data:=.fields #[.str x t, .int 0 0] }
def val(t:Tok):Srk->Value
 | .tup a=>.ref a
 | .lst a=>.ref a
 | .str x=>.str x t
def cont(h:Heap):Srk->List Value->Prop
 | .tup a,us=>h.IsTuple a us.toArray
 | .lst a,us=>h.IsList a us.toArray
 | .str x,us=>True
theorem asd{it:Addr}{t:Tok}{k:Srk}{h:Heap}(e:h.get? it=some (iob t k)):own it t k 0 h:=by
 cases k with
 | tup a=>exact ⟨_,e,rfl,rfl⟩
 | lst a=>exact ⟨_,e,rfl,rfl⟩
 | str x=>exact ⟨_,e,rfl,rfl⟩
theorem a0z{it:Addr}{t:Tok}{k:Srk}{i:Nat}{h:Heap}(o:own it t k i h):∃ ob,h.get? it=some ob/\∀ v,ob.data≠.cell v:=by
 cases k with
 | tup a=>obtain ⟨ob,e,_,d⟩:=o;exact ⟨ob,e,λv z=>by rw [d] at z;cases z⟩
 | lst a=>obtain ⟨ob,e,_,d⟩:=o;exact ⟨ob,e,λv z=>by rw [d] at z;cases z⟩
 | str x=>obtain ⟨ob,e,_,d⟩:=o;exact ⟨ob,e,λv z=>by rw [d] at z;cases z⟩
theorem zq{it:Addr}{t:Tok}{k:Srk}{i:Nat}{h h':Heap}(o:own it t k i h)(kk:∀ ob,h.get? it=some ob->h'.get? it=some ob):own it t k i h':=by
 cases k with
 | tup a=>obtain ⟨ob,e,r⟩:=o;exact ⟨ob,kk _ e,r⟩
 | lst a=>obtain ⟨ob,e,r⟩:=o;exact ⟨ob,kk _ e,r⟩
 | str x=>obtain ⟨ob,e,r⟩:=o;exact ⟨ob,kk _ e,r⟩
section
variable{P:Program}{w:World}{H:Hp}{s:Shared}
theorem a2s{X:Cx}{pins:List (Addr × Obj)}{σ:St}(I:Inv X pins σ H s){k:Srk}{xs:List V}(e:its H k=some xs):∃ us,cont s.heap k us/\((∀ x,k≠.str x)->Vals xs us):=by
 cases k with
 | tup a =>
  cases q:H a with
  | none=>simp [its,q] at e
  | some o =>
   cases o with
   | tup vs =>
    simp [its,q] at e;subst e
    obtain ⟨us,r,t,_⟩:=I.tuple (SqT.of q);exact ⟨us,t,λ_=>r⟩
   | _=>simp [its,q] at e
 | lst a =>
  cases q:H a with
  | none=>simp [its,q] at e
  | some o =>
   cases o with
   | lst vs =>
    simp [its,q] at e;subst e
    obtain ⟨us,r,t,_⟩:=I.list (SqL.of q);exact ⟨us,t.isList,λ_=>r⟩
   | frz ob u =>
    cases u with
    | lst vs =>
     simp [its,q] at e;subst e
     obtain ⟨us,r,t,_⟩:=I.list (.inl (.inr ⟨_,q⟩));exact ⟨us,t.isList,λ_=>r⟩
    | _=>simp [its,q] at e
   | _=>simp [its,q] at e
 | str x=>exact ⟨[],True.intro,λn=>absurd rfl (n x)⟩
theorem a1a{X:Cx}{pins:List (Addr × Obj)}{σ:St}(I:Inv X pins σ H s){k:Srk}{xs:List V}{it:Addr}{t:Tok}(e:its H k=some xs)(hn:H it=none) :
  ∃ (cs:List Addr) (P1:Nat->Value->Prop) (S1:Nat->Heap->Prop),(∀ A:Around,A.handled=none->Draws X.prog X.w A it (it::cs) xs.length P1 S1)/\(∀ i,own it t k i s.heap->S1 i s.heap)/\(∀ i h,S1 i h->own it t k i h)/\(∀ c∈cs,H c≠none) /\
   ∀ i v,P1 i v->∃ x,xs[i]? = some x/\RelV x v:=by
 cases k with
 | tup a =>
  obtain ⟨us,c,r⟩:=a2s I e;have r:=r (by intro x z;cases z)
  have ha:H a≠none:=λz=>by simp [its,z] at e
  have l:us.toArray.size=xs.length:=by rw [List.size_toArray,r.length]
  refine ⟨[a],λi v=>us.toArray[i]? = some v,λi h=>h.IsTupleIter it a i/\h.IsTuple a us.toArray,λA hA=>?_,λi o=>⟨o,c⟩,λi h z=>z.1,λc hc=>by rw [List.mem_singleton.mp hc];exact ha,λi v z=>?_⟩
  ·have:=adz (prog:=X.prog) (w:=X.w) hA it a (λy=>ha (y ▸ hn)) us.toArray
   rw [l] at this;exact this
  ·have z':us[i]? = some v:=by simpa using z
   have hi:i<xs.length:=by rw [r.length];exact (List.getElem?_eq_some_iff.mp z').1
   obtain ⟨u,e1,e2⟩:=r.get (List.getElem?_eq_getElem hi);rw [z'] at e1;cases e1
   exact ⟨_,List.getElem?_eq_getElem hi,e2⟩
 | lst a =>
  obtain ⟨us,c,r⟩:=a2s I e;have r:=r (by intro x z;cases z)
  have ha:H a≠none:=λz=>by simp [its,z] at e
  have l:us.toArray.size=xs.length:=by rw [List.size_toArray,r.length]
  refine ⟨[a],λi v=>us.toArray[i]? = some v,λi h=>h.IsListIter it a i/\h.IsList a us.toArray,λA hA=>?_,λi o=>⟨o,c⟩,λi h z=>z.1,λc hc=>by rw [List.mem_singleton.mp hc];exact ha,λi v z=>?_⟩
  ·have:=Draws.list (prog:=X.prog) (w:=X.w) hA it a (λy=>ha (y ▸ hn)) us.toArray
   rw [l] at this;exact this
  ·have z':us[i]? = some v:=by simpa using z
   have hi:i<xs.length:=by rw [r.length];exact (List.getElem?_eq_some_iff.mp z').1
   obtain ⟨u,e1,e2⟩:=r.get (List.getElem?_eq_getElem hi);rw [z'] at e1;cases e1
   exact ⟨_,List.getElem?_eq_getElem hi,e2⟩
 | str x =>
  cases e
  have l:(a0r x).length=x.cps.size:=by simp [a0r]
  refine ⟨[],λi v=>∃ c u,x.cps[i]? = some c/\v = .str ⟨#[c]⟩ u,λi h=>h.IsStrIter it (strIterType x) x t i,λA hA=>?_,λi o=>o,λi h z=>z,λc hc=>(by cases hc),λi v z=>?_⟩
  ·rw [l]
   cases ha:x.cps.all (· < 128)
   ·have:=Draws.strWide (prog:=X.prog) (w:=X.w) hA it x t
    simpa [strIterType,ha] using this
   ·have:=Draws.strAscii (prog:=X.prog) (w:=X.w) hA it x t
    simpa [strIterType,ha] using this
  ·obtain ⟨c,u,e1,rfl⟩:=z;exact ⟨.str ⟨#[c]⟩,by simp [a0r,e1],⟨_,rfl⟩⟩
end
def ItZ(k1 k2:Srk):It where
 go:=λi H=>∃ xs ys x y,its H k1=some xs/\its H k2=some ys/\xs[i]? = some x/\ys[i]? = some y
 yld:=λi H v H'=>∃ xs ys x y p,its H k1=some xs/\its H k2=some ys/\xs[i]? = some x/\ys[i]? = some y/\H p=none/\v = .ref p/\H'=upd H p (.tup [x,y])
 stop:=λi H=>∃ xs ys,its H k1=some xs/\its H k2=some ys/\(i=xs.length\/(i<xs.length/\i=ys.length))
def tnZ(z TI TO i1 i2:Addr)(t1 t2:Tok)(k1 k2:Srk)(i:Nat)(h:Heap):Prop :=
 IsZip h z TI TO .none/\IsPair h TI (.ref i1) (.ref i2)/\(∃ a b,IsPair h TO a b)/\own i1 t1 k1 i h/\own i2 t2 k2 i h
structure Far (z TI TO i1 i2:Addr):Prop where
 a:TI≠z
 b:TO≠z
 c:i1≠z
 d:i2≠z
 e:TI≠TO
 f:TI≠i1
 g:TI≠i2
 h:TO≠i1
 i:TO≠i2
 j:i1≠i2
theorem a2t{X:Cx}{pins:List (Addr × Obj)}{σ:St}{H:Hp}{s:Shared}{h':Heap}{t':Nat}{ch:List Addr}(I:Inv X pins σ H s)(hf:∀ b∈ch,a8z X pins H b)(k:∀ b o,b ∉ ch->s.heap.get? b=some o->h'.get? b=some o) :
  Inv X pins σ H { s with heap:=h',toks:=t' }:=by
 have nit:∀ b u,H b=some u->b ∉ ch:=λb u e z=>by rw [(hf b z).1] at e;cases e
 refine I.step (g':=s.gens) (d':=s.drawn) (ch:=ch) (λb hb=>?_) (λb o _ _ hc e _=>k b o hc e) (λb o _ _ hc e _=>⟨o.slots,k b o hc e⟩) (λ_ _ _ _ n=>n) (λb o hc e=>⟨o,k b o hc e⟩) (λ_ _ e=>e) (λ_ _ _ e=>e)
  (λb ps e=>⟨#[],by rw [e];simp⟩) (λm hm=>?_) (λb u e=>?_) I.bare
 ·obtain ⟨_,f1,_,f3,f4,f5⟩:=hf b hb;exact ⟨f3,f1,f4,f5⟩
 ·obtain ⟨o,es,ep,ho,r⟩:=hm;exact ⟨o,es,ep,k _ o (λz=>(hf _ z).2.1 rfl) ho,r⟩
 ·refine (I.hok b u e).stay (λc v hc q=>k c v ?_ q) (λ_ q=>q) λ_ _ q=>q
  rcases hc with z | z
  ·rw [z];exact nit b u e
  ·exact nit c _ z
theorem agt{P:Program}{w:World}{K:PySem.W.Frag}{elts:List Expr}{x1:Nat}{pos:Pos}{z TI TO i1 i2:Addr}{t1 t2:Tok}{k1 k2:Srk}(f:Far z TI TO i1 i2):Turn P w K (.Tuple elts x1 pos) (ItZ k1 k2) [z,TI,TO,i1,i2] z (tnZ z TI TO i1 i2 t1 t2 k1 k2) where
 mem:=by simp
 obj:=λi h st b hb=>by
  obtain ⟨h1,h2,⟨a,b',h3⟩,h4,h5⟩:=st;simp only [List.mem_cons,List.not_mem_nil,or_false] at hb
  rcases hb with rfl | rfl | rfl | rfl | rfl
  ·exact ⟨_,h1,λv z=>(by cases z)⟩
  ·exact ⟨_,h2,λv z=>(by cases z)⟩
  ·exact ⟨_,h3,λv z=>(by cases z)⟩
  ·exact a0z h4
  ·exact a0z h5
 keep:=λi h h' st k=>by
  obtain ⟨h1,h2,⟨a,b',h3⟩,h4,h5⟩:=st;exact ⟨k z (by simp) _ h1,k TI (by simp) _ h2,⟨a,b',k TO (by simp) _ h3⟩,zq h4 λob e=>k i1 (by simp) ob e,zq h5 λob e=>k i2 (by simp) ob e⟩
 item:=by
  intro X hP hw hK hc i pins s σ H E I hf st hg
  subst hP hw hK;obtain ⟨xs,ys,x,y,e1,e2,g1,g2⟩:=hg;obtain ⟨h1,h2,⟨a,b,h3⟩,h4,h5⟩:=st;have n:∀ c∈[z,TI,TO,i1,i2],H c=none:=λc hc=>(hf c hc).1;obtain ⟨cs,P1,S1,D1,a1,b1,c1,d1⟩:=a1a I (t:=t1) e1 (n i1 (by simp))
  obtain ⟨ds,P2,S2,D2,a2,b2,c2,d2⟩:=a1a I (t:=t2) e2 (n i2 (by simp))
  have hd:=I.ok.hd hc;have out1:∀ c,H c=none->c ∉ cs:=λc e z=>c1 c z e;have out2:∀ c,H c=none->c ∉ ds:=λc e z=>c2 c z e;have ap:Ap z TI TO i1 i2 (i1::cs) (i2::ds):=⟨by simp,by simp,by simp [f.c.symm,out1 z (n z (by simp))],by simp [f.d.symm,out2 z (n z (by simp))],by simp [f.h,out1 TO (n TO (by simp))],by simp [f.i,out2 TO (n TO (by simp))],f.b,by simp [f.j,out2 i1 (n i1 (by simp))],by simp [f.j.symm,out1 i2 (n i2 (by simp))]⟩
  refine next_item (D1 X.A.in1 hd) (D2 X.A.in1 hd) ap h1 h2 h3 (a1 i h4) (a2 i h5) (List.getElem?_eq_some_iff.mp g1).1 (List.getElem?_eq_some_iff.mp g2).1 λu v h' tk pu pv z' to' s1' s2' pr sz kp=>?_;obtain ⟨x',q1,r1⟩:=d1 i u pu;obtain ⟨y',q2,r2⟩:=d2 i v pv;rw [g1] at q1;cases q1
  rw [g2] at q2;cases q2
  refine ⟨_,rfl,wpAny_letOwnedTupleGo_zip z' λh2' z2' sb=>?_⟩;have hp:H s.heap.objs.size=none:=I.hok.fresh (Nat.le_refl _);have lt:∀ c∈[z,TI,TO,i1,i2],c<s.heap.objs.size:=λc hc=>by
   simp only [List.mem_cons,List.not_mem_nil,or_false] at hc
   rcases hc with rfl | rfl | rfl | rfl | rfl
   ·exact Heap.lt_size h1
   ·exact Heap.lt_size h2
   ·exact Heap.lt_size h3
   ·obtain ⟨_,e,_⟩:=a0z h4;exact Heap.lt_size e
   ·obtain ⟨_,e,_⟩:=a0z h5;exact Heap.lt_size e
  have all:∀ c o,c ∉ [z,TI,TO,i1,i2]->s.heap.get? c=some o->h2'.get? c=some o:=λc o nc e=>by
   simp only [List.mem_cons,List.not_mem_nil,or_false,not_or] at nc;exact (sb.2 c nc.1).trans (kp c o nc.1 nc.2.2.1 nc.2.2.2.1 nc.2.2.2.2 e)
  have nT:∀ c∈[z,TI,TO,i1,i2],c≠s.heap.objs.size:=λc hc=>Nat.ne_of_lt (lt c hc);have I0:Inv X pins σ (upd H s.heap.objs.size (.tup [x,y])) { s with heap:=s.heap.push { cls:=.type "tuple",data:=.seq #[u,v] } } :=
   I.laid (t':=s.toks) (o:=.tup [x,y]) (λb o e=>Heap.get?_push_of_some _ e) (Nat.le_refl _) ⟨by show 2<=sizeLine;decide,[u,v], .cons r1 (.cons r2 .nil),⟨_,Heap.get?_push_size _ rfl,rfl,_,rfl⟩⟩
  have I1:Inv X pins σ (upd H s.heap.objs.size (.tup [x,y])) { s with heap:=h2',toks:=tk }:=by
   refine a2t (s:={ s with heap:=s.heap.push { cls:=.type "tuple",data:=.seq #[u,v] } }) (ch:=[z,TI,TO,i1,i2]) I0 (λb hb=>?_) λc o nc e=>?_
   ·obtain ⟨f0,f1⟩:=hf b hb;exact ⟨by rw [jw (nT b hb)];exact f0,f1⟩
   ·rcases Heap.get?_push_cases e with ⟨rfl,rfl⟩ | e
    ·exact (sb.2 _ (nT z (by simp)).symm).trans pr
    ·exact all c o nc e
  refine ⟨.ref s.heap.objs.size,_,I1,rfl,⟨xs,ys,x,y,_,e1,e2,g1,g2,hp,rfl,rfl⟩,⟨z2',?_,⟨u,v,(sb.2 _ f.b).trans to'⟩,zq (b1 _ _ s1') λob e=>(sb.2 _ f.c).trans e,zq (b2 _ _ s2') λob e=>(sb.2 _ f.d).trans e⟩,λb hb=>?_⟩
  ·exact (sb.2 _ f.a).trans (kp TI _ f.a f.e f.f f.g h2)
  ·rw [jw (nT b hb)];exact n b hb
 done:=by
  intro X hP hw hK hc i pins s σ H E I hf st hg
  subst hP hw hK;obtain ⟨xs,ys,e1,e2,g⟩:=hg;obtain ⟨h1,h2,⟨a,b,h3⟩,h4,h5⟩:=st;have n:∀ c∈[z,TI,TO,i1,i2],H c=none:=λc hc=>(hf c hc).1;obtain ⟨cs,P1,S1,D1,a1,b1,c1,d1⟩:=a1a I (t:=t1) e1 (n i1 (by simp))
  obtain ⟨ds,P2,S2,D2,a2,b2,c2,d2⟩:=a1a I (t:=t2) e2 (n i2 (by simp))
  have hd:=I.ok.hd hc;have out1:∀ c,H c=none->c ∉ cs:=λc e z=>c1 c z e;have out2:∀ c,H c=none->c ∉ ds:=λc e z=>c2 c z e;have ap:Ap z TI TO i1 i2 (i1::cs) (i2::ds):=⟨by simp,by simp,by simp [f.c.symm,out1 z (n z (by simp))],by simp [f.d.symm,out2 z (n z (by simp))],by simp [f.h,out1 TO (n TO (by simp))],by simp [f.i,out2 TO (n TO (by simp))],f.b,by simp [f.j,out2 i1 (n i1 (by simp))],by simp [f.j.symm,out1 i2 (n i2 (by simp))]⟩
  refine next_end (D1 X.A.in1 hd) (D2 X.A.in1 hd) ap h1 h2 h3 (a1 i h4) (a2 i h5) g λh' tk kp=>⟨rfl,a2t I hf λc o nc e=>?_⟩;simp only [List.mem_cons,List.not_mem_nil,or_false,not_or] at nc;exact kp c o nc.1 nc.2.2.1 nc.2.2.2.1 nc.2.2.2.2 e
 self:=λ_ _ _ _ _ st h=>wpAny_pyIter_zip st.1 h
theorem ae1{h:Heap}{k:Srk}{us:List Value}(c:cont h k us)(o:Obj):cont (h.push o) k us:=by
 cases k with
 | tup a=>obtain ⟨ob,e,r⟩:=c;exact ⟨ob,Heap.get?_push_of_some _ e,r⟩
 | lst a=>obtain ⟨ob,e,r⟩:=c;exact ⟨ob,Heap.get?_push_of_some _ e,r⟩
 | str x=>trivial
theorem zr{prog:Program}{w:World}{A:Around}{E:Value->Shared->Prop}{s:Shared}{k:Srk}{t:Tok}{us:List Value}{Q:Value->Shared->Prop}(c:cont s.heap k us)(q:Q (.ref s.heap.objs.size) { s with heap:=s.heap.push (iob t k) }) :
  wpAny (model prog w) A (pyIter (val t k)) Q E s:=by
 cases k with
 | tup a=>exact wpAny_pyIter_tuple c q
 | lst a=>exact wpAny_pyIter_list c q
 | str x=>exact wpAny_pyIter_strU q
def mk2(h:Heap)(t1 t2:Tok)(k1 k2:Srk):Heap:=(h.push (iob t1 k1)).push (iob t2 k2)
def mk5(h:Heap)(t1 t2:Tok)(k1 k2:Srk):Heap :=
 (((mk2 h t1 t2 k1 k2).push { cls:=.type "tuple",data:=.seq #[.ref h.objs.size, .ref (h.objs.size+1)] }).push { cls:=.type "tuple",data:=.seq #[.none, .none] }).push
  { cls:=.type "zip",data:=.fields #[.none, .bool false, .bool false, .ref (h.objs.size+2), .ref (h.objs.size+3)] }
theorem agu(t1 t2:Tok)(k1 k2:Srk)(us1 us2:List Value):Meets (Builtin.«zip.__new__» ⟨[.type "zip",val t1 k1,val t2 k2],[]⟩)
  (λ_ R s=>cont s.heap k1 us1/\cont s.heap k2 us2/\R (.ok (.ret (.ref (s.heap.objs.size+4)))) { s with heap:=mk5 s.heap t1 t2 k1 k2 }) :=
 .of_wp λprog w A R s h=>by
  obtain ⟨hp,g,d,tk,os⟩:=s;obtain ⟨c1,c2,h⟩:=h;have sub:=sub_zip;have c1':cont (Shared.heap ⟨hp,g,d,tk,os⟩) k1 us1:=c1;have c2':cont (Shared.heap ⟨hp.push (iob t1 k1),g,d,tk,os⟩) k2 us2:=ae1 c2 _
  wp_walk using zr (t:=t1) c1',zr (t:=t2) c2'
  refine ⟨_,rfl,?_⟩;simpa [mk5,mk2,Heap.size_push,ownedTupleFields,Nat.add_assoc] using h
theorem atv(n:Nat):Far (n+4) (n+2) (n+3) n (n+1):=by
 refine ⟨?_,?_,?_,?_,?_,?_,?_,?_,?_,?_⟩<;>(intro z;have z:(_:Nat)=_:=z;omega)
theorem awc(n b:Nat)(h:b∈[n+4,n+2,n+3,n,n+1]):n<=b:=by
 simp only [List.mem_cons,List.not_mem_nil,or_false] at h;omega
section
variable{X:Cx}{elts:List Expr}{x1:Nat}{tpos:Pos}
def awd(ta:TA):TI:=λσ H R=>ta σ H λvs H1=>∃ k1 k2 xs ys,vs=[Srk.v k1,Srk.v k2]/\its H1 k1=some xs/\its H1 k2=some ys/\R (ItZ k1 k2) H1
theorem aaf{k:Srk}{u:Value}(r:RelV k.v u):∃ t,u=val t k:=by
 cases k with
 | tup a=>cases r;exact ⟨0,rfl⟩
 | lst a=>cases r;exact ⟨0,rfl⟩
 | str x=>obtain ⟨t,rfl⟩:=r;exact ⟨t,rfl⟩
theorem apd{e1 e2:Expr}{ta:TA}{p pos:Pos}(hg:Gl X "zip")(hm:X.mg "zip" = none)(hb:bootBuiltins "zip" = some (.type "zip"))(ha:PA X [e1,e2] ta)
  (h1:starEach [e1,e2] X.env=[(false,eval e1 X.env),(false,eval e2 X.env)]:=by rfl) (h2:starEach [e2] X.env=[(false,eval e2 X.env)]:=by rfl):PI X (.Tuple elts x1 tpos) (.Call (.Name "zip" p) [e1,e2] [] pos) (awd ta):=by
 intro pins s σ H R I h
 refine wpAny_Call_Name_kw (a3f I hg hm hb ?_ (by decide) (by decide))
 refine PyProof.Rows.callWith_type1 (thn (ha pos pins s σ H _ I h) λus s1 ⟨vs,H1,I1,r1,q1⟩=>?_) (by rw [h1,h2]) (by rw [h2];rfl)
 obtain ⟨k1,k2,xs,ys,rfl,e1,e2,q⟩:=q1;obtain ⟨v1,v2,rfl,rv1,rv2⟩:=vals2 r1;obtain ⟨t1,rfl⟩:=aaf rv1;obtain ⟨t2,rfl⟩:=aaf rv2;obtain ⟨us1,c1,_⟩:=a2s I1 e1;obtain ⟨us2,c2,_⟩:=a2s I1 e2;refine callType_new F.called_zip (by decide) (F.typeCall_zip_2 _ _) (F.newCall_zip_2 _ _) (λobj=>F.args_object_init_3 obj _ _) F.entry_zip_new (agu t1 t2 k1 k2 us1 us2) ⟨c1,c2,?_⟩
 have z2:(mk2 s1.heap t1 t2 k1 k2).objs.size=s1.heap.objs.size+2:=by simp [mk2,Heap.size_push]
 have at0:(mk5 s1.heap t1 t2 k1 k2).get? s1.heap.objs.size=some (iob t1 k1):=by
  unfold mk5 mk2;exact Heap.get?_push_of_some _ (Heap.get?_push_of_some _ (Heap.get?_push_of_some _ (Heap.get?_push_of_some _ (Heap.get?_push_size _ (by cases k1<;>rfl)))))
 have at1:(mk5 s1.heap t1 t2 k1 k2).get? (s1.heap.objs.size+1)=some (iob t2 k2):=by
  unfold mk5 mk2;have:=Heap.get?_push_size (o:=iob t2 k2) (s1.heap.push (iob t1 k1)) (by cases k2<;>rfl)
  rw [Heap.size_push] at this;exact Heap.get?_push_of_some _ (Heap.get?_push_of_some _ (Heap.get?_push_of_some _ this))
 have at2:IsPair (mk5 s1.heap t1 t2 k1 k2) (s1.heap.objs.size+2) (.ref s1.heap.objs.size) (.ref (s1.heap.objs.size+1)):=by
  unfold mk5;rw [<-z2];exact Heap.get?_push_of_some _ (Heap.get?_push_of_some _ (Heap.get?_push_size _ rfl))
 have at3:IsPair (mk5 s1.heap t1 t2 k1 k2) (s1.heap.objs.size+3) .none .none:=by
  unfold mk5;have:=Heap.get?_push_size (o:={ cls:=.type "tuple",data:=.seq #[.none, .none] }) ((mk2 s1.heap t1 t2 k1 k2).push { cls:=.type "tuple",data:=.seq #[.ref s1.heap.objs.size, .ref (s1.heap.objs.size+1)] }) rfl;rw [Heap.size_push,z2] at this;exact Heap.get?_push_of_some _ this
 have at4:IsZip (mk5 s1.heap t1 t2 k1 k2) (s1.heap.objs.size+4) (s1.heap.objs.size+2) (s1.heap.objs.size+3) .none:=by
  unfold mk5;have:=Heap.get?_push_size (o:={ cls:=.type "zip",data:=.fields #[.none, .bool false, .bool false, .ref (s1.heap.objs.size+2), .ref (s1.heap.objs.size+3)] }) (((mk2 s1.heap t1 t2 k1 k2).push { cls:=.type "tuple",data:=.seq #[.ref s1.heap.objs.size, .ref (s1.heap.objs.size+1)] }).push { cls:=.type "tuple",data:=.seq #[.none, .none] }) rfl;rw [Heap.size_push,Heap.size_push,z2] at this;exact this
 have keepA:∀ b o,s1.heap.get? b=some o->(mk5 s1.heap t1 t2 k1 k2).get? b=some o:=λb o e=>by
  unfold mk5 mk2;exact Heap.get?_push_of_some _ (Heap.get?_push_of_some _ (Heap.get?_push_of_some _ (Heap.get?_push_of_some _ (Heap.get?_push_of_some _ e))))
 have I2:Inv X pins σ H1 { s1 with heap:=mk5 s1.heap t1 t2 k1 k2 }:=I1.kept (t':=s1.toks) keepA
 refine ⟨⟨_,at4,rfl⟩,?_⟩;refine wpAny_pyIter_zip (s:={ s1 with heap:=mk5 s1.heap t1 t2 k1 k2 }) at4 ?_
 refine ⟨s1.heap.objs.size+4,[s1.heap.objs.size+4,s1.heap.objs.size+2,s1.heap.objs.size+3,s1.heap.objs.size,s1.heap.objs.size+1],tnZ _ _ _ _ _ t1 t2 k1 k2,ItZ k1 k2,H1,rfl,I2,agt (atv s1.heap.objs.size),
  ⟨at4,at2,⟨_,_,at3⟩,asd at0,asd at1⟩,λb hb=>?_,q⟩
 have:s1.heap.objs.size<=b:=awc _ b hb
 exact I1.fpOk this (I1.hok.fresh this)
end
end ZP
namespace MI
open PySem PySem.Spec L2 ZP
def srcOf(d:D)(h:Hd):Option (List D × (Hd->Prop)):=match d with
 | .tup xs=>some (xs,λ_=>True)
 | .rol xs=>some (xs,λ_=>True)
 | .str x=>some (a0a x,λ_=>True)
 | .ref i=>(match h[i]? with | some (.lst xs)=>some (xs,λh=>h[i]? = some (.lst xs)) | _=>none)
 | _=>none
def ase(x y:D)(h:Hd):R Itm:=match srcOf x h,srcOf y h with
 | some (xs,c1),some (ys,c2)=>.ok ⟨(xs.zip ys).map λp=>.tup [p.1,p.2],λh=>c1 h/\c2 h⟩ h
 | _,_=>.no
def ajl(f g:SE):SI:=λτ h=>(f τ h).bind λx h1=>(g τ h1).bind λy h2=>ase x y h2
theorem aag{K:PySem.W.Frag}{ι:List Addr}{H:Hp}{h:Hd}{v:V}{d:D}{xs:List D}{ck:Hd->Prop}(r:Rep K ι H v d)(hr:HRep K ι H h)(e:srcOf d h=some (xs,ck)) :
  ∃ k:Srk,v=k.v/\ck h/\∀ ι' H' h',Gr ι H ι' H'->HRep K ι' H' h'->ck h'->∃ vs,its H' k=some vs/\Reps K ι' H' vs xs:=by
 cases r with
 | @tup a vs ys ha rs =>
  cases e
  exact ⟨.tup a,rfl,True.intro,λι' H' h' g _ _=>⟨vs,by simp [its,g.tup _ _ ha],rs.mono g⟩⟩
 | @rol a vs ys ha rs =>
  cases e
  refine ⟨.lst a,rfl,True.intro,λι' H' h' g _ _=>⟨vs,?_,rs.mono g⟩⟩;obtain ⟨o,q⟩:=ha.mono g;simp [its,q]
 | str x =>
  cases e
  exact ⟨.str x,rfl,True.intro,λι' H' h' g _ _=>⟨_,rfl,a6b x⟩⟩
 | @ref a i ha =>
  obtain ⟨ob,e1,e2⟩:=hr.at ha
  cases ob with
  | lst zs =>
   simp only [srcOf,e1] at e;cases e
   refine ⟨.lst a,rfl,e1,λι' H' h' g hr' c=>?_⟩;obtain ⟨us,q1,q2⟩:=hr'.obj i a _ (g.at ha) c;exact ⟨us,by simp [its,q1],q2⟩
  | dK _=>simp only [srcOf,e1] at e;cases e
  | dT _=>simp only [srcOf,e1] at e;cases e
 | _=>cases e
theorem ape{X:Cx}{E:XD}{elts:List Expr}{x1:Nat}{tpos:Pos}{e1 e2:Expr}{f g:SE}{p pos:Pos}(hg:Gl X "zip")(hm:X.mg "zip" = none)(hb:bootBuiltins "zip" = some (.type "zip"))(ha:ME X E e1 f)(hb':ME X E e2 g)
  (h1:starEach [e1,e2] X.env=[(false,eval e1 X.env),(false,eval e2 X.env)]:=by rfl) (h2:starEach [e2] X.env=[(false,eval e2 X.env)]:=by rfl) :
  MI X E (.Tuple elts x1 tpos) (.Call (.Name "zip" p) [e1,e2] [] pos) (ajl f g):=by
 intro pins s σ H Rr I ⟨ι,τ,h,S,Rh,o⟩
 refine apd hg hm hb (qi ha (qi hb' a4p (by rw [h2];rfl)) (by rw [h1,h2])) h1 h2 pins s σ H Rr I ?_
 refine ⟨ι,τ,h,S,Rh,fu o λd h1 ι1 H1 v g1 r1 hr1 o1=>?_⟩;refine ⟨ι1,τ,h1,S.mono g1,hr1,fu o1 λd2 h2 ι2 H2 u g2 r2 hr2 o2=>?_⟩;unfold ase at o2
 split at o2
 ·rename_i xs c1 ys c2 q1 q2;obtain ⟨k1,rfl,k1c,k1f⟩:=aag (r1.mono g2) hr2 q1;obtain ⟨k2,rfl,k2c,k2f⟩:=aag r2 hr2 q2;obtain ⟨vs1,w1,w2⟩:=k1f ι2 H2 h2 (.refl _ _) hr2 k1c;obtain ⟨vs2,w3,w4⟩:=k2f ι2 H2 h2 (.refl _ _) hr2 k2c;refine ⟨k1,k2,vs1,vs2,rfl,w1,w3,o2 ι2 H2 _ (.refl _ _) ?_ hr2⟩
  intro ι3 H3 h3 g3 hr3 c
  obtain ⟨us1,a1,a2⟩:=k1f ι3 H3 h3 g3 hr3 c.1;obtain ⟨us2,a3,a4⟩:=k2f ι3 H3 h3 g3 hr3 c.2;refine ⟨λi d ed=>?_,us1,us2,a1,a3,?_⟩
  ·simp only [List.getElem?_map,Option.map_eq_some_iff] at ed;obtain ⟨⟨x,y⟩,ez,rfl⟩:=ed;obtain ⟨ex,ey⟩:=List.getElem?_zip_eq_some.mp ez;obtain ⟨v1,b1,b2⟩:=a2.get ex;obtain ⟨v2,b3,b4⟩:=a4.get ey;refine ⟨⟨us1,us2,v1,v2,a1,a3,b1,b3⟩,λx H' yl=>?_⟩;obtain ⟨xs',ys',x',y',p,c1,c2,c3,c4,c5,rfl,rfl⟩:=yl;rw [a1] at c1;cases c1
   rw [a3] at c2;cases c2
   rw [b1] at c3;cases c3
   rw [b3] at c4;cases c4
   exact ⟨xu c5 _, .tup qe (.cons (b2.mono (xu c5 _)) (.cons (b4.mono (xu c5 _)) .nil)),hr3.aside c5 _⟩
  ·rw [List.length_map,List.length_zip,a2.len,a4.len];omega
 ·exact o2.elim
theorem apf:bootBuiltins "zip" = some (.type "zip"):=by first | exact PySem.boot_zip | exact PyProof.Rows.boot_zip | rfl
end MI
namespace MI
open PySem PySem.Spec L2
section
variable{P:Program}{w:World}{K:PySem.W.Frag}{mg:Str->Option Value}{base:Heap}
theorem atw{k:Nat}{f:Addr}{fd:FuncData}{ps:List Str}:FnOk P w K mg base CX0 k f fd ps (uo K ps.length λ_ _=>.no) :=
 ⟨λvs H Q E h=>h.1,λA outer s H args us vs Q E hr he hb hv hs=>by obtain ⟨_,ι,ds,h,_,_,o⟩:=hs;exact o.elim⟩
end
def FrzOf(L:List Addr)(H H2:Hp):Prop:=∀ a,(a ∉ L->H2 a=H a)/\(a∈L->∃ o u,H a=some u/\H2 a=some (.frz o u))
def a8d(H:Hp)(L:List Addr):Prop:=∀ a∈L,(∃ xs,H a=some (.lst xs))\/(∃ kvs,H a=some (.dK kvs))\/∃ kvs,H a=some (.dT kvs)
def still:HO->Prop
 | .lst _=>False | .dK _=>False | .dT _=>False
 | _=>True
theorem FrzOf.still{L:List Addr}{H H2:Hp}(f:FrzOf L H H2)(ab:a8d H L){a:Addr}{u:HO}(e:H a=some u)(st:MI.still u):H2 a=some u:=by
 rw [(f a).1 λz=>?_]
 ·exact e
 ·rcases ab a z with ⟨_,q⟩ | ⟨_,q⟩ | ⟨_,q⟩<;>(rw [e] at q;cases q;exact st)
theorem Inv.frz{X:Cx}{pins:List (Addr × Obj)}{σ:St}{H:Hp}{s:Shared}{L:List Addr}(I:Inv X pins σ H s)(ab:a8d H L):∃ H2,FrzOf L H H2/\Inv X pins σ H2 s:=by
 have obj:∀ a∈L,∀ u,H a=some u->∃ o,s.heap.get? a=some o:=λa ha u e=>by
  rcases ab a ha with ⟨_,q⟩ | ⟨_,q⟩ | ⟨_,q⟩
  ·obtain ⟨_,_,_,_,z⟩:=I.hok a _ q;exact ⟨_,z⟩
  ·obtain ⟨_,_,_,_,z⟩:=I.hok a _ q;obtain ⟨o,_,_,z,_⟩:=z;exact ⟨o,z⟩
  ·obtain ⟨_,_,_,_,o,_,_,z,_⟩:=I.hok a _ q;exact ⟨o,z⟩
 let H2:Hp:=λa=>if a∈L then (match s.heap.get? a,H a with | some o,some u=>some (.frz o u) | _,w=>w) else H a
 have f:FrzOf L H H2:=λa=>⟨λh=>by simp [H2,h],λh=>by
  obtain ⟨u,e⟩:∃ u,H a=some u:=by
   rcases ab a h with ⟨_,q⟩ | ⟨_,q⟩ | ⟨_,q⟩<;>exact ⟨_,q⟩
  obtain ⟨o,eo⟩:=obj a h u e;exact ⟨o,u,e,by simp [H2,h,e,eo]⟩⟩
 refine ⟨H2,f,?_⟩;have mv:∀ a u,ObjOk X.prog X.w H s.heap a u->ObjOk X.prog X.w H2 s.heap a u:=λa u x=>x.stay (λb v _ q=>q) (λc q=>f.still ab q True.intro) λc xs q=>f.still ab q True.intro;have ok:HOk X.prog X.w H2 s.heap:=λa u e=>by
  by_cases hl:a∈L
  ·obtain ⟨u0,e0⟩:∃ u,H a=some u:=by
    rcases ab a hl with ⟨_,q⟩ | ⟨_,q⟩ | ⟨_,q⟩<;>exact ⟨_,q⟩
   obtain ⟨o,eo⟩:=obj a hl u0 e0;have e':H2 a=some (.frz o u0):=by simp [H2,hl,e0,eo]
   rw [e'] at e;cases e
   exact ⟨eo,mv a u0 (I.hok a u0 e0)⟩
  ·rw [(f a).1 hl] at e;exact mv a u (I.hok a u e)
 have fn:∀ b,H b=none->H2 b=none:=λb n=>by
  rw [(f b).1 λz=>?_]
  ·exact n
  ·rcases ab b z with ⟨_,q⟩ | ⟨_,q⟩ | ⟨_,q⟩<;>(rw [n] at q;cases q)
 have un:Un X.fs [] H H2 s.heap s.heap:=⟨λb o q _ _ _=>q,λb o q _ _ _=>⟨o.slots,q⟩,λb o _ n _=>fn b n,λb o q _=>⟨o,q⟩,λb xs q=>f.still ab q True.intro,λb o u q=>f.still ab q True.intro,λb ps q=>⟨#[],by rw [f.still ab q True.intro];simp⟩⟩
 exact I.un (t':=s.toks) un ok
theorem a6c{X:Cx}{e:Expr}{t:TE}(h:PE X e t):PE X e (λσ H Q=>t σ H λv H1=>∃ L,a8d H1 L/\∀ H2,FrzOf L H1 H2->Q v H2):=λpins s σ H Q I q =>
 thn (h pins s σ H _ I q) λu s' ⟨v,H1,I1,r,L,ab,k⟩=>let ⟨H2,f,I2⟩:=Inv.frz I1 ab; ⟨v,H2,I2,r,k H2 f⟩
def a0s{α β:Type}(f:α->Option β):List α->Option (List β)
 | []=>some []
 | x::xs=>match f x,a0s f xs with | some y,some ys=>some (y::ys) | _,_=>none
open Classical in
noncomputable def a2m(n:Nat)(h:Hd):Nat->D->Option D
 | 0,_=>none
 | k+1,d=>if clo n d then some d else match d with
  | .tup xs=>(a0s (a2m n h k) xs).map .tup
  | .rol xs=>(a0s (a2m n h k) xs).map .rol
  | .scr xs=>(a0s (a2m n h k) xs).map .scr
  | .rod ks xs=>(a0s (a2m n h k) xs).map (.rod ks)
  | .rdT ks xs=>(a0s (a2m n h k) xs).map (.rdT ks)
  | .ref i=>match h[i]? with
   | some (.lst xs)=>(a0s (a2m n h k) xs).map .rol
   | some (.dK kvs)=>(a0s (a2m n h k) (kvs.map (·.2))).map (.rod (kvs.map (·.1)))
   | some (.dT kvs)=>(a0s (a2m n h k) (kvs.map (·.2))).map (.rdT (kvs.map (·.1)))
   | none=>none
  | _=>none
open Classical in
noncomputable def apg(n:Nat)(h:Hd)(k:Nat)(o:O):Option O:=if zj n o then some o else match o with
 | .lst xs=>(a0s (a2m n h k) xs).map .lst
 | .dK kvs=>(a0s (a2m n h k) (kvs.map (·.2))).map λys=>.dK ((kvs.map (·.1)).zip ys)
 | .dT kvs=>(a0s (a2m n h k) (kvs.map (·.2))).map λys=>.dT ((kvs.map (·.1)).zip ys)
abbrev FU:Nat:=20
noncomputable def a91(n:Nat):R D->R D
 | .ok d h1=>match a2m n h1 FU d,a0s (apg n h1 FU) (h1.take n) with | some d',some g=>.ok d' g | _,_=>.no
 | _=>.no
open Classical in
noncomputable def anf(n:Nat):R D->R D
 | .ok (.ref i) h1=>(match h1[i]? with
   | some o=>if n<=i/\zj n o/\∀ u∈h1.take n,zj n u then .ok (.ref n) (h1.take n++[o]) else .no
   | none=>.no)
 | _=>.no
section
variable{K:PySem.W.Frag}{ι ι':List Addr}{H H' H2:Hp}{h1:Hd}{n:Nat}{L:List Addr}
theorem aah(f:FrzOf L H' H2)(ab:a8d H' L)(κ:List Addr):Gw κ H' κ H2:=⟨⟨[],by simp⟩,λa vs e=>f.still ab e True.intro,λa o u e=>f.still ab e True.intro⟩
theorem pq{K:PySem.W.Frag}{ι κ:List Addr}{H H2:Hp}{f:D->Option D}(ih:∀ {v d d'},Rep K ι H v d->f d=some d'->Rep K κ H2 v d'):∀ {vs:List V} {ds ds':List D},Reps K ι H vs ds->a0s f ds=some ds'->Reps K κ H2 vs ds'
 | _,_,_, .nil,e=>by cases e;exact .nil
 | _,x::xs,_, .cons r rs,e=>by
  unfold a0s at e
  split at e
  ·rename_i y ys h1 h2;cases e
   exact .cons (ih r h1) (pq ih rs h2)
  ·cases e
theorem a71(hr:HRep K ι' H' h1)(hL:∀ (i:Nat) a,ι'[i]? = some a->n<=i->a∈L)(f:FrzOf L H' H2)(ab:a8d H' L):∀ (k:Nat) {v:V} {d d':D},Rep K ι' H' v d->a2m n h1 k d=some d'->Rep K (ι'.take n) H2 v d':=by
 intro k
 induction k with
 | zero=>intro v d d' r e;cases e
 | succ k ih =>
  intro v d d' r e
  unfold a2m at e
  split at e
  ·rename_i c;cases e
   exact (r.cut c).monoW (aah f ab _)
  ·rename_i c
   cases r with
   | tup h rs =>
    simp only [Option.map_eq_some_iff] at e;obtain ⟨ys,e1,rfl⟩:=e;exact .tup (f.still ab h True.intro) (pq (λr e=>ih r e) rs e1)
   | rol h rs =>
    simp only [Option.map_eq_some_iff] at e;obtain ⟨ys,e1,rfl⟩:=e;exact .rol (h.monoW (aah f ab ι')) (pq (λr e=>ih r e) rs e1)
   | scr h rs =>
    simp only [Option.map_eq_some_iff] at e;obtain ⟨ys,e1,rfl⟩:=e;exact .scr (h.monoW (aah f ab ι')) (pq (λr e=>ih r e) rs e1)
   | rod h ek rs =>
    simp only [Option.map_eq_some_iff] at e;obtain ⟨ys,e1,rfl⟩:=e;exact .rod (f.still ab h True.intro) ek (pq (λr e=>ih r e) rs e1)
   | rdT h ek rs =>
    simp only [Option.map_eq_some_iff] at e;obtain ⟨ys,e1,rfl⟩:=e;exact .rdT (f.still ab h True.intro) ek (pq (λr e=>ih r e) rs e1)
   | @ref a i ha =>
    have hi:n<=i:=by
     simp only [clo] at c;omega
    obtain ⟨o,u,e1,e2⟩:=(f a).2 (hL i a ha hi);obtain ⟨ob,h3,h4⟩:=hr.at ha;simp only [h3] at e
    cases ob with
    | lst xs =>
     simp only [Option.map_eq_some_iff] at e;obtain ⟨ys,e3,rfl⟩:=e;obtain ⟨vs,h5,h6⟩:=h4;rw [e1] at h5;cases h5
     exact .rol ⟨o,e2⟩ (pq (λr e=>ih r e) h6 e3)
    | dK kvs =>
     simp only [Option.map_eq_some_iff] at e;obtain ⟨ys,e3,rfl⟩:=e;obtain ⟨us,h5,h6,h7⟩:=h4;rw [e1] at h5;cases h5
     exact .rod e2 h6 (pq (λr e=>ih r e) h7 e3)
    | dT kvs =>
     simp only [Option.map_eq_some_iff] at e;obtain ⟨ys,e3,rfl⟩:=e;obtain ⟨us,h5,h6,h7⟩:=h4;rw [e1] at h5;cases h5
     exact .rdT e2 h6 (pq (λr e=>ih r e) h7 e3)
   | non=>simp only [clo,not_true_eq_false] at c
   | exc _ _ _=>simp only [clo,not_true_eq_false] at c
   | bl b=>simp only [clo,not_true_eq_false] at c
   | int b=>simp only [clo,not_true_eq_false] at c
   | str b=>simp only [clo,not_true_eq_false] at c
   | ty b=>simp only [clo,not_true_eq_false] at c
theorem aai{κ:Type}{H:Hp}{us:List (κ × V)}{ks:List κ}{ys:List D}(e:us.map (·.1)=ks)(r:Reps K ι H (us.map (·.2)) ys):KRep K ι H us (ks.zip ys):=by
 have l:ks.length=ys.length:=by rw [<-e,List.length_map,<-r.len,List.length_map]
 refine ⟨?_,?_⟩
 ·rw [List.map_fst_zip (by omega)];exact e
 ·rw [List.map_snd_zip (by omega)];exact r
theorem aln(hr:HRep K ι' H' h1)(hL:∀ (i:Nat) a,ι'[i]? = some a->n<=i->a∈L)(f:FrzOf L H' H2)(ab:a8d H' L){k:Nat}{a:Addr}{o o':O}(na:a ∉ L)(r:ORep K ι' H' a o)(e:apg n h1 k o=some o'):ORep K (ι'.take n) H2 a o':=by
 have same:H2 a=H' a:=(f a).1 na;unfold apg at e
 split at e
 ·rename_i c;cases e
  exact (r.cut c).monoW (aah f ab _) same
 ·cases o with
  | lst xs =>
   simp only [Option.map_eq_some_iff] at e;obtain ⟨ys,e1,rfl⟩:=e;obtain ⟨vs,h3,h4⟩:=r;exact ⟨vs,by rw [same];exact h3,pq (λr e=>a71 hr hL f ab k r e) h4 e1⟩
  | dK kvs =>
   simp only [Option.map_eq_some_iff] at e;obtain ⟨ys,e1,rfl⟩:=e;obtain ⟨us,h3,h4,h5⟩:=r;exact ⟨us,by rw [same];exact h3,aai h4 (pq (λr e=>a71 hr hL f ab k r e) h5 e1)⟩
  | dT kvs =>
   simp only [Option.map_eq_some_iff] at e;obtain ⟨ys,e1,rfl⟩:=e;obtain ⟨us,h3,h4,h5⟩:=r;exact ⟨us,by rw [same];exact h3,aai h4 (pq (λr e=>a71 hr hL f ab k r e) h5 e1)⟩
theorem a1d{α β:Type}{f:α->Option β}:∀ {xs:List α} {ys:List β},a0s f xs=some ys->xs.length=ys.length/\∀ (i:Nat) y,ys[i]? = some y->∃ x,xs[i]? = some x/\f x=some y
 | [],_,e=>by cases e;exact ⟨rfl,λi y e=>by simp at e⟩
 | x::xs,ys,e=>by
  unfold a0s at e
  split at e
  ·rename_i y ys h1 h2;cases e
   obtain ⟨l,g⟩:=a1d h2;refine ⟨by simp [l],λi z e=>?_⟩
   cases i with
   | zero=>simp at e;subst e;exact ⟨x,rfl,h1⟩
   | succ i=>simpa using g i z (by simpa using e)
  ·cases e
theorem ae2(hr:HRep K ι' H' h1)(M:List Addr)(hM:∀ a∈M,a∈ι'):a8d H' M:=λa ha=>by
 obtain ⟨i,hi⟩:=List.getElem?_of_mem (hM a ha);obtain ⟨o,_,q⟩:=hr.at hi
 cases o with
 | lst xs=>obtain ⟨vs,h,_⟩:=q;exact .inl ⟨_,h⟩
 | dK xs=>obtain ⟨vs,h,_⟩:=q;exact .inr (.inl ⟨_,h⟩)
 | dT xs=>obtain ⟨vs,h,_⟩:=q;exact .inr (.inr ⟨_,h⟩)
theorem a5c{α:Type}{l:List α}(nd:l.Nodup){i j:Nat}{a:α}(h1:l[i]? = some a)(h2:l[j]? = some a):i=j:=by
 obtain ⟨l1,e1⟩:=List.getElem?_eq_some_iff.mp h1;obtain ⟨l2,e2⟩:=List.getElem?_eq_some_iff.mp h2
 rcases Nat.lt_trichotomy i j with l | l | l
 ·exact absurd (e1.trans e2.symm) (List.pairwise_iff_getElem.mp nd i j l1 l2 l)
 ·exact l
 ·exact absurd (e2.trans e1.symm) (List.pairwise_iff_getElem.mp nd j i l2 l1 l)
theorem aph(g:Gr ι H ι' H')(f:FrzOf L H' H2)(ab:a8d H' L)(hL:∀ a∈L,H a=none){m:List Addr}(hm:∀ a∈m,H a=none):Gr ι H (ι++m) H2:=by
 refine ⟨⟨m,rfl,hm⟩,λa vs e=>f.still ab (g.tup a vs e) True.intro,λa o u e=>f.still ab (g.frz a o u e) True.intro,λa u e hn=>?_,λa u e=>?_⟩
 ·rw [(f a).1 λz=>by rw [hL a z] at e;cases e]
  exact g.oth a u e hn
 ·obtain ⟨u',e'⟩:=g.kp a u e;rw [(f a).1 λz=>by rw [hL a z] at e;cases e]
  exact ⟨u',e'⟩
theorem ae3{d d':D}{v:V}{g':Hd}(g:Gr ι H ι' H')(rb:Rep K ι' H' v d)(hr:HRep K ι' H' h1)(e:a91 ι.length (.ok d h1) = .ok d' g') :
  ∃ L,a8d H' L/\∀ H2,FrzOf L H' H2->Gr ι H ι H2/\Rep K ι H2 v d'/\HRep K ι H2 g':=by
 obtain ⟨m,rfl,hm⟩:=g.pre;have tk:(ι++m).take ι.length=ι:=by simp
 have ab:a8d H' m:=ae2 hr m λa ha=>List.mem_append_right _ ha;have hL:∀ (i:Nat) a,(ι++m)[i]? = some a->ι.length<=i->a∈m:=λi a e hi=>by
  rw [List.getElem?_append_right hi] at e;exact List.mem_of_getElem? e
 refine ⟨m,ab,λH2 f=>?_⟩;unfold a91 at e;simp only at e
 split at e
 ·rename_i dd gg e1 e2;cases e
  refine ⟨by simpa using aph g f ab hm (m:=[]) (by simp),by have:=a71 hr hL f ab FU rb e1;rwa [tk] at this,?_⟩
  obtain ⟨l,gt⟩:=a1d e2;have hl:=hr.len;have ln:ι.length<=h1.length:=by rw [<-hl];simp
  refine ⟨(List.nodup_append.mp hr.nd).1,by rw [<-l,List.length_take];omega,λi a o q1 q2=>?_⟩
  obtain ⟨x,hx,fx⟩:=gt i o q2;have hi:i<ι.length:=(List.getElem?_eq_some_iff.mp q1).1;rw [List.getElem?_take,if_pos hi] at hx;have q3:(ι++m)[i]? = some a:=by rw [List.getElem?_append_left hi];exact q1
  have na:a ∉ m:=λz=>(List.nodup_append.mp hr.nd).2.2 a (List.mem_of_getElem? q1) a z rfl;have:=aln hr hL f ab na (hr.obj i a x q3 hx) fx
  rwa [tk] at this
 ·cases e
theorem agv{d d':D}{v:V}{g':Hd}(g:Gr ι H ι' H')(rb:Rep K ι' H' v d)(hr:HRep K ι' H' h1)(e:anf ι.length (.ok d h1) = .ok d' g') :
  ∃ b,H b=none/\Gr ι H (ι++[b]) H'/\Rep K (ι++[b]) H' v d'/\HRep K (ι++[b]) H' g':=by
 obtain ⟨m,rfl,hm⟩:=g.pre;have tk:(ι++m).take ι.length=ι:=by simp
 have up:∀ b,Gw ι H' (ι++[b]) H':=λb=>⟨⟨[b],rfl⟩,λ_ _ h=>h,λ_ _ _ h=>h⟩
 cases rb with
 | @ref b i hb =>
  unfold anf at e;simp only at e
  split at e
  ·rename_i ob ho
   split at e
   ·rename_i hc;obtain ⟨hi,c1,c2⟩:=hc;cases e
    have hb':=hb;rw [List.getElem?_append_right hi] at hb';have bm:b∈m:=List.mem_of_getElem? hb';obtain ⟨nd1,nd2,nd3⟩:=List.nodup_append.mp hr.nd;have hl:=hr.len;have ln:ι.length<=h1.length:=by rw [<-hl];simp
    have lt:(h1.take ι.length).length=ι.length:=by rw [List.length_take];omega
    refine ⟨b,hm b bm,⟨⟨[b],rfl,by simpa using hm b bm⟩,g.tup,g.frz,g.oth,g.kp⟩, .ref (by simp),?_⟩
    refine ⟨List.nodup_append.mpr ⟨nd1,by simp,λa ha c hc z=>nd3 a ha c (by rw [List.mem_singleton.mp hc];exact bm) z⟩,by simp [lt],λj a o q1 q2=>?_⟩
    by_cases hj:j<ι.length
    ·rw [List.getElem?_append_left hj] at q1;rw [List.getElem?_append_left (by omega)] at q2
     have q2':=q2;rw [List.getElem?_take,if_pos hj] at q2';have:=(hr.obj j a o (by rw [List.getElem?_append_left hj];exact q1) q2').cut (c2 o (List.mem_of_getElem? q2))
     rw [tk] at this;exact this.monoW (up b) rfl
    ·have hj2:j<(ι++[b]).length:=(List.getElem?_eq_some_iff.mp q1).1;have:j=ι.length:=by simp at hj2;omega
     subst this;rw [List.getElem?_append_right (Nat.le_refl _)] at q1;rw [List.getElem?_append_right (by omega),lt] at q2
     simp at q1 q2
     subst q1 q2;have:=(hr.obj i b ob hb ho).cut c1;rw [tk] at this;exact this.monoW (up b) rfl
   ·cases e
  ·cases e
 | _=>cases e
end
noncomputable def sZ(f:SE):SE:=λτ h=>a91 h.length (f τ h)
abbrev awe(Q:VK):VK:=λv H1=>∃ L,a8d H1 L/\∀ H2,FrzOf L H1 H2->Q v H2
theorem auy{K:PySem.W.Frag}{E:XD}{fa:SE}{σ:St}{H:Hp}{Q:VK}(q:lift K E (yw K) (sZ fa) σ H Q):lift K E (yw K) fa σ H (awe Q):=by
 obtain ⟨ι,τ,h,S,Rh,o⟩:=q;refine ⟨ι,τ,h,S,Rh,?_⟩;unfold sZ at o;rw [<-Rh.len] at o
 cases hf:fa τ h with
 | ok d h1 =>
  rw [hf] at o
  intro ι' H' v g r hr
  cases hz:a91 ι.length (.ok d h1) with
  | ok d' g' =>
   rw [hz] at o;obtain ⟨L,ab,k⟩:=ae3 g r hr hz;refine ⟨L,ab,λH2 f=>?_⟩;obtain ⟨k1,k2,k3⟩:=k H2 f;exact o ι H2 v k1 k2 k3
  | ex c hx=>unfold a91 at hz;simp only at hz;split at hz<;>cases hz
  | no=>rw [hz] at o;exact o.elim
 | ex c h1=>rw [hf] at o;exact o.elim
 | no=>rw [hf] at o;exact o.elim
theorem a3s{X:Cx}{E:XD}{e:Expr}{fa:SE}(ha:ME X E e fa):ME X E e (sZ fa):=PE.weak (a6c ha) λσ H Q q=>auy q
def refOf:D->Option Nat
 | .ref i=>some i
 | _=>none
def a1r(ds:List D):List Nat:=ds.filterMap refOf
def a1b:Nat->List D->List D
 | _,[]=>[]
 | k,d::ds=>match d with
  | .ref _=>.ref k::a1b (k+1) ds
  | d=>d::a1b k ds
def vg:Hd->List Nat->List O->Hd
 | h,i::is,o::os=>vg (h.set i o) is os
 | h,_,_=>h
def isRef(d:D):Prop:=∃ i,d = .ref i
open Classical in
noncomputable def ang(m:Bool)(F:SF)(ds:List D)(h:Hd):R D:=match a0s (λi=>h[i]?) (a1r ds) with
 | none=>.no
 | some os=>if (a1r ds).Nodup/\(∀ d∈ds,clo 0 d\/isRef d)/\(∀ o∈os,zj 0 o) then
   (match (if m then anf os.length (F (a1b 0 ds) os) else a91 os.length (F (a1b 0 ds) os)) with
   | .ok d h1=>if ∀ o∈h1,zj 0 o then
     (if m then .ok (.ref h.length) (vg h (a1r ds) h1++h1.drop os.length)
      else if clo 0 d then .ok d (vg h (a1r ds) h1) else .no) else .no
   | _=>.no)
  else .no
noncomputable def nj(m:Bool)(n:Nat)(F:SF):SF:=λds h=>if ds.length=n then ang m F ds h else .no
section
variable{K:PySem.W.Frag}{ι ι':List Addr}{H H' H2:Hp}{h h1:Hd}{n:Nat}
theorem ajm(κ:List Addr):Gw [] H κ H:=⟨⟨κ,rfl⟩,λ_ _ h=>h,λ_ _ _ h=>h⟩
theorem Rep.any{v:V}{d:D}(r:Rep K ι H v d)(c:MI.clo 0 d)(κ:List Addr):Rep K κ H v d:=by
 have:=r.cut c
 rw [List.take_zero] at this;exact this.monoW (ajm κ)
theorem ORep.any{a:Addr}{o:O}(r:ORep K ι H a o)(c:zj 0 o)(κ:List Addr):ORep K κ H a o:=by
 have:=r.cut c
 rw [List.take_zero] at this;exact this.monoW (ajm κ) rfl
theorem a8e{α:Type}(l:List α):∀ {is:List Nat},(∀ i∈is,i<l.length)->∃ ys,a0s (λi=>l[i]?) is=some ys
 | [],_=>⟨[],rfl⟩
 | i::is,hi=>by
  obtain ⟨ys,e⟩:=a8e l (is:=is) λj hj=>hi j (List.mem_cons_of_mem _ hj);have:=hi i List.mem_cons_self;exact ⟨l[i]::ys,by unfold a0s;rw [e,List.getElem?_eq_getElem this]⟩
theorem a2u:∀ {ds:List D} {vs:List V} {pre κ:List Addr},Reps K ι H vs ds->(∀ d∈ds,clo 0 d\/isRef d)->a0s (λi=>ι[i]?) (a1r ds)=some κ->Reps K (pre++κ) H vs (a1b pre.length ds)
 | [],_,_,_, .nil,_,_=>.nil
 | d::ds,_,pre,κ, .cons r rs,hc,e=>by
  have hc':∀ d∈ds,clo 0 d\/isRef d:=λx hx=>hc x (List.mem_cons_of_mem _ hx)
  by_cases hd:isRef d
  ·obtain ⟨i,rfl⟩:=hd;have e':a0s (λi=>ι[i]?) (i::a1r ds)=some κ:=e;unfold a0s at e'
   split at e'
   ·rename_i a κ' h1 h2
    cases e'
    cases r with
    | ref ha =>
     rw [ha] at h1;cases h1
     have:=a2u (pre:=pre++[a]) rs hc' h2
     simp only [List.append_assoc,List.singleton_append,List.length_append,List.length_singleton] at this;refine .cons (.ref ?_) this;rw [List.getElem?_append_right (Nat.le_refl _)];simp
   ·cases e'
  ·have c:=(hc d List.mem_cons_self).resolve_right hd;have e1:a1r (d::ds)=a1r ds:=by
    unfold a1r
    cases d<;>first | rfl | exact absurd ⟨_,rfl⟩ hd
   have e2:a1b pre.length (d::ds)=d::a1b pre.length ds:=by
    cases d<;>first | rfl | exact absurd ⟨_,rfl⟩ hd
   rw [e1] at e;rw [e2];exact .cons (r.any c _) (a2u rs hc' e)
theorem a0b:∀ {is:List Nat} {os:List O} {h:Hd},(vg h is os).length=h.length
 | [],_,_=>by simp [vg]
 | _::_,[],_=>by simp [vg]
 | i::is,o::os,h=>by rw [vg,a0b,List.length_set]
theorem a2v{i:Nat}:∀ {is:List Nat} {os:List O} {h:Hd},i ∉ is->(vg h is os)[i]? = h[i]?
 | [],_,_,_=>by simp [vg]
 | _::_,[],_,_=>by simp [vg]
 | j::is,o::os,h,n=>by
  rw [vg,a2v λz=>n (List.mem_cons_of_mem _ z),List.getElem?_set_ne λz=>n (by rw [z];exact List.mem_cons_self)]
theorem a8f{i:Nat}{o:O}:∀ {is:List Nat} {os:List O} {h:Hd} {j:Nat},is.Nodup->is[j]? = some i->os[j]? = some o->i<h.length->(vg h is os)[i]? = some o
 | [],_,_,_,_,e,_,_=>by simp at e
 | _::_,[],_,_,_,_,e,_=>by simp at e
 | k::is,o'::os,h,j,nd,e1,e2,hl=>by
  cases j with
  | zero =>
   simp at e1 e2
   subst e1 e2;rw [vg,a2v (List.nodup_cons.mp nd).1,List.getElem?_set_self hl]
  | succ j =>
   rw [vg];exact a8f (j:=j) (List.nodup_cons.mp nd).2 (by simpa using e1) (by simpa using e2) (by simpa using hl)
theorem a8g{α:Type}{l:List α}(nl:l.Nodup){is:List Nat}{ys:List α}(e:a0s (λi=>l[i]?) is=some ys)(ni:is.Nodup):ys.Nodup:=by
 obtain ⟨le,g⟩:=a1d e;refine List.pairwise_iff_getElem.mpr λi j hi hj lt z=>?_;obtain ⟨x,h1,h2⟩:=g i _ (List.getElem?_eq_getElem hi);obtain ⟨y,h3,h4⟩:=g j _ (List.getElem?_eq_getElem hj);rw [<-z] at h4;have:=a5c nl h2 h4;subst this;have:=a5c ni h1 h3;omega
theorem aaj{is:List Nat}{κ m:List Addr}{g:Hd}(hr:HRep K ι H h)(e1:a0s (λi=>ι[i]?) is=some κ)(nd:is.Nodup)(gr:Gr κ H (κ++m) H2)(hg:HRep K (κ++m) H2 g)(cg:∀ o∈g,zj 0 o)(hm:m.length<=1) :
  Gr ι H (ι++m) H2/\HRep K (ι++m) H2 (vg h is g++g.drop κ.length):=by
 obtain ⟨l1,g1⟩:=a1d e1;have mn:∀ a∈m,H a=none:=by
  obtain ⟨m',e,hm'⟩:=gr.pre;rw [List.append_cancel_left e];exact hm'
 have sub:∀ a∈κ,a∈ι:=λa ha=>by
  obtain ⟨j,hj⟩:=List.getElem?_of_mem ha;obtain ⟨i,_,q⟩:=g1 j a hj;exact List.mem_of_getElem? q
 have some_of:∀ a∈ι,∃ u,H a=some u:=λa ha=>by
  obtain ⟨i,hi⟩:=List.getElem?_of_mem ha;obtain ⟨o,_,q⟩:=hr.at hi;obtain ⟨u,q,_⟩:=q.some;exact ⟨u,q⟩
 have G:Gr ι H (ι++m) H2:=⟨⟨m,rfl,mn⟩,gr.tup,gr.frz,λa u e n=>gr.oth a u e λz=>n (sub a z),gr.kp⟩;have lg:=hg.len;rw [List.length_append] at lg;refine ⟨G,?_,?_,λj a o q1 q2=>?_⟩
 ·refine List.nodup_append.mpr ⟨hr.nd,(List.nodup_append.mp hg.nd).2.1,λa ha b hb z=>?_⟩;obtain ⟨u,q⟩:=some_of a ha;rw [z,mn b hb] at q;cases q
 ·rw [List.length_append,List.length_append,a0b,List.length_drop,hr.len];omega
 ·by_cases hj:j<ι.length
  ·rw [List.getElem?_append_left hj] at q1;rw [List.getElem?_append_left (by rw [a0b,<-hr.len];exact hj)] at q2
   by_cases hp:j∈is
   ·obtain ⟨k,hk⟩:=List.getElem?_of_mem hp;have hkl:k<κ.length:=by rw [<-l1];exact (List.getElem?_eq_some_iff.mp hk).1
    obtain ⟨i,h3,h4⟩:=g1 k _ (List.getElem?_eq_getElem hkl);rw [hk] at h3;cases h3
    rw [q1] at h4;have hkg:k<g.length:=by omega
    have e5:=a8f (h:=h) nd hk (List.getElem?_eq_getElem hkg) (by rw [<-hr.len];exact hj)
    rw [e5] at q2;cases q2
    have ea:(κ++m)[k]? = some a:=by rw [List.getElem?_append_left hkl,List.getElem?_eq_getElem hkl];exact h4.symm
    exact (hg.obj k a _ ea (List.getElem?_eq_getElem hkg)).any (cg _ (List.getElem_mem hkg)) _
   ·rw [a2v hp] at q2;have r:=hr.obj j a o q1 q2;obtain ⟨u,hu,_⟩:=r.some;have na:a ∉ κ:=λz=>by
     obtain ⟨k,hk⟩:=List.getElem?_of_mem z;obtain ⟨i,h3,h4⟩:=g1 k a hk;have:=a5c hr.nd q1 h4;subst this;exact hp (List.mem_of_getElem? h3)
    exact r.mono G (by rw [hu];exact gr.oth a u hu na)
  ·have q1':=q1;rw [List.getElem?_append_right (by omega)] at q1
   rw [List.getElem?_append_right (by rw [a0b,<-hr.len];omega),a0b,<-hr.len,List.getElem?_drop] at q2
   have ea:(κ++m)[κ.length+(j - ι.length)]? = some a:=by rw [List.getElem?_append_right (by omega)];simpa using q1
   exact (hg.obj _ a o ea q2).any (cg o (List.mem_of_getElem? q2)) _
theorem a72{m:Bool}{F:SF}{vs:List V}{ds:List D}{Q:VK}(r:Reps K ι H vs ds)(hr:HRep K ι H h)(o:out K X0 (yw K) ι H (nj m n F ds h) Q)(E:XK) :
  uo K n F vs H (λv H1=>∃ L,a8d H1 L/\∀ H2,FrzOf L H1 H2->Q v H2) E:=by
 unfold nj at o
 split at o
 ·rename_i hl;refine ⟨by rw [r.len];exact hl,?_⟩
  unfold ang at o
  split at o
  ·exact o.elim
  ·rename_i os hos
   split at o
   ·rename_i hc;obtain ⟨nd,hd,hcl⟩:=hc;obtain ⟨l0,g0⟩:=a1d hos;obtain ⟨κ,e1⟩:=a8e ι (is:=a1r ds) λi hi=>by
     obtain ⟨j,hj⟩:=List.getElem?_of_mem hi;have hjl:j<os.length:=by rw [<-l0];exact (List.getElem?_eq_some_iff.mp hj).1
     obtain ⟨x,h3,h4⟩:=g0 j _ (List.getElem?_eq_getElem hjl);rw [hj] at h3;cases h3
     rw [hr.len];exact (List.getElem?_eq_some_iff.mp h4).1
    obtain ⟨l1,g1⟩:=a1d e1;have lk:κ.length=os.length:=by omega
    have R0:Reps K κ H vs (a1b 0 ds):=by simpa using a2u (pre:=[]) r hd e1
    have H0:HRep K κ H os:=by
     refine ⟨a8g hr.nd e1 nd,lk,λj a ob q1 q2=>?_⟩;obtain ⟨i,h3,h4⟩:=g1 j a q1;obtain ⟨i',h5,h6⟩:=g0 j ob q2;rw [h3] at h5;cases h5
     exact (hr.obj i a ob h4 h6).any (hcl ob (List.mem_of_getElem? q2)) _
    refine ⟨κ,a1b 0 ds,os,R0,H0,?_⟩
    cases hF:F (a1b 0 ds) os with
    | no=>rw [hF] at o;cases m<;>exact o.elim
    | ex c hx=>rw [hF] at o;cases m<;>exact o.elim
    | ok d h1 =>
     rw [hF] at o
     intro ι' H' v g rb hr1
     rw [<-lk] at o
     cases m with
     | false =>
      simp only [Bool.false_eq_true,if_false] at o
      cases hz:a91 κ.length (.ok d h1) with
      | ok d' g' =>
       rw [hz] at o;simp only at o;obtain ⟨L,ab,k⟩:=ae3 g rb hr1 hz;refine ⟨L,ab,λH2 f=>?_⟩;obtain ⟨k1,k2,k3⟩:=k H2 f
       split at o
       ·rename_i cg
        split at o
        ·rename_i cd;have q:=aaj (m:=[]) hr e1 nd (by simpa using k1) (by simpa using k3) cg (by simp)
         have lg:=k3.len;have dr:g'.drop κ.length=[]:=List.drop_eq_nil_of_le (by omega)
         rw [dr,List.append_nil,List.append_nil] at q;exact o ι H2 v q.1 (k2.any cd _) q.2
        ·exact o.elim
       ·exact o.elim
      | ex c hx=>rw [hz] at o;exact o.elim
      | no=>rw [hz] at o;exact o.elim
     | true =>
      simp only [if_true] at o
      cases hz:anf κ.length (.ok d h1) with
      | ok d' g' =>
       rw [hz] at o;simp only at o;obtain ⟨b,hb,k1,k2,k3⟩:=agv g rb hr1 hz;refine ⟨[],λa ha=>(by simp at ha),λH2 f=>?_⟩
       have e2:H2=H':=by funext a;exact (f a).1 (by simp)
       subst e2
       split at o
       ·rename_i cg;have q:=aaj (m:=[b]) hr e1 nd k1 k3 cg (by simp)
        refine o (ι++[b]) H2 v q.1 ?_ q.2;have hd':d' = .ref κ.length:=by
         unfold anf at hz
         split at hz
         ·rename_i i h2 hh
          injection hh with z1 z2
          split at hz
          ·split at hz
           ·injection hz with z3 z4;exact z3.symm
           ·cases hz
          ·cases hz
         ·cases hz
        subst hd'
        cases k2 with
        | ref hk =>
         rw [List.getElem?_append_right (Nat.le_refl _)] at hk;simp at hk;subst hk;exact .ref (by rw [<-hr.len];simp)
       ·exact o.elim
      | ex c hx=>rw [hz] at o;exact o.elim
      | no=>rw [hz] at o;exact o.elim
   ·exact o.elim
 ·exact o.elim
end
theorem gk(m:Bool){X:Cx}{k n:Nat}{f:Addr}{fd:FuncData}{ps:List Str}{x:Str}{F:SF}{ka:SA}{e:Expr}{es:List Expr}{p pos:Pos}(G:Dn X.prog X.w X.K X.mg X.base k x ps (uo X.K n F) f fd)(hr:Room k X.A)(hg:Gl X x)(ha:MA X X0 (e::es) ka)
  (hdb:(x == ("__debug__" : Str))=false:=by decide) (he:starEach (e::es) X.env=(false,eval e X.env)::starEach es X.env:=by rfl) (hpl:(backTo pos (starEach es X.env)).any (·.1)=false:=by rfl):ME X X0 (.Call (.Name x p) (e::es) [] pos) (sA (nj m n F) ka):=by
 refine PE.weak (a6c (a2o G.ok hr hg G.m G.kp G.b .nil ag9 ha hdb he hpl)) λσ H Q ⟨ι,τ,h,S,Rh,o⟩=>?_;refine ⟨ι,τ,h,S,Rh,fu o λds h1 ι1 H1 vs g1 r1 hr1 o1=>?_⟩;rw [List.append_nil];exact a72 r1 hr1 o1 _
theorem a8h(m:Bool){X:Cx}{k n:Nat}{f:Addr}{fd:FuncData}{ps:List Str}{x:Str}{F:SF}{p pos:Pos}(G:Dn X.prog X.w X.K X.mg X.base k x ps (uo X.K n F) f fd)(hr:Room k X.A)(hg:Gl X x)(hdb:(x == ("__debug__" : Str))=false:=by decide) :
  ME X X0 (.Call (.Name x p) [] [] pos) (sA (nj m n F) dj):=by
 refine PE.weak (a6c (ag5 G.ok hr hg G.m G.kp G.b .nil ag9 hdb)) λσ H Q ⟨ι,τ,h,S,Rh,o⟩=>?_;exact a72 (vs:=[]) .nil Rh o E0
def sNo:SE:=λ_ _=>.no
def ae4:SS:=λ_ _=>.no
section
variable{X:Cx}{E:XD}
theorem atx{e:Expr}:ME X E e sNo:=λ_ _ _ _ _ _ ⟨_,_,_,_,_,o⟩=>o.elim
theorem a2c{st:List Stmt}:MSs X E st ae4:=λ_ _ _ _ _ _ ⟨_,_,_,_,_,o⟩=>o.elim
end
theorem api{X:Cx}{st:Stmt}{t:TS}(h:PS X st t):PS X st (λD σ H=>t { D with nx:=λσ' H1=>∃ L,a8d H1 L/\∀ H2,FrzOf L H1 H2->D.nx σ' H2 } σ H):=λpins s σ H D I q =>
 thn (h pins s σ H _ I q) λf s' k=>by
  cases f with
  | next =>
   obtain ⟨σ',H1,I1,L,ab,k⟩:=k;obtain ⟨H2,f,I2⟩:=Inv.frz I1 ab;exact ⟨σ',H2,I2,k H2 f⟩
  | brk=>exact k
  | cont=>exact k
  | ret u=>exact k
theorem ajn{K:PySem.W.Frag}{E:XD}{f:SE}{i:Nat}{N:Ends}{σ:St}{H:Hp}(q:a4x K E (lq i f) N σ H):lift K E (yw K) f σ H (λv H1=>N.nx (σ.set i (some v)) H1):=by
 obtain ⟨ι,τ,h,S,Rh,o⟩:=q;exact ⟨ι,τ,h,S,Rh,a08 o λd h1 ι1 H1 v g1 r1 hr1 o1=>o1 ι1 H1 _ (.refl _ _) ((S.mono g1).set r1 i) hr1⟩
theorem alo{K:PySem.W.Frag}{E:XD}{fi:SI}{t:D->Option Sd}{fe:SE}{ix:List Nat}{n:Nat}{g:TG}{σ:St}{H:Hp}{Q:VK}(ht:afv K n g t)(q:lift K E (yw K) (uz fi t fe ix) σ H Q):aga (lift K E (atq K) fi) (ug n ix) g (lift K E (yw K) fe) σ H Q:=by
 obtain ⟨ι,τ,h,Sr,Rh,o⟩:=q;refine ⟨ι,τ,h,Sr,Rh,fu o λit h1 ι1 H1 J g1 r1 hr1 o1=>?_⟩
 by_cases hl:it.xs.length<=LINE
 ·rw [if_pos hl] at o1;exact aaa r1 ht (a3z (Sr.mono g1) ix) hr1 hl o1
 ·rw [if_neg hl] at o1;exact o1.elim
theorem agw{K:PySem.W.Frag}{E:XD}{fi:SI}{t:D->Option Sd}{fc:ST}{fe:SE}{ix:List Nat}{n:Nat}{g:TG}{σ:St}{H:Hp}{Q:VK}(ht:afv K n g t)(q:lift K E (yw K) (a1x fi t fc fe ix) σ H Q):a6s (lift K E (atq K) fi) (ug n ix) g (lift K E aj7 fc) (lift K E (yw K) fe) σ H Q:=by
 obtain ⟨ι,τ,h,Sr,Rh,o⟩:=q;refine ⟨ι,τ,h,Sr,Rh,fu o λit h1 ι1 H1 J g1 r1 hr1 o1=>?_⟩
 by_cases hl:it.xs.length<=LINE
 ·rw [if_pos hl] at o1;exact a8a r1 ht (a3z (Sr.mono g1) ix) hr1 hl o1
 ·rw [if_neg hl] at o1;exact o1.elim
section
variable{X:Cx}{E:XD}{elt tg iter cnd:Expr}{scope:Scope}{pos spos pos':Pos}{cl:List (Str × Addr)}{ts fr:List Str}{ix:List Nat}{fi:SI}{g:TG}{t:D->Option Sd}{fe:SE}{fc:ST}{i:Nat}{x:Str}
theorem alp(hN:X.N.Nodup)(hi':X.N[i]? = some x)(hx:Loc X.env.scope x)(hc:X.calm=true)(S:CSc X scope cl ts fr ix)(hi:MI X E tg iter fi)(hg:∀ C fp s H,PG (cxC X (ts++fr) scope cl C fp s H) tg g)(ht:afv X.K ts.length g t)(he:∀ C fp s H,ME (cxC X (ts++fr) scope cl C fp s H) E elt fe)
  (hs:∀ x,foldedSetIterable iter X.env x=pure x:=by intro _;rfl) (hsw:swapsWith (.ListComp elt [⟨tg,iter,[],0⟩] scope pos) (some (.Name x pos')) spos.line X.env=pure true:=by rfl) (hf:X.fn x=true\/X.env.scope.names.lookup x=some .local:=by first | exact .inl rfl | exact .inr rfl | assumption) :
  MS X E (.Assign [.Name x pos'] (.ListComp elt [⟨tg,iter,[],0⟩] scope pos) spos) (lq i (uz fi t fe ix)) :=
 PS.weak (agc (te:=lift X.K E (yw X.K) fe) hN hi' hx hc S hi hg he hs hsw hf) λN σ H q=>alo ht (ajn q)
theorem agx(hN:X.N.Nodup)(hi':X.N[i]? = some x)(hx:Loc X.env.scope x)(hc:X.calm=true)(S:CSc X scope cl ts fr ix)(hi:MI X E tg iter fi)(hg:∀ C fp s H,PG (cxC X (ts++fr) scope cl C fp s H) tg g)(ht:afv X.K ts.length g t)(he:∀ C fp s H,ME (cxC X (ts++fr) scope cl C fp s H) E elt fe)
  (hq:∀ C fp s H,MT (cxC X (ts++fr) scope cl C fp s H) E cnd fc)
  (hs:∀ x,foldedSetIterable iter X.env x=pure x:=by intro _;rfl) (hsw:swapsWith (.ListComp elt [⟨tg,iter,[cnd],0⟩] scope pos) (some (.Name x pos')) spos.line X.env=pure true:=by rfl) (hf:X.fn x=true\/X.env.scope.names.lookup x=some .local:=by first | exact .inl rfl | exact .inr rfl | assumption) :
  MS X E (.Assign [.Name x pos'] (.ListComp elt [⟨tg,iter,[cnd],0⟩] scope pos) spos) (lq i (sZ (a1x fi t fc fe ix))) :=
 PS.weak (api (abj (te:=lift X.K E (yw X.K) fe) (tc:=lift X.K E aj7 fc) hN hi' hx hc S hi hg he hq hs hsw hf)) λN σ H q=>agw ht (auy (ajn q))
end
theorem qg{P:Program}{w:World}{K:PySem.W.Frag}{mg:Str->Option Value}{base:Heap}{x qual:Str}{st:Stmt}{f:Addr}{fd:FuncData}{N ps:List Str}{k:Nat}{b:SS}(Fu:Fun K x qual st f fd)(S:FnScope N ps (az st))
  (hb:∀ (cdv:Value) (A:Around) (outer:List Env) (s:Shared) (H:Hp) (E:XK),Room k (A.deeper (PyProof.Rows.envOfC qual (az st) s.heap.objs.size f cdv))->MSs (a1g CX0 P w K mg base N qual (az st) f cdv A outer s H E).nox X0 (jc st) b) :
  FnOk P w K mg base CX0 (k+1) f fd ps (uo K ps.length (o9 b N.length)):=ap3 Fu S hb λds h _ _ _=>Rf.same rfl
end MI
namespace MI
open PySem PySem.Spec L2 HT
theorem abl{prog:Program}{w:World}{A:Around}{E:Value->Shared->Prop}{s:Shared}{t sl:Addr}{items:Array Value}{vl vu:Value}{lo hi:Option Int}{Q:Value->Shared->Prop}(ht:PyProof.Rows.IsTup s.heap t items)(hs:s.heap.IsSliceOf sl vl vu .none)(pl:IsPart vl lo)(pu:IsPart vu hi)
  (hw:HT.sIx items.size 0 lo=0/\HT.sIx items.size items.size hi=items.size) (h:Q (.ref t) s):wpAny (model prog w) A (getItem (.ref t) (.ref sl)) Q E s:=by
 obtain ⟨os,f1,f2,f3⟩:=id hs;have ty:s.TypeIs (.ref sl) "slice":=⟨os,f1,f2⟩;have tt:s.TypeIs (.ref t) "tuple":=ht.typeIs;rw [getItem]
 try apply wpAny_holding
 first | (apply wpAny_bind;apply wpAny_pure) | skip
 apply wpAny_bind;apply wpAny_sequenceKey tt (by decide)
 apply wpAny_bind
 apply wpAny_callSpecial?_slot (name:=Str.ofString "__getitem__") tt PyProof.Rows.slot_tuple_getitem
 apply wpAny_call_entry PyProof.Rows.slot_tuple_getitem tt PyProof.Rows.entry_tuple_getitem _ (PyProof.Rows.args_tuple_getitem _ _)
 change wpAny (model prog w) A.in1 (Builtin.Tuple.tupleItemsOf (.ref t)>>=_) _ _ s
 apply wpAny_bind;apply PyProof.Rows.tupleItemsOf_ ht
 apply wpAny_bind;apply wpAny_typeOf ty
 rw [if_pos (by decide)]
 apply wpAny_bind;apply HT.a0q hs pl pu
 rw [hw.1,hw.2];dsimp only;rw [if_pos (by simp)]
 apply wpAny_bind
 rw [Builtin.Tuple.tupleIsExact]
 apply wpAny_bind;apply wpAny_typeOf tt
 apply wpAny_pure
 rw [if_pos (by decide)]
 apply wpAny_bind;apply wpAny_rule
 apply wpAny_pure
 exact ⟨_,rfl,wpAny_pure h⟩
def auz(K:PySem.W.Frag):V->Option Int->Option Int->Hp->VK->Prop:=λx lo hi H Q=>∃ a xs,x = .ref a/\SqT K H a xs/\whole xs.length lo hi/\Q (.ref a) H
theorem agy{X:Cx}:SlR X (auz X.K):=by
 intro pins s σ H x v vl vu lo hi sl Q I rx hs pl pu h
 obtain ⟨a,xs,rfl,hx,hw,q⟩:=h;cases rx
 obtain ⟨its,r,ht,hz⟩:=I.tuple hx;have hlen:its.toArray.size=xs.length:=by rw [List.size_toArray];exact r.length.symm
 exact ⟨"tuple",_,PyProof.Rows.slot_tuple_getitem.lookup,ht.typeIs,abl ht hs pl pu (by rw [hlen];exact hw) ⟨.ref a,H,I,rfl,q⟩⟩
def a92(d:D)(lo hi:Option Int)(h:Hd):R D:=match d with
 | .tup xs=>if whole xs.length lo hi then .ok (.tup xs) h else .ok (.tup (a2r xs lo hi)) h
 | d=>gSl d lo hi h
def a0v(f:SE)(l u:SO):SE:=λτ h=>(f τ h).bind λd h1=>(l τ h1).bind λlo h2=>(u τ h2).bind λhi h3=>a92 d lo hi h3
theorem alq{K:PySem.W.Frag}{E:XD}{ι:List Addr}{H:Hp}{h:Hd}{x:V}{d:D}{lo hi:Option Int}{Q:VK}(rx:Rep K ι H x d)(hr:HRep K ι H h)(o:out K E (yw K) ι H (a92 d lo hi h) Q):(atj x lo hi H Q\/atf K x lo hi H Q\/ath K x lo hi H Q)\/auz K x lo hi H Q:=by
 cases rx with
 | @tup p vs xs hp r =>
  by_cases hc:whole xs.length lo hi
  ·simp only [a92,if_pos hc] at o;exact .inr ⟨p,vs,rfl,SqT.of hp,by rw [r.len];exact hc,ans o (.tup hp r) hr⟩
  ·simp only [a92,if_neg hc] at o;exact .inl (.inr (.inl ⟨p,vs,rfl,SqT.of hp,by rw [r.len];exact hc,a0w (a2a r lo hi) hr o⟩))
 | non=>exact o.elim
 | bl _=>exact o.elim
 | int _=>exact o.elim
 | ty _=>exact o.elim
 | str z=>exact .inl (aad (.str z) hr o)
 | rol a b=>exact .inl (aad (.rol a b) hr o)
 | scr a b=>exact .inl (aad (.scr a b) hr o)
 | rod a b c=>exact o.elim
 | rdT a b c=>exact o.elim
 | exc a b c=>exact o.elim
 | ref a=>exact .inl (aad (.ref a) hr o)
theorem mq{X:Cx}{E:XD}{e:Expr}{fa:SE}{lo hi:Option Expr}{l u:SO}{p2 pos:Pos}(he:ME X E e fa)(hl:MO X E lo l)(hu:MO X E hi u):ME X E (.Subscript e (.Slice lo hi none p2) pos) (a0v fa l u):=by
 refine PE.weak (ag7 ((aot.or (aoi.or akq)).or agy) he hl hu) λσ H Q ⟨ι,τ,h,S,Rh,o⟩=>?_;refine ⟨ι,τ,h,S,Rh,fu o λd h1 ι1 H1 v g1 r1 hr1 o1=>?_⟩;refine ⟨ι1,τ,h1,S.mono g1,hr1,fu o1 λlo h2 ι2 H2 lv g2 r2 hr2 o2=>?_⟩;refine ⟨ι2,τ,h2,(S.mono g1).mono g2,hr2,fu o2 λhi h3 ι3 H3 hv g3 r3 hr3 o3=>?_⟩
 cases r2;cases r3
 exact alq ((r1.mono g2).mono g3) hr3 o3
end MI
namespace TPM
open PySem PySem.Spec PySem.W L2 HT MI
theorem a0t:fillsNumberSlot (.type "tuple") "mul" = pure false :=
 fillsNumberSlot_seq (id := "tuple.__mul__") (r:=some (.builtin "tuple.__rmul__")) F.slot_tuple_mul.lookup (by decide +kernel) F.slot_tuple_rmul.lookup (by decide +kernel)
theorem ae5(t:Addr)(items:Array Value)(n:Nat)(dd:Option Addr)(sl:Array (Option Value))(x:Int)(u:Tok)(h0:items.isEmpty=false)(h2:2<=x)(h3:x<2 ^ 63)(hz:items.size*x.toNat<=sizeLine) :
  Meets (Builtin.«tuple.__mul__» ⟨[.ref t, .int x u],[]⟩) (λ_ R s=>s.heap.get? t=some { cls:=.type "tuple",dict:=dd,data:=.seq items n,slots:=sl }/\R (.ok (.ret (.ref s.heap.objs.size))) { s with heap:=s.heap.push { cls:=.type "tuple",data:=.seq (List.foldl (λx1 x2=>x1++x2) #[] (List.replicate x.toNat items)) } }) :=
 .of_wp λprog w A R s h=>by
  obtain ⟨hp,g,d,tk,os⟩:=s;obtain ⟨hl,h⟩:=h;have c1:¬ (decide (x < -2 ^ 63) || decide (x≥2 ^ 63))=true:=by
   rw [Bool.or_eq_true,decide_eq_true_eq,decide_eq_true_eq];omega
  have c2:¬ (items.isEmpty || x == 1)=true:=by
   rw [h0,Bool.false_or];simp;omega
  have c3:¬ (decide (x<=0) || items.isEmpty)=true:=by
   rw [h0,Bool.or_false,decide_eq_true_eq];omega
  have ex:((items.size:Nat):Int)*x=((items.size*x.toNat:Nat):Int):=by
   rw [Int.natCast_mul,Int.toNat_of_nonneg (by omega)]
  have sl':(sizeLine:Nat)<=(2 ^ 63 - 1) / 8:=by decide
  have c4:¬ (items.size:Int)*x > (2 ^ 63 - 1) / 8:=by rw [ex];omega
  have c5:¬ Builtin.Tuple.tupleTooMany ((items.size:Int)*x)=true:=by
   rw [ex];simp only [Builtin.Tuple.tupleTooMany,decide_eq_true_eq];omega
  wp_walk
  rw [if_neg c1]
  wp_walk
  rw [if_neg c2]
  wp_walk
  rw [if_neg c3]
  wp_walk
  rw [if_neg c4]
  wp_walk
  rw [if_neg c5]
  wp_walk
  have fs:¬ (List.foldl (λx1 x2=>x1++x2) #[] (List.replicate x.toNat items)).size > sizeLine:=by
   have:=foldl_rep items.toList x.toNat []
   rw [List.nil_append,Array.toArray_toList] at this;rw [show (#[]:Array Value)=([]:List Value).toArray from rfl,this,List.size_toArray,len_rep,Array.length_toList,Nat.mul_comm]
   omega
  rw [if_neg fs]
  wp_walk
  exact ⟨_,rfl,h⟩
theorem a3n(a:Int)(t:Tok)(l:Addr)(items:Array Value)(n:Nat)(dd:Option Addr)(sl:Array (Option Value)) :
  Meets (Builtin.«int.__rmul__» ⟨[.int a t, .ref l],[]⟩) (λ_ R s=>s.heap.get? l=some { cls:=.type "tuple",dict:=dd,data:=.seq items n,slots:=sl }/\R (.ok (.ret Value.notImplemented)) s):=by
 refine .of_wp λprog w A R s h=>?_;obtain ⟨hp,g,d,tk,os⟩:=s;obtain ⟨hl,h⟩:=h
 wp_walk
 exact ⟨_,rfl,h⟩
theorem a8i:seqRepeat? (.type "tuple")=pure (some (.builtin "tuple.__mul__")):=by
 unfold seqRepeat?;rw [seqSlot_of (T := "tuple") (name := "__mul__") (id := "tuple.__mul__") F.slot_tuple_mul.lookup (by decide +kernel),seqSlot_of (T := "tuple") (name := "__rmul__") (id := "tuple.__rmul__") F.slot_tuple_rmul.lookup (by decide +kernel)]
 rfl
def alr(K:PySem.W.Frag):R2:=λx y H Q=>∃ a k xs,x = .ref a/\y = .int k/\SqT K H a xs/\xs≠[]/\2<=k/\k<2 ^ 63/\xs.length*k.toNat<=sizeLine/\∀ p,H p=none->Q (.ref p) (upd H p (.tup (List.replicate k.toNat xs).flatten))
theorem als{X:Cx}:OpR X (binaryOp .Mult) (alr X.K):=by
 intro pins s σ H x y v u Q I rx ry h
 obtain ⟨a,k,xs,rfl,rfl,ha,hx,h1,h2,hz,q⟩:=h;cases rx
 obtain ⟨t,rfl⟩:=ry;obtain ⟨its,r1,p1,_⟩:=I.tuple ha;obtain ⟨⟨cls,dd,data,sl⟩,ho,hc,n,hd⟩:=id p1;simp only at hc hd;subst hc hd;have he:its.toArray.isEmpty=false:=by
  cases its with
  | nil=>exact (hx (r1.nil_iff.mp rfl)).elim
  | cons _ _=>rfl
 have hz2:its.toArray.size*k.toNat<=sizeLine:=by rw [List.size_toArray,<-r1.length];exact hz
 have hnew:List.foldl (λx1 x2=>x1++x2) #[] (List.replicate k.toNat its.toArray)=(List.replicate k.toNat its).flatten.toArray:=by
  have:=foldl_rep its k.toNat []
  rw [List.nil_append] at this;exact this
 refine wpAny_binaryOp_repeat_ref (T := "tuple") (U := "int") (by decide) ⟨_,ho,rfl⟩ (λs'=>typeIs_int s' k t) a0t F.fills_int_mul F.slot_int_rmul a8i F.slot_int_index.lookup
  (call_meets F.slot_int_rmul (typeIs_int s k t) F.entry_int_rmul (F.args_int_rmul_2 _ _) (a3n k t a its.toArray n dd sl)
   ⟨ho,rfl,⟨_,ho,rfl⟩,call_meets F.slot_tuple_mul ⟨_,ho,rfl⟩ F.entry_tuple_mul (F.args_tuple_mul_2 _ _) (ae5 a its.toArray n dd sl k t he h1 h2 hz2) ⟨ho,?_⟩⟩)
 rw [hnew];refine ⟨.ref s.heap.objs.size,_,I.laid (t':=s.toks) (o:=.tup (List.replicate k.toNat xs).flatten) (λb ob q=>Heap.get?_push_of_some _ q) (Nat.le_refl _) ?_,rfl,q _ (I.hok.fresh (Nat.le_refl _))⟩;exact ⟨by rw [len_rep,Nat.mul_comm];exact hz,_,r1.rep k.toNat,PyProof.Rows.IsTup.new _ _⟩
end TPM
namespace MI
open PySem PySem.Spec L2 TPM
open Classical in
noncomputable def ae6(x y:D)(h:Hd):R D:=match x,y with
 | .tup xs, .int k=>if (xs≠[]/\2<=k/\k<2 ^ 63)/\xs.length*k.toNat<=LINE then .ok (.tup (List.replicate k.toNat xs).flatten) h else .no
 | x,y=>ap5 x y h
theorem a73{K:PySem.W.Frag}:a3j K ae6 (λx y H Q=>(rI CMul (λi j=>.int (i*j)) x y H Q\/as9 x y H Q)\/alr K x y H Q):=by
 intro E ι H h x y dx dy Q rx ry hr o
 cases rx with
 | @tup a vs xs ha rs =>
  cases ry with
  | int k =>
   simp only [ae6] at o
   split at o
   ·rename_i hc;refine .inr ⟨a,k,vs,rfl,rfl,SqT.of ha,λz=>?_,hc.1.2.1,hc.1.2.2,ll (by rw [rs.len];exact hc.2),a0w (rs.flat _) hr o⟩
    subst z;cases rs
    exact hc.1.1 rfl
   ·exact o.elim
  | _=>exact o.elim
 | int i=>exact .inl (adm _ _ _ _ _ _ _ _ _ (.int i) ry hr o)
 | ref e=>exact .inl (adm _ _ _ _ _ _ _ _ _ (.ref e) ry hr o)
 | _=>exact o.elim
end MI
namespace L2
open PySem PySem.Spec PyProof.Rows
end L2
namespace MI
open PySem PySem.Spec L2
def apj(x y:D)(h:Hd):R D:=match x,y with
 | .ref p, .int i=>(match h[p]? with | some (.lst xs)=>(match atI xs i with | some d=>.ok d h | none=>.no) | _=>.no)
 | _,_=>.no
def agz(g:D->D->Hd->R D)(fo fi fe:SE):SS:=λτ h=>(fo τ h).fl λo h1=>(fi τ h1).fl λi h2=>(apj o i h2).fl λx h3=>(fe τ h3).fl λy h4=>(g x y h4).fl λz h5=>match put o i z h5 with | some h6=>.nx τ h6 | none=>.no
end MI
namespace TPM
open PySem PySem.Spec PySem.W L2 HT MI
theorem abm(t b:Addr)(items2:Array Value)(n n2:Nat)(dd dd2:Option Addr)(sl sl2:Array (Option Value)) :
  Meets (Builtin.«tuple.__add__» ⟨[.ref t, .ref b],[]⟩) (λ_ R s=>s.heap.get? t=some { cls:=.type "tuple",dict:=dd,data:=.seq #[] n,slots:=sl }/\s.heap.get? b=some { cls:=.type "tuple",dict:=dd2,data:=.seq items2 n2,slots:=sl2 }/\R (.ok (.ret (.ref b))) s):=by
 refine .of_wp λprog w A R s h=>?_;obtain ⟨hp,g,d,tk,os⟩:=s;obtain ⟨hl,hb,h⟩:=h
 wp_walk
 refine wpAny_of_eq sub_tuple_self ?_
 wp_walk
 exact ⟨_,rfl,h⟩
def apk(K:PySem.W.Frag):R2:=λx y H Q=>∃ a b ys,x = .ref a/\y = .ref b/\SqT K H a []/\SqT K H b ys/\Q (.ref b) H
theorem alu{X:Cx}:OpR X (binaryOp .Add) (apk X.K):=by
 intro pins s σ H x y v u Q I rx ry h
 obtain ⟨a,b,ys,rfl,rfl,ha,hb,q⟩:=h;cases rx
 cases ry
 obtain ⟨its,r1,p1,_⟩:=I.tuple ha;obtain ⟨its2,r2,p2,_⟩:=I.tuple hb;cases r1
 obtain ⟨⟨cls,dd,data,sl⟩,ho,hc,n,hd⟩:=id p1;obtain ⟨⟨cls2,dd2,data2,sl2⟩,ho2,hc2,n2,hd2⟩:=id p2;simp only at hc hd hc2 hd2;subst hc hd hc2 hd2;exact concat_meets ⟨_,ho,rfl⟩ ⟨_,ho2,rfl⟩ noFill_tuple_add seq_tuple_add F.slot_tuple_add F.entry_tuple_add (F.args_tuple_add_2 _ _) (abm a b its2.toArray n n2 dd dd2 sl sl2) ⟨ho,ho2,⟨.ref b,H,I,rfl,q⟩⟩
end TPM
namespace MI
open PySem PySem.Spec L2 TPM
end MI
namespace TPM
open PySem PySem.Spec PySem.W L2 HT MI PyProof.Rows
end TPM
namespace MI
open PySem PySem.Spec L2 TPM
end MI
namespace L2
open PySem PySem.Spec PyProof.Rows
section
variable{X:Cx}
theorem Inv.lstR{pins:List (Addr × Obj)}{σ:St}{H:Hp}{s:Shared}{l:Addr}{xs:List V}(I:Inv X pins σ H s)(hH:Rd H l (.lst xs)):xs.length<=sizeLine/\∃ (its:List Value) (n:Nat),Vals xs its/\xs.length=its.length/\s.heap.get? l=some { cls:=.type "list",data:=.seq its.toArray n }:=by
 obtain ⟨z,its,n,r,e⟩:=hH.ok I.hok;exact ⟨z,its,n,r,r.length,e⟩
def apl:R2:=λx y H Q=>∃ l b xs zs,x = .ref l/\y = .ref b/\Rd H l (.lst xs)/\Rd H b (.lst zs)/\xs.length+zs.length<=sizeLine/\∀ p,H p=none->Q (.ref p) (upd H p (.lst (xs++zs)))
theorem alv:OpR X (binaryOp .Add) apl:=λpins s σ H x y v u Q I rx ry ⟨l,b,xs,zs,ex,ey,h1,h2,hz,q⟩=>by
 subst ex ey;cases rx
 cases ry
 obtain ⟨_,as,_,va,la,ea⟩:=I.lstR h1;obtain ⟨_,bs,_,vb,lb,eb⟩:=I.lstR h2;have app:as.toArray++bs.toArray=(as++bs).toArray:=by simp
 refine PySem.P.add_list ea eb ?_ (by simp;omega)
 rw [app];exact ⟨.ref _,_,I.lnew (t':=s.toks) (va.append vb) (by simpa using hz),rfl,q _ I.fresh⟩
def apm:R2:=λx y H Q=>∃ l k xs,x = .ref l/\y = .int k/\Rd H l (.lst xs) /\ -(2 ^ 63)<=k/\k<2 ^ 63/\xs.length*k.toNat<=sizeLine/\∀ p,H p=none->Q (.ref p) (upd H p (.lst (List.replicate k.toNat xs).flatten))
theorem alw(its:List Value)(k:Nat):List.foldl (λx1 x2=>x1++x2) #[] (List.replicate (if its.toArray.isEmpty=true then 0 else k) its.toArray)=(List.replicate k its).flatten.toArray:=by
 have g:∀ m:Nat,List.foldl (λx1 x2=>x1++x2) #[] (List.replicate m its.toArray)=(List.replicate m its).flatten.toArray:=λm=>by simpa using foldl_rep its m []
 cases its with
 | nil=>simp
 | cons a r=>rw [if_neg (by simp),g]
theorem alx:OpR X (binaryOp .Mult) apm:=λpins s σ H x y v u Q I rx ry ⟨l,k,xs,ex,ey,h1,k1,k2,hz,q⟩=>by
 subst ex ey;cases rx
 obtain ⟨t,rfl⟩:=ry;obtain ⟨_,as,n,va,la,ea⟩:=I.lstR h1;have few:as.toArray.size*k.toNat<=sizeLine:=by rw [List.size_toArray,<-la];exact hz
 have top:(sizeLine:Nat)<=(2 ^ 63 - 1) / 8:=by decide
 refine wpAny_binaryOp_repeat_ref (T := "list") (U := "int") (by decide) ⟨_,ea,rfl⟩ (λs'=>typeIs_int s' k t) noFill_list_mul F.fills_int_mul F.slot_int_rmul repeat_list F.slot_int_index.lookup
  (call_meets F.slot_int_rmul (typeIs_int s k t) F.entry_int_rmul (F.args_int_rmul_2 _ _) (int___rmul___int_list k t l as.toArray n)
   ⟨ea,rfl,⟨_,ea,rfl⟩,call_meets F.slot_list_mul ⟨_,ea,rfl⟩ F.entry_list_mul (F.args_list_mul_2 _ _)
    (AutoListH.list___mul___list_int_3 l as.toArray n k t (by rw [fitsIndex_both k1 k2];exact Bool.false_ne_true) (by omega) (by rw [aa2 few];exact Bool.false_ne_true)) ⟨ea,?_⟩⟩)
 rw [alw];exact ⟨.ref _,_,I.lnew (t':=s.toks) (va.rep k.toNat) (by rw [len_rep,Nat.mul_comm];exact hz),rfl,q _ I.fresh⟩
end
end L2
namespace MI
open PySem PySem.Spec L2 TPM
def a0h(d:D)(h:Hd):Option (List D):=match d with
 | .rol xs=>some xs
 | .ref i=>(match h[i]? with | some (.lst xs)=>some xs | _=>none)
 | _=>none
section
variable{K:PySem.W.Frag}{ι:List Addr}{H:Hp}{h:Hd}
theorem a2d{x:V}{d:D}{xs:List D}(r:Rep K ι H x d)(hr:HRep K ι H h)(e:a0h d h=some xs):∃ a vs,x = .ref a/\Rd H a (.lst vs)/\Reps K ι H vs xs:=by
 cases r with
 | @rol a vs ys hp rs=>cases e;exact ⟨a,vs,rfl, .inr hp,rs⟩
 | @ref a i hp =>
  obtain ⟨ob,e1,e2⟩:=hr.at hp;simp only [a0h,e1] at e
  cases ob with
  | lst ys=>cases e;obtain ⟨vs,h3,h4⟩:=e2;exact ⟨a,vs,rfl, .inl h3,h4⟩
  | _=>cases e
 | _=>cases e
def jr:D->D->Hd->R D
 | .int i, .int j,h=>.ok (.int (i+j)) h
 | .str x, .str y,h=>if x.length+y.length<=LINE then .ok (.str (x++y)) h else .no
 | .tup [], .tup ys,h=>.ok (.tup ys) h
 | .tup (x::xs), .tup ys,h=>if (x::xs).length+ys.length<=LINE then .ok (.tup (x::xs++ys)) h else .no
 | x,y,h=>match a0h x h,a0h y h with
  | some xs,some ys=>if xs.length+ys.length<=LINE then .ok (.ref h.length) (h++[.lst (xs++ys)]) else .no
  | _,_=>.no
theorem a74{x y:D}{xs ys:List D}(e1:a0h x h=some xs)(e2:a0h y h=some ys):jr x y h=if xs.length+ys.length<=LINE then .ok (.ref h.length) (h++[.lst (xs++ys)]) else .no:=by
 cases x<;>first | (cases e1;done) | (cases y<;>first | (cases e2;done) | (simp only [jr,e1,e2]))
theorem aly(x y:D)(h:Hd):(∃ i j,x = .int i/\y = .int j)\/(∃ i j,x = .str i/\y = .str j)\/(∃ xs ys,x = .tup xs/\y = .tup ys)\/(∃ xs ys,a0h x h=some xs/\a0h y h=some ys)\/jr x y h = .no:=by
 cases e1:a0h x h with
 | some xs =>
  cases e2:a0h y h with
  | some ys=>exact .inr (.inr (.inr (.inl ⟨xs,ys,rfl,rfl⟩)))
  | none =>
   refine .inr (.inr (.inr (.inr ?_)))
   cases x<;>first | (cases e1;done) | (simp only [jr,e1,e2])
 | none =>
  cases x with
  | int i=>cases y<;>first | exact .inl ⟨_,_,rfl,rfl⟩ | exact .inr (.inr (.inr (.inr rfl)))
  | str i=>cases y<;>first | exact .inr (.inl ⟨_,_,rfl,rfl⟩) | exact .inr (.inr (.inr (.inr rfl)))
  | tup i=>cases y<;>first | exact .inr (.inr (.inl ⟨_,_,rfl,rfl⟩)) | (cases i<;>exact .inr (.inr (.inr (.inr rfl))))
  | _=>refine .inr (.inr (.inr (.inr ?_)));simp only [jr,e1]
theorem ah0:a3j K jr (λx y H Q=>(rI0 (λi j=>.int (i+j)) x y H Q\/(∃ i j,x = .str i/\y = .str j/\i.length+j.length<=sizeLine/\Q (.str (i++j)) H)\/aoj K x y H Q\/apl x y H Q)\/apk K x y H Q):=by
 intro E ι H h x y dx dy Q rx ry hr o
 rcases aly dx dy h with ⟨i,j,rfl,rfl⟩ | ⟨i,j,rfl,rfl⟩ | ⟨xs,ys,rfl,rfl⟩ | ⟨xs,ys,e1,e2⟩ | e
 ·cases rx;cases ry
  exact .inl (.inl ⟨i,j,rfl,rfl,ans o (.int _) hr⟩)
 ·cases rx;cases ry
  simp only [jr] at o
  split at o
  ·rename_i hc;exact .inl (.inr (.inl ⟨i,j,rfl,rfl,ll hc,ans o (.str _) hr⟩))
  ·exact o.elim
 ·cases rx with
  | @tup a vs _ ha r1 =>
  cases ry with
  | @tup b us _ hb r2 =>
  cases xs with
  | nil=>cases r1;exact .inr ⟨a,b,us,rfl,rfl,SqT.of ha,SqT.of hb,ans o (.tup hb r2) hr⟩
  | cons z xs =>
   simp only [jr] at o
   split at o
   ·rename_i hc;refine .inl (.inr (.inr (.inl ⟨a,b,vs,us,rfl,rfl,SqT.of ha,SqT.of hb,λz=>(by subst z;cases r1),ll (by rw [r1.len,r2.len];exact hc),λz=>?_,λ_=>?_⟩)))
    ·subst z;cases r2
     rw [List.append_nil] at o;exact ans o (.tup ha r1) hr
    ·exact a0w (r1.app r2) hr o
   ·exact o.elim
 ·rw [a74 e1 e2] at o;obtain ⟨a,vs,rfl,h1,h2⟩:=a2d rx hr e1;obtain ⟨b,us,rfl,h3,h4⟩:=a2d ry hr e2
  split at o
  ·rename_i hc;exact .inl (.inr (.inr (.inr ⟨a,b,vs,us,rfl,rfl,h1,h3,ll (by rw [h2.len,h4.len];exact hc),a0f (h2.app h4) hr o⟩)))
  ·exact o.elim
 ·rw [e] at o;exact o.elim
theorem jh{X:Cx}{E:XD}{a b:Expr}{fa fb:SE}{pos:Pos}(ha:ME X E a fa)(hb:ME X E b fb):ME X E (.BinOp a .Add b pos) (s2 jr fa fb) :=
 a9b (OpR.or (ao5.or (ab9.or (ako.or alv))) alu) ah0 ha hb
open Classical in
noncomputable def a3t:D->D->Hd->R D
 | .int i, .int j,h=>if CMul i j then .ok (.int (i*j)) h else .no
 | x, .int k,h=>match a0h x h with
  | some xs=>if (-(2 ^ 63)<=k/\k<2 ^ 63)/\xs.length*k.toNat<=LINE then .ok (.ref h.length) (h++[.lst (List.replicate k.toNat xs).flatten]) else .no
  | none=>.no
 | _,_,_=>.no
theorem ah1:a3j K a3t (λx y H Q=>rI CMul (λi j=>.int (i*j)) x y H Q\/apm x y H Q):=by
 intro E ι H h x y dx dy Q rx ry hr o
 cases ry with
 | int k =>
  cases hx:a0h dx h with
  | some xs =>
   obtain ⟨a,vs,rfl,h1,h2⟩:=a2d rx hr hx;have o':out K E (yw K) ι H (if (-(2 ^ 63)<=k/\k<2 ^ 63)/\xs.length*k.toNat<=LINE then .ok (.ref h.length) (h++[.lst (List.replicate k.toNat xs).flatten]) else .no) Q:=by
    cases dx<;>first | (cases hx;done) | (simp only [a3t,hx] at o;exact o)
   split at o'
   ·rename_i hc;exact .inr ⟨a,k,vs,rfl,rfl,h1,hc.1.1,hc.1.2,ll (by rw [h2.len];exact hc.2),a0f (h2.flat _) hr o'⟩
   ·exact o'.elim
  | none =>
   cases rx with
   | int i =>
    by_cases hc:CMul i k
    ·simp only [a3t,if_pos hc] at o;exact .inl ⟨i,k,rfl,rfl,hc,ans o (.int _) hr⟩
    ·simp only [a3t,if_neg hc] at o;exact o.elim
   | _=>simp only [a3t,hx] at o;exact o.elim
 | _=>cases rx<;>exact o.elim
theorem a75{X:Cx}{E:XD}{a b:Expr}{fa fb:SE}{pos:Pos}(ha:ME X E a fa)(hb:ME X E b fb):ME X E (.BinOp a .Mult b pos) (s2 a3t fa fb):=a9b (aiz.or alx) ah1 ha hb
end
end MI
namespace MI
open PySem PySem.Spec L2
def a8j(d:D)(h:Hd):Option (List Int):=match d with
 | .ref i=>(match h[i]? with | some (.lst xs)=>a5s xs | _=>none)
 | .rol xs=>a5s xs
 | _=>none
theorem ae7{K:PySem.W.Frag}{ι:List Addr}{H:Hp}{h:Hd}{v:V}{d:D}{ns:List Int}(r:Rep K ι H v d)(hr:HRep K ι H h)(e:a8j d h=some ns):∃ p,v = .ref p/\SqL K H p (ns.map V.int):=by
 unfold a8j at e
 split at e
 ·cases r with
  | @ref p _ hp =>
   split at e
   ·rename_i xs hx;obtain ⟨vs,h3,h4⟩:=hr.lst hp hx;exact ⟨p,rfl,SqL.of (by rw [h3,a4a h4 e])⟩
   ·cases e
 ·cases r with
  | @rol p vs xs hp r=>exact ⟨p,rfl,by rw [<-a4a r e];exact hp.l⟩
 ·cases e
end MI
namespace L2
open PySem PySem.Spec PyProof.Rows
end L2
namespace MI
open PySem PySem.Spec L2
end MI
namespace L2
open PySem PySem.Spec PyProof.Rows
def ixI(n:Int):List Int->Option Nat
 | []=>none
 | a::l=>if a=n then some 0 else (ixI n l).map (·+1)
theorem aak{n:Int}:∀ {l:List Int} {j:Nat},ixI n l=some j->l[j]? = some n/\∀ i,i<j->l[i]?≠some n
 | [],_,h=>by cases h
 | a::l,j,h=>by
  unfold ixI at h
  split at h
  ·rename_i e;cases h
   exact ⟨by rw [e];rfl,λi hi=>absurd hi (Nat.not_lt_zero i)⟩
  ·rename_i e;obtain ⟨k,hk,rfl⟩:=Option.map_eq_some_iff.mp h;obtain ⟨h1,h2⟩:=aak hk;refine ⟨h1,λi hi=>?_⟩
   cases i with
   | zero=>intro z;exact e (Option.some.inj z)
   | succ i=>exact h2 i (Nat.lt_of_succ_lt_succ hi)
theorem aal{n:Int}:∀ {l:List Int},n∈l->∃ j,ixI n l=some j
 | [],h=>by cases h
 | a::l,h=>by
  unfold ixI
  split
  ·exact ⟨0,rfl⟩
  ·rename_i e
   rcases List.mem_cons.mp h with h | h
   ·exact absurd h.symm e
   ·obtain ⟨j,hj⟩:=aal h;exact ⟨j+1,by rw [hj];rfl⟩
def eqI(n:Int):Value->Bool
 | .int a _=>a == n
 | _=>false
def ae8(K:PySem.W.Frag):V->List V->Hp->VK->Prop:=λx vs H Q=>∃ (l:Addr) (ns:List Int) (n:Int) (j:Nat),x = .ref l/\vs=[.int n]/\SqL K H l (ns.map V.int)/\ixI n ns=some j/\Q (.int (j:Nat)) H
theorem ae9{X:Cx}:MtR X "list.index" (ae8 X.K):=by
 intro pins s σ H x vs v us Q I rx rv h
 obtain ⟨l,ns,n,j,rfl,rfl,hq,hj,q⟩:=h;cases rx
 obtain ⟨u,rfl,ru⟩:=rv.one;obtain ⟨t,rfl⟩:=ru;obtain ⟨its,r,⟨⟨cls,dict,data,slots⟩,m,e1,e2,e3,e4⟩,hz⟩:=I.list hq;have e2:cls = .type "list":=e2;have e3:dict=none:=e3;have e4:data = .seq its.toArray m:=e4;subst e2 e3 e4;have hl:its.length=ns.length:=by have:=r.length;simp at this;omega
 have each:∀ i (h:i<its.length),∃ a t,its[i] = .int a t/\ns[i]? = some a:=λi h=>by
  obtain ⟨y,h1,h2⟩:=r.get (show (ns.map V.int)[i]? = some (V.int (ns[i]'(by omega))) by rw [List.getElem?_map,List.getElem?_eq_getElem (by omega)];rfl)
  obtain ⟨t,rfl⟩:=h2;exact ⟨_,t,(List.getElem?_eq_some_iff.mp h1).2,List.getElem?_eq_getElem _⟩
 obtain ⟨p1,p2⟩:=aak hj;have jl:j<ns.length:=(List.getElem?_eq_some_iff.mp p1).1;rw [List.length_map] at hz;rw [sizeLine_eq] at hz;refine call_meets F.slot_list_index ⟨_,e1,rfl⟩ F.entry_list_index (F.args_list_index_2 _ _)
  (SeqAt.list_indexAt l its.toArray m none slots (.int n t) (eqI n) j (by simp;omega) (by omega) ?_ ?_) ⟨e1,λy hy=>?_, .int (j:Nat),H,I.tok _,⟨_,rfl⟩,q⟩
 ·obtain ⟨a,t,h1,h2⟩:=each j (by omega)
  rw [p1] at h2;cases h2
  rw [List.getElem_toArray,h1];exact beq_self_eq_true _
 ·intro i hi hij
  obtain ⟨a,t,h1,h2⟩:=each i (by simpa using hi)
  rw [List.getElem_toArray,h1];exact beq_eq_false_iff_ne.mpr λz=>p2 i hij (by rw [h2,z])
 ·obtain ⟨i,hi,rfl⟩:=List.getElem_of_mem (List.mem_toArray.mp hy);obtain ⟨a,t',h1,_⟩:=each i hi;rw [h1];exact SeqAt.EqAt.int_int a t' n t
end L2
namespace MI
open PySem PySem.Spec L2
def a5d(d:D)(ds:List D)(h:Hd):R D:=match a8j d h,ds with
 | some ns,[.int n]=>(match ixI n ns with | some j=>.ok (.int (j:Nat)) h | none=>.no)
 | _,_=>.no
theorem abn{K:PySem.W.Frag}:agl K a5d (ae8 K):=by
 intro E ι H h x dx xs ds Q rx r hr o
 unfold a5d at o
 split at o
 ·rename_i ns n e
  cases r with
  | cons r rs =>
   cases r;cases rs
   split at o
   ·rename_i j hj;obtain ⟨p,rfl,q⟩:=ae7 rx hr e;exact ⟨p,ns,n,j,rfl,rfl,q,hj,ans o (.int _) hr⟩
   ·exact o.elim
 ·exact o.elim
def av0:D->Option Key
 | .int i=>some (.inl i)
 | .str x=>some (.inr x)
 | _=>none
def awg:D->Option (List Key)
 | .tup xs=>a0s av0 xs
 | _=>none
def putD{κ:Type}[DecidableEq κ](kvs:List (κ × D))(k:κ)(d:D):List (κ × D):=if (kvs.any λkv=>decide (kv.1=k))=true then kvs.map λkv=>if kv.1=k then (kv.1,d) else kv else kvs++[(k,d)]
section
variable{K:PySem.W.Frag}{ι:List Addr}{H:Hp}{h:Hd}
variable{X:Cx}{E:XD}{a b e o i:Expr}{fa fb fc:SE}{pos:Pos}
def awh(o k v:D)(h:Hd):Option Hd:=match o with
 | .ref i=>(match h[i]? with
  | some (.dK kvs)=>(match av0 k with | some kk=>if kvs.length<LINE then some (h.set i (.dK (putD kvs kk v))) else none | none=>none)
  | some (.dT kvs)=>(match awg k with | some kk=>if kvs.length<LINE then some (h.set i (.dT (putD kvs kk v))) else none | none=>none)
  | _=>none)
 | _=>none
def ah2(fe fo fi:SE):SS:=λτ h=>(fe τ h).fl λv h1=>(fo τ h1).fl λo h2=>(fi τ h2).fl λk h3=>match awh o k v h3 with | some h4=>.nx τ h4 | none=>.no
end
end MI
namespace ZP
open PySem PySem.Spec PySem.Builtin PySem.Builtin.SmallTypes L2
def a3o(it:Addr):Obj:={ cls:=.type "enumerate",data:=.fields #[.none, .bool false, .ref it,rawInt 0, .none, .none] }
theorem aea(t:Tok)(k:Srk)(us:List Value):Meets (Builtin.«enumerate.__new__» ⟨[.type "enumerate",val t k],[]⟩)
  (λ_ R s=>cont s.heap k us/\R (.ok (.ret (.ref (s.heap.objs.size+1)))) { s with heap:=(s.heap.push (iob t k)).push (a3o s.heap.objs.size) }) :=
 .of_wp λprog w A R s h=>by
  obtain ⟨hp,g,d,tk,os⟩:=s;obtain ⟨c,h⟩:=h;have sub:=sub_enumerate;have c':cont (Shared.heap ⟨hp,g,d,tk,os⟩) k us:=c;have fin:R (.ok (.ret (.ref (hp.push (iob t k)).objs.size))) { heap:=(hp.push (iob t k)).push (a3o hp.objs.size),gens:=g,drawn:=d,toks:=tk,os:=os }:=by simpa [Heap.size_push] using h
  wp_walk
  refine wpAny_stack_any λst=>wpAny_pure ?_
  split
  ·rename_i cl _ _ _ _ _
   cases (cl == Value.type "enumerate")
   ·wp_walk using zr (t:=t) c'
    exact ⟨_,rfl,fin⟩
   ·wp_walk using zr (t:=t) c'
    exact ⟨_,rfl,fin⟩
  ·wp_walk using zr (t:=t) c'
   exact ⟨_,rfl,fin⟩
def ItE(k:Srk):It where
 go:=λi H=>∃ xs x,its H k=some xs/\xs[i]? = some x
 yld:=λi H v H'=>∃ xs x p,its H k=some xs/\xs[i]? = some x/\H p=none/\v = .ref p/\H'=upd H p (.tup [.int i,x])
 stop:=λi H=>∃ xs,its H k=some xs/\i=xs.length
def tnE(e it:Addr)(t:Tok)(k:Srk)(i:Nat)(h:Heap):Prop:=(∃ old,IsEnum h e it i old)/\own it t k i h
theorem aeb{P:Program}{w:World}{K:PySem.W.Frag}{elts:List Expr}{x1:Nat}{pos:Pos}{e it:Addr}{t:Tok}{k:Srk}(ne:e≠it):Turn P w K (.Tuple elts x1 pos) (ItE k) [e,it] e (tnE e it t k) where
 mem:=by simp
 obj:=λi h st b hb=>by
  obtain ⟨⟨old,h1⟩,h4⟩:=st;simp only [List.mem_cons,List.not_mem_nil,or_false] at hb
  rcases hb with rfl | rfl
  ·exact ⟨_,h1,λv z=>(by cases z)⟩
  ·exact a0z h4
 keep:=λi h h' st kk=>by
  obtain ⟨⟨old,h1⟩,h4⟩:=st;exact ⟨⟨old,kk e (by simp) _ h1⟩,zq h4 λob q=>kk it (by simp) ob q⟩
 item:=by
  intro X hP hw hK hc i pins s σ H E I hf st hg
  subst hP hw hK;obtain ⟨xs,x,e1,g1⟩:=hg;obtain ⟨⟨old,h1⟩,h4⟩:=st;have n:∀ c∈[e,it],H c=none:=λc hc=>(hf c hc).1;obtain ⟨cs,P1,S1,D1,a1,b1,c1,d1⟩:=a1a I (t:=t) e1 (n it (by simp))
  have hd:=I.ok.hd hc;have ef:e ∉ it::cs:=by
   intro z
   rcases List.mem_cons.mp z with z | z
   ·exact ne z
   ·exact c1 e z (n e (by simp))
  refine wpAny_pyNext_enum_itemD (D1 X.A.in1 hd) h1 (a1 i h4) (List.getElem?_eq_some_iff.mp g1).1 ne ef λu h' tk pu eo s1' pr sz kp=>?_;obtain ⟨x',q1,r1⟩:=d1 i u pu;rw [g1] at q1;cases q1
  refine ⟨_,rfl,wpAny_letOwnedTupleGo_enum eo λh2' z2' sb=>?_⟩;have hp:H s.heap.objs.size=none:=I.hok.fresh (Nat.le_refl _);have lt:∀ c∈[e,it],c<s.heap.objs.size:=λc hc=>by
   simp only [List.mem_cons,List.not_mem_nil,or_false] at hc
   rcases hc with rfl | rfl
   ·exact Heap.lt_size h1
   ·obtain ⟨_,q,_⟩:=a0z h4;exact Heap.lt_size q
  have nT:∀ c∈[e,it],c≠s.heap.objs.size:=λc hc=>Nat.ne_of_lt (lt c hc);have all:∀ c o,c ∉ [e,it]->s.heap.get? c=some o->h2'.get? c=some o:=λc o nc q=>by
   simp only [List.mem_cons,List.not_mem_nil,or_false,not_or] at nc;exact (sb.2 c nc.1).trans (kp c o nc.1 nc.2 q)
  have I0:Inv X pins σ (upd H s.heap.objs.size (.tup [.int i,x])) { s with heap:=s.heap.push { cls:=.type "tuple",data:=.seq #[.int i tk,u] } } :=
   I.laid (t':=s.toks) (o:=.tup [.int i,x]) (λb o q=>Heap.get?_push_of_some _ q) (Nat.le_refl _) ⟨by show 2<=sizeLine;decide,[.int i tk,u], .cons ⟨tk,rfl⟩ (.cons r1 .nil),⟨_,Heap.get?_push_size _ rfl,rfl,_,rfl⟩⟩
  have I1:Inv X pins σ (upd H s.heap.objs.size (.tup [.int i,x])) { s with heap:=h2',toks:=tk+1 }:=by
   refine a2t (s:={ s with heap:=s.heap.push { cls:=.type "tuple",data:=.seq #[.int i tk,u] } }) (ch:=[e,it]) I0 (λb hb=>?_) λc o nc q=>?_
   ·obtain ⟨f0,f1⟩:=hf b hb;exact ⟨by rw [jw (nT b hb)];exact f0,f1⟩
   ·rcases Heap.get?_push_cases q with ⟨rfl,rfl⟩ | q
    ·exact (sb.2 _ (nT e (by simp)).symm).trans pr
    ·exact all c o nc q
  refine ⟨.ref s.heap.objs.size,_,I1,rfl,⟨xs,x,_,e1,g1,hp,rfl,rfl⟩,⟨⟨u,by simpa using z2'⟩,zq (b1 _ _ s1') λob q=>(sb.2 _ ne.symm).trans q⟩,λb hb=>?_⟩
  rw [jw (nT b hb)];exact n b hb
 done:=by
  intro X hP hw hK hc i pins s σ H E I hf st hg
  subst hP hw hK;obtain ⟨xs,e1,rfl⟩:=hg;obtain ⟨⟨old,h1⟩,h4⟩:=st;have n:∀ c∈[e,it],H c=none:=λc hc=>(hf c hc).1;obtain ⟨cs,P1,S1,D1,a1,b1,c1,d1⟩:=a1a I (t:=t) e1 (n it (by simp))
  have hd:=I.ok.hd hc;refine wpAny_pyNext_enum_endD (D1 X.A.in1 hd) h1 (a1 _ h4) λh' ex=>⟨rfl,a2t (t':=s.toks) I hf λc o nc q=>?_⟩;simp only [List.mem_cons,List.not_mem_nil,or_false,not_or] at nc;exact ex c o nc.2 q
 self:=λ_ _ _ _ _ st h=>by
  obtain ⟨⟨old,h1⟩,_⟩:=st;exact wpAny_pyIter_enum h1 h
section
variable{X:Cx}{elts:List Expr}{x1:Nat}{tpos:Pos}
def aty(ta:TA):TI:=λσ H R=>ta σ H λvs H1=>∃ k xs,vs=[Srk.v k]/\its H1 k=some xs/\R (ItE k) H1
theorem alz{e1:Expr}{ta:TA}{p pos:Pos}(hg:Gl X "enumerate")(hm:X.mg "enumerate" = none)(ha:PA X [e1] ta)
  (h1:starEach [e1] X.env=[(false,eval e1 X.env)]:=by rfl):PI X (.Tuple elts x1 tpos) (.Call (.Name "enumerate" p) [e1] [] pos) (aty ta):=by
 intro pins s σ H R I h
 refine wpAny_Call_Name_kw (a3f I hg hm PyProof.Rows.boot_enumerate ?_ (by decide) (by decide))
 refine PyProof.Rows.callWith_type1 (thn (ha pos pins s σ H _ I h) λus s1 ⟨vs,H1,I1,r1,q1⟩=>?_) (by rw [h1];rfl) (by rfl)
 obtain ⟨k,xs,rfl,e1,q⟩:=q1;obtain ⟨v1,rfl,rv1⟩:=vals1 r1;obtain ⟨t,rfl⟩:=aaf rv1;obtain ⟨us1,c1,_⟩:=a2s I1 e1;refine callType_new F.called_enumerate (by decide) (F.typeCall_enumerate_1 _) (F.newCall_enumerate_1 _) (λobj=>F.args_object_init_2 obj _) F.entry_enumerate_new (aea t k us1) ⟨c1,?_⟩
 have at0:((s1.heap.push (iob t k)).push (a3o s1.heap.objs.size)).get? s1.heap.objs.size=some (iob t k):=Heap.get?_push_of_some _ (Heap.get?_push_size _ (by cases k<;>rfl))
 have at1:IsEnum ((s1.heap.push (iob t k)).push (a3o s1.heap.objs.size)) (s1.heap.objs.size+1) s1.heap.objs.size 0 .none:=by
  have:=Heap.get?_push_size (o:=a3o s1.heap.objs.size) (s1.heap.push (iob t k)) rfl
  rw [Heap.size_push] at this;exact this
 have keepA:∀ b o,s1.heap.get? b=some o->((s1.heap.push (iob t k)).push (a3o s1.heap.objs.size)).get? b=some o:=λb o q=>Heap.get?_push_of_some _ (Heap.get?_push_of_some _ q);have I2:Inv X pins σ H1 { s1 with heap:=(s1.heap.push (iob t k)).push (a3o s1.heap.objs.size) }:=I1.kept (t':=s1.toks) keepA
 refine ⟨⟨_,at1,rfl⟩,?_⟩;refine wpAny_pyIter_enum (s:={ s1 with heap:=(s1.heap.push (iob t k)).push (a3o s1.heap.objs.size) }) at1 ?_
 refine ⟨s1.heap.objs.size+1,[s1.heap.objs.size+1,s1.heap.objs.size],tnE _ _ t k,ItE k,H1,rfl,I2,aeb (by intro z;have z:(_:Nat)=_:=z;omega),⟨⟨.none,at1⟩,asd at0⟩,λb hb=>?_,q⟩
 have:s1.heap.objs.size<=b:=by
  simp only [List.mem_cons,List.not_mem_nil,or_false] at hb
  rcases hb with rfl | rfl
  ·exact Nat.le_succ _
  ·exact Nat.le_refl _
 exact I1.fpOk this (I1.hok.fresh this)
end
end ZP
namespace MI
open PySem PySem.Spec L2 ZP
def abo(x:D)(h:Hd):R Itm:=match srcOf x h with
 | some (xs,c)=>.ok ⟨((List.range xs.length).zip xs).map λp=>.tup [.int (p.1:Nat),p.2],c⟩ h
 | none=>.no
def a9g(f:SE):SI:=λτ h=>(f τ h).bind abo
theorem am0{X:Cx}{E:XD}{elts:List Expr}{x1:Nat}{tpos:Pos}{e1:Expr}{f:SE}{p pos:Pos}(hg:Gl X "enumerate")(hm:X.mg "enumerate" = none)(ha:ME X E e1 f)
  (h1:starEach [e1] X.env=[(false,eval e1 X.env)]:=by rfl):MI X E (.Tuple elts x1 tpos) (.Call (.Name "enumerate" p) [e1] [] pos) (a9g f):=by
 intro pins s σ H Rr I ⟨ι,τ,h,S,Rh,o⟩
 refine alz hg hm (qi ha a4p (by rw [h1];rfl)) h1 pins s σ H Rr I ?_
 refine ⟨ι,τ,h,S,Rh,fu o λd h1 ι1 H1 v g1 r1 hr1 o1=>?_⟩;unfold abo at o1
 split at o1
 ·rename_i xs c q1;obtain ⟨k,rfl,kc,kf⟩:=aag r1 hr1 q1;obtain ⟨vs,w1,w2⟩:=kf ι1 H1 h1 (.refl _ _) hr1 kc;refine ⟨k,vs,rfl,w1,o1 ι1 H1 _ (.refl _ _) ?_ hr1⟩
  intro ι3 H3 h3 g3 hr3 c3
  obtain ⟨us,a1,a2⟩:=kf ι3 H3 h3 g3 hr3 c3;refine ⟨λi d ed=>?_,us,a1,?_⟩
  ·simp only [List.getElem?_map,Option.map_eq_some_iff] at ed;obtain ⟨⟨j,y⟩,ez,rfl⟩:=ed;obtain ⟨ex,ey⟩:=List.getElem?_zip_eq_some.mp ez;have hj:j=i:=by
    obtain ⟨_,q⟩:=List.getElem?_eq_some_iff.mp ex;simpa using q.symm
   subst hj;obtain ⟨v2,b3,b4⟩:=a2.get ey;refine ⟨⟨us,v2,a1,b3⟩,λx H' yl=>?_⟩;obtain ⟨xs',x',p,c1,c3,c5,rfl,rfl⟩:=yl;rw [a1] at c1;cases c1
   rw [b3] at c3;cases c3
   exact ⟨xu c5 _, .tup qe (.cons (.int _) (.cons (b4.mono (xu c5 _)) .nil)),hr3.aside c5 _⟩
  ·rw [List.length_map,List.length_zip,List.length_range,a2.len];omega
 ·exact o1.elim
end MI
namespace L2
open PySem PySem.Spec PyProof.Rows
end L2
namespace MI
open PySem PySem.Spec L2
end MI
namespace L2
open PySem PySem.Spec PyProof.Rows
end L2
namespace MI
open PySem PySem.Spec L2
def awi(lo:Int)(n:Nat):List D:=(List.range n).map λi=>D.int (lo - (i:Nat))
def apn(ds:List D)(h:Hd):R Itm:=match ds with
 | [.int i, .int j, .int k]=>if k = -1/\B62 i/\B62 j then .ok ⟨awi i (i - j).toNat,λ_=>True⟩ h else .no
 | _=>.no
theorem gq{α β:Type}(a:α)(h:Hd)(k:α->Hd->R β):(R.ok a h).bind k=k a h:=rfl
theorem a5e{α:Type}(a:α)(h:Hd)(k:α->Hd->Fl):(R.ok a h).fl k=k a h:=rfl
def thn(r:Fl)(g:SS):Fl:=match r with | .nx τ h=>g τ h | r=>r
theorem wg(f g:SS)(τ:Sd)(h:Hd):j5 f g τ h=thn (f τ h) g:=by unfold j5 thn;cases f τ h<;>rfl
theorem xf(τ:Sd)(h:Hd)(g:SS):thn (.nx τ h) g=g τ h:=rfl
theorem aam(d:D)(h:Hd)(g:SS):thn (.rt d h) g = .rt d h:=rfl
def toR(r:Fl):R D:=match r with | .rt d h1=>.ok d h1 | .nx _ h1=>.ok .non h1 | .ex c h1=>.ex c h1 | _=>.no
theorem j7(b:SS)(n:Nat)(ds:List D)(h:Hd):o9 b n ds h=toR (b (a0y n ds) h):=by unfold o9 toR;cases b (a0y n ds) h<;>rfl
theorem a8k(d:D)(h:Hd):toR (.rt d h) = .ok d h:=rfl
theorem aan(τ:Sd)(h:Hd):toR (.nx τ h) = .ok .non h:=rfl
theorem yf{n:Nat}:∀ {xs:List D},clos n xs↔∀ x∈xs,clo n x
 | []=>by simp [clos]
 | x::xs=>by simp [clos,yf (xs:=xs)]
theorem iz{n:Nat}(i:Int):clo n (.int i):=by simp [clo]
theorem j6{n:Nat}(i:Str):clo n (.str i):=by simp [clo]
theorem a1j{n:Nat}(i:Bool):clo n (.bl i):=by simp [clo]
theorem a9h{n:Nat}:clo n .non:=by simp [clo]
theorem lu{n:Nat}:clos n []:=by simp [clos]
theorem du{n:Nat}{x:D}{xs:List D}(a:clo n x)(b:clos n xs):clos n (x::xs):=by simp only [clos];exact ⟨a,b⟩
theorem m5{n:Nat}{xs:List D}(h:clos n xs):clo n (.tup xs):=by simpa [clo] using h
theorem v6{n:Nat}{xs:List D}(h:clos n xs):clo n (.rol xs):=by simpa [clo] using h
theorem lw{α:Type}{n:Nat}{f:α->D}{l:List α}(h:∀ a∈l,clo n (f a)):clos n (l.map f):=by
 rw [yf]
 intro x hx
 obtain ⟨a,ha,rfl⟩:=List.mem_map.mp hx;exact h a ha
mutual
theorem aao{n m:Nat}(hm:n<=m):∀ {d:D},clo n d->clo m d
 | .non,_=>by simp [clo]
 | .bl _,_=>by simp [clo]
 | .int _,_=>by simp [clo]
 | .str _,_=>by simp [clo]
 | .ty _,_=>by simp [clo]
 | .tup xs,h=>by simp only [clo] at h ⊢;exact a0i hm h
 | .rol xs,h=>by simp only [clo] at h ⊢;exact a0i hm h
 | .scr xs,h=>by simp only [clo] at h ⊢;exact a0i hm h
 | .rod _ xs,h=>by simp only [clo] at h ⊢;exact a0i hm h
 | .rdT _ xs,h=>by simp only [clo] at h ⊢;exact a0i hm h
 | .exc _,_=>by simp [clo]
 | .ref i,h=>by simp only [clo] at h ⊢;omega
theorem a0i{n m:Nat}(hm:n<=m):∀ {xs:List D},clos n xs->clos m xs
 | [],_=>by simp [clos]
 | x::xs,h=>by simp only [clos] at h ⊢;exact ⟨aao hm h.1,a0i hm h.2⟩
end
theorem nu{n m:Nat}(hm:n<=m){o:O}(h:zj n o):zj m o:=by
 cases o with
 | lst xs=>exact a0i hm h
 | dK kvs=>exact a0i hm h
 | dT kvs=>exact a0i hm h
theorem a9i{α:Type}{f:α->Option α}:∀ {xs:List α},(∀ x∈xs,f x=some x)->a0s f xs=some xs
 | [],_=>rfl
 | x::xs,h=>by
  unfold a0s;rw [h x List.mem_cons_self,a9i λy hy=>h y (List.mem_cons_of_mem _ hy)]
theorem a1e{n k:Nat}{h:Hd}{d:D}(c:clo n d):a2m n h (k+1) d=some d:=by unfold a2m;rw [if_pos c]
theorem ah3{n k:Nat}{h:Hd}{o:O}(c:zj n o):apg n h k o=some o:=by unfold apg;rw [if_pos c]
theorem a4b{n k i:Nat}{h:Hd}{xs:List D}(hi:n<=i)(e:h[i]? = some (.lst xs))(c:clos n xs):a2m n h (k+2) (.ref i)=some (.rol xs):=by
 unfold a2m;rw [if_neg (by simp only [clo];omega)]
 simp only [e];rw [a9i λx hx=>a1e (yf.mp c x hx)];rfl
theorem aap{n k:Nat}{h:Hd}{xs ys:List D}(e:a0s (a2m n h k) xs=some ys)(nc:¬ clos n xs):a2m n h (k+1) (.tup xs)=some (.tup ys):=by
 unfold a2m;rw [if_neg (by simpa only [clo] using nc)]
 simp only [e,Option.map_some]
theorem a5f{n:Nat}{d d':D}{h1:Hd}(e:a2m n h1 FU d=some d')(c:∀ o∈h1.take n,zj n o):a91 n (.ok d h1) = .ok d' (h1.take n):=by
 unfold a91;simp only [e];rw [a9i λo ho=>ah3 (c o ho)]
theorem nq{n:Nat}{d:D}{h1:Hd}(e:clo n d)(c:∀ o∈h1.take n,zj n o):a91 n (.ok d h1) = .ok d (h1.take n):=a5f (a1e e) c
theorem a1f{n i:Nat}{h1:Hd}{xs:List D}(hi:n<=i)(e:h1[i]? = some (.lst xs))(cx:clos n xs)(c:∀ o∈h1.take n,zj n o):a91 n (.ok (.ref i) h1) = .ok (.rol xs) (h1.take n):=a5f (a4b hi e cx) c
theorem yg{f:SE}{τ:Sd}{h:Hd}{xs:List D}(e:f τ h = .ok (.ref h.length) (h++[.lst xs]))(cx:clos h.length xs)(c:∀ o∈h,zj h.length o):sZ f τ h = .ok (.rol xs) h:=by
 unfold sZ;rw [e,a1f (Nat.le_refl _) (by simp) cx (by simpa using c)]
 simp
def Pu(F:SF)(n:Nat)(ds:List D)(d:D):Prop:=∀ h,nj false n F ds h = .ok d h
def Dr(F:SF)(n:Nat)(ds:List D)(o:O)(d:D)(o':O):Prop:=∀ p h,h[p]? = some o->nj false n F (.ref p::ds) h = .ok d (h.set p o')
theorem a4c:∀ {ds:List D},(∀ d∈ds,clo 0 d)->a1r ds=[]/\a1b 0 ds=ds/\∀ k,a1b k ds=ds
 | [],_=>⟨rfl,rfl,λ_=>rfl⟩
 | d::ds,h=>by
  obtain ⟨a,b,c⟩:=a4c (ds:=ds) λx hx=>h x (List.mem_cons_of_mem _ hx);have hd:=h d List.mem_cons_self;have nr:refOf d=none:=by cases d<;>first | rfl | (simp only [clo] at hd;omega)
  refine ⟨?_,?_,λk=>?_⟩
  ·simpa [a1r,nr] using a
  ·cases d<;>first | (simp only [clo] at hd;omega) | (simp only [a1b,b])
  ·cases d<;>first | (simp only [clo] at hd;omega) | (simp only [a1b,c])
theorem Pu.of{F:SF}{n:Nat}{ds:List D}{r:R D}{d:D}(hn:ds.length=n)(cd:∀ x∈ds,clo 0 x)(e:F ds []=r)(z:a91 0 r = .ok d [])(c:clo 0 d):Pu F n ds d:=λh=>by
 obtain ⟨p1,p2,_⟩:=a4c cd;unfold nj;rw [if_pos hn];unfold ang;rw [p1];simp only [a0s,List.length_nil,Bool.false_eq_true,if_false];rw [if_pos ⟨List.nodup_nil,λx hx=>.inl (cd x hx),λo ho=>by simp at ho⟩,p2,e,z]
 simp [c,vg]
theorem Dr.of{F:SF}{n:Nat}{ds:List D}{o o':O}{r:R D}{d:D}(hn:ds.length+1=n)(cd:∀ x∈ds,clo 0 x)(co:zj 0 o)(e:F (.ref 0::ds) [o]=r)(z:a91 1 r = .ok d [o'])(c:clo 0 d)(co':zj 0 o'):Dr F n ds o d o':=λp h hp=>by
 obtain ⟨p1,_,p3⟩:=a4c cd;have e1:a1r (.ref p::ds)=[p]:=by
  have:a1r (.ref p::ds)=p::a1r ds:=rfl
  rw [this,p1]
 have e2:a1b 0 (.ref p::ds) = .ref 0::ds:=by
  have:a1b 0 (.ref p::ds) = .ref 0::a1b 1 ds:=rfl
  rw [this,p3]
 unfold nj;rw [if_pos (by simpa using hn)]
 unfold ang;rw [e1];simp only [a0s,hp,List.length_singleton,Bool.false_eq_true,if_false];have all:∀ x∈(D.ref p::ds),clo 0 x\/isRef x:=λx hx=>by
  rcases List.mem_cons.mp hx with rfl | hx
  ·exact .inr ⟨p,rfl⟩
  ·exact .inl (cd x hx)
 rw [if_pos ⟨by simp,all,λu hu=>by rw [List.mem_singleton.mp hu];exact co⟩,e2,e,z]
 simp [c,co',vg]
theorem apo{F:SF}{n i:Nat}{ds:List D}{o:O}{h1:Hd}(hn:ds.length=n)(cd:∀ x∈ds,clo 0 x)(e:F ds [] = .ok (.ref i) h1)(ho:h1[i]? = some o)(co:zj 0 o)(h:Hd):nj true n F ds h = .ok (.ref h.length) (h++[o]):=by
 obtain ⟨p1,p2,_⟩:=a4c cd;unfold nj;rw [if_pos hn];unfold ang;rw [p1];simp only [a0s,List.length_nil,if_true];rw [if_pos ⟨List.nodup_nil,λx hx=>.inl (cd x hx),λo ho=>by simp at ho⟩,p2,e]
 unfold anf;simp only [ho];rw [if_pos ⟨Nat.zero_le _,co,by simp⟩]
 simp [co,vg]
theorem ah4(g:SG)(b:SS)(τ:Sd)(h:Hd):forL (λ_=>True) g b [] τ h = .nx τ h:=by rw [forL,if_pos True.intro]
def trn(r:Fl)(k:Sd->Hd->Fl):Fl:=match r with | .nx τ h=>k τ h | .ct τ h=>k τ h | .bk τ h=>.nx τ h | r=>r
theorem aec(g:SG)(b:SS)(x:D)(xs:List D)(τ τ1:Sd)(h h1:Hd)(e:g x τ h = .nx τ1 h1):forL (λ_=>True) g b (x::xs) τ h=trn (b τ1 h1) (forL (λ_=>True) g b xs):=by
 rw [forL,if_pos True.intro,e];dsimp only;unfold trn
 cases b τ1 h1<;>rfl
theorem apq(τ:Sd)(h:Hd)(k:Sd->Hd->Fl):trn (.nx τ h) k=k τ h:=rfl
theorem apr(d:D)(h:Hd)(k:Sd->Hd->Fl):trn (.rt d h) k = .rt d h:=rfl
theorem aaq{g:SG}{b:SS}{α:Type}(f:α->D)(I:List α->Sd->Hd->Prop)(Rt:D->Hd->Prop):∀ (xs pre:List α) (τ:Sd) (h:Hd),
  (∀ pre' x post τ h,pre++xs=pre'++x::post->I pre' τ h->∃ τ1 h1,g (f x) τ h = .nx τ1 h1/\((∃ τ2 h2,b τ1 h1 = .nx τ2 h2/\I (pre'++[x]) τ2 h2)\/∃ d h2,b τ1 h1 = .rt d h2/\Rt d h2))->I pre τ h->
  (∃ τ' h',forL (λ_=>True) g b (xs.map f) τ h = .nx τ' h'/\I (pre++xs) τ' h')\/∃ d h',forL (λ_=>True) g b (xs.map f) τ h = .rt d h'/\Rt d h'
 | [],pre,τ,h,_,i0=>.inl ⟨τ,h,ah4 ..,by simpa using i0⟩
 | x::xs,pre,τ,h,st,i0=>by
  obtain ⟨τ1,h1,e1,q⟩:=st pre x xs τ h rfl i0;rw [List.map_cons,aec _ _ _ _ _ _ _ _ e1]
  rcases q with ⟨τ2,h2,e2,i2⟩ | ⟨d,h2,e2,r⟩
  ·rw [e2,apq];have:=aaq f I Rt xs (pre++[x]) τ2 h2 (λpre' y post τ h e=>st pre' y post τ h (by simpa using e)) i2
   simpa using this
  ·rw [e2,apr];exact .inr ⟨d,h2,rfl,r⟩
theorem qw{g:SG}{b:SS}{α:Type}(f:α->D)(I:List α->Sd->Hd->Prop)(xs:List α)(τ:Sd)(h:Hd)
  (st:∀ pre x post τ h,xs=pre++x::post->I pre τ h->∃ τ1 h1,g (f x) τ h = .nx τ1 h1/\∃ τ2 h2,b τ1 h1 = .nx τ2 h2/\I (pre++[x]) τ2 h2) (i0:I [] τ h) :
  ∃ τ' h',forL (λ_=>True) g b (xs.map f) τ h = .nx τ' h'/\I xs τ' h':=by
 rcases aaq f I (λ_ _=>False) xs [] τ h (λpre' x post τ h e i=>let ⟨τ1,h1,a,b⟩:=st pre' x post τ h e i; ⟨τ1,h1,a, .inl b⟩) i0 with ⟨τ',h',a,b⟩ | ⟨_,_,_,z⟩
 ·exact ⟨τ',h',a,b⟩
 ·exact z.elim
theorem a76{f:D->Hd->R D}{α:Type}(g:α->D)(I:List α->List D->Hd->Prop):∀ (xs pre:List α) (ys:List D) (h:Hd),
  (∀ pre' x post ys h,pre++xs=pre'++x::post->I pre' ys h->∃ y h',f (g x) h = .ok y h'/\I (pre'++[x]) (ys++[y]) h')->I pre ys h->∃ zs h',mapR (λ_=>True) f (xs.map g) h = .ok zs h'/\I (pre++xs) (ys++zs) h'
 | [],pre,ys,h,_,i0=>⟨[],h,by rw [List.map_nil,mapR,if_pos True.intro],by simpa using i0⟩
 | x::xs,pre,ys,h,st,i0=>by
  obtain ⟨y,h1,e1,i1⟩:=st pre x xs ys h rfl i0;obtain ⟨zs,h',e2,i2⟩:=a76 g I xs (pre++[x]) (ys++[y]) h1 (λpre' z post ys h e=>st pre' z post ys h (by simpa using e)) i1
  refine ⟨y::zs,h',?_,by simpa using i2⟩
  rw [List.map_cons,mapR,if_pos True.intro,e1];show (mapR _ f (xs.map g) h1).bind _=_;rw [e2];rfl
theorem a8l{f:D->Hd->R D}{α:Type}(g F:α->D){h:Hd}:∀ {xs:List α},(∀ x∈xs,f (g x) h = .ok (F x) h)->mapR (λ_=>True) f (xs.map g) h = .ok (xs.map F) h
 | [],_=>by rw [List.map_nil,mapR,if_pos True.intro];rfl
 | x::xs,st=>by
  rw [List.map_cons,mapR,if_pos True.intro,st x List.mem_cons_self];show (mapR _ f (xs.map g) h).bind _=_;rw [a8l g F λy hy=>st y (List.mem_cons_of_mem _ hy)];rfl
theorem a8m{f:D->Hd->R (Option D)}{α:Type}(g:α->D)(F:α->Option D){h:Hd}:∀ {xs:List α},(∀ x∈xs,f (g x) h = .ok (F x) h)->afu (λ_=>True) f (xs.map g) h = .ok (xs.filterMap F) h
 | [],_=>by rw [List.map_nil,afu,if_pos True.intro];rfl
 | x::xs,st=>by
  rw [List.map_cons,afu,if_pos True.intro,st x List.mem_cons_self];show (afu _ f (xs.map g) h).bind _=_;rw [a8m g F λy hy=>st y (List.mem_cons_of_mem _ hy)];show R.ok ((F x).toList++xs.filterMap F) h=_
  cases e:F x<;>simp [List.filterMap_cons,e]
theorem am1{c:ST}{f:SS}(I:Nat->Sd->Hd->Prop)(N:Sd->Hd->Prop)(Rt:D->Hd->Prop)
  (st:∀ m τ h,I m τ h->(∃ h1,c τ h = .ok false h1/\N τ h1)\/∃ h1,c τ h = .ok true h1/\((∃ τ2 h2 m',f τ h1 = .nx τ2 h2/\m'<m/\I m' τ2 h2)\/∃ d h2,f τ h1 = .rt d h2/\Rt d h2)) :
  ∀ (m n:Nat) (τ:Sd) (h:Hd),m<n->I m τ h->(∃ τ' h',sWh c f n τ h = .nx τ' h'/\N τ' h')\/∃ d h',sWh c f n τ h = .rt d h'/\Rt d h':=by
 intro m
 induction m using Nat.strongRecOn with
 | ind m ih =>
  intro n τ h hn i0
  cases n with
  | zero=>omega
  | succ n =>
   rcases st m τ h i0 with ⟨h1,e1,q⟩ | ⟨h1,e1,q⟩
   ·exact .inl ⟨τ,h1,by rw [sWh,e1];rfl,q⟩
   ·rcases q with ⟨τ2,h2,m',e2,lt,i2⟩ | ⟨d,h2,e2,r⟩
    ·have e3:sWh c f (n+1) τ h=sWh c f n τ2 h2:=by
      rw [sWh,e1,a5e,if_pos rfl,e2]
     rw [e3];exact ih m' lt n τ2 h2 (by omega) i2
    ·refine .inr ⟨d,h2,?_,r⟩;rw [sWh,e1,a5e,if_pos rfl,e2]
structure KD (P:Program) (w:World) (K:PySem.W.Frag) (a:Addr) (kvs:List (Str × Str)):Prop where
 sys:(a == sysModules)=false
 ex:∃ (o:Obj) (vs:List (Key × Value)),K.lookup a=some o/\KV (kvs.map λp=>((.inr p.1:Key),V.str p.2)) vs/\∀ h:Heap,h.get? a=some o->h.DictOf (a4l P w) a vs
section
variable{X:Cx}{E:XD}{e:Expr}{fa:SE}{pos p:Pos}{a:Addr}{kvs:List (Str × Str)}{x:Str}
theorem KD.at(kd:KD X.prog X.w X.K a kvs){pins:List (Addr × Obj)}{σ:L2.St}{H:Hp}{s:Shared}(I:Inv X pins σ H s):∃ vs,KV (kvs.map λp=>((.inr p.1:Key),V.str p.2)) vs/\s.heap.DictOf (a4l X.prog X.w) a vs:=by
 obtain ⟨o,vs,l,r,d⟩:=kd.ex;exact ⟨vs,r,d _ (I.bk _ _ (I.mod.kin _ _ l))⟩
end
mutual
def toPy:D->Option PyData
 | .non=>some .none
 | .bl b=>some (.bool b)
 | .int i=>some (.int i)
 | .str x=>some (.str x)
 | .tup xs=>(am2 xs).map .tuple
 | .rol xs=>(am2 xs).map .list
 | .rod [] []=>some (.dict [])
 | _=>none
def am2:List D->Option (List PyData)
 | []=>some []
 | x::xs=>match toPy x,am2 xs with | some p,some ps=>some (p::ps) | _,_=>none
end
mutual
def noL:D->Bool
 | .rol _=>false
 | .tup xs=>av1 xs
 | _=>true
def av1:List D->Bool
 | []=>true
 | x::xs=>noL x && av1 xs
end
open Classical in
theorem o7{X:Cx}:CallR X (.builtin "isinstance") (λxs H Q=>∃ a o us T b,xs=[.ref a, .ty T]/\H a=some (.frz o (.dK us))/\PySem.W.kitOne X.K (.type "dict") (.type T)=some b/\Q (.bl b) H):=by
 intro pins s σ H xs us Q I r h
 obtain ⟨a,o,kv,T,b,rfl,ea,e,q⟩:=h;obtain ⟨u,w',rfl,rx,rt⟩:=vals2 r;cases rt
 obtain rfl:u=Value.ref a:=rx
 obtain ⟨_,_,_,vs,_,p⟩:=(show ObjOk X.prog X.w H s.heap a (.frz o (.dK kv)) from I.hok a _ ea)
 obtain ⟨o',es,ep,h1,h2,_⟩:=p;exact PySem.W.kia_one PySem.W.kitx_dict I.kIn ⟨o',h1,h2.1⟩ e (λz=>nomatch z) λtk=>⟨.bl b,H,I.tok tk,rfl,q⟩
def uf:List D->Hd->R D
 | [.rod ks xs, .ty T],h=>(match a69 "dict" T with | some b=>.ok (.bl b) h | none=>.no)
 | ds,h=>abk ds h
theorem yh{K:PySem.W.Frag}:ac4 K uf (λxs H Q=>(∃ x T t b,xs=[x, .ty T]/\TyOf K H x t/\PySem.W.kitOne K t (.type T)=some b/\Q (.bl b) H)\/∃ a o us T b,xs=[.ref a, .ty T]/\H a=some (.frz o (.dK us))/\PySem.W.kitOne K (.type "dict") (.type T)=some b/\Q (.bl b) H):=by
 intro E ι H h xs ds Q r hr o
 unfold uf at o
 split at o
 ·split at o
  ·rename_i b hb
   cases r with
   | cons r1 rs =>
    cases rs with
    | cons r2 rs2 =>
     cases rs2
     cases r2
     cases r1 with
     | rod hp ek rr=>exact .inr ⟨_,_,_,_,b,rfl,hp,a9d hb,ans o (.bl _) hr⟩
  ·exact o.elim
 ·exact .inl (ald E ι H h xs _ Q r hr o)
end MI
namespace TPM
open PySem PySem.Spec PySem.W L2 HT MI PyProof.Rows
end TPM
namespace MI
open PySem PySem.Spec L2 TPM
end MI
namespace L2
open PySem PySem.Spec PyProof.Rows
section
variable{X:Cx}
theorem abp(hc:X.calm=true):CallR X (.builtin "max") (λxs H Q=>∃ (p:Addr) (ns:List Int),xs=[.ref p]/\SqT X.K H p (ns.map V.int)/\ns≠[]/\Q (.int (mxI ns)) H):=by
 intro pins s σ H xs us Q I r h
 obtain ⟨p,ns,rfl,hq,hn,q⟩:=h;obtain ⟨u,rfl,rx⟩:=vals1 r;cases rx
 obtain ⟨its,r',ht,hz⟩:=I.tuple hq;have hInts:IntsAre its ns:=intsAre_of r';obtain ⟨prs,ep⟩:=hInts.allInts.items;have nums:prs.toList.map (·.1)=ns:=by
  rw [<-nums_intItems,<-ep];exact hInts.numsOf
 have sz:prs.size=ns.length:=by rw [<-nums,List.length_map,Array.length_toList]
 have pos:0<ns.length:=List.length_pos_iff.mpr hn;have at':∀ j,j<ns.length->ns[j]? = some (numAt prs j):=λj hj=>by
  rw [<-nums,List.getElem?_map,Array.getElem?_toList];unfold numAt;rw [Array.getElem?_eq_getElem (by omega)]
  rfl
 have hT:s.heap.IsTuple p (intItems prs):=ep ▸ ht;have hlt:p<s.heap.objs.size:=by obtain ⟨_,e,_⟩:=hT;exact Heap.lt_size e
 refine call_max_walk (wpAny_pyIter_tuple hT ⟨_,_,_,_,_,_,_,rfl,Walks.tuple (A:=X.A.in1) (I.ok.hd hc) s.heap.objs.size p (Nat.ne_of_lt hlt) (intItems prs),⟨⟨_,Heap.get?_push_size _ rfl,rfl,rfl⟩,hT.at λo e=>Heap.get?_push_of_some _ e⟩,λb hb=>?_,by simp [intItems];omega,CmpOf.ints_gt (numAt prs) (λ_ _=>intItems_at),λv h' tk hv hk=>?_⟩)
 ·show b<(s.heap.push _).objs.size;rw [Heap.size_push];simp only [List.mem_cons,List.not_mem_nil,or_false] at hb
  rcases hb with rfl | rfl
  ·exact Nat.lt_succ_self _
  ·exact Nat.lt_succ_of_lt hlt
 ·have hv':(intItems prs)[argBest (λi j=>decide (numAt prs i > numAt prs j)) (prs.size - 1)]? = some v:=by simpa [intItems] using hv
  obtain ⟨t,rfl⟩:=intItems_at hv';obtain ⟨b1,b2⟩:=argBest_gt (numAt prs) (prs.size - 1)
  generalize argBest (λi j=>decide (numAt prs i > numAt prs j)) (prs.size - 1)=b at b1 b2
  have e:numAt prs b=mxI ns:=aow (List.mem_of_getElem? (at' b (by omega))) λx hx=>by
   obtain ⟨j,hj,rfl⟩:=List.getElem_of_mem hx;have:=at' j hj;rw [List.getElem?_eq_getElem hj] at this;rw [Option.some.inj this];exact b2 j (by omega)
  refine ⟨.int (mxI ns),H,I.kept λb o e=>hk b o (λhm=>?_) (Heap.get?_push_of_some _ e),⟨t,by rw [e]⟩,q⟩
  rw [List.mem_singleton] at hm;exact absurd (hm ▸ Heap.lt_size e) (Nat.lt_irrefl _)
end
end L2
namespace MI
open PySem PySem.Spec L2
def aed:List D->Hd->R D
 | [.tup xs],h=>(match a5s xs with | some (n::ns)=>.ok (.int (mxI (n::ns))) h | _=>.no)
 | _,_=>.no
theorem ah5{K:PySem.W.Frag}:ac4 K aed (λxs H Q=>∃ (p:Addr) (ns:List Int),xs=[.ref p]/\SqT K H p (ns.map V.int)/\ns≠[]/\Q (.int (mxI ns)) H):=by
 intro E ι H h xs ds Q r hr o
 unfold aed at o
 split at o
 ·cases r with
  | cons r rs =>
   cases rs
   split at o
   ·rename_i n ns e
    cases r with
    | @tup p vs xs hp r=>exact ⟨p,n::ns,rfl,by rw [<-a4a r e];exact SqT.of hp,by simp,ans o (.int _) hr⟩
   ·exact o.elim
 ·exact o.elim
theorem aps{xs:List Int}{h:Hd}(ne:xs≠[]):aed [.tup (xs.map D.int)] h = .ok (.int (mxI xs)) h:=by
 have e:∀ l:List Int,a5s (l.map D.int)=some l:=λl=>by
  induction l with
  | nil=>rfl
  | cons a l ih=>rw [List.map_cons];simp only [a5s,ih,Option.map_some]
 unfold aed;simp only [e]
 cases xs with
 | nil=>exact absurd rfl ne
 | cons n ns=>rfl
end MI
namespace PN
open PySem PySem.Spec L2 MI
noncomputable def a2e:SS :=
 (vf (sA yx (aj (sZ (a0v (sV 0) oN (oS (sC (.int 63))))) (aj (sC (.int 0)) (aj (sC (.int 0)) dj)))))
noncomputable def a2w:SS :=
 (j5 (sIf (sT (s2 gGt (s2 gIx (sV 0) (sC (.int 2))) (sC (.int 0))))
 (j5 (lq 2 (s2 a6w (s2 gIx (sV 0) (sC (.int 2))) (sV 1)))
 (j5 (ac6 (s2 adk (s2 gIx (sV 0) (sC (.int 2))) (sV 1)) (sV 0) (sC (.int 2)))
 (vf (sV 2))))
 sNx)
 (j5 (lq 3 (s2 gIx (sV 0) (sC (.int 1))))
 (j5 (ac6 (s2 jr (sV 3) (sC (.int 1))) (sV 0) (sC (.int 1)))
 (j5 (lq 4 (sC (.int 5)))
 (j5 (sIf (sT (s2 gGt (sA xx (aj (s2 gIx (sV 0) (sC (.int 0))) dj)) (sC (.int 0))))
 (lq 4 (s2 gIx (s2 gIx (sV 0) (sC (.int 0))) (s2 a6w (sV 3) (sA xx (aj (s2 gIx (sV 0) (sC (.int 0))) dj)))))
 sNx)
 (j5 (sIf (anb (sT (s2 gLt (sV 3) (sA xx (aj (s2 gIx (sV 0) (sC (.int 0))) dj)))) (sT (s2 gGe (sA ap9 (aj (sV 4) dj)) (s2 adl (sC (.int 10)) (sC (.int 18))))))
 (j5 (lq 5 (s2 jr (s2 a3t (sC (.int 2)) (sA ap9 (aj (sV 4) dj))) (sA alb (aj (s2 gLt (sV 4) (sC (.int 0))) dj))))
 (j5 (ac6 (s2 adk (sV 5) (sV 1)) (sV 0) (sC (.int 2)))
 (vf (s2 a6w (sV 5) (sV 1)))))
 sNx)
 (j5 (lq 6 (s2 a6w (s2 adl (s2 jr (s2 jr (s2 a6w (sV 4) (sC (.int 2147483587))) (s2 a3t (sC (.int 40709)) (sV 3))) (sC (.int 31))) (sC (.int 3))) (sC (.int 2147483647))))
 (j5 (lq 6 (s2 a6w (s2 jr (s2 jr (s2 a3t (sV 6) (sV 6)) (s2 a3t (sC (.int 48271)) (sV 6))) (sV 3)) (sC (.int 2147483629))))
 (vf (s2 a6w (s2 adk (sV 6) (sC (.int 64))) (sV 1)))))))))))
noncomputable def zc:SS :=
 (j5 (lq 0 (sC (.str " !\"#$&'()*+,-./0123456789:;<=>?@ABCDEFGHIJKLMNOPQRSTUVWXYZ[\\]^_`")))
 (vf (s2 jr (sV 0) (sC (.str "abcdefghijklmnopqrstuvwxyz{|}~\n")))))
noncomputable def yj(ak:SF):SS :=
 (j5 (lq 5 (sA (nj false 2 ak) (aj (sV 0) (aj (sA xx (aj (sV 1) dj)) dj))))
 (j5 (lq 3 (s2 jr (sV 3) (s2 gIx (sV 1) (sV 5))))
 (lq 1 (s2 jr (a0v (sV 1) oN (oS (sV 5))) (a0v (sV 1) (oS (s2 jr (sV 5) (sC (.int 1)))) oN)))))
noncomputable def a2x(ak:SF):SS :=
 (j5 (lq 3 (sC (.str "")))
 (j5 (a3x (sRg a0g (aj (s2 jr (sC (.int 1)) (sA (nj false 2 ak) (aj (sV 0) (aj (sV 2) dj)))) dj)) (kN 4) (yj ak))
 (vf (sV 3))))
noncomputable def qx:SS :=
 (sIf (sT (s2 (gIn true) (sV 6) (sV 4)))
 (um (sML a3l (sV 4) (aj (sV 6) dj)))
 sNx)
noncomputable def vo:ST :=
 (sT (s2 gLt (sV 5) (sA xx (aj (sV 4) dj))))
noncomputable def qy:SS :=
 (j5 (a3x (sIt (s2 gIx (sV 1) (s2 gIx (sV 4) (sV 5)))) (kN 6) qx)
 (lq 5 (s2 jr (sV 5) (sC (.int 1)))))
noncomputable def vp:SE :=
 (sML a5d (sV 1) (aj (sV 0) dj))
noncomputable def qz:SE :=
 (sA ou (aj (sZ (uz (sIt (s2 gIx (sV 1) (sV 0))) t1 vp [2])) dj))
noncomputable def sr:SE :=
 (s2 gIx (sV 1) (sV 0))
noncomputable def wj:SS :=
 (j5 (lq 4 (sA yx (aj (sC (.int 0)) dj)))
 (j5 (lq 5 (sC (.int 0)))
 (j5 (sWh vo qy 100000)
 (j5 (lq 3 (s2 jr (sC (.int 1)) (s2 a6w (sV 3) (sA xx (aj (sV 4) dj)))))
 (j5 (lq 4 (s2 jr (sZ (s2 jr (sZ (sA yx (aj (sC (.int 0)) dj))) (sZ (a0v (sV 4) (oS (sV 3)) oN)))) (sZ (a0v (sV 4) (oS (sC (.int 1))) (oS (sV 3))))))
 (j5 (lq 7 (sA ou (aj (sZ (uz (sIt (sV 4)) t1 qz [1,4])) dj)))
 (vf (sA qp (aj (sV 0) (aj (sV 7) (aj (sA ou (aj (sZ (uz (sIt (sV 4)) t1 sr [2])) dj)) dj)))))))))))
noncomputable def wu(j4:SF)(ak:SF):SE :=
 (sA (nj false 2 ak) (aj (sV 1) (aj (sV 2) dj)))
noncomputable def ur(j4:SF)(ak:SF):SS :=
 (j5 (lq 9 (uz (sIt (sV 1)) t1 (wu j4 ak) [0,3]))
 (j5 (sIf (sT (s2 hEq (sV 4) (sC (.int 0))))
 (ac6 (sA a3r (aj (s2 jr (sV 8) (sC (.int 1))) (aj (s2 ac3 (sV 3) (sC (.int 1))) dj))) (sV 9) (sA (nj false 2 ak) (aj (sV 0) (aj (sA xx (aj (sV 9) dj)) dj))))
 sNx)
 (j5 (lq 10 (sA (nj false 2 ak) (aj (sV 0) (aj (sC (.int 6)) dj))))
 (j5 (sIf (sOr (sT (s2 hEq (sV 8) (sC (.int 0)))) (sT (s2 gGt (sA (nj false 2 ak) (aj (sV 0) (aj (sV 5) dj))) (sC (.int 0)))))
 (lq 10 (s1 a2l (sC (.int 1))))
 sNx)
 (j5 (um (sML a3l (sV 6) (aj (sV 9) dj)))
 (um (sML a3l (sV 7) (aj (sV 10) dj))))))))
noncomputable def a0j(j4:SF)(ak:SF):SS :=
 (j5 (lq 3 (s2 jr (sC (.int 1)) (sA (nj false 2 ak) (aj (sV 0) (aj (sV 2) dj)))))
 (j5 (lq 4 (sA (nj false 2 ak) (aj (sV 0) (aj (sC (.int 3)) dj))))
 (j5 (lq 5 (s2 jr (sC (.int 2)) (sA (nj false 2 ak) (aj (sV 0) (aj (sC (.int 2)) dj)))))
 (j5 (lq 6 (sA yx dj))
 (j5 (lq 7 (sA yx dj))
 (j5 (a3x (sRg a0g (aj (sV 3) dj)) (kN 8) (ur j4 ak))
 (vf (sA (sN 4 j4) (aj (sV 1) (aj (sV 6) (aj (sV 7) (aj (sA (nj false 2 ak) (aj (sV 0) (aj (sC (.int 32)) dj))) dj))))))))))))
noncomputable def a05(ak:SF):SS :=
 (j5 (lq 5 (sA (nj false 2 ak) (aj (sV 0) (aj (sV 2) dj))))
 (j5 (lq 6 (sZ (sA yx (aj (sA qp (aj (sC (.str "stay")) dj)) (aj (sA qp (aj (sC (.str "shut")) dj)) (aj (sA qp (aj (sC (.str "open")) (aj (sV 5) dj))) (aj (sA qp (aj (sC (.str "turn")) (aj (sV 5) dj))) (aj (sA qp (aj (sC (.str "shut")) dj)) (aj (sA qp (aj (sC (.str "open")) (aj (sV 5) dj))) dj)))))))))
 (um (sML a3l (sV 3) (aj (s2 gIx (sV 6) (sA (nj false 2 ak) (aj (sV 0) (aj (sC (.int 6)) dj)))) dj)))))
noncomputable def a0k(ak:SF):SS :=
 (j5 (lq 3 (sA yx dj))
 (j5 (a3x (sRg a0g (aj (sV 1) dj)) (kN 4) (a05 ak))
 (vf (sA ou (aj (sV 3) dj)))))
noncomputable def xn(n8:SF)(n6:SF)(ak:SF):SS :=
 (j5 (lq 6 (sA (nj false 3 n6) (aj (sV 0) (aj (sV 1) (aj (sV 2) dj)))))
 (j5 (lq 7 (s2 jr (sA aed (aj (s2 gIx (sV 6) (sC (.int 2))) dj)) (sC (.int 1))))
 (um (sML a3l (sV 4) (aj (sA qp (aj (s2 gIx (sV 6) (sC (.int 1))) (aj (s2 gIx (sV 6) (sC (.int 2))) (aj (sA (nj false 3 n8) (aj (sV 0) (aj (s2 jr (sV 7) (sA (nj false 2 ak) (aj (sV 0) (aj (s2 ac3 (sC (.int 7)) (sV 7)) dj)))) (aj (sV 3) dj)))) dj)))) dj)))))
noncomputable def ym(n8:SF)(n6:SF)(ak:SF):SS :=
 (j5 (lq 3 (s2 jr (sC (.int 1)) (sA (nj false 2 ak) (aj (sV 0) (aj (sC (.int 4)) dj)))))
 (j5 (lq 4 (sA yx dj))
 (j5 (a3x (sRg a0g (aj (sV 3) dj)) (kN 5) (xn n8 n6 ak))
 (vf (sA qp (aj (sV 1) (aj (sA ou (aj (sV 4) dj)) dj)))))))
noncomputable def ww:SS :=
 (j5 (lq 4 (s2 gIx (s2 gIx (s2 gIx (s2 gIx (s2 gIx (sV 0) (sC (.int 1))) (sV 1)) (sC (.int 0))) (sV 4)) (sMS adv (s2 gIx (sV 0) (sC (.int 0))) (aj (s2 gIx (sV 2) (sV 6)) dj))))
 (sIf (sT (s2 gGe (s2 gIx (s2 gIx (s2 gIx (s2 gIx (sV 0) (sC (.int 1))) (sV 1)) (sC (.int 1))) (sV 4)) (sC (.int 0))))
 (lq 5 (sA qp (aj (s2 gIx (s2 gIx (s2 gIx (s2 gIx (sV 0) (sC (.int 1))) (sV 1)) (sC (.int 1))) (sV 4)) (aj (s2 jr (sV 6) (sC (.int 1))) dj))))
 sNx))
noncomputable def a0l:SS :=
 (j5 (lq 4 (sC (.int 0)))
 (j5 (lq 5 (sC .non))
 (j5 (a3x (sRg a89 (aj (sV 3) (aj (sA xx (aj (sV 2) dj)) dj))) (kN 6) ww)
 (vf (sV 5)))))
noncomputable def v7(ak:SF):SE :=
 (s2 gIx (sV 2) (sA (nj false 2 ak) (aj (sV 1) (aj (sA xx (aj (sV 2) dj)) dj))))
noncomputable def zu(ak:SF):SS :=
 (j5 (lq 2 (sA (nj false 2 ak) (aj (sV 0) (aj (s2 gIx (sZ (sA yx (aj (sC (.int 17)) (aj (sC (.int 17)) (aj (sC (.int 17)) (aj (sC (.int 17)) (aj (sC (.int 17)) (aj (sC (.int 61)) dj)))))))) (sA (nj false 2 ak) (aj (sV 0) (aj (sC (.int 6)) dj)))) dj))))
 (vf (sMS adx (sC (.str "")) (aj (sZ (uz (sRg a0g (aj (sV 2) dj)) t1 (v7 ak) [0,1])) dj))))
end PN
namespace L2
open PySem PySem.Spec PySem.W PyProof.Rows
structure Air (stack:List Env) (H:Hp) (h0 B:Heap) (a C:Addr) (t:Value) (h:Heap):Prop where
 fly:Heap.FlyingW B stack a (.ref C) t h
 bk:∀ b o,h.get? b=some o->b ∉ frs stack->(H b≠none\/∃ o0,h0.get? b=some o0)->B.get? b=some o
def CXE(P:Program)(w:World):CXT:=λouter H s E e s' =>
 ∃ a C t B H',e = .ref a/\s'.os=s.os/\AllBare s'.gens/\Un (frs outer) [] H H' s.heap s'.heap/\HOk P w H' s'.heap/\Air outer H' s.heap B a C t s'.heap/\E (.ref C) none H'
section
variable{P:Program}{w:World}{H H':Hp}{h h':Heap}
theorem HOk.is(x:HOk P w H h){a:Addr}{o:HO}(e:H a=some o):∃ ob,h.get? a=some ob:=by
 have:=x a o e
 cases o with
 | lst xs=>obtain ⟨_,_,_,_,e⟩:=this;exact ⟨_,e⟩
 | tup xs=>obtain ⟨_,_,_,ob,e,_⟩:=this;exact ⟨_,e⟩
 | dK kvs=>obtain ⟨_,_,_,_,o,_,_,e,_⟩:=this;exact ⟨_,e⟩
 | dT kvs=>obtain ⟨_,_,_,_,o,_,_,e,_⟩:=this;exact ⟨_,e⟩
 | set S n=>obtain ⟨o,_,_,_,e,_⟩:=this;exact ⟨_,e⟩
 | ins C dx fs=>obtain ⟨_,_,_,e,_⟩:=this;exact ⟨_,e⟩
 | own y=>exact this
 | xd fs=>obtain ⟨_,⟨_,_,_,e,_⟩,_⟩:=this;exact ⟨_,e⟩
 | rng lo hi=>obtain ⟨_,_,_,e⟩:=this;exact ⟨_,e⟩
 | frz ob u=>exact ⟨_,this.1⟩
 | tbl ps=>exact ⟨_,this⟩
 | met f y=>exact ⟨_,this⟩
 | ext φ=>exact this.2.1
theorem HOk.track(x:HOk P w H h)(k:∀ b u,H b≠none->h.get? b=some u->h'.get? b=some u):HOk P w H h':=λa o e =>
 (x a o e).stay (λb u hb q=>k b u (by
  rcases hb with rfl | hb
  ·rw [e];simp
  ·rw [hb];simp) q) (λ_ q=>q) λ_ _ q=>q
end
section
variable{P:Program}{w:World}{K:PySem.W.Frag}{mg:Str->Option Value}{base:Heap}{N:List Str}{qual:Str}{scope:Scope}{f:Addr}{cd:Value}{A:Around}{outer:List Env}{s0:Shared}{H0:Hp}{E:XK}{pins:List (Addr × Obj)}{σ:St}{H:Hp}{s:Shared}
abbrev cxE(P:Program)(w:World)(K:PySem.W.Frag)(mg:Str->Option Value)(base:Heap)(N:List Str)(qual:Str)(scope:Scope)(f:Addr)(cd:Value)(A:Around)(outer:List Env)(s:Shared)(H:Hp)(E:XK):Cx:=a1g (CXE P w) P w K mg base N qual scope f cd A outer s H E
theorem aar{B:Heap}{a C:Addr}{t:Value}{h1 h2:Heap}(I:Inv (cxE P w K mg base N qual scope f cd A outer s0 H0 E) pins σ H { s with heap:=h1 })(hB:∀ b o,h1.get? b=some o->b ∉ frs (envOfC qual scope s0.heap.objs.size f cd::outer)->(H b≠none\/∃ o0,s0.heap.get? b=some o0)->B.get? b=some o)
  (sl:∀ b o,h1.get? b=some o->b∈frs outer->∃ sl,h2.get? b=some { o with slots:=sl }) (fly:Heap.FlyingW B outer a (.ref C) t h2) (e:E (.ref C) none H):CXE P w outer H0 s0 E (.ref a) { s with heap:=h2 }:=by
 have lo:∀ b,b∈frs (envOfC qual scope s0.heap.objs.size f cd::outer)->b=s0.heap.objs.size\/b∈frs outer:=λb hb=>by
  unfold frs at hb ⊢;rw [List.filterMap_cons] at hb
  rcases List.mem_cons.mp hb with rfl | hb
  ·exact .inl rfl
  ·exact .inr hb
 have stk:∀ b,b∈frs (envOfC qual scope s0.heap.objs.size f cd::outer)->H b=none:=λb hb=>I.stkFree b hb;have old:∀ b o,s0.heap.get? b=some o->b ∉ frs outer->b ∉ frs (envOfC qual scope s0.heap.objs.size f cd::outer):=λb o q n z=>by
  rcases lo b z with rfl | z
  ·exact absurd (Heap.lt_size q) (Nat.lt_irrefl _)
  ·exact n z
 have tr:∀ b u,H b≠none->h1.get? b=some u->h2.get? b=some u:=λb u hn q=>fly.1 _ _ (hB b u q (λz=>hn (stk b z)) (.inl hn));have ba:=I.base;refine ⟨a,C,t,B,H,rfl,I.os,I.bare,⟨?_,?_,ba.free,?_,ba.tups,ba.frzs,ba.tbls⟩,I.hok.track tr,⟨fly,?_⟩,e⟩
 ·intro b o q n hf hx
  exact fly.1 _ _ (hB b o (ba.keep b o q n hf hx) (old b o q hf) (.inr ⟨o,q⟩))
 ·intro b o q n hf hx
  obtain ⟨s1,q1⟩:=ba.slot b o q n hf hx;obtain ⟨s2,q2⟩:=sl b _ q1 hf;exact ⟨s2,q2⟩
 ·intro b o q hx
  obtain ⟨o1,q1⟩:=ba.there b o q hx
  by_cases hf:b∈frs outer
  ·obtain ⟨s2,q2⟩:=sl b _ q1 hf;exact ⟨_,q2⟩
  ·exact ⟨_,fly.1 _ _ (hB b o1 q1 (old b o q hf) (.inr ⟨o,q⟩))⟩
 ·intro b o q nf c
  have hh:b ∉ frs (envOfC qual scope s0.heap.objs.size f cd::outer):=λz=>by
   rcases c with c | ⟨o0,c⟩
   ·exact c (stk b z)
   ·exact old b o0 c nf z
  obtain ⟨o1,q1⟩:∃ o1,h1.get? b=some o1:=by
   rcases c with c | ⟨o0,c⟩
   ·cases e1:H b with
    | none=>exact absurd e1 c
    | some u=>exact I.hok.is e1
   ·exact ba.there b o0 c (by intro z;cases z)
  have q2:=hB b o1 q1 hh c;have q3:=fly.1 _ _ q2;rw [q3] at q;cases q
  exact q2
theorem a2y{X:Cx}{pins:List (Addr × Obj)}{σ:St}{H:Hp}{s:Shared}(I:Inv X pins σ H s){b:Addr}{o:Obj}(hb:b∈frs X.stack)(q:s.heap.get? b=some o):∀ vs,o.data≠.fields vs:=by
 obtain ⟨_,o1,q1,d⟩:=I.stack.mem hb;rw [q] at q1;cases q1
 exact d
theorem atz{E':XK}(hE:∀ C H,E' (.ref C) none H->E (.ref C) none H):a4q (CXE P w) (cxE P w K mg base N qual scope f cd A outer s0 H0 E) E':=by
 rintro pins σ H s e s' I ⟨a,C,t,B,H',rfl,os,bare,un,hok,air,e⟩
 have I2:Inv (cxE P w K mg base N qual scope f cd A outer s0 H0 E) pins σ H' s':=I.call' os un hok bare (by intro b z;cases z)
 have hin:∀ b,b∈frs outer->b∈frs (envOfC qual scope s0.heap.objs.size f cd::outer):=λb hb=>by
  unfold frs at hb ⊢;rw [List.filterMap_cons];exact List.mem_cons_of_mem _ hb
 refine wpAny_leaves_onW (base:=B) I.ok.frames (L:=s0.heap.objs.size) rfl air.fly λh2 fl up=>?_;refine aar (h1:=s'.heap) I2 (λb o q nf c=>air.bk b o q nf ?_) (λb o q hb=>up b o q (a2y I2 (hin b hb) q)) fl (hE _ _ e)
 rcases c with c | ⟨o0,c⟩
 ·exact .inl c
 ·exact .inr (I.base.there b o0 c (by intro z;cases z))
theorem au0{h':Heap}{a C:Addr}{args:List Value}(I:Inv (cxE P w K mg base N qual scope f cd A outer s0 H0 E) pins σ H s)(mk:Heap.MadeExcOf s.heap h' a (.ref C) args)(e:E (.ref C) none H):(cxE P w K mg base N qual scope f cd A outer s0 H0 E).xe (.ref a) { s with heap:=h' }:=by
 have hin:∀ b,b∈frs outer->b∈frs (envOfC qual scope s0.heap.objs.size f cd::outer):=λb hb=>by
  unfold frs at hb ⊢;rw [List.filterMap_cons];exact List.mem_cons_of_mem _ hb
 have st:=I.stack;refine wpAny_leaves_madeW (base:=hideAll s.heap (frs (envOfC qual scope s0.heap.objs.size f cd::outer))) (h:=s.heap) I.ok.frames (L:=s0.heap.objs.size) rfl (λb o q=>of_hideAll _ q) (funFrames_hide st λenv he b hb=>List.mem_filterMap.mpr ⟨env,he,hb⟩) mk λh2 t fl tu bt up=>?_;exact aar (h1:=s.heap) I (λb o q nf _=>hideAll_get _ q nf) (λb o q hb=>up b o (mk.keeps b o q) (a2y I (hin b hb) q)) fl e
end
structure XCls (K:PySem.W.Frag) (C:Addr):Prop where
 obj:∃ (nm q:Str) (N:Addr) (bs bm:List Value) (hdct:Bool) (sn:List Str) (sub:List Value) (ab:Bool) (col:Option Bool) (dd:Option Addr) (k0 k1 k2 k3 k5:Option Value),
  K.lookup C=some (excClassObj nm q C N bs bm hdct sn sub ab col dd k0 k1 k2 k3 k5 "ValueError.__new__")/\nsOkIn K N=true/\nsIn K N "__init__" = some none/\tailIn K [.type "ValueError", .type "Exception", .type "BaseException", .type "object"] bm=true
def apt(t:TA)(Ex:Hp->Prop):TS:=λ_ σ H=>t σ H λvs H1=>vs.length<=sizeLine/\Ex H1
section
variable{X:Cx}{C:Addr}{x:Str}{np cpos pos:Pos}{e:Expr}{es:List Expr}{t:TA}{Ex:Hp->Prop}
theorem ah6(hC:XCls X.K C)(hg:Gl X x)(hm:X.mg x=some (.ref C))(hc:X.calm=true)(ha:PA X (e::es) t)
  (lk:∀ (pins:List (Addr × Obj)) (σ:St) (H:Hp) (s:Shared) (h':Heap) (a:Addr) (args:List Value),Inv X pins σ H s->Heap.MadeExcOf s.heap h' a (.ref C) args->Ex H->X.xe (.ref a) { s with heap:=h' })
  (hdb:(x == ("__debug__" : Str))=false:=by decide) (he:starEach (e::es) X.env=(false,eval e X.env)::starEach es X.env:=by rfl) (hpl:(backTo cpos (starEach es X.env)).any (·.1)=false:=by rfl) :
  PS X (.Raise (some (.Call (.Name x np) (e::es) [] cpos)) none pos) (apt t Ex):=by
 intro pins s σ H D I h
 obtain ⟨nm,q,N,bs,bm,hdct,sn,sub,ab,col,dd,k0,k1,k2,k3,k5,lo,ok,ni,ti⟩:=hC.obj;refine wpAny_Raise_call_subT (C:=C) (nm:=nm) (q:=q) (N:=N) (bs:=bs) (bm:=bm) (hdct:=hdct) (sn:=sn) (sub:=sub) (ab:=ab) (col:=col) (dd:=dd) (k0:=k0) (k1:=k1) (k2:=k2) (k3:=k3) (k5:=k5)
  PySem.F.excBase_ValueError (mN:=X.base.nsMap N) ((tail_of_in I.kIn ti).hasType PySem.F.excBase_ValueError.hasBase) (I.ok.hd hc) (by rw [he];show (false || (backTo cpos (starEach es X.env)).any (·.1))=false;rw [hpl];rfl) (nsMap_none_of_in I.ok.mod.kin ok ni) (a2n I hg hm ⟨rfl,?_⟩ hdb)
 have h2:=ha cpos pins s σ H _ I h;rw [he] at h2 ⊢;refine Calls.evalArgs_plain (thn h2 λus s1 ⟨vs,H1,I1,r,z,ex⟩=>?_);exact ⟨rfl,by rw [<-r.length];exact z,I1.kIn _ _ lo, .keeps (.of_isNs (isNs_of_in I1.ok.mod.kin ok)) I1.bk,tail_of_in I1.kIn ti,λh' a mk=>lk pins σ H1 s1 h' a us I1 mk ex⟩
end
end L2
namespace L2
open PySem PySem.Spec PySem.W PyProof.Rows Builtin Builtin.ObjectAttr Builtin.Getset_descriptor
section
variable{prog:Program}{w:World}{A:Around}{E:Value->Shared->Prop}{s:Shared}{K:Frag}{x D:Addr}{ox:Obj}{odo:Option Obj}
structure XKit (K:Frag) (D:Addr):Prop where
 ga:findIn K (.ref D) "__getattribute__" = some (some (.builtin "BaseException.__getattribute__"))
 gn:findIn K (.ref D) "__getattr__" = some none
 cl:(clsIn K D).isSome=true
 ca:findIn K (.ref D) "__class__" = some (some (.builtin "object.__class__"))
 sp:specialIn K (.builtin "object.__class__") "__get__" = some (some (.builtin "getset_descriptor.__get__"))
 tk:takesIn K (.builtin "object.__class__")=some true
 ob:mroIn K D (.type "object")=some true
 be:subIn K (.ref D) (.type "BaseException")=some true
 kc:kitCls K (.ref D) (.ref D)=some true
abbrev ExAt(x D:Addr)(h:Heap):Prop:=∃ o,h.get? x=some o/\o.cls = .ref D
theorem ExAt.ty{M:Model}{h:Heap}(I:ExAt x D h):Looks M h (typeOf (.ref x)) (.ref D):=by
 obtain ⟨o,q,c⟩:=I;exact c ▸ (Looks.ld q).andThen .now
theorem am3{R:Result->Shared->Prop}{tp:Value}(Z:XKit K D)(X:K.In s.heap)(I:ExAt x D s.heap)(h:R (.ok (.ret (.ref D))) s):codeAny (model prog w) A (.call (.builtin "getset_descriptor.__get__") ⟨[.builtin "object.__class__", .ref x,tp],[]⟩) R s:=by
 obtain ⟨hh,g,d,t,os⟩:=s;have T0:=ExAt.ty (M:=model prog w) I;have T1:=looks_mroIn (M:=model prog w) X Z.ob;refine codeAny_call_builtin KF.slot_gs.plain KF.entry_gs (KF.slot_gs.check _ _ _ _ _ _ _ _ KF.type_class (KF.args_gs _ _ _) ?_);unfold Builtin.«getset_descriptor.__get__» descrGet;rw [dga_obj];refine wpAny_bind (wpAny_pure ?_);unfold descrGetter descrCheckInstance descrNameAndClass isInstance;simp only [KF.owner_class]
 repeat lk
 refine ⟨Code.quiet_builtin _ (by decide +kernel),codeAny_builtin KF.entry_class ?_⟩;unfold Builtin.«object.__class__» shownTypeOf
 repeat lk
 exact h
theorem ah7{M:Model}{h:Heap}(Z:XKit K D)(X:K.In h):Looks M h (Builtin.ObjectAttr.find (.ref x) (.ref D) "__class__") (.bind (.builtin "getset_descriptor.__get__") (.builtin "object.__class__")):=by
 refine (looks_findIn X Z.ca).andThen (Looks.andThen (a:=some (.builtin "getset_descriptor.__get__")) (looks_specialIn X Z.sp) (Looks.andThen (a:=some (.builtin "getset_descriptor.__get__", .builtin "object.__class__")) ?_ (Looks.tag .now)));exact (looks_takesIn X Z.tk).andThen .now
theorem aee{Q:Option Value->Shared->Prop}(Z:XKit K D)(X:K.In s.heap)(I:ExAt x D s.heap)(h:Q (some (.ref D)) { s with toks:=s.toks+1 }):wpAny (model prog w) A (getAttr? (.ref x) "__class__") Q E s:=by
 obtain ⟨hh,g,d,t,os⟩:=s;have T0:=ExAt.ty (M:=model prog w) I;have T1:=looks_findIn (M:=model prog w) X Z.ga;have T2:=looks_findIn (M:=model prog w) X Z.gn;have T3:=ah7 (M:=model prog w) (x:=x) Z X;have T4:Looks (model prog w) hh (isInstance (.ref x) (.type "BaseException")) true:=T0.andThen (looks_subIn X Z.be);have f3:=PySem.F.attrBase_ValueError.ga.bind (.ref x);have nb:(Value.builtin "BaseException.__getattribute__" == Value.builtin "object.__getattribute__")=false:=by decide +kernel
 have nh:(onTheHeap (Value.ref D) && Value.builtin "BaseException.__getattribute__" == Value.builtin "object.__getattribute__")=false:=by rw [nb];rfl
 unfold getAttr? getAttrBy? getAttrBy;refine wpAny_bind (wpAny_mkText (wpAny_bind (wpAny_attempt (wpAny_holding (wpAny_bind (T0.at (wpAny_bind (T1.at ?_))))))));dsimp only;rw [nh,if_neg Bool.false_ne_true];unfold getAttrByItsOwn;show wpAny _ _ (typeLookup (.ref D) "__getattr__">>=λbefore=>_) _ _ _;refine wpAny_bind (T2.at (wpAny_bind (wpAny_attempt (wpAny_holding ?_))));show wpAny _ _ (boundAndCalled _ _ _) _ _ _;unfold boundAndCalled;rw [f3];refine wpAny_bind (wpAny_pure (wpAny_call (codeAny_call_builtin PySem.F.attrBase_ValueError.ga.plain PySem.F.entry_bexc_ga ?_)))
 have k1:builtinKind "BaseException.__getattribute__" = some .slot:=by decide +kernel
 have k2:splitId "BaseException.__getattribute__" = some ("BaseException", "__getattribute__"):=by decide +kernel
 have k3:=PySem.F.args_bexc_ga (.ref x) (.str "__class__" t);simp only [checkBuiltinCall,k1,k2];show wpAny _ _ (isInstance (.ref x) (.type "BaseException")>>=λb=>_) _ _ _;refine wpAny_bind (T4.at ?_);rw [if_neg (by decide)]
 refine wpAny_mono (Q:=λ_ s'=>s'=⟨hh,g,d,t+1,os⟩) (E:=λ_ _=>False) ?_ (λu s' e=>?_) (λ_ _ z=>z.elim)
 ·repeat (any_goals (first | assumption | rfl | wp_step))
 ·subst e;unfold Builtin.«object.__getattribute__»
  repeat (first | with_reducible refine T0.at ?_ | with_reducible refine T3.at ?_ | wp_step)
  exact am3 (s:=⟨hh,g,d,t+1,os⟩) Z X I (wpAny_pure (handed_on rfl (wpAny_pure h)))
theorem XKit.at(Z:XKit K D):∃ c o cd sl,K.lookup D=some ⟨c,o, .cls cd,sl⟩:=by
 have:=Z.cl
 unfold clsIn at this
 split at this
 ·exact ⟨_,_,_,_, ‹_›⟩
 ·cases this
theorem XKit.no(Z:XKit K D){h:Heap}{tp:Addr}{dd:Option Addr}{its:List Value}{n:Nat}{sl:Array (Option Value)}(X:K.In h)(q:h.get? tp=some ⟨.type "tuple",dd, .seq its.toArray n,sl⟩):(Value.ref D == .ref tp)=false :=
 beq_eq_false_iff_ne.mpr λe=>by
  obtain ⟨_,_,_,_,lo⟩:=Z.at;rw [Value.ref.inj e] at lo;have:=X _ _ lo;rw [q] at this;cases this
theorem aas(Z:XKit K D):KitX K (.ref x) (.ref D) (ExAt x D) :=
 ⟨λ_ _ _ I=>ExAt.ty I,λ_ _ X _=>(kit_cls X Z.kc).2.1,λ_ _ _ _ _ _ X q=>Z.no X q,λX I q=>aee Z X I q⟩
end
end L2
namespace L2
open PySem PySem.Spec PySem.W PyProof.Rows
section
variable{X:Cx}{pins:List (Addr × Obj)}{σ:St}{H H1 H':Hp}{s s1 s':Shared}
theorem a77{M:Model}{A:Around}{E:Value->Shared->Prop}{i:Nat}{n:Str}{pos:Pos}{Q:Unit->Shared->Prop}(I:Inv X pins σ H s)(hN:X.N.Nodup)(hi:X.N[i]? = some n)(hk:X.env.scope.names.lookup n=some .local)
  (h:∀ s',Inv X pins (σ.set i none) H s'->Q () s'):wpAny M A (do bindName X.env n .none;unbindBehindTheSuite X.env n pos) Q E s:=by
 obtain ⟨m,hn,hl⟩:=id I.loc;have hcls:(X.env.scope.kind == .class || (X.env.scope.kind == .module && X.env.locals != X.env.globals))=false:=by rw [I.ok.kind];rfl
 have cne:=I.cne;obtain ⟨oL,_,_,hoL,_⟩:=id hn;refine wpAny_nameGoes_keeps hk hn hcls λh' v hn' hs=>h _ ?_;have far:∀ b o,X.s₀.heap.get? b=some o->b≠X.env.locals:=λb o e=>Nat.ne_of_lt (Nat.lt_of_lt_of_le (Heap.lt_size e) I.ok.above);refine ⟨I.ok,I.os,I.bare,⟨λb o e n hb hx=>(hs.2 b (far b o e)).trans (I.base.keep b o e n hb hx),λb o e n hb hx=>?_,I.base.free,λb o e hx=>?_,I.base.tups,I.base.frzs,I.base.tbls⟩,⟨_,hn',λj y v' e1 e2 e3=>?_⟩,λy c e=>?_,I.free,I.freeC,λp hp=>?_,I.hok.track λb u hb q=>?_,by simpa using I.len⟩
 ·obtain ⟨sl,q⟩:=I.base.slot b o e n hb hx;exact ⟨sl,(hs.2 b (far b o e)).trans q⟩
 ·obtain ⟨o1,q⟩:=I.base.there b o e hx;exact ⟨o1,(hs.2 b (far b o e)).trans q⟩
 ·have ji:j≠i:=λz=>by
   subst z;rw [List.getElem?_set] at e2;simp at e2
  rw [List.getElem?_set_ne (Ne.symm ji)] at e2;obtain ⟨u',r',q⟩:=hl j y v' e1 e2 e3;refine ⟨u',r',?_⟩
  rcases q with ⟨k,e⟩ | ⟨k,c,e,z⟩
  ·refine .inl ⟨k,?_⟩;have:y≠n:=λe=>ji (a6i hN e1 (e ▸ hi));simp [this,e]
  ·exact .inr ⟨k,c,e,z.sameBut hs (cne y c e)⟩
 ·obtain ⟨w',z⟩:=I.cell y c e;exact ⟨w',z.sameBut hs (cne y c e)⟩
 ·obtain ⟨e,n,ne,nf,d⟩:=I.pin p hp;exact ⟨(hs.2 p.1 ne).trans e,n,ne,nf,d⟩
 ·refine (hs.2 b λz=>?_).trans q;subst z;exact hb I.free
theorem ajo{B h5:Heap}{a C:Addr}{t:Value}(I1:Inv X pins σ H1 s1)(os:s'.os=s1.os)(bare:AllBare s'.gens)(un:Un (frs X.stack) [] H1 H' s1.heap s'.heap)(hok:HOk X.prog X.w H' s'.heap)(air:Air X.stack H' s1.heap B a C t s'.heap)
  (st:B.StaysIn h5) (up:s'.heap.UpToSlots h5) (tk:Nat):Inv X pins σ H' { s' with heap:=h5,toks:=tk }:=by
 have I2:Inv X pins σ H' s':=I1.call' os un hok bare (by intro b z;cases z)
 refine I1.call' (s':={ s' with heap:=h5,toks:=tk }) os ⟨λb o q n hf hx=>?_,λb o q n hf hx=>?_,un.free,λb o q hx=>?_,un.tups,un.frzs,un.tbls⟩ (hok.track λb u hn q=>?_) bare (by intro b z;cases z)
 ·exact st _ _ (air.bk b o (un.keep b o q n hf hx) hf (.inr ⟨o,q⟩))
 ·obtain ⟨s2,q2⟩:=un.slot b o q n hf hx;obtain ⟨s3,q3⟩:=up b _ q2 (a2y I2 hf q2);exact ⟨s3,q3⟩
 ·obtain ⟨o1,q1⟩:=un.there b o q hx
  by_cases hf:b∈frs X.stack
  ·obtain ⟨s3,q3⟩:=up b _ q1 (a2y I2 hf q1);exact ⟨_,q3⟩
  ·exact ⟨_,st _ _ (air.bk b o1 q1 hf (.inr ⟨o,q⟩))⟩
 ·exact st _ _ (air.bk b u q (λz=>hn (I2.stkFree b z)) (.inl hn))
abbrev Cx.inEx(X:Cx)(a:Addr):Cx:={ X with A:=X.A.mark (some (.ref a)),calm:=false,xe:=λ_ _=>False }
theorem Cx.Ok.inEx(ok:X.Ok)(a:Addr):(X.inEx a).Ok:=⟨ok.mod,ok.kind,ok.glob,ok.blt,ok.above,ok.inj,ok.has,ok.cab,λz=>(Bool.noConfusion (show false=true from z)),ok.frames,ok.stk,ok.exf,ok.bs,ok.bsz,ok.noex,ok.exfs,ok.funs,ok.frf⟩
theorem Inv.inEx(I:Inv X pins σ H s)(a:Addr):Inv (X.inEx a) pins σ H s:=⟨I.ok.inEx a,I.os,I.bare,I.base,I.loc,I.cell,I.free,I.freeC,I.pin,I.hok,I.len⟩
theorem Inv.outEx{a:Addr}(ok:X.Ok)(I:Inv (X.inEx a) pins σ H s):Inv X pins σ H s:=⟨ok,I.os,I.bare,I.base,I.loc,I.cell,I.free,I.freeC,I.pin,I.hok,I.len⟩
def exO(a:Addr):HO:=.ext λh=>∃ o,h.get? a=some o
theorem Inv.exc{a:Addr}{oe:Obj}(I:Inv X pins σ H s)(I1:Inv X pins σ H1 s1)(he:s.heap.get? a=some oe)(ha:H a=none)(na:s1.heap.get? a=none):Inv X pins σ (upd H a (.frz oe (exO a))) s:=by
 have old:∀ b o,s1.heap.get? b=some o->b≠a:=λb o q z=>by subst z;rw [na] at q;cases q
 have sm:∀ b o,s1.heap.get? b=some o->upd H a (.frz oe (exO a)) b=H b:=λb o q=>jw (old b o q);have kp:∀ b u,H b=some u->upd H a (.frz oe (exO a)) b=some u:=λb u q=>by
  rw [jw]
  ·exact q
  ·intro z;subst z;rw [ha] at q;cases q
 have ba:=I.base;refine ⟨I.ok,I.os,I.bare,⟨ba.keep,ba.slot,λb o q n hx=>?_,ba.there,λb xs q=>kp _ _ (ba.tups b xs q),λb o u q=>kp _ _ (ba.frzs b o u q),λb ps q=>?_⟩,I.loc,I.cell,?_,λy c e=>?_,λp hp=>?_,λb u q=>?_,I.len⟩
 ·obtain ⟨o1,q1⟩:=I1.base.there b o q hx;rw [sm b o1 q1];exact ba.free b o q n hx
 ·obtain ⟨more,q1⟩:=ba.tbls b ps q;exact ⟨more,kp _ _ q1⟩
 ·obtain ⟨_,⟨o,_,_,q,_⟩,_⟩:=I1.loc;rw [sm _ _ q];exact I.free
 ·obtain ⟨v,o,q,_⟩:=I1.cell y c e;rw [sm _ _ q];exact I.freeC y c e
 ·obtain ⟨e,n,ne,nf,d⟩:=I.pin p hp;exact ⟨e,by rw [sm _ _ (I1.pin p hp).1];exact n,ne,nf,d⟩
 ·by_cases hb:b=a
  ·subst hb;rw [qe] at q;cases q
   exact ⟨he,⟨oe,he⟩,⟨oe,he⟩,λh1 h2 ⟨o,q⟩ k=>⟨o,k o q⟩⟩
  ·rw [jw hb] at q;exact (I.hok b u q).stay (λ_ _ _ z=>z) (λc z=>kp _ _ z) λc xs z=>kp _ _ z
end
def XP(X:Cx)(pins:List (Addr × Obj))(σ:St)(E:XK)(e:Value)(s':Shared):Prop:=∃ s1 H1,Inv X pins σ H1 s1/\CXE X.prog X.w X.stack H1 s1 E e s'
structure Hnd (X:Cx) (R:Addr) (x n:Str) (i:Nat):Prop where
 hg:Gl X x
 hm:X.mg x=some (.ref R)
 nd:X.N.Nodup
 hi:X.N[i]? = some n
 lo:X.env.scope.names.lookup n=some .local
 st:X.stack=X.env::X.outer/\X.env.frame=some X.env.locals
 db:(x == ("__debug__" : Str))=false
section
variable{X:Cx}{pins:List (Addr × Obj)}{σ:St}{s s':Shared}
def au1(D:Ends)(i:Nat):Ends:={ nx:=λσ H=>D.nx (σ.set i none) H,rt:=D.rt,bk:=λσ H=>D.bk (σ.set i none) H,ct:=λσ H=>D.ct (σ.set i none) H }
theorem ah8{R:Addr}{x n:Str}{i:Nat}{np pos:Pos}{b0:Stmt}{suite:List Stmt}{ts:TS}{D:Ends}{E:XK}{e:Value}(N:Hnd X R x n i)(hs:∀ a,PSs (X.inEx a) (b0::suite) ts)
  (mt:∀ C H,E (.ref C) none H->exmOne X.K (.ref C) (.ref R)=some true/\∀ a oe,oe.cls = .ref C->H a=none->ts (au1 D i) (σ.set i (some (.ref a))) (upd H a (.frz oe (exO a))))
  (h:XP X pins σ E e s') :
  wpAny (model X.prog X.w) X.A (noteFrame e X.env) (λ_ s2=>wpAny (model X.prog X.w) X.A (setFlight e none) (λ_ s3=>wpAny (model X.prog X.w) X.A (handleBy e X.env [.ExceptHandler (some (.Name x np)) (some n) (b0::suite) pos]) (SP X pins D) X.xe s3) X.xe s2) X.xe s':=by
 obtain ⟨s1,H1,I1,a,C,t,B,H',rfl,os,bare,un,hok,air,e⟩:=h;obtain ⟨mt1,mt2⟩:=mt C H' e;have ok:=I1.ok;have fr:X.A.frames=some (X.env::X.outer):=by rw [<-N.st.1];exact ok.frames
 have fl:=air.fly;rw [N.st.1] at fl;have na:s1.heap.get? a=none:=by
  cases q:s1.heap.get? a with
  | none=>rfl
  | some o =>
   obtain ⟨oe,vs,he,_,hd,_⟩:=fl.first
   have I2:Inv X pins σ H' s':=I1.call' os un hok bare (by intro b z;cases z)
   have nf:a ∉ frs X.stack:=λz=>a2y I2 z he _ hd;have:=air.bk a oe he nf (.inr ⟨o,q⟩);rw [fl.2.1] at this;cases this
 have ha:H' a=none:=by
  cases q:H' a with
  | none=>rfl
  | some u =>
   obtain ⟨oe,vs,he,_,hd,_⟩:=fl.first
   have I2:Inv X pins σ H' s':=I1.call' os un hok bare (by intro b z;cases z)
   have nf:a ∉ frs X.stack:=λz=>a2y I2 z he _ hd;have:=air.bk a oe he nf (.inl (by rw [q];simp))
   rw [fl.2.1] at this;cases this
 refine wpAny_looks_onW fr N.st.2 fl λh4 held4 up4=>?_;refine wpAny_landsW held4 λh5 fl5 up5=>?_;have I5:=ajo I1 os bare un hok air fl5.1 (up4.trans up5) s'.toks;obtain ⟨ob,hob,hobc⟩:=fl5.there;have I5m:=I5.inEx a;refine wpAny_handleBy_cons (codeAny_handlers_test (a2n I5m N.hg N.hm ?_ N.db)) (by intro q;cases q)
 have LT:Looks (model X.prog X.w) h5 (typeOf (.ref a)) (.ref C):=hobc ▸ (Looks.ld hob).andThen .now;refine (exm_one I5.kIn LT mt1).here ?_;refine codeAny_handlers_suite_as ?_;refine lands_againW fl5 λh6 fl6 up6=>?_;have I6:=ajo I1 os bare un hok air fl6.1 ((up4.trans up5).trans up6) s'.toks;obtain ⟨oe,vs,he,hec,hed,_⟩:=fl6.first
 have I7:=(I6.exc I1 he ha na).inEx a;refine a6j (X:=X.inEx a) I7 N.nd N.hi (.inl N.lo) (v:=.ref a) rfl (λs8 I8=>?_) (.inr N.lo);refine wpAny_mono (hs a pins s8 _ _ (au1 D i) I8 (mt2 a oe hec ha)) (λf s9 q=>?_) λ_ _ z=>z.elim;show wpAny (model X.prog X.w) X.A (do bindName X.env n .none;unbindBehindTheSuite X.env n pos) (λ_ s3=>SP X pins D f s3) X.xe s9
 cases f with
 | next =>
  obtain ⟨σ',H9,I9,q⟩:=q;exact a77 (I9.outEx ok) N.nd N.hi N.lo λs10 I10=>⟨_,H9,I10,q⟩
 | brk =>
  obtain ⟨σ',H9,I9,q⟩:=q;exact a77 (I9.outEx ok) N.nd N.hi N.lo λs10 I10=>⟨_,H9,I10,q⟩
 | cont =>
  obtain ⟨σ',H9,I9,q⟩:=q;exact a77 (I9.outEx ok) N.nd N.hi N.lo λs10 I10=>⟨_,H9,I10,q⟩
 | ret u =>
  obtain ⟨v,σ',H9,I9,r,q⟩:=q;exact a77 (I9.outEx ok) N.nd N.hi N.lo λs10 I10=>⟨v,_,H9,I10,r,q⟩
def PEx(X:Cx)(e:Expr)(t:St->Hp->VK->XK->Prop):Prop :=
 ∀ (pins:List (Addr × Obj)) (s:Shared) (σ:St) (H:Hp) (Q:VK) (E:XK),Inv X pins σ H s->t σ H Q E->wpAny (model X.prog X.w) X.A (eval e X.env) (EP X pins σ Q) (XP X pins σ E) s
def PSx(X:Cx)(st:List Stmt)(t:Ends->XK->St->Hp->Prop):Prop :=
 ∀ (pins:List (Addr × Obj)) (s:Shared) (σ:St) (H:Hp) (D:Ends) (E:XK),Inv X pins σ H s->t D E σ H->wpAny (model X.prog X.w) X.A (execs st X.env) (SP X pins D) (XP X pins σ E) s
variable{e:Expr}{es:List Expr}{pos:Pos}
theorem aef{st:Stmt}{D:Ends}{W:Value->Shared->Prop}(h:wpAny (model X.prog X.w) X.A (exec st X.env) (SP X pins D) W s):wpAny (model X.prog X.w) X.A (execs [st] X.env) (SP X pins D) W s:=by
 refine wpAny_execs_cons (thn h λf s1 q=>?_)
 cases f with
 | next=>exact wpAny_execs_nil q
 | ret v=>exact q
 | brk=>exact q
 | cont=>exact q
theorem ah9{t:St->Hp->VK->XK->Prop}(he:PEx X e t)(hs:swapsWith e none pos.line X.env=pure false:=by rfl):PSx X [.Expr e pos] (λD E σ H=>t σ H (λ_ H1=>D.nx σ H1) E):=by
 intro pins s σ H D E I h
 exact aef (wpAny_Expr_any (thn (he pins s σ H _ E I h) λv s1 ⟨x,H1,I1,r1,q1⟩=>⟨σ,H1,I1,q1⟩) I.quiet hs)
theorem apu{R:Addr}{x n:Str}{i:Nat}{np hp pos:Pos}{body:List Stmt}{b0:Stmt}{suite:List Stmt}{t:Ends->XK->St->Hp->Prop}{ts:TS}(N:Hnd X R x n i)(hb:PSx X body t)(hs:∀ a,PSs (X.inEx a) (b0::suite) ts) :
  PS X (.Try body [.ExceptHandler (some (.Name x np)) (some n) (b0::suite) hp] [] [] pos) (λD σ H=>t D (λcls d H'=>∃ C,cls = .ref C/\exmOne X.K (.ref C) (.ref R)=some true/\∀ a oe,oe.cls = .ref C->H' a=none->ts (au1 D i) (σ.set i (some (.ref a))) (upd H' a (.frz oe (exO a)))) σ H):=by
 intro pins s σ H D I h
 refine wpAny_Try_except (wpAny_mono (hb pins s σ H D _ I h) (λf s1 q=>?_) λe s1 q=>ah8 N hs (λC H' z=>?_) q)
 ·cases f with
  | next=>exact wpAny_execs_nil q
  | ret v=>exact q
  | brk=>exact q
  | cont=>exact q
 ·obtain ⟨C',z,m1,m2⟩:=z;cases z
  exact ⟨m1,m2⟩
theorem aha{k:Nat}{f:Addr}{fd:FuncData}{ps:List Str}{sp:Sp}{x:Str}{p:Pos}{t:TA}(F:FnOk X.prog X.w X.K X.mg X.base (CXE X.prog X.w) k f fd ps sp)(hr:Room k X.A)(hg:Gl X x)(hm:X.mg x=some (.ref f))(hk:PySem.W.keepIn X.K (.ref f)=true)(hb:Binds X.K fd ps [])
  (ha:PA X.nox (e::es) t) (hdb:(x == ("__debug__" : Str))=false:=by decide) (he:starEach (e::es) X.env=(false,eval e X.env)::starEach es X.env:=by rfl) (hpl:(backTo pos (starEach es X.env)).any (·.1)=false:=by rfl) :
  PEx X (.Call (.Name x p) (e::es) [] pos) (λσ H Q E=>t σ H λvs H1=>sp vs H1 Q E):=by
 intro pins s σ H Q E I h
 refine wpAny_Call_Name_kw (a2n I hg hm ?_ hdb);refine PySem.W.callWith_K (h₀:=X.base) I.ok.mod.kin hk (wpAny_mono (ha pos pins s σ H _ (I.wish _) h) (λus s1 ⟨vs,H1,I1,r,q⟩=>⟨I1.unwish.kIn,?_⟩) λ_ _ z=>z.elim) he hpl;have I1:=I1.unwish;have hl:us.length=ps.length:=by rw [<-r.length];exact F.len _ _ _ _ q
 have bd:=hb s1 us I1.kIn (by rw [List.append_nil];exact hl)
 rw [List.append_nil] at bd;refine wpAny_call (codeAny_mono (F.run X.A X.stack s1 H1 ⟨us,[]⟩ us vs Q E hr I1.env0 bd r q) λr s' hq=>?_)
 cases r with
 | error e=>exact ⟨s1,H1,I1,hq⟩
 | ok fl =>
  cases fl with
  | ret u=>exact I1.after hq
  | next=>exact False.elim hq
  | brk=>exact False.elim hq
  | cont=>exact False.elim hq
end
end L2
namespace MI
open PySem PySem.Spec L2
def ac8(mg:Str->Option Value)(E:XK):XD:=λc _ H' _=>∃ C,mg c=some (.ref C)/\E (.ref C) none H'
def spX(K:PySem.W.Frag)(mg:Str->Option Value)(n:Nat)(F:SF):Sp:=λvs H Q E=>vs.length=n/\∃ ι ds h,Reps K ι H vs ds/\HRep K ι H h/\out K (ac8 mg E) (yw K) ι H (F ds h) Q
structure DnX (P:Program) (w:World) (K:PySem.W.Frag) (mg:Str->Option Value) (base:Heap) (k:Nat) (x:Str) (ps:List Str) (sp:Sp) (f:Addr) (fd:FuncData):Prop where
 ok:FnOk P w K mg base (CXE P w) k f fd ps sp
 m:mg x=some (.ref f)
 kp:PySem.W.keepIn K (.ref f)=true
 b:Binds K fd ps []
theorem a9j{P:Program}{w:World}{K:PySem.W.Frag}{mg:Str->Option Value}{base:Heap}{x qual:Str}{st:Stmt}{f:Addr}{fd:FuncData}{N ps:List Str}{k:Nat}{b:SS}(Fu:Fun K x qual st f fd)(S:FnScope N ps (az st))
  (hb:∀ (cdv:Value) (A:Around) (outer:List Env) (s:Shared) (H:Hp) (E:XK),Room k (A.deeper (PyProof.Rows.envOfC qual (az st) s.heap.objs.size f cdv))->MSs (cxE P w K mg base N qual (az st) f cdv A outer s H E) (ac8 mg E) (jc st) b) :
  FnOk P w K mg base (CXE P w) (k+1) f fd ps (spX K mg ps.length (o9 b N.length)):=by
 obtain ⟨oc,od,kV,doc,pm,an,cdv,ct,osl,rfl,lk,hcd⟩:=Fu.ex;refine aoh lk hcd S (λvs H Q E h=>h.1) λA outer s H vs Q E hr h=>⟨_,hb cdv A outer s H E hr,?_⟩;obtain ⟨hl,ι,ds,h,r,hr',o⟩:=h;refine ⟨ι,a0y N.length ds,h,a68 r,hr',?_⟩;unfold o9 at o
 cases hbd:b (a0y N.length ds) h with
 | rt d h1=>rw [hbd] at o;exact o
 | nx τ h1=>rw [hbd] at o;exact λι' H' σ' g1 S1 hr1=>o ι' H' .non g1 .non hr1
 | ex c h1=>rw [hbd] at o;exact o
 | bk τ h1=>rw [hbd] at o;exact o.elim
 | ct τ h1=>rw [hbd] at o;exact o.elim
 | no=>rw [hbd] at o;exact o.elim
section
variable{K:PySem.W.Frag}{ι:List Addr}{H:Hp}{h:Hd}{n:Nat}
noncomputable def zf(n:Nat)(F:SF):SF:=λds h=>open Classical in if ∀ d∈ds,clo 0 d then (match F ds [] with | .ex c _=>if ds.length=n then .ex c h else .no | _=>nj false n F ds h) else .no
theorem noex{m:Bool}{F:SF}{ds:List D}{c:Str}{h1:Hd}:nj m n F ds h≠.ex c h1:=by
 unfold nj
 split
 ·unfold ang
  intro e
  repeat (first | (split at e) | cases e)
 ·intro e;cases e
theorem aat{E E':XD}{r:R D}{Q:VK}(ne:∀ c h1,r≠.ex c h1)(o:out K E (yw K) ι H r Q):out K E' (yw K) ι H r Q:=by
 cases r with
 | ok a h=>exact o
 | ex c h=>exact absurd rfl (ne c h)
 | no=>exact o
theorem HRep.stays{H':Hp}(hr:HRep K ι H h)(k:∀ a u,H a=some u->H' a=some u):Gr ι H ι H'/\HRep K ι H' h:=by
 have G:Gr ι H ι H':=⟨⟨[],by simp,by simp⟩,λa vs q=>k _ _ q,λa o u q=>k _ _ q,λa u q _=>k _ _ q,λa u q=>⟨u,k _ _ q⟩⟩
 refine ⟨G,hr.nd,hr.len,λi a o e1 e2=>?_⟩;have r:=hr.obj i a o e1 e2;obtain ⟨u,hu,_⟩:=r.some;exact r.mono G (by rw [hu];exact k a u hu)
theorem a5g:∀ {ds:List D},(∀ d∈ds,clo 0 d)->clos 0 ds
 | [],_=>by simp [clos]
 | d::ds,h=>by simp only [clos];exact ⟨h d List.mem_cons_self,a5g λx hx=>h x (List.mem_cons_of_mem _ hx)⟩
theorem a78{mg:Str->Option Value}{F:SF}{vs:List V}{ds:List D}{Q:VK}{E:XK}{E2:XD}(r:Reps K ι H vs ds)(hr:HRep K ι H h)(o:out K E2 (yw K) ι H (zf n F ds h) Q)(hE:∀ c H' ,Gr ι H ι H'->HRep K ι H' h->E2 c ι H' h->ac8 mg E c ι H' h) :
  spX K mg n F vs H (λv H1=>∃ L,a8d H1 L/\∀ H2,FrzOf L H1 H2->Q v H2) E:=by
 unfold zf at o
 split at o
 ·rename_i hc;have ok:out K E2 (yw K) ι H (nj false n F ds h) Q->spX K mg n F vs H (λv H1=>∃ L,a8d H1 L/\∀ H2,FrzOf L H1 H2->Q v H2) E:=λo=>by
   obtain ⟨l,ι0,ds0,h0,r0,hr0,o0⟩:=a72 r hr (aat (E':=X0) (λc h1=>noex) o) E;refine ⟨l,ι0,ds0,h0,r0,hr0,?_⟩
   cases e:F ds0 h0 with
   | ok a h1=>rw [e] at o0;exact o0
   | ex c h1=>rw [e] at o0;exact λι' H' g hr=>(o0 ι' H' g hr).elim
   | no=>rw [e] at o0;exact o0
  split at o
  ·rename_i c hx e
   split at o
   ·rename_i hl;have R0:Reps K [] H vs ds:=by
     have:=r.cut (a5g hc)
     rwa [List.take_zero] at this
    refine ⟨by rw [r.len];exact hl,[],ds,[],R0,⟨List.nodup_nil,rfl,λi a o e1=>by simp at e1⟩,?_⟩
    rw [e]
    intro ι' H' g _
    obtain ⟨G,hr'⟩:=hr.stays λa u q=>g.oth a u q (by simp)
    exact hE c H' G hr' (o ι H' G hr')
   ·exact o.elim
  ·exact ok o
 ·exact o.elim
end
theorem a0m(m:Bool){X:Cx}{E:XD}{k n:Nat}{f:Addr}{fd:FuncData}{ps:List Str}{x:Str}{F:SF}{ka:SA}{e:Expr}{es:List Expr}{p pos:Pos}(G:Dn X.prog X.w X.K X.mg X.base k x ps (uo X.K n F) f fd)(hr:Room k X.A)(hg:Gl X x)(ha:MA X E (e::es) ka)
  (hdb:(x == ("__debug__" : Str))=false:=by decide) (he:starEach (e::es) X.env=(false,eval e X.env)::starEach es X.env:=by rfl) (hpl:(backTo pos (starEach es X.env)).any (·.1)=false:=by rfl):ME X E (.Call (.Name x p) (e::es) [] pos) (sA (nj m n F) ka):=by
 refine PE.weak (a6c (a2o G.ok hr hg G.m G.kp G.b .nil ag9 ha hdb he hpl)) λσ H Q ⟨ι,τ,h,S,Rh,o⟩=>?_;refine ⟨ι,τ,h,S,Rh,fu o λds h1 ι1 H1 vs g1 r1 hr1 o1=>?_⟩;rw [List.append_nil];exact a72 r1 hr1 (aat (λc h1=>noex) o1) _
theorem aeg{X:Cx}{k n:Nat}{f:Addr}{fd:FuncData}{ps:List Str}{x:Str}{F:SF}{ka:SA}{e:Expr}{es:List Expr}{p pos:Pos}(G:DnX X.prog X.w X.K X.mg X.base k x ps (spX X.K X.mg n F) f fd)(hr:Room k X.A)(hg:Gl X x)(ha:MA X X0 (e::es) ka)
  (hdb:(x == ("__debug__" : Str))=false:=by decide) (he:starEach (e::es) X.env=(false,eval e X.env)::starEach es X.env:=by rfl) (hpl:(backTo pos (starEach es X.env)).any (·.1)=false:=by rfl):ME X X0 (.Call (.Name x p) (e::es) [] pos) (sA (zf n F) ka):=by
 have ps0:a4q (CXE X.prog X.w) X E0:=by
  rintro pins σ H s e s' I ⟨a,C,t,B,H',rfl,os,bare,un,hok,air,z⟩
  exact z.elim
 refine PE.weak (a6c (a2o G.ok hr hg G.m G.kp G.b .nil ps0 ha hdb he hpl)) λσ H Q ⟨ι,τ,h,S,Rh,o⟩=>?_;refine ⟨ι,τ,h,S,Rh,fu o λds h1 ι1 H1 vs g1 r1 hr1 o1=>?_⟩;rw [List.append_nil];exact a78 r1 hr1 o1 λc H' _ _ z=>z.elim
section
variable{P:Program}{w:World}{K:PySem.W.Frag}{mg:Str->Option Value}{base:Heap}{N:List Str}{qual:Str}{scope:Scope}{fa:Addr}{cd:Value}{A:Around}{outer:List Env}{s0:Shared}{H0:Hp}{E:XK}
theorem aau{k n:Nat}{f:Addr}{fd:FuncData}{ps:List Str}{x:Str}{F:SF}{ka:SA}{e:Expr}{es:List Expr}{p pos:Pos}(G:DnX P w K mg base k x ps (spX K mg n F) f fd)(hr:Room k (cxE P w K mg base N qual scope fa cd A outer s0 H0 E).A)(hg:Gl (cxE P w K mg base N qual scope fa cd A outer s0 H0 E) x)(ha:MA (cxE P w K mg base N qual scope fa cd A outer s0 H0 E) (ac8 mg E) (e::es) ka)
  (hdb:(x == ("__debug__" : Str))=false:=by decide) (he:starEach (e::es) (cxE P w K mg base N qual scope fa cd A outer s0 H0 E).env=(false,eval e (cxE P w K mg base N qual scope fa cd A outer s0 H0 E).env)::starEach es (cxE P w K mg base N qual scope fa cd A outer s0 H0 E).env:=by rfl) (hpl:(backTo pos (starEach es (cxE P w K mg base N qual scope fa cd A outer s0 H0 E).env)).any (·.1)=false:=by rfl) :
  ME (cxE P w K mg base N qual scope fa cd A outer s0 H0 E) (ac8 mg E) (.Call (.Name x p) (e::es) [] pos) (sA (zf n F) ka):=by
 refine PE.weak (a6c (a2o (X:=cxE P w K mg base N qual scope fa cd A outer s0 H0 E) G.ok hr hg G.m G.kp G.b .nil (atz λ_ _ z=>z) ha hdb he hpl)) λσ H Q ⟨ι,τ,h,S,Rh,o⟩=>?_;refine ⟨ι,τ,h,S,Rh,fu o λds h1 ι1 H1 vs g1 r1 hr1 o1=>?_⟩;rw [List.append_nil];exact a78 r1 hr1 o1 λc H' _ _ z=>z
def a8n(c:Str)(ka:SA):SS:=λτ h=>(ka τ h).fl λds h1=>if ds.length<=LINE then .ex c h1 else .no
theorem ahb{C:Addr}{x:Str}{ka:SA}{e:Expr}{es:List Expr}{np cpos pos:Pos}(hC:XCls K C)(hg:Gl (cxE P w K mg base N qual scope fa cd A outer s0 H0 E) x)(hm:mg x=some (.ref C))(ha:MA (cxE P w K mg base N qual scope fa cd A outer s0 H0 E) (ac8 mg E) (e::es) ka)
  (hdb:(x == ("__debug__" : Str))=false:=by decide) (he:starEach (e::es) (cxE P w K mg base N qual scope fa cd A outer s0 H0 E).env=(false,eval e (cxE P w K mg base N qual scope fa cd A outer s0 H0 E).env)::starEach es (cxE P w K mg base N qual scope fa cd A outer s0 H0 E).env:=by rfl) (hpl:(backTo cpos (starEach es (cxE P w K mg base N qual scope fa cd A outer s0 H0 E).env)).any (·.1)=false:=by rfl) :
  MS (cxE P w K mg base N qual scope fa cd A outer s0 H0 E) (ac8 mg E) (.Raise (some (.Call (.Name x np) (e::es) [] cpos)) none pos) (a8n x ka):=by
 refine PS.weak (ah6 (X:=cxE P w K mg base N qual scope fa cd A outer s0 H0 E) (Ex:=λH=>E (.ref C) none H) hC hg hm rfl ha (λpins σ H s h' a args I mk z=>au0 I mk z) hdb he hpl) λD σ H ⟨ι,τ,h,S,Rh,o⟩=>?_;refine ⟨ι,τ,h,S,Rh,a08 o λds h1 ι1 H1 vs g1 r1 hr1 o1=>?_⟩
 split at o1
 ·rename_i hl;obtain ⟨C',e1,z⟩:=o1 ι1 H1 (.refl _ _) hr1;rw [hm] at e1;cases e1
  exact ⟨by rw [r1.len];exact a99 hl,z⟩
 ·exact o1.elim
end
def noX{α:Type}:R α->R α
 | .ex _ _=>.no
 | r=>r
def qA{α:Type}(ka:Sd->Hd->R α):Sd->Hd->R α:=λτ h=>noX (ka τ h)
abbrev MEx(X:Cx)(e:Expr)(f:SE):Prop:=PEx X e λσ H Q E=>lift X.K (ac8 X.mg E) (yw X.K) f σ H Q
abbrev MSx(X:Cx)(st:List Stmt)(f:SS):Prop:=PSx X st λD E σ H=>a4x X.K (ac8 X.mg E) f D σ H
section
variable{X:Cx}
theorem am4{e:Expr}{t:St->Hp->VK->XK->Prop}(h:PEx X e t):PEx X e (λσ H Q E=>t σ H (λv H1=>∃ L,a8d H1 L/\∀ H2,FrzOf L H1 H2->Q v H2) E):=λpins s σ H Q E I q =>
 L2.thn (h pins s σ H _ E I q) λu s' ⟨v,H1,I1,r,L,ab,k⟩=>let ⟨H2,f,I2⟩:=Inv.frz I1 ab; ⟨v,H2,I2,r,k H2 f⟩
theorem am5{k n:Nat}{f:Addr}{fd:FuncData}{ps:List Str}{x:Str}{F:SF}{ka:SA}{e:Expr}{es:List Expr}{p pos:Pos}(G:DnX X.prog X.w X.K X.mg X.base k x ps (spX X.K X.mg n F) f fd)(hr:Room k X.A)(hg:Gl X x)(ha:MA X.nox X0 (e::es) ka)
  (hdb:(x == ("__debug__" : Str))=false:=by decide) (he:starEach (e::es) X.env=(false,eval e X.env)::starEach es X.env:=by rfl) (hpl:(backTo pos (starEach es X.env)).any (·.1)=false:=by rfl):MEx X (.Call (.Name x p) (e::es) [] pos) (sA (zf n F) (qA ka)):=by
 intro pins s σ H Q E I ⟨ι,τ,h,S,Rh,o⟩
 refine am4 (aha G.ok hr hg G.m G.kp G.b ha hdb he hpl) pins s σ H Q E I ⟨ι,τ,h,S,Rh,?_⟩;have o2:=fu o (P:=λvs H1=>spX X.K X.mg n F vs H1 (λv H1=>∃ L,a8d H1 L/\∀ H2,FrzOf L H1 H2->Q v H2) E) λds h1 ι1 H1 vs g1 r1 hr1 o1=>a78 r1 hr1 o1 λc H' _ _ z=>z;unfold qA at o2
 cases e1:ka τ h with
 | ok a h1=>rw [e1] at o2;exact o2
 | ex c h1=>rw [e1] at o2;exact o2.elim
 | no=>rw [e1] at o2;exact o2
theorem am6{e:Expr}{f:SE}{pos:Pos}(he:MEx X e f)(hs:swapsWith e none pos.line X.env=pure false:=by rfl):MSx X [.Expr e pos] (um f):=λpins s σ H D E I ⟨ι,τ,h,S,Rh,o⟩ =>
 ah9 he hs pins s σ H D E I ⟨ι,τ,h,S,Rh,a08 o λd h1 ι1 H1 v g1 r1 hr1 o1=>o1 ι1 H1 _ (.refl _ _) (S.mono g1) hr1⟩
def apv(i:Nat)(cs:Str->Bool)(fb fs:SS):SS:=λτ h=>match fb τ h with
 | .ex c h1=>if cs c=true then (match fs (τ.set i (some (.exc c))) h1 with
   | .nx τ' h'=>.nx (τ'.set i none) h' | .rt d h'=>.rt d h' | .bk τ' h'=>.bk (τ'.set i none) h' | .ct τ' h'=>.ct (τ'.set i none) h' | _=>.no) else .no
 | r=>r
theorem SRep.off{K:PySem.W.Frag}{ι:List Addr}{H:Hp}{σ:St}{τ:Sd}(S:SRep K ι H σ τ)(i:Nat):SRep K ι H (σ.set i none) (τ.set i none):=by
 refine ⟨by simp [S.len],λj d e=>?_⟩
 by_cases hj:i=j
 ·subst hj;rw [List.getElem?_set] at e;simp at e
 ·rw [List.getElem?_set_ne hj] at e ⊢;exact S.val j d e
theorem apw{R:Addr}{x n:Str}{i:Nat}{np hp pos:Pos}{body:List Stmt}{b0:Stmt}{suite:List Stmt}{cs:Str->Bool}{fb fs:SS}(N:Hnd X R x n i)
  (hcs:∀ c,cs c=true->∃ C,X.mg c=some (.ref C)/\PySem.W.nsIn X.K mainGlobals c=some (some (.ref C))/\PySem.W.exmOne X.K (.ref C) (.ref R)=some true)
  (hb:MSx X body fb) (hs:∀ a,MSs (X.inEx a) X0 (b0::suite) fs):MS X X0 (.Try body [.ExceptHandler (some (.Name x np)) (some n) (b0::suite) hp] [] [] pos) (apv i cs fb fs):=by
 refine PS.weak (apu (ts:=a4x X.K X0 fs) N hb hs) λD σ H ⟨ι,τ,h,S,Rh,o⟩=>⟨ι,τ,h,S,Rh,?_⟩;unfold apv at o
 cases e:fb τ h with
 | nx τ' h'=>rw [e] at o;exact o
 | rt d h'=>rw [e] at o;exact o
 | bk τ' h'=>rw [e] at o;exact o
 | ct τ' h'=>rw [e] at o;exact o
 | no=>rw [e] at o;exact o
 | ex c h1 =>
  rw [e] at o;dsimp only at o
  split at o
  ·rename_i hc;obtain ⟨C,m,ns,ex⟩:=hcs c hc
   intro ι' H' g hr
   refine ⟨C,m,C,rfl,ex,λa oe hoe ha=>?_⟩;have G:=g.trans (xu (ι:=ι') ha (.frz oe (L2.exO a)));refine ⟨ι',τ.set i (some (.exc c)),h1,(S.mono G).set (.exc (o:=oe) (C:=C) qe hoe ns) i,hr.aside ha _,?_⟩;have o1:=ul o G
   cases e2:fs (τ.set i (some (.exc c))) h1 with
   | nx τ' h'=>rw [e2] at o1;exact λι2 H2 σ' g2 S2 hr2=>o1 ι2 H2 _ g2 (S2.off i) hr2
   | bk τ' h'=>rw [e2] at o1;exact λι2 H2 σ' g2 S2 hr2=>o1 ι2 H2 _ g2 (S2.off i) hr2
   | ct τ' h'=>rw [e2] at o1;exact λι2 H2 σ' g2 S2 hr2=>o1 ι2 H2 _ g2 (S2.off i) hr2
   | rt d h'=>rw [e2] at o1;exact o1
   | ex c' h'=>rw [e2] at o1;exact o1.elim
   | no=>rw [e2] at o1;exact o1.elim
  ·exact o.elim
end
section
variable{X:Cx}
def vc(v:V)(cv:Value):Prop:=(∃ C,v = .ref C/\cv = .ref C)\/∃ T,v = .ty T/\cv = .type T
theorem vc.eq{v:V}{cv u:Value}(h:vc v cv)(r:RelV v u):u=cv:=by
 rcases h with ⟨C,rfl,rfl⟩ | ⟨T,rfl,rfl⟩
 ·exact r
 ·cases r;rfl
theorem apx{pins:List (Addr × Obj)}{σ:St}{H:Hp}{s:Shared}{a C:Addr}{o:Obj}(I:L2.Inv X pins σ H s)(e:H a=some (.frz o (exO a)))(c:o.cls = .ref C):ExAt a C s.heap:=⟨o,(show ObjOk X.prog X.w H s.heap a (.frz o (exO a)) from I.hok a _ e).1,c⟩
theorem ahc:CallR X (.builtin "isinstance") (λxs H Q=>∃ a o C v cv b,xs=[.ref a,v]/\vc v cv/\H a=some (.frz o (exO a))/\o.cls = .ref C/\XKit X.K C/\PySem.W.kitOne X.K (.ref C) cv=some b/\Q (.bl b) H):=by
 intro pins s σ H xs us Q I r h
 obtain ⟨a,o,C,v,cv,b,rfl,hv,ea,hc,Z,e,q⟩:=h;obtain ⟨u,w',rfl,rx,rt⟩:=vals2 r;obtain rfl:u=Value.ref a:=rx;obtain rfl:=hv.eq rt;exact PySem.W.kia_one (aas Z) I.kIn (apx I ea hc) e (λz=>nomatch z) λtk=>⟨.bl b,H,I.tok tk,rfl,q⟩
theorem a8o:∀ {cs:List Addr} {us:List Value},Vals (cs.map V.ref) us->us=cs.map Value.ref
 | [],_,r=>by cases r;rfl
 | c::cs,us,r=>by
  cases r with
  | cons r rs =>
   rw [List.map_cons,<-a8o rs]
   congr 1
theorem aeh:CallR X (.builtin "isinstance") (λxs H Q=>∃ a o C tp,∃ cs:List Addr,∃ b,xs=[.ref a, .ref tp]/\H tp=some (.tup (cs.map V.ref))/\H a=some (.frz o (exO a))/\o.cls = .ref C/\XKit X.K C/\PySem.W.kitAny X.K (.ref C) (cs.map Value.ref)=some b/\Q (.bl b) H):=by
 intro pins s σ H xs us Q I r h
 obtain ⟨a,o,C,tp,cs,b,rfl,et,ea,hc,Z,e,q⟩:=h;obtain ⟨u,w',rfl,rx,rt⟩:=vals2 r;obtain rfl:u=Value.ref a:=rx;obtain rfl:w'=Value.ref tp:=rt;obtain ⟨_,its,vr,o',h1,h2,h3⟩:=(show ObjOk X.prog X.w H s.heap tp (.tup (cs.map V.ref)) from I.hok tp _ et)
 obtain rfl:=a8o vr
 obtain ⟨n,h3⟩:=h3;have htp:s.heap.get? tp=some ⟨.type "tuple",o'.dict, .seq (cs.map Value.ref).toArray n,o'.slots⟩:=by
  rw [h1];obtain ⟨c,dd,dt,sl⟩:=o';simp only at h2 h3;rw [h2,h3]
 exact PySem.W.kia_tup (aas Z) I.kIn (apx I ea hc) htp e (λz=>nomatch z) λtk=>⟨.bl b,H,I.tok tk,rfl,q⟩
def ahd(i:Nat)(f:Str->Option Bool):SE:=λτ h=>match τ[i]? with
 | some (some (.exc c))=>(match f c with | some b=>.ok (.bl b) h | none=>.no)
 | _=>.no
variable{E:XD}
theorem ajp{K:PySem.W.Frag}{ι:List Addr}{H:Hp}{σ:St}{τ:Sd}{h:Hd}{i:Nat}{f:Str->Option Bool}{Q:VK}(S:SRep K ι H σ τ)(o:out K E (yw K) ι H (ahd i f τ h) Q) :
  ∃ a ob C c b,σ[i]? = some (some (.ref a))/\H a=some (.frz ob (exO a))/\ob.cls = .ref C/\PySem.W.nsIn K mainGlobals c=some (some (.ref C))/\f c=some b/\out K E (yw K) ι H (.ok (.bl b) h) Q:=by
 unfold ahd at o
 split at o
 ·rename_i c e;obtain ⟨v,e1,r⟩:=S.val i _ e
  cases r with
  | exc q hc hn =>
   split at o
   ·rename_i b hb;exact ⟨_,_,_,c,b,e1,q,hc,hn,hb,o⟩
   ·exact o.elim
 ·exact o.elim
theorem ajq{i:Nat}{f:Str->Option Bool}{n x:Str}{v:V}{cv:Value}{p0 pn px pos:Pos}(hg:Gl X "isinstance")(hm:X.mg "isinstance" = none)(hb:bootBuiltins "isinstance" = some (.builtin "isinstance"))(hN:X.N[i]? = some n)(hv:Vis X.env.scope n)(hc:PE X (.Name x px) (tC v))(hvc:vc v cv)
  (hf:∀ c b C,f c=some b->PySem.W.nsIn X.K mainGlobals c=some (some (.ref C))->XKit X.K C/\PySem.W.kitOne X.K (.ref C) cv=some b)
  (hd:(n == ("__debug__" : Str))=false:=by decide) (hcd:(n == ("__classdict__" : Str))=false:=by decide):ME X E (.Call (.Name "isinstance" p0) [.Name n pn, .Name x px] [] pos) (ahd i f):=by
 refine PE.weak (a6m ahc hg hm hb (qi (acd hN hv hd hcd) (qi hc a4p))) λσ H Q ⟨ι,τ,h,S,Rh,o⟩=>?_;obtain ⟨a,ob,C,c,b,e1,q,oc,ns,fb,o1⟩:=ajp S o;obtain ⟨Z,ki⟩:=hf c b C fb ns;exact ⟨_,e1,a,ob,C,v,cv,b,rfl,hvc,q,oc,Z,ki,o1 ι H _ (.refl _ _) (.bl b) Rh⟩
theorem am7{i:Nat}{f:Str->Option Bool}{n:Str}{cs:List Addr}{es:List Expr}{t:TA}{k:Nat}{p0 pn px pos:Pos}(hg:Gl X "isinstance")(hm:X.mg "isinstance" = none)(hb:bootBuiltins "isinstance" = some (.builtin "isinstance"))(hN:X.N[i]? = some n)(hv:Vis X.env.scope n)(hc:PA X es t)(ht:∀ σ H (Q:List V->Hp->Prop),Q (cs.map V.ref) H->t σ H Q)(hl:cs.length<=sizeLine)
  (hf:∀ c b C,f c=some b->PySem.W.nsIn X.K mainGlobals c=some (some (.ref C))->XKit X.K C/\PySem.W.kitAny X.K (.ref C) (cs.map Value.ref)=some b)
  (hd:(n == ("__debug__" : Str))=false:=by decide) (hcd:(n == ("__classdict__" : Str))=false:=by decide):ME X E (.Call (.Name "isinstance" p0) [.Name n pn, .Tuple es k px] [] pos) (ahd i f):=by
 refine PE.weak (a6m aeh hg hm hb (qi (acd hN hv hd hcd) (qi (aj0 hc) a4p))) λσ H Q ⟨ι,τ,h,S,Rh,o⟩=>?_;obtain ⟨a,ob,C,c,b,e1,q,oc,ns,fb,o1⟩:=ajp S o;obtain ⟨Z,ki⟩:=hf c b C fb ns;refine ⟨_,e1,ht _ _ _ ⟨by rw [List.length_map];exact hl,λp hp=>?_⟩⟩
 have G:=xu (ι:=ι) hp (.tup (cs.map V.ref));exact ⟨a,ob,C,p,cs,b,rfl,qe,G.frz _ _ _ q,oc,Z,ki,o1 ι _ _ G (.bl b) (Rh.aside hp _)⟩
end
def qS(f:SS):SS:=λτ h=>match f τ h with | .ex _ _=>.no | r=>r
theorem apy{X:Cx}{st:Stmt}{t:TS}(h:PS X.nox st t):PS X st t:=λpins s σ H D I hw =>
 wpAny_mono (h pins s σ H D (I.wish _) hw) (λ_ _ q=>q.unwish) λ_ _ z=>False.elim z
theorem av2{X:Cx}{E:XD}{st:Stmt}{f:SS}(h:MS X.nox X0 st f):MS X E st (qS f):=by
 refine PS.weak (apy h) λD σ H ⟨ι,τ,hp,S,Rh,o⟩=>⟨ι,τ,hp,S,Rh,?_⟩;unfold qS at o
 cases e:f τ hp with
 | nx τ' h'=>rw [e] at o;exact o
 | rt d h'=>rw [e] at o;exact o
 | bk τ' h'=>rw [e] at o;exact o
 | ct τ' h'=>rw [e] at o;exact o
 | no=>rw [e] at o;exact o
 | ex c h1=>rw [e] at o;exact o.elim
end MI
namespace EVX
open PySem PySem.Spec L2 MI
theorem av3{f:SS}{τ τ1:Sd}{h h1:Hd}(e:f τ h = .nx τ1 h1):qS f τ h = .nx τ1 h1:=by unfold qS;rw [e]
end EVX
namespace MI
open PySem PySem.Spec L2
end MI
namespace EVX
open PySem PySem.Spec L2 MI
theorem awk{f:SS}{τ:Sd}{d:D}{h h1:Hd}(e:f τ h = .rt d h1):qS f τ h = .rt d h1:=by unfold qS;rw [e]
end EVX
namespace ZP
open PySem PySem.Spec PySem.Builtin PySem.Builtin.SmallTypes L2
def qb(it:Addr)(a:Int):Obj:={ cls:=.type "enumerate",data:=.fields #[.none, .bool false, .ref it,rawInt a, .none, .none] }
theorem abq(t:Tok)(k:Srk)(us:List Value)(a:Int)(u:Tok)(hf:fitsIndex a=true):Meets (Builtin.«enumerate.__new__» ⟨[.type "enumerate",val t k],[(Str.ofString "start", .int a u)]⟩)
  (λ_ R s=>cont s.heap k us/\R (.ok (.ret (.ref (s.heap.objs.size+1)))) { s with heap:=(s.heap.push (iob t k)).push (qb s.heap.objs.size a) }) :=
 .of_wp λprog w A R s h=>by
  obtain ⟨hp,g,d,tk,os⟩:=s;obtain ⟨c,h⟩:=h;have sub:=sub_enumerate;have c':cont (Shared.heap ⟨hp,g,d,tk,os⟩) k us:=c;have fin:R (.ok (.ret (.ref (hp.push (iob t k)).objs.size))) { heap:=(hp.push (iob t k)).push (qb hp.objs.size a),gens:=g,drawn:=d,toks:=tk,os:=os }:=by simpa [Heap.size_push] using h
  have ks:((Str.ofString "start") == (Str.ofString "start"))=true:=beq_self_eq_true _
  wp_walk
  refine wpAny_stack_any λst=>wpAny_pure ?_
  split
  ·rename_i cl _ _ _ _ _
   cases (cl == Value.type "enumerate")
   ·wp_walk using zr (t:=t) c'
    exact ⟨_,rfl,fin⟩
   ·wp_walk using zr (t:=t) c'
    exact ⟨_,rfl,fin⟩
  ·wp_walk using zr (t:=t) c'
   exact ⟨_,rfl,fin⟩
def Is2(r0:Result)(s0:Shared):Result->Shared->Prop:=λr s1=>r=r0/\s1=s0
theorem aei{self v:Value}{a:Int}{u:Tok}:Meets (Builtin.«object.__init__» ⟨[self,v],[(Str.ofString "start", .int a u)]⟩) (λ_ R s=>s.TypeIs self "enumerate"/\R (.ok (.ret .none)) s) :=
 .of_wp λprog w A R s h=>by
  obtain ⟨hT,hq⟩:=h;have hl:=F.called_enumerate.init.lookup;have hm:=F.called_enumerate.made
  wp_walk
  exact ⟨_,rfl,hq⟩
theorem a9k{prog:Program}{w:World}{A:Around}{E:Value->Shared->Prop}{s:Shared}{t:Tok}{k:Srk}{us:List Value}{a:Int}{u:Tok}{Q:Value->Shared->Prop}(hf:fitsIndex a=true)(c:cont s.heap k us)
  (q:Q (.ref (s.heap.objs.size+1)) { s with heap:=(s.heap.push (iob t k)).push (qb s.heap.objs.size a) }):wpAny (model prog w) A (call (.type "enumerate") [val t k] [(Str.ofString "start", .int a u)]) Q E s:=by
 have hct:checkTypeCall "enumerate" ⟨[val t k],[(Str.ofString "start", .int a u)]⟩=pure ():=by kernel_rfl
 have hcn:checkBuiltinCall "enumerate.__new__" ⟨[.type "enumerate",val t k],[(Str.ofString "start", .int a u)]⟩=pure ():=by kernel_rfl
 have hok:∀ obj,argsOk "object.__init__" ⟨[obj,val t k],[(Str.ofString "start", .int a u)]⟩:=λobj=>by unfold argsOk;kernel_rfl
 obtain ⟨h1,h2,⟨c0,tl,hmro⟩,hmade,hpl,hsub,hini⟩:=F.called_enumerate;refine wpAny_call (codeAny_of_tree ?_);show wpAny _ _ (callAny (.type "enumerate") _) _ _ _;refine wpAny_pure ⟨Code.quiet_builtin _ (by decide +kernel),codeAny_builtin F.entry_type_call ?_⟩
 rw [Around.under_plain (weight_type_call_type _ _ _) (units_type_call_type _ _ _)]
 wp_walk
 have hT:Shared.TypeIs { s with heap:=(s.heap.push (iob t k)).push (qb s.heap.objs.size a) } (.ref (s.heap.objs.size+1)) "enumerate":=by
  refine ⟨qb s.heap.objs.size a,?_,rfl⟩;have:=Heap.get?_push_size (o:=qb s.heap.objs.size a) (s.heap.push (iob t k)) rfl;rw [Heap.size_push] at this;exact this
 have hli:=hini.lookup;have hbi:=hini.bind (.ref (s.heap.objs.size+1));have N1:codeAny (model prog w) A.in1 (Code.call (.builtin "enumerate.__new__") ⟨[.type "enumerate",val t k],[(Str.ofString "start", .int a u)]⟩) (Is2 (.ok (.ret (.ref (s.heap.objs.size+1)))) { s with heap:=(s.heap.push (iob t k)).push (qb s.heap.objs.size a) }) s :=
  codeAny_call_builtin hpl F.entry_enumerate_new (wpAny_of_eq hcn (abq t k us a u hf prog w A.in1 (Is2 (.ok (.ret (.ref (s.heap.objs.size+1)))) { s with heap:=(s.heap.push (iob t k)).push (qb s.heap.objs.size a) }) s ⟨c,rfl,rfl⟩))
 have N2:codeAny (model prog w) A.in1 (Code.call (.builtin "object.__init__") ⟨[.ref (s.heap.objs.size+1),val t k],[(Str.ofString "start", .int a u)]⟩) (Is2 (.ok (.ret .none)) { s with heap:=(s.heap.push (iob t k)).push (qb s.heap.objs.size a) }) { s with heap:=(s.heap.push (iob t k)).push (qb s.heap.objs.size a) } :=
  codeAny_call_builtin hini.plain F.entry_object_init (hini.check _ _ _ _ _ _ _ _ hT (hok _) (aei prog w A.in1 (Is2 (.ok (.ret .none)) { s with heap:=(s.heap.push (iob t k)).push (qb s.heap.objs.size a) }) { s with heap:=(s.heap.push (iob t k)).push (qb s.heap.objs.size a) } ⟨hT,rfl,rfl⟩))
 refine codeAny_mono N1 λr s1 hr=>?_;obtain ⟨rfl,rfl⟩:=hr;dsimp only
 wp_walk
 refine codeAny_mono N2 λr s1 hr=>?_;obtain ⟨rfl,rfl⟩:=hr;dsimp only
 wp_walk
 exact q
theorem shifted{prog:Program}{w:World}{A:Around}{it:Addr}{fp:List Addr}{n:Nat}{P:Nat->Value->Prop}{St:Nat->Heap->Prop}(a:Nat)(D:Draws prog w A it fp n P St) :
  Draws prog w A it fp (a+n) (λi v=>P (i - a) v) (λi h=>a<=i/\St (i - a) h) where
 live:=λi h z=>D.live _ h z.2
 frame:=λi h h' z k=>⟨z.1,D.frame _ h h' z.2 k⟩
 item:=λi s Q E hi z hQ=>D.item (i - a) s Q E (by omega) z.2 λx h' tk p st sb=>hQ x h' tk p ⟨Nat.le_succ_of_le z.1,by rw [Nat.succ_sub z.1];exact st⟩ sb
 done:=λs Q E z hE=>D.done s Q E (by have:=z.2;rwa [Nat.add_sub_cancel_left] at this) hE
def au2(a:Nat)(k:Srk):It where
 go:=λi H=>∃ xs x,its H k=some xs/\xs[i]? = some x
 yld:=λi H v H'=>∃ xs x p,its H k=some xs/\xs[i]? = some x/\H p=none/\v = .ref p/\H'=upd H p (.tup [.int ((a+i:Nat):Int),x])
 stop:=λi H=>∃ xs,its H k=some xs/\i=xs.length
def av4(a:Nat)(e it:Addr)(t:Tok)(k:Srk)(i:Nat)(h:Heap):Prop:=(∃ old,IsEnum h e it ((a+i:Nat):Int) old)/\own it t k i h
theorem abr{P:Program}{w:World}{K:PySem.W.Frag}{elts:List Expr}{x1:Nat}{pos:Pos}{a:Nat}{e it:Addr}{t:Tok}{k:Srk}(ne:e≠it):Turn P w K (.Tuple elts x1 pos) (au2 a k) [e,it] e (av4 a e it t k) where
 mem:=by simp
 obj:=λi h st b hb=>by
  obtain ⟨⟨old,h1⟩,h4⟩:=st;simp only [List.mem_cons,List.not_mem_nil,or_false] at hb
  rcases hb with rfl | rfl
  ·exact ⟨_,h1,λv z=>(by cases z)⟩
  ·exact a0z h4
 keep:=λi h h' st kk=>by
  obtain ⟨⟨old,h1⟩,h4⟩:=st;exact ⟨⟨old,kk e (by simp) _ h1⟩,zq h4 λob q=>kk it (by simp) ob q⟩
 item:=by
  intro X hP hw hK hc i pins s σ H E I hf st hg
  subst hP hw hK;obtain ⟨xs,x,e1,g1⟩:=hg;obtain ⟨⟨old,h1⟩,h4⟩:=st;have n:∀ c∈[e,it],H c=none:=λc hc=>(hf c hc).1;obtain ⟨cs,P1,S1,D1,a1,b1,c1,d1⟩:=a1a I (t:=t) e1 (n it (by simp))
  have hd:=I.ok.hd hc;have ef:e ∉ it::cs:=by
   intro z
   rcases List.mem_cons.mp z with z | z
   ·exact ne z
   ·exact c1 e z (n e (by simp))
  have li:a+i<a+xs.length:=Nat.add_lt_add_left (List.getElem?_eq_some_iff.mp g1).1 a;refine wpAny_pyNext_enum_itemD (shifted a (D1 X.A.in1 hd)) h1 ⟨Nat.le_add_right _ _,by rw [Nat.add_sub_cancel_left];exact a1 i h4⟩ li ne ef λu h' tk pu eo s1' pr sz kp=>?_
  obtain ⟨_,s1'⟩:=s1';rw [Nat.add_assoc,Nat.add_sub_cancel_left] at s1';rw [Nat.add_sub_cancel_left] at pu;obtain ⟨x',q1,r1⟩:=d1 i u pu;rw [g1] at q1;cases q1
  refine ⟨_,rfl,wpAny_letOwnedTupleGo_enum eo λh2' z2' sb=>?_⟩;have hp:H s.heap.objs.size=none:=I.hok.fresh (Nat.le_refl _);have lt:∀ c∈[e,it],c<s.heap.objs.size:=λc hc=>by
   simp only [List.mem_cons,List.not_mem_nil,or_false] at hc
   rcases hc with rfl | rfl
   ·exact Heap.lt_size h1
   ·obtain ⟨_,q,_⟩:=a0z h4;exact Heap.lt_size q
  have nT:∀ c∈[e,it],c≠s.heap.objs.size:=λc hc=>Nat.ne_of_lt (lt c hc);have all:∀ c o,c ∉ [e,it]->s.heap.get? c=some o->h2'.get? c=some o:=λc o nc q=>by
   simp only [List.mem_cons,List.not_mem_nil,or_false,not_or] at nc;exact (sb.2 c nc.1).trans (kp c o nc.1 nc.2 q)
  have I0:Inv X pins σ (upd H s.heap.objs.size (.tup [.int ((a+i:Nat):Int),x])) { s with heap:=s.heap.push { cls:=.type "tuple",data:=.seq #[.int ((a+i:Nat):Int) tk,u] } } :=
   I.laid (t':=s.toks) (o:=.tup [.int ((a+i:Nat):Int),x]) (λb o q=>Heap.get?_push_of_some _ q) (Nat.le_refl _) ⟨by show 2<=sizeLine;decide,[.int ((a+i:Nat):Int) tk,u], .cons ⟨tk,rfl⟩ (.cons r1 .nil),⟨_,Heap.get?_push_size _ rfl,rfl,_,rfl⟩⟩
  have I1:Inv X pins σ (upd H s.heap.objs.size (.tup [.int ((a+i:Nat):Int),x])) { s with heap:=h2',toks:=tk+1 }:=by
   refine a2t (s:={ s with heap:=s.heap.push { cls:=.type "tuple",data:=.seq #[.int ((a+i:Nat):Int) tk,u] } }) (ch:=[e,it]) I0 (λb hb=>?_) λc o nc q=>?_
   ·obtain ⟨f0,f1⟩:=hf b hb;exact ⟨by rw [jw (nT b hb)];exact f0,f1⟩
   ·rcases Heap.get?_push_cases q with ⟨rfl,rfl⟩ | q
    ·exact (sb.2 _ (nT e (by simp)).symm).trans pr
    ·exact all c o nc q
  refine ⟨.ref s.heap.objs.size,_,I1,rfl,⟨xs,x,_,e1,g1,hp,rfl,rfl⟩,⟨⟨u,by simpa [Int.add_assoc] using z2'⟩,zq (b1 _ _ s1') λob q=>(sb.2 _ ne.symm).trans q⟩,λb hb=>?_⟩
  rw [jw (nT b hb)];exact n b hb
 done:=by
  intro X hP hw hK hc i pins s σ H E I hf st hg
  subst hP hw hK;obtain ⟨xs,e1,rfl⟩:=hg;obtain ⟨⟨old,h1⟩,h4⟩:=st;have n:∀ c∈[e,it],H c=none:=λc hc=>(hf c hc).1;obtain ⟨cs,P1,S1,D1,a1,b1,c1,d1⟩:=a1a I (t:=t) e1 (n it (by simp))
  have hd:=I.ok.hd hc;refine wpAny_pyNext_enum_endD (D1 X.A.in1 hd) h1 (a1 _ h4) λh' ex=>⟨rfl,a2t (t':=s.toks) I hf λc o nc q=>?_⟩;simp only [List.mem_cons,List.not_mem_nil,or_false,not_or] at nc;exact ex c o nc.2 q
 self:=λ_ _ _ _ _ st h=>by
  obtain ⟨⟨old,h1⟩,_⟩:=st;exact wpAny_pyIter_enum h1 h
section
variable{X:Cx}{elts:List Expr}{x1:Nat}{tpos:Pos}
def apz(ta tk:TA):TI:=λσ H R=>ta σ H λvs H1=>tk σ H1 λzs H2=>∃ k xs,∃ a:Nat,vs=[Srk.v k]/\its H2 k=some xs/\zs=[.int (a:Nat)]/\a<=16777216/\R (au2 a k) H2
theorem ahe{e1 e2:Expr}{ta tk:TA}{p pos kpos:Pos}(hg:Gl X "enumerate")(hm:X.mg "enumerate" = none)(ha:PA X [e1] ta)(hkw:PK X [⟨some "start",e2,kpos⟩] tk)
  (h1:starEach [e1] X.env=[(false,eval e1 X.env)]:=by rfl):PI X (.Tuple elts x1 tpos) (.Call (.Name "enumerate" p) [e1] [⟨some "start",e2,kpos⟩] pos) (apz ta tk):=by
 intro pins s σ H R I h
 refine wpAny_Call_Name_kw (a3f I hg hm PyProof.Rows.boot_enumerate ?_ (by decide) (by decide))
 have hpl:((backTo pos (starEach [e1] X.env)).any (·.1) || (backToKw pos (keywordEach [⟨some "start",e2,kpos⟩] X.env)).any (·.1.isNone))=false:=by rw [h1];rfl
 refine PySem.W.callWith_of (P:=λ_=>True) hpl (λh _=>⟨.machine, .inr (.inl rfl),PySem.W.Looks.of_pure rfl⟩) (PyProof.Rows.evalArgs_kw2 (by rfl) (thn (ha pos pins s σ H _ I h) λus s1 ⟨vs,H1,I1,r,q⟩=>?_) (by rw [h1];rfl))
 refine thn (hkw pos pins s1 σ H1 _ I1 q) λws s2 ⟨zs,H2,I2,rz,q2⟩=>⟨trivial,?_⟩;obtain ⟨k,xs,a,rfl,e1,rfl,la,q⟩:=q2;obtain ⟨v1,rfl,rv1⟩:=vals1 r;obtain ⟨v2,rfl,u,rfl⟩:=vals1 rz;obtain ⟨t,rfl⟩:=aaf rv1;obtain ⟨us1,c1,_⟩:=a2s I2 e1;refine a9k (us:=us1) (by unfold fitsIndex;simp;omega) c1 ?_
 have at0:((s2.heap.push (iob t k)).push (qb s2.heap.objs.size a)).get? s2.heap.objs.size=some (iob t k):=Heap.get?_push_of_some _ (Heap.get?_push_size _ (by cases k<;>rfl))
 have at1:IsEnum ((s2.heap.push (iob t k)).push (qb s2.heap.objs.size a)) (s2.heap.objs.size+1) s2.heap.objs.size (a:Nat) .none:=by
  have:=Heap.get?_push_size (o:=qb s2.heap.objs.size a) (s2.heap.push (iob t k)) rfl
  rw [Heap.size_push] at this;exact this
 have keepA:∀ b o,s2.heap.get? b=some o->((s2.heap.push (iob t k)).push (qb s2.heap.objs.size a)).get? b=some o:=λb o q=>Heap.get?_push_of_some _ (Heap.get?_push_of_some _ q);have I3:Inv X pins σ H2 { s2 with heap:=(s2.heap.push (iob t k)).push (qb s2.heap.objs.size a) }:=I2.kept (t':=s2.toks) keepA
 refine wpAny_pyIter_enum (s:={ s2 with heap:=(s2.heap.push (iob t k)).push (qb s2.heap.objs.size a) }) at1 ?_
 refine ⟨s2.heap.objs.size+1,[s2.heap.objs.size+1,s2.heap.objs.size],av4 a _ _ t k,au2 a k,H2,rfl,I3,abr (by intro z;have z:(_:Nat)=_:=z;omega),⟨⟨.none,at1⟩,asd at0⟩,λb hb=>?_,q⟩
 have:s2.heap.objs.size<=b:=by
  simp only [List.mem_cons,List.not_mem_nil,or_false] at hb
  rcases hb with rfl | rfl
  ·exact Nat.le_succ _
  ·exact Nat.le_refl _
 exact I2.fpOk this (I2.hok.fresh this)
end
end ZP
namespace MI
open PySem PySem.Spec L2 ZP
def ajr(x y:D)(h:Hd):R Itm:=match srcOf x h,y with
 | some (xs,c), .int n=>if 0<=n/\n<=16777216 then .ok ⟨((List.range xs.length).zip xs).map λp=>.tup [.int ((n.toNat+p.1:Nat):Int),p.2],c⟩ h else .no
 | _,_=>.no
def a8p(f g:SE):SI:=λτ h=>(f τ h).bind λx h1=>(g τ h1).bind λy h2=>ajr x y h2
theorem ahf{X:Cx}{E:XD}{elts:List Expr}{x1:Nat}{tpos:Pos}{e1 e2:Expr}{f g:SE}{p pos kpos:Pos}(hg:Gl X "enumerate")(hm:X.mg "enumerate" = none)(ha:ME X E e1 f)(hb:ME X E e2 g)
  (h1:starEach [e1] X.env=[(false,eval e1 X.env)]:=by rfl):MI X E (.Tuple elts x1 tpos) (.Call (.Name "enumerate" p) [e1] [⟨some "start",e2,kpos⟩] pos) (a8p f g):=by
 intro pins s σ H Rr I ⟨ι,τ,h,S,Rh,o⟩
 refine ahe hg hm (qi ha a4p (by rw [h1];rfl)) (akj hb aog) h1 pins s σ H Rr I ?_
 refine ⟨ι,τ,h,S,Rh,fu o λd h1 ι1 H1 v g1 r1 hr1 o1=>?_⟩;refine ⟨ι1,τ,h1,S.mono g1,hr1,fu o1 λd2 h2 ι2 H2 v2 g2 r2 hr2 o2=>?_⟩;have r1:=r1.mono g2;unfold ajr at o2
 split at o2
 ·rename_i xs c n q1
  split at o2
  ·rename_i hn;obtain ⟨k,rfl,kc,kf⟩:=aag r1 hr2 q1;obtain ⟨vs,w1,w2⟩:=kf ι2 H2 h2 (.refl _ _) hr2 kc;cases r2
   obtain ⟨m,rfl⟩:=Int.eq_ofNat_of_zero_le hn.1;refine ⟨k,vs,m,rfl,w1,rfl,by omega,o2 ι2 H2 _ (.refl _ _) ?_ hr2⟩
   intro ι3 H3 h3 g3 hr3 c3
   obtain ⟨us,a1,a2⟩:=kf ι3 H3 h3 g3 hr3 c3;refine ⟨λi d ed=>?_,us,a1,?_⟩
   ·simp only [List.getElem?_map,Option.map_eq_some_iff] at ed;obtain ⟨⟨j,y⟩,ez,rfl⟩:=ed;obtain ⟨ex,ey⟩:=List.getElem?_zip_eq_some.mp ez;have hj:j=i:=by
     obtain ⟨_,q⟩:=List.getElem?_eq_some_iff.mp ex;simpa using q.symm
    subst hj;obtain ⟨v2,b3,b4⟩:=a2.get ey;refine ⟨⟨us,v2,a1,b3⟩,λx H' yl=>?_⟩;obtain ⟨xs',x',p,c1,c3,c5,rfl,rfl⟩:=yl;rw [a1] at c1;cases c1
    rw [b3] at c3;cases c3
    exact ⟨xu c5 _, .tup qe (.cons (.int _) (.cons (b4.mono (xu c5 _)) .nil)),hr3.aside c5 _⟩
   ·rw [List.length_map,List.length_zip,List.length_range,a2.len];omega
  ·exact o2.elim
 ·exact o2.elim
end MI
namespace AT
open L2
theorem ahg{α:Type}(x0:α)(xs:List α):atI (x0::xs) 0=some x0:=vm (j:=0) rfl
theorem ahh{α:Type}(x0 x1:α)(xs:List α):atI (x0::x1::xs) 1=some x1:=vm (j:=1) rfl
theorem ahi{α:Type}(x0 x1 x2:α)(xs:List α):atI (x0::x1::x2::xs) 2=some x2:=vm (j:=2) rfl
theorem ahj{α:Type}(x0 x1 x2 x3:α)(xs:List α):atI (x0::x1::x2::x3::xs) 3=some x3:=vm (j:=3) rfl
theorem ahk{α:Type}(x0 x1 x2 x3 x4:α)(xs:List α):atI (x0::x1::x2::x3::x4::xs) 4=some x4:=vm (j:=4) rfl
theorem ahl{α:Type}(x0 x1 x2 x3 x4 x5:α)(xs:List α):atI (x0::x1::x2::x3::x4::x5::xs) 5=some x5:=vm (j:=5) rfl
theorem ahm{α:Type}(x0 x1 x2 x3 x4 x5 x6:α)(xs:List α):atI (x0::x1::x2::x3::x4::x5::x6::xs) 6=some x6:=vm (j:=6) rfl
theorem ahn{α:Type}(x0 x1 x2 x3 x4 x5 x6 x7:α)(xs:List α):atI (x0::x1::x2::x3::x4::x5::x6::x7::xs) 7=some x7:=vm (j:=7) rfl
theorem x10:ixN 1 0=some 0:=rfl
theorem x20:ixN 2 0=some 0:=rfl
theorem x21:ixN 2 1=some 1:=rfl
theorem x30:ixN 3 0=some 0:=rfl
theorem x31:ixN 3 1=some 1:=rfl
theorem x32:ixN 3 2=some 2:=rfl
theorem x40:ixN 4 0=some 0:=rfl
theorem x41:ixN 4 1=some 1:=rfl
theorem x42:ixN 4 2=some 2:=rfl
theorem x43:ixN 4 3=some 3:=rfl
theorem x50:ixN 5 0=some 0:=rfl
theorem x51:ixN 5 1=some 1:=rfl
theorem x52:ixN 5 2=some 2:=rfl
theorem x53:ixN 5 3=some 3:=rfl
theorem x54:ixN 5 4=some 4:=rfl
theorem x60:ixN 6 0=some 0:=rfl
theorem x61:ixN 6 1=some 1:=rfl
theorem x62:ixN 6 2=some 2:=rfl
theorem x63:ixN 6 3=some 3:=rfl
theorem x64:ixN 6 4=some 4:=rfl
theorem x65:ixN 6 5=some 5:=rfl
theorem x70:ixN 7 0=some 0:=rfl
theorem x71:ixN 7 1=some 1:=rfl
theorem x72:ixN 7 2=some 2:=rfl
theorem x73:ixN 7 3=some 3:=rfl
theorem x74:ixN 7 4=some 4:=rfl
theorem x75:ixN 7 5=some 5:=rfl
theorem x76:ixN 7 6=some 6:=rfl
def ajs(x:Int):Int:=if x<0 then -x else x
theorem aho(x:Int)(h:MI.Hd):MI.ap9 [.int x] h = .ok (.int (ajs x)) h:=rfl
theorem p18(h:MI.Hd):MI.adl (.int 10) (.int 18) h = .ok (.int 1000000000000000000) h:=by rw [MI.adl,if_pos (by decide)];rfl
theorem au3{i j:Int}{h:MI.Hd}(c:0<=j/\j<=1000000/\i.natAbs<2 ^ 64):MI.adl (.int i) (.int j) h = .ok (.int (i ^ j.toNat)) h:=by rw [MI.adl,if_pos c]
end AT
namespace MI
open PySem PySem.Spec L2 SeqAt
def au4(neg:Bool)(K:PySem.W.Frag):R2:=λx y H Q=>∃ (ι:List Addr) (p q:Addr) (vs us:List V) (xs ys:List D),x = .ref p/\y = .ref q/\Rd H p (.lst vs)/\Rd H q (.lst us)/\Reps K ι H vs xs/\Reps K ι H us ys/\xs.all (pur 59)=true/\ys.all (pur 59)=true/\Q (.bl (if neg then !aae xs ys else aae xs ys)) H
theorem aav{X:Cx}{pins:List (Addr × Obj)}{s:Shared}{σ:St}{H:Hp}(I:Inv X pins σ H s)(hu:X.A.units+64<cLine){ι:List Addr}{p q:Addr}{vs us:List V}{xs ys:List D}(h1:Rd H p (.lst vs))(h2:Rd H q (.lst us))(rs:Reps X.K ι H vs xs)(qs:Reps X.K ι H us ys)(p1:xs.all (pur 59)=true)(p2:ys.all (pur 59)=true) :
  RcAt X.A s (.ref p) (.ref q) (aae xs ys)/\RcNeAt X.A s (.ref p) (.ref q) (!aae xs ys):=by
 obtain ⟨its,r1,pl1,z1⟩:=I.list (.inl h1);obtain ⟨its2,r2,pl2,z2⟩:=I.list (.inl h2);have l1:its.toArray.size=xs.length:=by rw [List.size_toArray,<-r1.length,rs.len]
 have l2:its2.toArray.size=ys.length:=by rw [List.size_toArray,<-r2.length,qs.len]
 by_cases hl:xs.length=ys.length
 ·have step:∀ j (h1:j<its.toArray.size) (h2:j<its2.toArray.size),EqAt X.A.in1 s its.toArray[j] its2.toArray[j] (pairE xs ys j):=λj h1 h2=>by
   have j1:j<xs.length:=by omega
   have j2:j<ys.length:=by omega
   obtain ⟨v1,e1,q1⟩:=rs.get (List.getElem?_eq_getElem j1);obtain ⟨v2,e2,q2⟩:=qs.get (List.getElem?_eq_getElem j2);obtain ⟨u1,e3,q3⟩:=r1.get e1;obtain ⟨u2,e4,q4⟩:=r2.get e2;have f1:its.toArray[j]=u1:=by simpa using (List.getElem?_eq_some_iff.mp e3).2
   have f2:its2.toArray[j]=u2:=by simpa using (List.getElem?_eq_some_iff.mp e4).2
   have pe:pairE xs ys j=eqD xs[j] ys[j]:=by simp [pairE,List.getElem?_eq_getElem j1,List.getElem?_eq_getElem j2]
   rw [f1,f2,pe];rw [List.all_eq_true] at p1 p2;exact ajk I.hok 59 X.A.in1 q1 q2 q3 q4 (p1 _ (List.getElem_mem j1)) (p2 _ (List.getElem_mem j2)) (by rw [Around.in1_units];omega)
  have c1:=RcAt.lists (A:=X.A) (s:=s) (e:=pairE xs ys) pl1.isList pl2.isList (by omega) (by omega) step
  have c2:=RcNeAt.lists (A:=X.A) (s:=s) (e:=pairE xs ys) pl1.isList pl2.isList (by omega) (by omega) step
  have ea:=a2b xs ys;rw [hl,Nat.min_self,beq_self_eq_true,Bool.and_true,<-hl] at ea;rw [l1,ea] at c1 c2;exact ⟨c1,c2⟩
 ·have ne:(its.toArray.size != its2.toArray.size)=true:=by rw [l1,l2];simpa using hl
  have ea:=a2b xs ys;rw [beq_eq_false_iff_ne.mpr hl,Bool.and_false] at ea;rw [<-ea];exact ⟨RcAt.lists_lengths pl1.isList pl2.isList ne (by omega),RcNeAt.lists_lengths pl1.isList pl2.isList ne (by omega)⟩
theorem aq0{X:Cx}(hu:X.A.units+64<cLine):OpR X (compareOp .Eq) (au4 false X.K):=by
 intro pins s σ H x y v u Q I rx ry h
 obtain ⟨ι,p,q,vs,us,xs,ys,rfl,rfl,h1,h2,r1,r2,p1,p2,hq⟩:=h
 cases rx;cases ry
 exact (aav I hu h1 h2 r1 r2 p1 p2).1 X.prog X.w X.xe _ ⟨.bl _,H,I,rfl,hq⟩
theorem aq1{X:Cx}(hu:X.A.units+64<cLine):OpR X (compareOp .NotEq) (au4 true X.K):=by
 intro pins s σ H x y v u Q I rx ry h
 obtain ⟨ι,p,q,vs,us,xs,ys,rfl,rfl,h1,h2,r1,r2,p1,p2,hq⟩:=h
 cases rx;cases ry
 exact (aav I hu h1 h2 r1 r2 p1 p2).2 X.prog X.w X.xe _ ⟨.bl _,H,I,rfl,hq⟩
def am8(neg:Bool)(x y:D)(h:Hd):R D:=match a0h x h,a0h y h with
 | some xs,some ys=>if xs.all (pur 59)=true/\ys.all (pur 59)=true then .ok (.bl (if neg then !aae xs ys else aae xs ys)) h else .no
 | _,_=>.no
theorem aej(neg:Bool){K:PySem.W.Frag}:a3j K (am8 neg) (au4 neg K):=by
 intro E ι H h x y dx dy Q rx ry hr o
 unfold am8 at o
 split at o
 ·rename_i xs ys e1 e2
  split at o
  ·rename_i hc;obtain ⟨a,vs,rfl,h1,r1⟩:=a2d rx hr e1;obtain ⟨b,us,rfl,h2,r2⟩:=a2d ry hr e2;exact ⟨ι,a,b,vs,us,xs,ys,rfl,rfl,h1,h2,r1,r2,hc.1,hc.2,ans o (.bl _) hr⟩
  ·exact o.elim
 ·exact o.elim
end MI
namespace L2
open PySem PySem.Spec
section
variable{X:Cx}
theorem aaw:∀ {ts:List String} {us:List Value},Vals (ts.map V.ty) us->us=ts.map Value.type
 | [],_,r=>by cases r;rfl
 | t::ts,us,r=>by
  cases r with
  | cons r rs =>
   rw [List.map_cons,<-aaw rs]
   congr 1
theorem a8q:CallR X (.builtin "isinstance") (λxs H Q=>∃ x tp t b,∃ ts:List String,xs=[x, .ref tp]/\H tp=some (.tup (ts.map V.ty))/\TyOf X.K H x (.type t)/\PySem.W.kitAny X.K (.type t) (ts.map Value.type)=some b/\Q (.bl b) H):=by
 intro pins s σ H xs us Q I r h
 obtain ⟨x,tp,t,b,ts,rfl,et,ty,e,q⟩:=h;obtain ⟨u,w',rfl,rx,rt⟩:=vals2 r;obtain rfl:w'=Value.ref tp:=rt;obtain ⟨_,its,vr,o',h1,h2,n,h3⟩:=(show ObjOk X.prog X.w H s.heap tp (.tup (ts.map V.ty)) from I.hok tp _ et)
 obtain rfl:=aaw vr
 have htp:s.heap.get? tp=some ⟨.type "tuple",o'.dict, .seq (ts.map Value.type).toArray n,o'.slots⟩:=by
  rw [h1];obtain ⟨c,dd,dt,sl⟩:=o';simp only at h2 h3;rw [h2,h3]
 have fin:∀ tk,∃ y H',Inv X pins σ H' { s with toks:=tk }/\RelV y (Value.bool b)/\Q y H':=λtk=>⟨.bl b,H,I.tok tk,rfl,q⟩
 cases ty with
 | non=>cases (show u=Value.none from rx);exact PySem.W.kia_tup PySem.W.kitx_none I.kIn True.intro htp e (λz=>nomatch z) fin
 | bl y=>cases (show u=Value.bool y from rx);exact PySem.W.kia_tup PySem.W.kitx_bool I.kIn True.intro htp e (λz=>nomatch z) fin
 | int i=>obtain ⟨t,q⟩:=(show ∃ t,u=Value.int i t from rx);cases q;exact PySem.W.kia_tup PySem.W.kitx_int I.kIn True.intro htp e (λz=>nomatch z) fin
 | str y=>obtain ⟨t,q⟩:=(show ∃ t,u=Value.str y t from rx);cases q;exact PySem.W.kia_tup PySem.W.kitx_str I.kIn True.intro htp e (λz=>nomatch z) fin
 | flt y=>obtain ⟨t,q⟩:=(show ∃ t,u=Value.float y t from rx);cases q;exact PySem.W.kia_tup PySem.W.kitx_float I.kIn True.intro htp e (λz=>nomatch z) fin
 | @lst a xs ea =>
  cases (show u=Value.ref a from rx)
  obtain ⟨_,_,n,_,h1⟩:=(show ObjOk X.prog X.w H s.heap a (.lst xs) from I.hok a _ ea)
  exact PySem.W.kia_tup PySem.W.kitx_list I.kIn ⟨_,h1,rfl⟩ htp e (λz=>nomatch z) fin
 | @frz a ob xs ea =>
  cases (show u=Value.ref a from rx)
  obtain ⟨_,_,_,n,_,h1⟩:=(show ObjOk X.prog X.w H s.heap a (.frz ob (.lst xs)) from I.hok a _ ea)
  exact PySem.W.kia_tup PySem.W.kitx_list I.kIn ⟨_,h1,rfl⟩ htp e (λz=>nomatch z) fin
 | @tup a xs ea =>
  cases (show u=Value.ref a from rx)
  obtain ⟨_,_,_,p⟩:=(show ObjOk X.prog X.w H s.heap a (.tup xs) from I.hok a _ ea)
  obtain ⟨o,h1,h2,_⟩:=p;exact PySem.W.kia_tup PySem.W.kitx_tuple I.kIn ⟨o,h1,h2⟩ htp e (λz=>nomatch z) fin
 | @dK a kvs ea =>
  cases (show u=Value.ref a from rx)
  obtain ⟨_,_,vs,_,p⟩:=(show ObjOk X.prog X.w H s.heap a (.dK kvs) from I.hok a _ ea)
  obtain ⟨o,es,ep,h1,h2,_⟩:=p;exact PySem.W.kia_tup PySem.W.kitx_dict I.kIn ⟨o,h1,h2.1⟩ htp e (λz=>nomatch z) fin
 | @dT a kvs ea =>
  cases (show u=Value.ref a from rx)
  obtain ⟨_,_,xs,_,o,es,ep,h1,h2,_⟩:=(show ObjOk X.prog X.w H s.heap a (.dT kvs) from I.hok a _ ea)
  exact PySem.W.kia_tup PySem.W.kitx_dict I.kIn ⟨o,h1,h2.1⟩ htp e (λz=>nomatch z) fin
end
end L2
namespace MI
open PySem PySem.Spec L2
section
variable{K:PySem.W.Frag}
def ahp:List D->Option (List String)
 | []=>some []
 | .ty t::r=>(ahp r).map (t::·)
 | _=>none
def a5h(t:String):List String->Option Bool
 | []=>some false
 | T::r=>match a69 t T with | some true=>some true | some false=>a5h t r | none=>none
theorem a8r{t:String}:∀ {ts:List String} {b:Bool},a5h t ts=some b->PySem.W.kitAny K (.type t) (ts.map Value.type)=some b
 | [],b,e=>e
 | T::ts,b,e=>by
  unfold a5h at e;show (match PySem.W.kitOne K (.type t) (.type T) with | some true=>some true | some false=>PySem.W.kitAny K (.type t) (ts.map Value.type) | none=>none)=some b
  cases h:a69 t T with
  | none=>rw [h] at e;cases e
  | some c =>
   rw [h] at e;rw [a9d h];cases c
   ·exact a8r e
   ·exact e
theorem aek{ι:List Addr}{H:Hp}:∀ {vs:List V} {xs:List D} {ts:List String},Reps K ι H vs xs->ahp xs=some ts->vs=ts.map V.ty
 | _,[],ts,r,e=>by cases r;cases e;rfl
 | _,x::xs,ts,r,e=>by
  cases r with
  | cons r rs =>
   cases r with
   | ty t =>
    unfold ahp at e
    cases h:ahp xs with
    | none=>rw [h] at e;cases e
    | some us=>rw [h] at e;cases e;rw [aek rs h];rfl
   | _=>unfold ahp at e;cases e
def a79:List D->Hd->R D
 | [d, .tup xs],h=>(match ahp xs,tyD d h with | some ts,some t=>(match a5h t ts with | some b=>.ok (.bl b) h | none=>.no) | _,_=>.no)
 | _,_=>.no
theorem ahq:ac4 K a79 (λxs H Q=>∃ x tp t b,∃ ts:List String,xs=[x, .ref tp]/\H tp=some (.tup (ts.map V.ty))/\TyOf K H x (.type t)/\PySem.W.kitAny K (.type t) (ts.map Value.type)=some b/\Q (.bl b) H):=by
 intro E ι H h xs ds Q r hr o
 unfold a79 at o
 split at o
 ·rename_i d xs
  cases r with
  | cons r rs =>
   cases rs with
   | cons q rs =>
    cases rs
    cases q with
    | @tup p vs _ hp qs =>
     split at o
     ·rename_i ts t e1 e2
      split at o
      ·rename_i b e3;exact ⟨_,p,t,b,ts,rfl,by rw [hp,aek qs e1],ajh r hr e2,a8r e3,ans o (.bl _) hr⟩
      ·exact o.elim
     ·exact o.elim
 ·exact o.elim
end
end MI
namespace K69
open PySem PySem.Spec L2 MI
noncomputable def xg:SE :=
 (s2 (gIn false) (sV 0) (sV 1))
noncomputable def ut:SS :=
 (vf (a09 (sA uf (aj (sV 1) (aj (sC (.ty "str")) dj))) (sA ajj (aj (sZ (uz (sIt (sV 1)) t1 xg [0])) dj))))
noncomputable def sy(my:SF):SS :=
 (j5 (sIf (a90 (a87 (sA (nj false 2 my) (aj (sV 0) (aj (sV 1) dj)))))
 (a8n "NoText" (aj (sC (.str "no text of the tongue")) dj))
 sNx)
 (vf (sV 1)))
noncomputable def m8:SS :=
 (um (sML a3l (sV 6) (aj (s2 gIx (s2 gIx (sV 4) (s2 gIx (sV 6) (s1 a2l (sC (.int 1))))) (sMS a6a (sV 3) (aj (sV 7) dj))) dj)))
noncomputable def o8:SS :=
 (j5 (a5p (sV 0) (a1n 3 (jj (kN 3) (jj (kN 4) (jj (kN 5) a1t)))))
 (j5 (lq 6 (sA yx (aj (sV 1) dj)))
 (j5 (a3x (sIt (sV 2)) (kN 7) m8)
 (vf (sV 6)))))
noncomputable def u5(iu:SF):SS :=
 (sIf (sT (s2 hNe (s2 gIx (sV 3) (sV 6)) (s1 a2l (sC (.int 1)))))
 (lq 4 (sA qp (aj (s2 gIx (sV 3) (sV 6)) (aj (sV 5) dj))))
 sNx)
noncomputable def yt(iu:SF):SS :=
 (j5 (lq 3 (s2 gIx (sV 0) (sC (.int 2))))
 (j5 (lq 4 (sC .non))
 (j5 (a3x (a8p (sA (nj false 3 iu) (aj (sV 0) (aj (sC (.int 0)) (aj (a0v (sV 1) (oS (sV 2)) oN) dj)))) (sV 2)) (a1n 2 (jj (kN 5) (jj (kN 6) a1t))) (u5 iu))
 (vf (sV 4)))))
noncomputable def xq:SE :=
 (sA qp (aj (sV 3) (aj (sV 0) (aj (sV 1) dj))))
noncomputable def yo:SS :=
 (j5 (a5p (sV 0) (a1n 2 (jj (kN 1) (jj (kN 2) a1t))))
 (vf (uz (sIt (sV 2)) (tN 3) xq [1])))
noncomputable def a2f:SS :=
 (j5 (a5p (s2 gIx (s2 gIx (sV 0) (sC (.int 1))) (sV 1)) (a1n 3 (jj (kN 3) (jj (kN 4) (jj (kN 5) a1t)))))
 (vf (s2 gIx (sV 5) (sV 2))))
noncomputable def yp:SS :=
 (j5 (sIf (sT (s2 hEq (s2 gIx (sV 1) (sC (.int 0))) (sC (.str "open"))))
 (vf (s2 jr (sV 0) (sA qp (aj (s2 gIx (sV 1) (sC (.int 1))) dj))))
 sNx)
 (j5 (sIf (sT (s2 hEq (s2 gIx (sV 1) (sC (.int 0))) (sC (.str "turn"))))
 (vf (s2 jr (a0v (sV 0) oN (oS (s1 a2l (sC (.int 1))))) (sA qp (aj (s2 gIx (sV 1) (sC (.int 1))) dj))))
 sNx)
 (j5 (sIf (sT (s2 hEq (s2 gIx (sV 1) (sC (.int 0))) (sC (.str "stay"))))
 (vf (sV 0))
 sNx)
 (vf (ade (sT (s2 gGt (sA xx (aj (sV 0) dj)) (sC (.int 1)))) (a0v (sV 0) oN (oS (s1 a2l (sC (.int 1))))) (sC .non))))))
noncomputable def a1k(jf:SF)(ig:SF)(jd:SF)(ju:SF)(j8:SF):ST :=
 (sT (s2 a8b (sV 7) (sC .non)))
noncomputable def wy(jf:SF)(ig:SF)(jd:SF)(ju:SF)(j8:SF):SS :=
 (j5 (a5p (sV 7) (a1n 2 (jj (kN 8) (jj (kN 9) a1t))))
 (j5 (lq 10 (s2 gIx (sV 6) (s1 a2l (sC (.int 1)))))
 (j5 (lq 11 (sA (nj false 2 j8) (aj (sV 6) (aj (sA (nj false 3 jf) (aj (sV 0) (aj (sV 10) (aj (sV 8) dj)))) dj))))
 (j5 (sIf (sT (s2 gIs (sV 11) (sC .non)))
 (vf (sA qp (aj (sV 4) (aj (sV 5) (aj (sC (.str "low")) (aj (sV 6) dj))))))
 sNx)
 (j5 (um (sML a3l (sV 4) (aj (sA qp (aj (sV 10) (aj (sV 8) (aj (sV 5) (aj (sV 9) dj))))) dj)))
 (j5 (lq 5 (sV 9))
 (j5 (lq 6 (sV 11))
 (lq 7 (sA (nj false 3 ju) (aj (s2 gIx (sV 3) (s2 gIx (sV 6) (s1 a2l (sC (.int 1))))) (aj (sV 2) (aj (sV 5) dj))))))))))))
noncomputable def vq(jf:SF)(ig:SF)(jd:SF)(ju:SF)(j8:SF):SS :=
 (j5 (um (sA (zf 2 ig) (aj (s2 gIx (sV 0) (sC (.int 0))) (aj (sV 2) dj))))
 (j5 (lq 3 (sA (nj false 1 jd) (aj (sV 0) dj)))
 (j5 (lq 4 (sA yx dj))
 (j5 (lq 5 (sC (.int 0)))
 (j5 (lq 6 (sA qp (aj (sV 1) dj)))
 (j5 (lq 7 (sA (nj false 3 ju) (aj (s2 gIx (sV 3) (sV 1)) (aj (sV 2) (aj (sV 5) dj)))))
 (j5 (qS (sWh (a1k jf ig jd ju j8) (wy jf ig jd ju j8) 100000))
 (vf (sA qp (aj (sV 4) (aj (sV 5) (aj (ade (sT (s2 hEq (sV 5) (sA xx (aj (sV 2) dj)))) (sC (.str "end")) (sC (.str "none"))) (aj (sV 6) dj)))))))))))))
noncomputable def vy:SS :=
 (j5 (sIf (sT (s2 hEq (s2 gIx (sV 1) (sC (.int 0))) (sC (.str "open"))))
 (vf (s2 jr (sV 0) (sZ (sA yx (aj (s2 gIx (sV 1) (sC (.int 1))) dj)))))
 sNx)
 (j5 (sIf (sT (s2 hEq (s2 gIx (sV 1) (sC (.int 0))) (sC (.str "turn"))))
 (vf (s2 jr (sZ (a0v (sV 0) oN (oS (s1 a2l (sC (.int 1)))))) (sZ (sA yx (aj (s2 gIx (sV 1) (sC (.int 1))) dj)))))
 sNx)
 (j5 (sIf (sT (s2 hEq (s2 gIx (sV 1) (sC (.int 0))) (sC (.str "shut"))))
 (vf (a0v (sV 0) oN (oS (s1 a2l (sC (.int 1))))))
 sNx)
 (vf (sV 0)))))
noncomputable def a3p(jz:SF)(kh:SF):ST :=
 (sT (s2 gLt (sV 5) (sA xx (aj (sV 2) dj))))
noncomputable def xj(jz:SF)(kh:SF):SS :=
 (j5 (lq 6 (s2 gIx (sV 4) (s1 a2l (sC (.int 1)))))
 (j5 (lq 7 (sA (nj false 4 jz) (aj (sV 0) (aj (sV 6) (aj (sV 2) (aj (sV 5) dj))))))
 (j5 (sIf (sT (s2 gIs (sV 7) (sC .non)))
 (vf (sA qp (aj (sV 3) (aj (sV 5) (aj (sC (.str "none")) (aj (sA ou (aj (sV 4) dj)) dj))))))
 sNx)
 (j5 (lq 8 (sA (nj false 2 kh) (aj (sV 4) (aj (s2 gIx (s2 gIx (s2 gIx (s2 gIx (sV 0) (sC (.int 1))) (sV 6)) (sC (.int 2))) (s2 gIx (sV 7) (sC (.int 0)))) dj))))
 (j5 (sIf (sT (s2 (am8 false) (sV 8) (sZ (sA yx dj))))
 (vf (sA qp (aj (sV 3) (aj (sV 5) (aj (sC (.str "low")) (aj (sA ou (aj (sV 4) dj)) dj))))))
 sNx)
 (j5 (um (sML a3l (sV 3) (aj (sA qp (aj (sV 6) (aj (s2 gIx (sV 7) (sC (.int 0))) (aj (sV 5) (aj (s2 gIx (sV 7) (sC (.int 1))) dj))))) dj)))
 (j5 (lq 4 (sV 8))
 (lq 5 (s2 gIx (sV 7) (sC (.int 1)))))))))))
noncomputable def a2g(jz:SF)(kh:SF):SS :=
 (j5 (lq 3 (sA yx dj))
 (j5 (lq 4 (sZ (sA yx (aj (sV 1) dj))))
 (j5 (lq 5 (sC (.int 0)))
 (j5 (sWh (a3p jz kh) (xj jz kh) 100000)
 (vf (sA qp (aj (sV 3) (aj (sV 5) (aj (sC (.str "end")) (aj (sA ou (aj (sV 4) dj)) dj))))))))))
noncomputable def v8(bw:SF):SS :=
 (sIf (a90 (a87 (sA (nj false 2 bw) (aj (sV 2) (aj (sV 3) dj)))))
 ae4
 sNx)
noncomputable def u6(bw:SF):SS :=
 (j5 (sIf (a87 (sA a79 (aj (sV 1) (aj (sA qp (aj (sC (.ty "list")) (aj (sC (.ty "tuple")) dj))) dj))))
 (j5 (sIf (sOr (sT (s2 hNe (sA uf (aj (sV 1) (aj (sC (.ty "list")) dj))) (sA uf (aj (sV 0) (aj (sC (.ty "list")) dj))))) (sT (s2 hNe (sA uf (aj (sV 1) (aj (sC (.ty "tuple")) dj))) (sA uf (aj (sV 0) (aj (sC (.ty "tuple")) dj))))))
 ae4
 sNx)
 (j5 (sIf (sT (s2 hNe (sA xx (aj (sV 0) dj)) (sA xx (aj (sV 1) dj))))
 ae4
 sNx)
 (j5 (a3x (ajl (sV 0) (sV 1)) (a1n 2 (jj (kN 2) (jj (kN 3) a1t))) (v8 bw))
 (vf (sC (.bl true))))))
 sNx)
 (j5 (sIf (sT (s2 gIs (sV 1) (sC .non)))
 ae4
 sNx)
 (j5 (sIf (a87 (sA uf (aj (sV 1) (aj (sC (.ty "str")) dj))))
 (vf (a09 (sA uf (aj (sV 0) (aj (sC (.ty "str")) dj))) (s2 hEq (sV 0) (sV 1))))
 sNx)
 (vf (a09 (sA uf (aj (sV 0) (aj (sC (.ty "int")) dj))) (a09 (a88 (sA uf (aj (sV 0) (aj (sC (.ty "bool")) dj)))) (s2 hEq (sV 0) (sV 1))))))))
end K69
namespace MI
open PySem PySem.Spec L2
section
variable{K:PySem.W.Frag}{ι:List Addr}{H:Hp}{h:Hd}{n:Nat}
open Classical in
noncomputable def a9l(n:Nat)(F:SF):SF:=λds h=>if (∀ d∈ds,clo 0 d)/\ds.length=n then (match F ds [] with
 | .ok (.ref i) h1=>(match h1[i]? with | some o=>if zj 0 o then .ok (.ref h.length) (h++[o]) else .no | none=>.no)
 | _=>.no) else .no
theorem ahr{mg:Str->Option Value}{F:SF}{vs:List V}{ds:List D}{Q:VK}{E:XK}{E2:XD}(r:Reps K ι H vs ds)(hr:HRep K ι H h)(o:out K E2 (yw K) ι H (a9l n F ds h) Q):spX K mg n F vs H Q E:=by
 unfold a9l at o
 split at o
 ·rename_i hc
  split at o
  ·rename_i i h1 ef
   split at o
   ·rename_i ob ho
    split at o
    ·rename_i cc;have R0:Reps K [] H vs ds:=by
      have:=r.cut (a5g hc.1)
      rwa [List.take_zero] at this
     refine ⟨by rw [r.len];exact hc.2,[],ds,[],R0,⟨List.nodup_nil,rfl,λi a o e1=>by simp at e1⟩,?_⟩
     rw [ef]
     intro ι' H' v g rb hr1
     obtain ⟨m,em,hm⟩:=g.pre;rw [List.nil_append] at em;subst em;obtain ⟨G0,hr'⟩:=hr.stays (H':=H') λa u q=>g.oth a u q (by simp)
     cases rb with
     | @ref b _ hb =>
      have bm:b∈ι':=List.mem_of_getElem? hb;have bn:H b=none:=hm b bm;have nb:b ∉ ι:=λz=>by
       obtain ⟨j,hj,e⟩:=List.getElem_of_mem z;have q1:ι[j]? = some b:=by rw [List.getElem?_eq_getElem hj,e]
       have hj2:j<h.length:=by rw [<-hr.len];exact hj
       obtain ⟨u,hu,_⟩:=(hr.obj j b h[j] q1 (List.getElem?_eq_getElem hj2)).some;rw [bn] at hu;cases hu
      have up:∀ κ:List Addr,Gw [] H' κ H':=λκ=>⟨⟨κ,rfl⟩,λ_ _ h=>h,λ_ _ _ h=>h⟩;have up2:Gw ι H' (ι++[b]) H':=⟨⟨[b],rfl⟩,λ_ _ h=>h,λ_ _ _ h=>h⟩;have o1:=(hr1.obj i b ob hb ho).cut cc;rw [List.take_zero] at o1;refine o (ι++[b]) H' _ ⟨⟨[b],rfl,by simpa using bn⟩,g.tup,g.frz,λa u q _=>g.oth a u q (by simp),g.kp⟩ (.ref (by rw [<-hr.len];simp)) ⟨?_,?_,λj a u q1 q2=>?_⟩
      ·exact List.nodup_append.mpr ⟨hr.nd,by simp,λa ha c hc z=>nb (by rw [<-List.mem_singleton.mp hc,<-z];exact ha)⟩
      ·rw [List.length_append,List.length_append,hr.len];rfl
      ·by_cases hj:j<ι.length
       ·rw [List.getElem?_append_left hj] at q1;rw [List.getElem?_append_left (by rw [<-hr.len];exact hj)] at q2
        exact (hr'.obj j a u q1 q2).monoW up2 rfl
       ·have hj2:j<(ι++[b]).length:=(List.getElem?_eq_some_iff.mp q1).1;have:j=ι.length:=by simp at hj2;omega
        subst this;rw [List.getElem?_append_right (Nat.le_refl _)] at q1;rw [List.getElem?_append_right (by rw [hr.len];exact Nat.le_refl _)] at q2
        simp [hr.len] at q1 q2
        subst q1 q2;exact o1.monoW (up _) rfl
    ·exact o.elim
   ·exact o.elim
  ·exact o.elim
 ·exact o.elim
end
theorem ahs{X:Cx}{k n:Nat}{f:Addr}{fd:FuncData}{ps:List Str}{x:Str}{F:SF}{ka:SA}{e:Expr}{es:List Expr}{p pos:Pos}(G:DnX X.prog X.w X.K X.mg X.base k x ps (spX X.K X.mg n F) f fd)(hr:Room k X.A)(hg:Gl X x)(ha:MA X X0 (e::es) ka)
  (hdb:(x == ("__debug__" : Str))=false:=by decide) (he:starEach (e::es) X.env=(false,eval e X.env)::starEach es X.env:=by rfl) (hpl:(backTo pos (starEach es X.env)).any (·.1)=false:=by rfl):ME X X0 (.Call (.Name x p) (e::es) [] pos) (sA (a9l n F) ka):=by
 have ps0:a4q (CXE X.prog X.w) X E0:=by
  rintro pins σ H s e s' I ⟨a,C,t,B,H',rfl,os,bare,un,hok,air,z⟩
  exact z.elim
 refine PE.weak (a2o G.ok hr hg G.m G.kp G.b .nil ps0 ha hdb he hpl) λσ H Q ⟨ι,τ,h,S,Rh,o⟩=>?_;refine ⟨ι,τ,h,S,Rh,fu o λds h1 ι1 H1 vs g1 r1 hr1 o1=>?_⟩;rw [List.append_nil];exact ahr r1 hr1 o1
end MI
namespace EVX
open PySem PySem.Spec L2 MI
theorem am9{F:SF}{n i:Nat}{ds:List D}{o:O}{h h1:Hd}(hn:ds.length=n)(cd:∀ x∈ds,MI.clo 0 x)(e:F ds [] = .ok (.ref i) h1)(ho:h1[i]? = some o)(co:zj 0 o):a9l n F ds h = .ok (.ref h.length) (h++[o]):=by
 unfold a9l;rw [if_pos ⟨cd,hn⟩,e];dsimp only;rw [ho];dsimp only;rw [if_pos co]
end EVX
namespace TPM
open PySem PySem.Spec PySem.W L2 HT MI
theorem abt(t:Addr)(items:Array Value)(n:Nat)(dd:Option Addr)(sl:Array (Option Value))(u:Tok) :
  Meets (Builtin.«tuple.__mul__» ⟨[.ref t, .int 1 u],[]⟩) (λ_ R s=>s.heap.get? t=some { cls:=.type "tuple",dict:=dd,data:=.seq items n,slots:=sl }/\R (.ok (.ret (.ref t))) s) :=
 .of_wp λprog w A R s h=>by
  obtain ⟨hp,g,d,tk,os⟩:=s;obtain ⟨hl,h⟩:=h
  wp_walk
  exact ⟨_,rfl,h⟩
def aq2(K:PySem.W.Frag):R2:=λx y H Q=>∃ a xs,x = .ref a/\y = .int 1/\SqT K H a xs/\Q (.ref a) H
theorem ama{X:Cx}:OpR X (binaryOp .Mult) (aq2 X.K):=by
 intro pins s σ H x y v u Q I rx ry h
 obtain ⟨a,xs,rfl,rfl,ha,q⟩:=h;cases rx
 obtain ⟨t,rfl⟩:=ry;obtain ⟨its,r1,p1,_⟩:=I.tuple ha;obtain ⟨⟨cls,dd,data,sl⟩,ho,hc,n,hd⟩:=id p1;simp only at hc hd;subst hc hd;exact wpAny_binaryOp_repeat_ref (T := "tuple") (U := "int") (by decide) ⟨_,ho,rfl⟩ (λs'=>typeIs_int s' 1 t) a0t F.fills_int_mul F.slot_int_rmul a8i F.slot_int_index.lookup
  (call_meets F.slot_int_rmul (typeIs_int s 1 t) F.entry_int_rmul (F.args_int_rmul_2 _ _) (a3n 1 t a its.toArray n dd sl)
   ⟨ho,rfl,⟨_,ho,rfl⟩,call_meets F.slot_tuple_mul ⟨_,ho,rfl⟩ F.entry_tuple_mul (F.args_tuple_mul_2 _ _) (abt a its.toArray n dd sl t) ⟨ho, .ref a,H,I,rfl,q⟩⟩)
end TPM
namespace MI
open PySem PySem.Spec L2 TPM
noncomputable def a7a(x y:D)(h:Hd):R D:=match x,y with
 | .tup xs, .int k=>if k=1 then .ok (.tup xs) h else ae6 (.tup xs) (.int k) h
 | x,y=>ae6 x y h
theorem aht{K:PySem.W.Frag}:a3j K a7a (λx y H Q=>((rI CMul (λi j=>.int (i*j)) x y H Q\/as9 x y H Q)\/alr K x y H Q)\/aq2 K x y H Q):=by
 intro E ι H h x y dx dy Q rx ry hr o
 cases rx with
 | @tup a vs xs ha rs =>
  cases ry with
  | int k =>
   simp only [a7a] at o
   split at o
   ·rename_i hc;subst hc;exact .inr ⟨a,vs,rfl,rfl,SqT.of ha,ans o (.tup ha rs) hr⟩
   ·exact .inl (a73 _ _ _ _ _ _ _ _ _ (.tup ha rs) (.int k) hr o)
  | _=>exact o.elim
 | int i=>exact .inl (a73 _ _ _ _ _ _ _ _ _ (.int i) ry hr o)
 | ref e=>exact .inl (a73 _ _ _ _ _ _ _ _ _ (.ref e) ry hr o)
 | _=>exact o.elim
theorem ael{X:Cx}{E:XD}{a b:Expr}{fa fb:SE}{pos:Pos}(ha:ME X E a fa)(hb:ME X E b fb):ME X E (.BinOp a .Mult b pos) (s2 a7a fa fb):=a9b (((aiz.or aop).or als).or ama) aht ha hb
theorem av5{xs:List D}{k:Nat}{h:Hd}(ne:xs≠[])(k1:1<=k)(k2:k<=1000)(xl:xs.length<=1000):a7a (.tup xs) (.int (k:Nat)) h = .ok (.tup (List.replicate k xs).flatten) h:=by
 unfold a7a;dsimp only
 by_cases e:(k:Int)=1
 ·rw [if_pos e];have:k=1:=by omega
  subst this;simp
 ·rw [if_neg e];unfold ae6;dsimp only;have hl:xs.length*(k:Int).toNat<=LINE:=by
   rw [Int.toNat_natCast];have:xs.length*k<=1000*1000:=Nat.mul_le_mul xl k2;show xs.length*k<=16777216;omega
  exact (if_pos ⟨⟨ne,by omega,by omega⟩,hl⟩).trans (by rw [Int.toNat_natCast])
end MI
namespace K70
open PySem PySem.Spec L2 MI
def a1c:Str->Option Bool:=λc=>if c = "NoText" then some true else none
def a7b:Str->Option Bool:=λc=>if c = "NoText" then some true else none
def gh:Str->Option Bool:=λc=>if c = "NoText" then some false else none
def a0n:Str->Bool:=λc=>decide (c = "NoText")
noncomputable def yq(jf:SF)(jo:SF):SS :=
 (j5 (lq 14 (sA (nj false 3 jf) (aj (sV 0) (aj (sV 10) (aj (sV 11) dj)))))
 (j5 (sIf (sT (s2 hEq (s2 gIx (sV 14) (sC (.int 0))) (sC (.str "open"))))
 (um (sML a3l (sV 7) (aj (sV 9) dj)))
 sNx)
 (sIf (sT (s2 hEq (s2 gIx (sV 14) (sC (.int 0))) (sC (.str "shut"))))
 (um (sML a3l (sV 8) (aj (sA qp (aj (sML ane (sV 7) dj) (aj (sV 9) dj))) dj)))
 sNx)))
noncomputable def yu(jf:SF)(jo:SF):SS :=
 (j5 (a5p (sA (zf 3 jo) (aj (sV 0) (aj (sV 1) (aj (sV 2) dj)))) (a1n 4 (jj (kN 3) (jj (kN 4) (jj (kN 5) (jj (kN 6) a1t))))))
 (j5 (lq 7 (sA yx dj))
 (j5 (lq 8 (sA yx dj))
 (j5 (qS (a3x (a9g (sV 3)) (a1n 2 (jj (kN 9) (jj (a1n 4 (jj (kN 10) (jj (kN 11) (jj (kN 12) (jj (kN 13) a1t))))) a1t))) (yq jf jo)))
 (vf (sV 8))))))
noncomputable def yr(di:SF):SS :=
 (j5 (lq 3 (sC (.bl false)))
 (j5 (apv 4 a0n
 (um (sA (zf 3 di) (qA (aj (sV 0) (aj (sV 1) (aj (sV 2) dj))))))
 (j5 (lq 3 (a09 (ahd 4 a7b) (ahd 4 a1c)))
 (sIf (a87 (ahd 4 gh))
 ae4
 sNx)))
 (vf (sV 3))))
noncomputable def u9(ak:SF):SE :=
 (s2 jr (sA a3r (aj (sV 0) (aj (sC (.int 2)) dj))) (sC (.int 1)))
noncomputable def vz(ak:SF):SS :=
 (j5 (lq 6 (sA ou (aj (sZ (uz (sRg a0g (aj (sV 3) dj)) t1 (u9 ak) [])) dj)))
 (j5 (lq 7 (s2 gIx (sZ (sA yx (aj (sA qp (aj (sC (.str "stay")) dj)) (aj (sA qp (aj (sC (.str "turn")) (aj (sA (nj false 2 ak) (aj (sV 0) (aj (sV 2) dj))) dj))) dj)))) (sA (nj false 2 ak) (aj (sV 0) (aj (sC (.int 2)) dj)))))
 (j5 (lq 8 (sA qp (aj (sA qp (aj (sC (.str "open")) (aj (sA (nj false 2 ak) (aj (sV 0) (aj (sV 2) dj))) dj))) (aj (sA qp (aj (sC (.str "shut")) dj)) (aj (sV 7) dj)))))
 (j5 (lq 9 (s2 jr (sA a3r (aj (sV 3) (aj (sC (.int 3)) dj))) (sC (.int 1))))
 (j5 (lq 10 (s2 a7a (sA qp (aj (sV 9) dj)) (sV 3)))
 (um (sML a3l (sV 4) (aj (sA qp (aj (s2 jr (sA qp (aj (sV 6) dj)) (s2 a7a (sA qp (aj (sV 10) dj)) (sV 9))) (aj (s2 jr (a0v (sA qp (aj (s1 a2l (sC (.int 1))) (aj (sC (.int 0)) (aj (sC (.int 1)) (aj (sC (.int 2)) dj))))) oN (oS (sV 9))) (sA qp (aj (s1 a2l (sC (.int 1))) dj))) (aj (sV 8) dj)))) dj))))))))
noncomputable def wz(ak:SF):SS :=
 (j5 (lq 2 (s2 jr (sC (.int 1)) (sA (nj false 2 ak) (aj (sV 0) (aj (sC (.int 4)) dj)))))
 (j5 (lq 3 (sA xx (aj (sV 1) dj)))
 (j5 (lq 4 (sA yx dj))
 (j5 (a3x (sRg a0g (aj (sV 2) dj)) (kN 5) (vz ak))
 (vf (sA qp (aj (sV 1) (aj (sA ou (aj (sV 4) dj)) dj))))))))
noncomputable def ux:SS :=
 (j5 (lq 6 (s2 gIx (s2 gIx (s2 gIx (s2 gIx (sV 0) (sC (.int 1))) (s2 gIx (s2 gIx (sV 1) (sV 5)) (sC (.int 0)))) (sC (.int 2))) (s2 gIx (s2 gIx (sV 1) (sV 5)) (sC (.int 1)))))
 (j5 (sIf (sT (s2 hEq (s2 gIx (sV 6) (sC (.int 0))) (sC (.str "open"))))
 (um (sML a3l (sV 2) (aj (sV 5) dj)))
 sNx)
 (sIf (sT (s2 hEq (s2 gIx (sV 6) (sC (.int 0))) (sC (.str "shut"))))
 (j5 (lq 4 (s2 jr (sV 4) (sC (.int 1))))
 (j5 (um (sML a3l (sV 3) (aj (sA qp (aj (s2 gIx (sV 2) (s1 a2l (sC (.int 1)))) (aj (sV 5) dj))) dj)))
 (lq 2 (a0v (sV 2) oN (oS (s1 a2l (sC (.int 1))))))))
 sNx)))
noncomputable def a2h:SS :=
 (j5 (lq 2 (sA yx dj))
 (j5 (lq 3 (sA yx dj))
 (j5 (lq 4 (sC (.int 0)))
 (j5 (a3x (sRg a0g (aj (sA xx (aj (sV 1) dj)) dj)) (kN 5) ux)
 (vf (sA qp (aj (sV 3) (aj (sV 4) dj))))))))
noncomputable def a0o:SS :=
 (j5 (sIf (sOr (sT (s2 gLt (s2 gIx (sV 0) (sC (.int 1))) (s2 gIx (sV 1) (sC (.int 0))))) (sT (s2 gLt (s2 gIx (sV 1) (sC (.int 1))) (s2 gIx (sV 0) (sC (.int 0))))))
 (vf (sC (.bl true)))
 sNx)
 (vf (aj8 (a09 (s2 gLt (s2 gIx (sV 0) (sC (.int 0))) (s2 gIx (sV 1) (sC (.int 0)))) sNo) (a09 (s2 gLt (s2 gIx (sV 1) (sC (.int 0))) (s2 gIx (sV 0) (sC (.int 0)))) (s2 gLt (s2 gIx (sV 0) (sC (.int 1))) (s2 gIx (sV 1) (sC (.int 1))))))))
noncomputable def aax(dw:SF)(bu:SF)(gw:SF)(ik:SF)(bx:SF)(ie:SF)(cj:SF)(bw:SF)(cu:SF)(dh:SF)(g8:SF)(ak:SF)(di:SF):SE :=
 (sV 0)
noncomputable def a4d(dw:SF)(bu:SF)(gw:SF)(ik:SF)(bx:SF)(ie:SF)(cj:SF)(bw:SF)(cu:SF)(dh:SF)(g8:SF)(ak:SF)(di:SF):ST :=
 (sT (s2 (gIn true) (sV 0) (sV 1)))
noncomputable def a7c(dw:SF)(bu:SF)(gw:SF)(ik:SF)(bx:SF)(ie:SF)(cj:SF)(bw:SF)(cu:SF)(dh:SF)(g8:SF)(ak:SF)(di:SF):SE :=
 (sC (.int 1))
noncomputable def a2i(dw:SF)(bu:SF)(gw:SF)(ik:SF)(bx:SF)(ie:SF)(cj:SF)(bw:SF)(cu:SF)(dh:SF)(g8:SF)(ak:SF)(di:SF):ST :=
 (a90 (a87 (sA (nj false 2 dw) (aj (s2 gIx (sV 1) (sV 2)) (aj (sV 0) dj)))))
noncomputable def a4e(dw:SF)(bu:SF)(gw:SF)(ik:SF)(bx:SF)(ie:SF)(cj:SF)(bw:SF)(cu:SF)(dh:SF)(g8:SF)(ak:SF)(di:SF):SS :=
 (sIf (sT (s2 (am8 true) (sZ (a1x (sIt (sZ (a0v (sV 10) (oS (s2 jr (sV 11) (sC (.int 1)))) oN))) t1 (a2i dw bu gw ik bx ie cj bw cu dh g8 ak di) (a7c dw bu gw ik bx ie cj bw cu dh g8 ak di) [10,11])) (sZ (sA yx dj))))
 ae4
 sNx)
noncomputable def a4f(dw:SF)(bu:SF)(gw:SF)(ik:SF)(bx:SF)(ie:SF)(cj:SF)(bw:SF)(cu:SF)(dh:SF)(g8:SF)(ak:SF)(di:SF):SS :=
 (j5 (lq 7 (sA (nj false 2 cu) (aj (sV 1) (aj (sV 3) dj))))
 (j5 (a5p (sA (nj false 2 ik) (aj (sV 4) (aj (s2 gIx (sA (nj false 3 gw) (aj (sV 4) (aj (sV 6) (aj (sV 7) dj)))) (sC (.int 0))) dj))) (a1n 2 (jj (kN 8) (jj (kN 9) a1t))))
 (j5 (lq 10 (sA (a9l 3 di) (aj (sV 4) (aj (sV 6) (aj (sV 7) dj)))))
 (j5 (sIf (sOr (a90 (a87 (sA (nj false 2 bw) (aj (sV 10) (aj (sV 8) dj))))) (sT (s2 hNe (sA xx (aj (sV 10) dj)) (sV 9))))
 ae4
 sNx)
 (j5 (a3x (sRg a0g (aj (sA xx (aj (sV 10) dj)) dj)) (kN 11) (a4e dw bu gw ik bx ie cj bw cu dh g8 ak di))
 (j5 (lq 12 (sA (nj false 2 ak) (aj (sV 1) (aj (s2 jr (sA xx (aj (sV 7) dj)) (sC (.int 1))) dj))))
 (j5 (lq 13 (s2 jr (s2 jr (a0v (sV 7) oN (oS (sV 12))) (s2 gIx (sV 5) (sA (nj false 2 ak) (aj (sV 1) (aj (sA xx (aj (sV 5) dj)) dj))))) (a0v (sV 7) (oS (sV 12)) oN)))
 (j5 (sIf (a90 (a87 (sA (nj false 3 cj) (aj (sV 4) (aj (sV 6) (aj (s2 gIx (sZ (sA yx (aj (sV 13) (aj (sV 13) (aj (sC .non) (aj (sC (.int 7)) (aj (sZ (sA yx (aj (sV 7) dj))) (aj (sA qp (aj (sV 7) dj)) (aj (sC (.bl true)) dj))))))))) (sA (nj false 2 ak) (aj (sV 1) (aj (sC (.int 7)) dj)))) dj))))))
 ae4
 sNx)
 (j5 (um (sML a3l (sV 10) (aj (sA qp (aj (sC (.int 0)) (aj (sC (.int 0)) dj))) dj)))
 (sIf (a90 (a87 (sA (nj false 2 bw) (aj (sA (zf 3 di) (aj (sV 4) (aj (sV 6) (aj (sV 7) dj)))) (aj (sV 8) dj)))))
 ae4
 sNx))))))))))
noncomputable def ahu(dw:SF)(bu:SF)(gw:SF)(ik:SF)(bx:SF)(ie:SF)(cj:SF)(bw:SF)(cu:SF)(dh:SF)(g8:SF)(ak:SF)(di:SF):SS :=
 (j5 (lq 1 (sA (nj true 1 ie) (aj (sV 0) dj)))
 (j5 (lq 2 (sA (nj false 2 ak) (aj (sV 1) (aj (sC (.int 2)) dj))))
 (j5 (lq 3 (sA (nj false 3 g8) (aj (sV 1) (aj (sA (nj false 0 dh) dj) (aj (sC (.int 4)) dj)))))
 (j5 (lq 4 (sA (nj false 3 bx) (aj (sV 1) (aj (sV 3) (aj (s2 gIx (sZ (sA yx (aj (sC (.int 8)) (aj (sC (.int 8)) (aj (sC (.int 8)) (aj (sC (.int 16)) dj)))))) (sA (nj false 2 ak) (aj (sV 1) (aj (sC (.int 4)) dj)))) dj)))))
 (j5 (sIf (sT (s2 hEq (sV 2) (sC (.int 0))))
 (lq 4 (sA (nj false 2 bu) (aj (sV 1) (aj (sV 3) dj))))
 sNx)
 (j5 (lq 5 (sZ (a1x (sIt (sA (nj false 0 dh) dj)) t1 (a4d dw bu gw ik bx ie cj bw cu dh g8 ak di) (aax dw bu gw ik bx ie cj bw cu dh g8 ak di) [3])))
 (j5 (a3x (sRg a0g (aj (sA xx (aj (s2 gIx (sV 4) (sC (.int 1))) dj)) dj)) (kN 6) (a4f dw bu gw ik bx ie cj bw cu dh g8 ak di))
 (vf (sC (.bl true))))))))))
def top(i:Nat):Stmt:=PySem.Challenge.pw_nearreach_k70_partners.main.body.getD i (.Pass ⟨0,0,0,0⟩)
structure Nm (mg:Str->Option Value):Prop where
 ValueError:mg "ValueError" = none
 abs:mg "abs" = none
 all:mg "all" = none
 bool:mg "bool" = none
 enumerate:mg "enumerate" = none
 int:mg "int" = none
 isinstance:mg "isinstance" = none
 len:mg "len" = none
 list:mg "list" = none
 max:mg "max" = none
 min:mg "min" = none
 range:mg "range" = none
 str:mg "str" = none
 tuple:mg "tuple" = none
 zip:mg "zip" = none
structure Xn (K:PySem.W.Frag) (mg:Str->Option Value) (y_NoText y_ReachError y_Closed y_NoBook y_NoModes y_NoPlace y_NoTable y_Stopped y_TooMany y_Unlike:Addr):Prop where
 g_NoText:mg "NoText" = some (.ref y_NoText)
 g_ReachError:mg "ReachError" = some (.ref y_ReachError)
 g_Closed:mg "Closed" = some (.ref y_Closed)
 g_NoBook:mg "NoBook" = some (.ref y_NoBook)
 g_NoModes:mg "NoModes" = some (.ref y_NoModes)
 g_NoPlace:mg "NoPlace" = some (.ref y_NoPlace)
 g_NoTable:mg "NoTable" = some (.ref y_NoTable)
 g_Stopped:mg "Stopped" = some (.ref y_Stopped)
 g_TooMany:mg "TooMany" = some (.ref y_TooMany)
 g_Unlike:mg "Unlike" = some (.ref y_Unlike)
 n_NoText:PySem.W.nsIn K mainGlobals "NoText" = some (some (.ref y_NoText))
 c_NoText:XCls K y_NoText
 k_NoText:XKit K y_NoText
 e_NoText_ReachError:PySem.W.exmOne K (.ref y_NoText) (.ref y_ReachError)=some true
 i_NoText_ValueError:PySem.W.kitOne K (.ref y_NoText) (.type "ValueError")=some true
 i_NoText_NoText:PySem.W.kitOne K (.ref y_NoText) (.ref y_NoText)=some true
 i_NoText_Closed_NoBook_NoModes_NoPlace_NoTable_Stopped_TooMany_Unlike:PySem.W.kitAny K (.ref y_NoText) [.ref y_Closed, .ref y_NoBook, .ref y_NoModes, .ref y_NoPlace, .ref y_NoTable, .ref y_Stopped, .ref y_TooMany, .ref y_Unlike]=some false
section
variable{K:PySem.W.Frag}{mg:Str->Option Value}{y_NoText y_ReachError y_Closed y_NoBook y_NoModes y_NoPlace y_NoTable y_Stopped y_TooMany y_Unlike:Addr}
theorem a5t(Z:Xn K mg y_NoText y_ReachError y_Closed y_NoBook y_NoModes y_NoPlace y_NoTable y_Stopped y_TooMany y_Unlike):∀ c,a0n c=true->∃ C,mg c=some (.ref C)/\PySem.W.nsIn K mainGlobals c=some (some (.ref C))/\PySem.W.exmOne K (.ref C) (.ref y_ReachError)=some true:=by
 intro c h
 simp only [a0n,Bool.or_eq_true,decide_eq_true_eq] at h;subst h
 ·exact ⟨_,Z.g_NoText,Z.n_NoText,Z.e_NoText_ReachError⟩
theorem a7d(Z:Xn K mg y_NoText y_ReachError y_Closed y_NoBook y_NoModes y_NoPlace y_NoTable y_Stopped y_TooMany y_Unlike):∀ c b C,a1c c=some b->PySem.W.nsIn K mainGlobals c=some (some (.ref C))->XKit K C/\PySem.W.kitOne K (.ref C) (.type "ValueError")=some b:=by
 intro c b C h q
 unfold a1c at h
 by_cases e_NoText:c = "NoText"
 ·subst e_NoText;rw [if_pos rfl] at h;cases h;cases Z.n_NoText.symm.trans q;exact ⟨Z.k_NoText,Z.i_NoText_ValueError⟩
 rw [if_neg e_NoText] at h;cases h
theorem aem(Z:Xn K mg y_NoText y_ReachError y_Closed y_NoBook y_NoModes y_NoPlace y_NoTable y_Stopped y_TooMany y_Unlike):∀ c b C,a7b c=some b->PySem.W.nsIn K mainGlobals c=some (some (.ref C))->XKit K C/\PySem.W.kitOne K (.ref C) (.ref y_NoText)=some b:=by
 intro c b C h q
 unfold a7b at h
 by_cases e_NoText:c = "NoText"
 ·subst e_NoText;rw [if_pos rfl] at h;cases h;cases Z.n_NoText.symm.trans q;exact ⟨Z.k_NoText,Z.i_NoText_NoText⟩
 rw [if_neg e_NoText] at h;cases h
theorem lz(Z:Xn K mg y_NoText y_ReachError y_Closed y_NoBook y_NoModes y_NoPlace y_NoTable y_Stopped y_TooMany y_Unlike):∀ c b C,gh c=some b->PySem.W.nsIn K mainGlobals c=some (some (.ref C))->XKit K C/\PySem.W.kitAny K (.ref C) ([y_Closed,y_NoBook,y_NoModes,y_NoPlace,y_NoTable,y_Stopped,y_TooMany,y_Unlike].map Value.ref)=some b:=by
 intro c b C h q
 unfold gh at h
 by_cases e_NoText:c = "NoText"
 ·subst e_NoText;rw [if_pos rfl] at h;cases h;cases Z.n_NoText.symm.trans q;exact ⟨Z.k_NoText,Z.i_NoText_Closed_NoBook_NoModes_NoPlace_NoTable_Stopped_TooMany_Unlike⟩
 rw [if_neg e_NoText] at h;cases h
end
section
variable{P:Program}{w:World}{K:PySem.W.Frag}{mg:Str->Option Value}{base:Heap}{f:Addr}
theorem av6:FnScope ["tongue", "thing"] ["tongue", "thing"] (az (top 12)):=⟨rfl,rfl,rfl,by decide +kernel,rfl,by decide +kernel,by decide +kernel⟩
theorem m_0{k:Nat}(M:Nm mg)(cdv:Value)(A:Around)(outer:List Env)(s:Shared)(H:Hp)(E:XK)(hr:Room k (A.deeper (PyProof.Rows.envOfC "is_text" (az (top 12)) s.heap.objs.size f cdv))):MSs (a1g CX0 P w K mg base ["tongue", "thing"] "is_text" (az (top 12)) f cdv A outer s H E).nox X0 (jc (top 12)) (K69.ut) :=
 have SC:=av6
 (dm (kj (a5a (ph (L2.CallR.or p8 o7) yh rfl M.isinstance jn (aa (bh 1) (aa (a4y rfl M.str ad7) au))) (a4z (ph (a97 rfl) alh rfl M.all aov (aa (a3s (a1o rfl (CSc.of (ts:=["sign"]) (fr:=["tongue"]) (ix:=[0]) rfl rfl rfl rfl (by intro p hp;cases List.mem_singleton.mp hp;rfl) rfl rfl rfl rfl) (a1i (bh 1)) (λ_ _ _ _=>(vh (i:=0) (show (["sign", "tongue"]:List Str).Nodup by decide +kernel) rfl (Or.inl rfl) (.inr rfl))) a1y (λ_ _ _ _=>(a1m (akt.or acz) ala (bh 0) (bh 1) (by with_unfolding_all rfl))))) au))))))
theorem av7:FnScope ["tongue", "thing"] ["tongue", "thing"] (az (top 14)):=⟨rfl,rfl,rfl,by decide +kernel,rfl,by decide +kernel,by decide +kernel⟩
theorem m_1{k:Nat}{y_NoText y_ReachError y_Closed y_NoBook y_NoModes y_NoPlace y_NoTable y_Stopped y_TooMany y_Unlike:Addr}(Z:Xn K mg y_NoText y_ReachError y_Closed y_NoBook y_NoModes y_NoPlace y_NoTable y_Stopped y_TooMany y_Unlike){a_0:Addr}{d_0:FuncData}{k_0:Nat}{F_0:SF}(D_0:Dn P w K mg base k_0 "is_text" ["tongue", "thing"] (uo K 2 F_0) a_0 d_0)(h_0:k_0<=k)(cdv:Value)(A:Around)(outer:List Env)(s:Shared)(H:Hp)(E:XK)(hr:Room k (A.deeper (PyProof.Rows.envOfC "looked_text" (az (top 14)) s.heap.objs.size f cdv))):MSs (cxE P w K mg base ["tongue", "thing"] "looked_text" (az (top 14)) f cdv A outer s H E) (ac8 mg E) (jc (top 14)) (K69.sy F_0) :=
 have SC:=av7
 (ao (qj (a66 (a1w (a0m false D_0 (hr.mono h_0) rfl (aa (bh 0) (aa (bh 1) au)))))
 (dm (ahb Z.c_NoText rfl Z.g_NoText (aa mj au)))
 jm)
 (dm (kj (bh 1))))
theorem av8:FnScope ["table", "room", "word", "tongue", "goes", "kinds", "rooms", "sign"] ["table", "room", "word"] (az (top 15)):=⟨rfl,rfl,rfl,by decide +kernel,rfl,by decide +kernel,by decide +kernel⟩
theorem m_2{k:Nat}(cdv:Value)(A:Around)(outer:List Env)(s:Shared)(H:Hp)(E:XK)(hr:Room k (A.deeper (PyProof.Rows.envOfC "rooms_along" (az (top 15)) s.heap.objs.size f cdv))):MSs (a1g CX0 P w K mg base ["table", "room", "word", "tongue", "goes", "kinds", "rooms", "sign"] "rooms_along" (az (top 15)) f cdv A outer s H E).nox X0 (jc (top 15)) (K69.o8) :=
 have SC:=av8
 (ao (a67 (bh 0) (a1h rfl (jq (jg (i:=3) SC.nd rfl (Or.inl rfl)) (jq (jg (i:=4) SC.nd rfl (Or.inl rfl)) (jq (jg (i:=5) SC.nd rfl (Or.inl rfl)) a03)))))
 (ao (dz (i:=6) SC.nd rfl (Or.inl rfl) (p6 (aa (bh 1) au)))
 (ao (zm PassesOwn.never rfl (a1i (bh 2)) (jg (i:=7) SC.nd rfl (Or.inl rfl)) (dm (uv (a1q PySem.F.slot_list_append PySem.F.type_list_append o6 v5 (bh 6) (aa (bj (bj (bh 4) (bj (bh 6) (zp bc) (λ_ _=>rfl)) (λ_ _=>rfl)) (alf PySem.F.slot_str_index PySem.F.type_str_index agd adw (bh 3) (aa (bh 7) au)) (λ_ _=>rfl)) au)))))
 (dm (kj (bh 6))))))
theorem av9:FnScope ["table", "text", "at", "kinds", "found", "end", "room"] ["table", "text", "at"] (az (top 17)):=⟨rfl,rfl,rfl,by decide +kernel,rfl,by decide +kernel,by decide +kernel⟩
theorem m_3{k:Nat}(M:Nm mg){a_2:Addr}{d_2:FuncData}{k_2:Nat}{F_2:SF}(D_2:Dn P w K mg base k_2 "rooms_along" ["table", "room", "word"] (uo K 3 F_2) a_2 d_2)(h_2:k_2<=k)(cdv:Value)(A:Around)(outer:List Env)(s:Shared)(H:Hp)(E:XK)(hr:Room k (A.deeper (PyProof.Rows.envOfC "piece_at" (az (top 17)) s.heap.objs.size f cdv))):MSs (a1g CX0 P w K mg base ["table", "text", "at", "kinds", "found", "end", "room"] "piece_at" (az (top 17)) f cdv A outer s H E).nox X0 (jc (top 17)) (K69.yt F_2) :=
 have SC:=av9
 (ao (dz (i:=3) SC.nd rfl (Or.inl rfl) (bj (bh 0) bc (λ_ _=>rfl)))
 (ao (dz (i:=4) SC.nd rfl (Or.inl rfl) a3i)
 (ao (zm PassesOwn.never rfl (ahf rfl M.enumerate (gk false D_2 (hr.mono h_2) rfl (aa (bh 0) (aa bc (aa (mq (bh 1) (ud (bh 2)) v4) au)))) (bh 2)) (a1h rfl (jq (jg (i:=5) SC.nd rfl (Or.inl rfl)) (jq (jg (i:=6) SC.nd rfl (Or.inl rfl)) a03))) (dm (qj (j9 (a8c hr.u) a5b (bj (bh 3) (bh 6) (λ_ _=>rfl)) (zp bc) (jy _))
 (dm (dz (i:=4) SC.nd rfl (Or.inl rfl) (km (aa (bj (bh 3) (bh 6) (λ_ _=>rfl)) (aa (bh 5) au)))))
 jm)))
 (dm (kj (bh 4))))))
theorem ava:FnScope ["machine", "tongue", "modes"] ["machine"] (az (top 19)):=⟨rfl,rfl,rfl,by decide +kernel,rfl,by decide +kernel,by decide +kernel⟩
theorem m_4{k:Nat}(cdv:Value)(A:Around)(outer:List Env)(s:Shared)(H:Hp)(E:XK)(hr:Room k (A.deeper (PyProof.Rows.envOfC "mode_tables" (az (top 19)) s.heap.objs.size f cdv))):MSs (a1g CX0 P w K mg base ["machine", "tongue", "modes"] "mode_tables" (az (top 19)) f cdv A outer s H E).nox X0 (jc (top 19)) (K69.yo) :=
 have SC:=ava
 (ao (a67 (bh 0) (a1h rfl (jq (jg (i:=1) SC.nd rfl (Or.inr rfl)) (jq (jg (i:=2) SC.nd rfl (Or.inl rfl)) a03))))
 (dm (kj (a1o rfl (CSc.of (ts:=["goes", "kinds", "deeds"]) (fr:=["tongue"]) (ix:=[1]) rfl rfl rfl rfl (by intro p hp;cases List.mem_singleton.mp hp;rfl) rfl rfl rfl rfl) (a1i (bh 2)) (λ_ _ _ _=>aix rfl (a3w (vh (i:=0) (show (["goes", "kinds", "deeds", "tongue"]:List Str).Nodup by decide +kernel) rfl (Or.inl rfl) (.inr rfl)) (a3w (vh (i:=1) (show (["goes", "kinds", "deeds", "tongue"]:List Str).Nodup by decide +kernel) rfl (Or.inl rfl) (.inr rfl)) (a3w (vh (i:=2) (show (["goes", "kinds", "deeds", "tongue"]:List Str).Nodup by decide +kernel) rfl (Or.inl rfl) (.inr rfl)) acg)))) agg (λ_ _ _ _=>(km (aa (bh 3) (aa (bh 0) (aa (bh 1) au)))))))))
theorem avb:FnScope ["machine", "mode", "kind", "goes", "kinds", "deeds"] ["machine", "mode", "kind"] (az (top 20)):=⟨rfl,rfl,rfl,by decide +kernel,rfl,by decide +kernel,by decide +kernel⟩
theorem m_5{k:Nat}(cdv:Value)(A:Around)(outer:List Env)(s:Shared)(H:Hp)(E:XK)(hr:Room k (A.deeper (PyProof.Rows.envOfC "deed_of" (az (top 20)) s.heap.objs.size f cdv))):MSs (a1g CX0 P w K mg base ["machine", "mode", "kind", "goes", "kinds", "deeds"] "deed_of" (az (top 20)) f cdv A outer s H E).nox X0 (jc (top 20)) (K69.a2f) :=
 have SC:=avb
 (ao (a67 (bj (bj (bh 0) bc (λ_ _=>rfl)) (bh 1) (λ_ _=>rfl)) (a1h rfl (jq (jg (i:=3) SC.nd rfl (Or.inl rfl)) (jq (jg (i:=4) SC.nd rfl (Or.inl rfl)) (jq (jg (i:=5) SC.nd rfl (Or.inl rfl)) a03)))))
 (dm (kj (bj (bh 5) (bh 2) (λ_ _=>rfl)))))
theorem avc:FnScope ["pile", "deed"] ["pile", "deed"] (az (top 21)):=⟨rfl,rfl,rfl,by decide +kernel,rfl,by decide +kernel,by decide +kernel⟩
theorem m_6{k:Nat}(M:Nm mg)(cdv:Value)(A:Around)(outer:List Env)(s:Shared)(H:Hp)(E:XK)(hr:Room k (A.deeper (PyProof.Rows.envOfC "pile_behind" (az (top 21)) s.heap.objs.size f cdv))):MSs (a1g CX0 P w K mg base ["pile", "deed"] "pile_behind" (az (top 21)) f cdv A outer s H E).nox X0 (jc (top 21)) (K69.yp) :=
 have SC:=avc
 (ao (qj (j9 (yc hr.u) ue (bj (bh 1) bc (λ_ _=>rfl)) mj (jy _))
 (dm (kj (jh (bh 0) (km (aa (bj (bh 1) bc (λ_ _=>rfl)) au)))))
 jm)
 (ao (qj (j9 (yc hr.u) ue (bj (bh 1) bc (λ_ _=>rfl)) mj (jy _))
 (dm (kj (jh (mq (bh 0) v4 (ud (zp bc))) (km (aa (bj (bh 1) bc (λ_ _=>rfl)) au)))))
 jm)
 (ao (qj (j9 (yc hr.u) ue (bj (bh 1) bc (λ_ _=>rfl)) mj (jy _))
 (dm (kj (bh 0)))
 jm)
 (dm (kj (aj9 (j9 ag3 aab (ph (L2.CallR.or iw iy) oh rfl M.len uh (aa (bh 0) au)) bc (jy _)) (mq (bh 0) v4 (ud (zp bc))) a3i))))))
theorem avd:FnScope ["machine", "start", "text", "tables", "pieces", "place", "pile", "found", "kind", "end", "mode", "later"] ["machine", "start", "text"] (az (top 23)):=⟨rfl,rfl,rfl,by decide +kernel,rfl,by decide +kernel,by decide +kernel⟩
theorem m_7{k:Nat}(M:Nm mg){a_5:Addr}{d_5:FuncData}{k_5:Nat}{F_5:SF}(D_5:Dn P w K mg base k_5 "deed_of" ["machine", "mode", "kind"] (uo K 3 F_5) a_5 d_5)(h_5:k_5<=k){a_1:Addr}{d_1:FuncData}{k_1:Nat}{F_1:SF}(D_1:DnX P w K mg base k_1 "looked_text" ["tongue", "thing"] (spX K mg 2 F_1) a_1 d_1)(h_1:k_1<=k){a_4:Addr}{d_4:FuncData}{k_4:Nat}{F_4:SF}(D_4:Dn P w K mg base k_4 "mode_tables" ["machine"] (uo K 1 F_4) a_4 d_4)(h_4:k_4<=k){a_3:Addr}{d_3:FuncData}{k_3:Nat}{F_3:SF}(D_3:Dn P w K mg base k_3 "piece_at" ["table", "text", "at"] (uo K 3 F_3) a_3 d_3)(h_3:k_3<=k){a_6:Addr}{d_6:FuncData}{k_6:Nat}{F_6:SF}(D_6:Dn P w K mg base k_6 "pile_behind" ["pile", "deed"] (uo K 2 F_6) a_6 d_6)(h_6:k_6<=k)(cdv:Value)(A:Around)(outer:List Env)(s:Shared)(H:Hp)(E:XK)(hr:Room k (A.deeper (PyProof.Rows.envOfC "moded_cut" (az (top 23)) s.heap.objs.size f cdv))):MSs (cxE P w K mg base ["machine", "start", "text", "tables", "pieces", "place", "pile", "found", "kind", "end", "mode", "later"] "moded_cut" (az (top 23)) f cdv A outer s H E) (ac8 mg E) (jc (top 23)) (K69.vq F_5 F_1 F_4 F_3 F_6) :=
 have SC:=avd
 (ao (uv (aau D_1 (hr.mono h_1) rfl (aa (bj (bh 0) bc (λ_ _=>rfl)) (aa (bh 2) au))))
 (ao (dz (i:=3) SC.nd rfl (Or.inl rfl) (a0m false D_4 (hr.mono h_4) rfl (aa (bh 0) au)))
 (ao (dz (i:=4) SC.nd rfl (Or.inl rfl) (p6 au))
 (ao (dz (i:=5) SC.nd rfl (Or.inl rfl) bc)
 (ao (dz (i:=6) SC.nd rfl (Or.inl rfl) (km (aa (bh 1) au)))
 (ao (dz (i:=7) SC.nd rfl (Or.inl rfl) (a0m false D_3 (hr.mono h_3) rfl (aa (bj (bh 3) (bh 1) (λ_ _=>rfl)) (aa (bh 2) (aa (bh 5) au)))))
 (ao (av2 (a6u 100000 PassesOwn.never (j9 (akf.or a96) adp (bh 7) a3i (jy _)) (ao (a67 (bh 7) (a1h rfl (jq (jg (i:=8) SC.nd rfl (Or.inl rfl)) (jq (jg (i:=9) SC.nd rfl (Or.inl rfl)) a03))))
 (ao (dz (i:=10) SC.nd rfl (Or.inl rfl) (bj (bh 6) (zp bc) (λ_ _=>rfl)))
 (ao (dz (i:=11) SC.nd rfl (Or.inl rfl) (a0m false D_6 (hr.mono h_6) rfl (aa (bh 6) (aa (a0m false D_5 (hr.mono h_5) rfl (aa (bh 0) (aa (bh 10) (aa (bh 8) au)))) au))))
 (ao (qj (j9 (aco.or a6q) ado (bh 11) a3i (jy _))
 (dm (kj (km (aa (bh 4) (aa (bh 5) (aa mj (aa (bh 6) au)))))))
 jm)
 (ao (uv (a1q PySem.F.slot_list_append PySem.F.type_list_append o6 v5 (bh 4) (aa (km (aa (bh 10) (aa (bh 8) (aa (bh 5) (aa (bh 9) au))))) au)))
 (ao (dz (i:=5) SC.nd rfl (Or.inl rfl) (bh 9))
 (ao (dz (i:=6) SC.nd rfl (Or.inl rfl) (bh 11))
 (dm (dz (i:=7) SC.nd rfl (Or.inl rfl) (a0m false D_3 (hr.mono h_3) rfl (aa (bj (bh 3) (bj (bh 6) (zp bc) (λ_ _=>rfl)) (λ_ _=>rfl)) (aa (bh 2) (aa (bh 5) au)))))))))))))))
 (dm (kj (km (aa (bh 4) (aa (bh 5) (aa (aj9 (j9 (yc hr.u) ue (bh 5) (ph (L2.CallR.or iw iy) oh rfl M.len uh (aa (bh 2) au)) (jy _)) mj mj) (aa (bh 6) au))))))))))))))
theorem ave:FnScope ["machine", "start", "text", "pieces", "place", "why", "pile", "openers", "pairs", "number", "mode", "kind", "low", "high", "deed"] ["machine", "start", "text"] (az (top 24)):=⟨rfl,rfl,rfl,by decide +kernel,rfl,by decide +kernel,by decide +kernel⟩
theorem m_8{k:Nat}(M:Nm mg){a_5:Addr}{d_5:FuncData}{k_5:Nat}{F_5:SF}(D_5:Dn P w K mg base k_5 "deed_of" ["machine", "mode", "kind"] (uo K 3 F_5) a_5 d_5)(h_5:k_5<=k){a_7:Addr}{d_7:FuncData}{k_7:Nat}{F_7:SF}(D_7:DnX P w K mg base k_7 "moded_cut" ["machine", "start", "text"] (spX K mg 3 F_7) a_7 d_7)(h_7:k_7<=k)(cdv:Value)(A:Around)(outer:List Env)(s:Shared)(H:Hp)(E:XK)(hr:Room k (A.deeper (PyProof.Rows.envOfC "partners" (az (top 24)) s.heap.objs.size f cdv))):MSs (cxE P w K mg base ["machine", "start", "text", "pieces", "place", "why", "pile", "openers", "pairs", "number", "mode", "kind", "low", "high", "deed"] "partners" (az (top 24)) f cdv A outer s H E) (ac8 mg E) (jc (top 24)) (yu F_5 F_7) :=
 have SC:=ave
 (ao (a67 (aau D_7 (hr.mono h_7) rfl (aa (bh 0) (aa (bh 1) (aa (bh 2) au)))) (a1h rfl (jq (jg (i:=3) SC.nd rfl (Or.inl rfl)) (jq (jg (i:=4) SC.nd rfl (Or.inl rfl)) (jq (jg (i:=5) SC.nd rfl (Or.inl rfl)) (jq (jg (i:=6) SC.nd rfl (Or.inl rfl)) a03))))))
 (ao (dz (i:=7) SC.nd rfl (Or.inl rfl) (p6 au))
 (ao (dz (i:=8) SC.nd rfl (Or.inl rfl) (p6 au))
 (ao (av2 (zm PassesOwn.never rfl (am0 rfl M.enumerate (bh 3)) (a1h rfl (jq (jg (i:=9) SC.nd rfl (Or.inl rfl)) (jq (a1h rfl (jq (jg (i:=10) SC.nd rfl (Or.inl rfl)) (jq (jg (i:=11) SC.nd rfl (Or.inl rfl)) (jq (jg (i:=12) SC.nd rfl (Or.inl rfl)) (jq (jg (i:=13) SC.nd rfl (Or.inl rfl)) a03))))) a03))) (ao (dz (i:=14) SC.nd rfl (Or.inl rfl) (a0m false D_5 (hr.mono h_5) rfl (aa (bh 0) (aa (bh 10) (aa (bh 11) au)))))
 (ao (qj (j9 (yc hr.u) ue (bj (bh 14) bc (λ_ _=>rfl)) mj (jy _))
 (dm (uv (a1q PySem.F.slot_list_append PySem.F.type_list_append o6 v5 (bh 7) (aa (bh 9) au))))
 jm)
 (dm (qj (j9 (yc hr.u) ue (bj (bh 14) bc (λ_ _=>rfl)) mj (jy _))
 (dm (uv (a1q PySem.F.slot_list_append PySem.F.type_list_append o6 v5 (bh 8) (aa (km (aa (apa PySem.F.slot_list_pop PySem.F.type_list_pop aoo ale (bh 7)) (aa (bh 9) au))) au))))
 jm))))))
 (dm (kj (bh 8)))))))
theorem avf:FnScope ["_law_script"] ["_law_script"] (az (top 26)):=⟨rfl,rfl,rfl,by decide +kernel,rfl,by decide +kernel,by decide +kernel⟩
theorem m_9{k:Nat}(cdv:Value)(A:Around)(outer:List Env)(s:Shared)(H:Hp)(E:XK)(hr:Room k (A.deeper (PyProof.Rows.envOfC "_law_pen" (az (top 26)) s.heap.objs.size f cdv))):MSs (a1g CX0 P w K mg base ["_law_script"] "_law_pen" (az (top 26)) f cdv A outer s H E).nox X0 (jc (top 26)) (PN.a2e) :=
 have SC:=avf
 (dm (kj (p6 (aa (a3s (mq (bh 0) v4 (ud bc))) (aa bc (aa bc au))))))
theorem aq3:FnScope ["_law_pen_here", "_law_many", "_law_found", "_law_at", "_law_cell", "_law_great", "_law_number"] ["_law_pen_here", "_law_many"] (az (top 27)):=⟨rfl,rfl,rfl,by decide +kernel,rfl,by decide +kernel,by decide +kernel⟩
theorem awl{k:Nat}(M:Nm mg)(cdv:Value)(A:Around)(outer:List Env)(s:Shared)(H:Hp)(E:XK)(hr:Room k (A.deeper (PyProof.Rows.envOfC "_law_take" (az (top 27)) s.heap.objs.size f cdv))):MSs (a1g CX0 P w K mg base ["_law_pen_here", "_law_many", "_law_found", "_law_at", "_law_cell", "_law_great", "_law_number"] "_law_take" (az (top 27)) f cdv A outer s H E).nox X0 (jc (top 27)) (PN.a2w) :=
 have SC:=aq3
 (ao (qj (j9 ag3 aab (bj (bh 0) bc (λ_ _=>rfl)) bc (jy _))
 (ao (dz (i:=2) SC.nd rfl (Or.inl rfl) (a3k (bj (bh 0) bc (λ_ _=>rfl)) (bh 1)))
 (ao (aa8 (adn (bj (bh 0) bc (λ_ _=>rfl)) (bh 1)) (bh 0) bc)
 (dm (kj (bh 2)))))
 jm)
 (ao (dz (i:=3) SC.nd rfl (Or.inl rfl) (bj (bh 0) bc (λ_ _=>rfl)))
 (ao (aa8 (jh (bh 3) bc) (bh 0) bc)
 (ao (dz (i:=4) SC.nd rfl (Or.inl rfl) bc)
 (ao (qj (j9 ag3 aab (ph (L2.CallR.or iw iy) oh rfl M.len uh (aa (bj (bh 0) bc (λ_ _=>rfl)) au)) bc (jy _))
 (dm (dz (i:=4) SC.nd rfl (Or.inl rfl) (bj (bj (bh 0) bc (λ_ _=>rfl)) (a3k (bh 3) (ph (L2.CallR.or iw iy) oh rfl M.len uh (aa (bj (bh 0) bc (λ_ _=>rfl)) au))) (λ_ _=>rfl))))
 jm)
 (ao (qj (PW.pt (aoy (j9 (a6l.or uy) a1z (bh 3) (ph (L2.CallR.or iw iy) oh rfl M.len uh (aa (bj (bh 0) bc (λ_ _=>rfl)) au)) (jy _)) (al0 (j9 aoa ajf (ph aa0 adu rfl M.abs aj5 (aa (bh 4) au)) (aje bc bc) (jy _)))))
 (ao (dz (i:=5) SC.nd rfl (Or.inl rfl) (jh (a75 bc (ph aa0 adu rfl M.abs aj5 (aa (bh 4) au))) (yz acp alc rfl M.int aj6 (aa (a1m (a6l.or uy) a1z (bh 4) bc (jy _)) au))))
 (ao (aa8 (adn (bh 5) (bh 1)) (bh 0) bc)
 (dm (kj (a3k (bh 5) (bh 1))))))
 jm)
 (ao (dz (i:=6) SC.nd rfl (Or.inl rfl) (a3k (aje (jh (jh (a3k (bh 4) bc) (a75 bc (bh 3))) bc) bc) bc))
 (ao (dz (i:=6) SC.nd rfl (Or.inl rfl) (a3k (jh (jh (a75 (bh 6) (bh 6)) (a75 bc (bh 6))) (bh 3)) bc))
 (dm (kj (a3k (adn (bh 6) bc) (bh 1))))))))))))
theorem aq4:FnScope ["_law_some_here"] [] (az (top 28)):=⟨rfl,rfl,rfl,by decide +kernel,rfl,by decide +kernel,by decide +kernel⟩
theorem awm{k:Nat}(cdv:Value)(A:Around)(outer:List Env)(s:Shared)(H:Hp)(E:XK)(hr:Room k (A.deeper (PyProof.Rows.envOfC "_law_signs" (az (top 28)) s.heap.objs.size f cdv))):MSs (a1g CX0 P w K mg base ["_law_some_here"] "_law_signs" (az (top 28)) f cdv A outer s H E).nox X0 (jc (top 28)) (PN.zc) :=
 have SC:=aq4
 (ao (dz (i:=0) SC.nd rfl (Or.inl rfl) mj)
 (dm (kj (jh (bh 0) mj))))
theorem aq5:FnScope ["_law_pen_here", "_law_rest", "_law_most", "_law_found", "_law_k", "_law_at"] ["_law_pen_here", "_law_rest", "_law_most"] (az (top 29)):=⟨rfl,rfl,rfl,by decide +kernel,rfl,by decide +kernel,by decide +kernel⟩
theorem awn{k:Nat}(M:Nm mg){a_10:Addr}{d_10:FuncData}{k_10:Nat}{F_10:SF}(D_10:Dn P w K mg base k_10 "_law_take" ["_law_pen_here", "_law_many"] (uo K 2 F_10) a_10 d_10)(h_10:k_10<=k)(cdv:Value)(A:Around)(outer:List Env)(s:Shared)(H:Hp)(E:XK)(hr:Room k (A.deeper (PyProof.Rows.envOfC "_law_some" (az (top 29)) s.heap.objs.size f cdv))):MSs (a1g CX0 P w K mg base ["_law_pen_here", "_law_rest", "_law_most", "_law_found", "_law_k", "_law_at"] "_law_some" (az (top 29)) f cdv A outer s H E).nox X0 (jc (top 29)) (PN.a2x F_10) :=
 have SC:=aq5
 (ao (dz (i:=3) SC.nd rfl (Or.inl rfl) mj)
 (ao (zm PassesOwn.never rfl (a04 rfl M.range (aa (jh bc (gk false D_10 (hr.mono h_10) rfl (aa (bh 0) (aa (bh 2) au)))) au)) (jg (i:=4) SC.nd rfl (Or.inl rfl)) (ao (dz (i:=5) SC.nd rfl (Or.inl rfl) (gk false D_10 (hr.mono h_10) rfl (aa (bh 0) (aa (ph (L2.CallR.or iw iy) oh rfl M.len uh (aa (bh 1) au)) au))))
 (ao (dz (i:=3) SC.nd rfl (Or.inl rfl) (jh (bh 3) (bj (bh 1) (bh 5) (λ_ _=>rfl))))
 (dm (dz (i:=1) SC.nd rfl (Or.inl rfl) (jh (mq (bh 1) v4 (ud (bh 5))) (mq (bh 1) (ud (jh (bh 5) bc)) v4)))))))
 (dm (kj (bh 3)))))
theorem aq6:FnScope ["_law_tongue", "_law_goes", "_law_kinds", "_law_turn", "_law_met", "_law_at", "_law_there", "_law_rows"] ["_law_tongue", "_law_goes", "_law_kinds", "_law_turn"] (az (top 30)):=⟨rfl,rfl,rfl,by decide +kernel,rfl,by decide +kernel,by decide +kernel⟩
theorem awo{k:Nat}(M:Nm mg)(cdv:Value)(A:Around)(outer:List Env)(s:Shared)(H:Hp)(E:XK)(hr:Room k (A.deeper (PyProof.Rows.envOfC "_law_cut_down" (az (top 30)) s.heap.objs.size f cdv))):MSs (a1g CX0 P w K mg base ["_law_tongue", "_law_goes", "_law_kinds", "_law_turn", "_law_met", "_law_at", "_law_there", "_law_rows"] "_law_cut_down" (az (top 30)) f cdv A outer s H E).nox X0 (jc (top 30)) (PN.wj) :=
 have SC:=aq6
 (ao (dz (i:=4) SC.nd rfl (Or.inr rfl) (p6 (aa bc au)))
 (ao (dz (i:=5) SC.nd rfl (Or.inl rfl) bc)
 (ao (a6u 100000 PassesOwn.never (j9 (a6l.or uy) a1z (bh 5) (ph (L2.CallR.or iw iy) oh rfl M.len uh (aa (bh 4) au)) (jy _)) (ao (zm PassesOwn.never rfl (a1i (bj (bh 1) (bj (bh 4) (bh 5) (λ_ _=>rfl)) (λ_ _=>rfl))) (jg (i:=6) SC.nd rfl (Or.inl rfl)) (dm (qj (j9 (a5z.or a3h) adt (bh 6) (bh 4) (by with_unfolding_all rfl))
 (dm (uv (a1q PySem.F.slot_list_append PySem.F.type_list_append o6 v5 (bh 4) (aa (bh 6) au))))
 jm)))
 (dm (dz (i:=5) SC.nd rfl (Or.inl rfl) (jh (bh 5) bc)))))
 (ao (dz (i:=3) SC.nd rfl (Or.inl rfl) (jh bc (a3k (bh 3) (ph (L2.CallR.or iw iy) oh rfl M.len uh (aa (bh 4) au)))))
 (ao (dz (i:=4) SC.nd rfl (Or.inr rfl) (jh (a3s (jh (a3s (p6 (aa bc au))) (a3s (mq (bh 4) (ud (bh 3)) v4)))) (a3s (mq (bh 4) (ud bc) (ud (bh 3))))))
 (ao (dz (i:=7) SC.nd rfl (Or.inl rfl) (yz (L2.CallR.or m7 (m9 rfl)) uq rfl M.tuple qu (aa (a3s (a1o rfl (CSc.of (ts:=["_law_room"]) (fr:=["_law_goes", "_law_met"]) (ix:=[1,4]) rfl rfl rfl rfl (by intro p hp;simp only [List.mem_cons,List.not_mem_nil,or_false] at hp;rcases hp with rfl | rfl<;>rfl) rfl rfl rfl rfl) (a1i (bh 4)) (λ_ _ _ _=>(vh (i:=0) (show (["_law_room", "_law_goes", "_law_met"]:List Str).Nodup by decide +kernel) rfl (Or.inl rfl) (.inr rfl))) a1y (λ_ _ _ _=>(yz (L2.CallR.or m7 (m9 rfl)) uq rfl M.tuple qu (aa (a3s (a1o rfl (CSc.of (ts:=["_law_there"]) (fr:=["_law_met"]) (ix:=[2]) rfl rfl rfl rfl (by intro p hp;cases List.mem_singleton.mp hp;rfl) rfl rfl rfl rfl) (a1i (bj (bh 1) (bh 0) (λ_ _=>rfl))) (λ_ _ _ _=>(vh (i:=0) (show (["_law_there", "_law_met"]:List Str).Nodup by decide +kernel) rfl (Or.inl rfl) (.inr rfl))) a1y (λ_ _ _ _=>(a1q PySem.F.slot_list_index PySem.F.type_list_index ae9 abn (bh 1) (aa (bh 0) au))))) au))))) au)))
 (dm (kj (km (aa (bh 0) (aa (bh 7) (aa (yz (L2.CallR.or m7 (m9 rfl)) uq rfl M.tuple qu (aa (a3s (a1o rfl (CSc.of (ts:=["_law_room"]) (fr:=["_law_kinds"]) (ix:=[2]) rfl rfl rfl rfl (by intro p hp;cases List.mem_singleton.mp hp;rfl) rfl rfl rfl rfl) (a1i (bh 4)) (λ_ _ _ _=>(vh (i:=0) (show (["_law_room", "_law_kinds"]:List Str).Nodup by decide +kernel) rfl (Or.inl rfl) (.inr rfl))) a1y (λ_ _ _ _=>(bj (bh 1) (bh 0) (λ_ _=>rfl))))) au)) au))))))))))))
theorem aq7:FnScope ["_law_pen_here", "_law_tongue", "_law_most", "_law_many", "_law_road", "_law_often", "_law_goes", "_law_kinds", "_law_room", "_law_row", "_law_kind"] ["_law_pen_here", "_law_tongue", "_law_most"] (az (top 31)):=⟨rfl,rfl,rfl,by decide +kernel,rfl,by decide +kernel,by decide +kernel⟩
theorem awp{k:Nat}(M:Nm mg){a_13:Addr}{d_13:FuncData}{k_13:Nat}{F_13:SF}(D_13:Dn P w K mg base k_13 "_law_cut_down" ["_law_tongue", "_law_goes", "_law_kinds", "_law_turn"] (uo K 4 F_13) a_13 d_13)(h_13:k_13<=k){a_10:Addr}{d_10:FuncData}{k_10:Nat}{F_10:SF}(D_10:Dn P w K mg base k_10 "_law_take" ["_law_pen_here", "_law_many"] (uo K 2 F_10) a_10 d_10)(h_10:k_10<=k)(cdv:Value)(A:Around)(outer:List Env)(s:Shared)(H:Hp)(E:XK)(hr:Room k (A.deeper (PyProof.Rows.envOfC "_law_table" (az (top 31)) s.heap.objs.size f cdv))):MSs (a1g CX0 P w K mg base ["_law_pen_here", "_law_tongue", "_law_most", "_law_many", "_law_road", "_law_often", "_law_goes", "_law_kinds", "_law_room", "_law_row", "_law_kind"] "_law_table" (az (top 31)) f cdv A outer s H E).nox X0 (jc (top 31)) (PN.a0j F_13 F_10) :=
 have SC:=aq7
 (ao (dz (i:=3) SC.nd rfl (Or.inr rfl) (jh bc (gk false D_10 (hr.mono h_10) rfl (aa (bh 0) (aa (bh 2) au)))))
 (ao (dz (i:=4) SC.nd rfl (Or.inl rfl) (gk false D_10 (hr.mono h_10) rfl (aa (bh 0) (aa bc au))))
 (ao (dz (i:=5) SC.nd rfl (Or.inl rfl) (jh bc (gk false D_10 (hr.mono h_10) rfl (aa (bh 0) (aa bc au)))))
 (ao (dz (i:=6) SC.nd rfl (Or.inl rfl) (p6 au))
 (ao (dz (i:=7) SC.nd rfl (Or.inl rfl) (p6 au))
 (ao (zm PassesOwn.never rfl (a04 rfl M.range (aa (bh 3) au)) (jg (i:=8) SC.nd rfl (Or.inl rfl)) (ao (alp (i:=9) SC.nd rfl (Or.inl rfl) rfl (CSc.of (ts:=["_law_sign"]) (fr:=["_law_pen_here", "_law_many"]) (ix:=[0,3]) rfl rfl rfl rfl (by intro p hp;simp only [List.mem_cons,List.not_mem_nil,or_false] at hp;rcases hp with rfl | rfl<;>rfl) rfl rfl rfl rfl) (a1i (bh 1)) (λ_ _ _ _=>(vh (i:=0) (show (["_law_sign", "_law_pen_here", "_law_many"]:List Str).Nodup by decide +kernel) rfl (Or.inl rfl) (.inr rfl))) a1y (λ_ _ _ _=>(gk false D_10 (hr.mono h_10) rfl (aa (bh 1) (aa (bh 2) au)))))
 (ao (qj (j9 (yc hr.u) ue (bh 4) bc (jy _))
 (dm (aa8 (ph (a4o rfl) a6x rfl M.min ady (aa (jh (bh 8) bc) (aa (ajd (bh 3) bc) au))) (bh 9) (gk false D_10 (hr.mono h_10) rfl (aa (bh 0) (aa (ph (L2.CallR.or iw iy) oh rfl M.len uh (aa (bh 9) au)) au)))))
 jm)
 (ao (dz (i:=10) SC.nd rfl (Or.inl rfl) (gk false D_10 (hr.mono h_10) rfl (aa (bh 0) (aa bc au))))
 (ao (qj (PW.pt (age (j9 (yc hr.u) ue (bh 8) bc (jy _)) (aa7 (j9 ag3 aab (gk false D_10 (hr.mono h_10) rfl (aa (bh 0) (aa (bh 5) au))) bc (jy _)))))
 (dm (dz (i:=10) SC.nd rfl (Or.inl rfl) (zp bc)))
 jm)
 (ao (uv (a1q PySem.F.slot_list_append PySem.F.type_list_append o6 v5 (bh 6) (aa (bh 9) au)))
 (dm (uv (a1q PySem.F.slot_list_append PySem.F.type_list_append o6 v5 (bh 7) (aa (bh 10) au))))))))))
 (dm (kj (al5 D_13 (hr.mono h_13) rfl (aa (bh 1) (aa (bh 6) (aa (bh 7) (aa (gk false D_10 (hr.mono h_10) rfl (aa (bh 0) (aa bc au))) au)))))))))))))
theorem aq8:FnScope ["_law_pen_here", "_law_size", "_law_many", "_law_found", "_law_k", "_law_there", "_law_some_here"] ["_law_pen_here", "_law_size", "_law_many"] (az (top 32)):=⟨rfl,rfl,rfl,by decide +kernel,rfl,by decide +kernel,by decide +kernel⟩
theorem awq{k:Nat}(M:Nm mg){a_10:Addr}{d_10:FuncData}{k_10:Nat}{F_10:SF}(D_10:Dn P w K mg base k_10 "_law_take" ["_law_pen_here", "_law_many"] (uo K 2 F_10) a_10 d_10)(h_10:k_10<=k)(cdv:Value)(A:Around)(outer:List Env)(s:Shared)(H:Hp)(E:XK)(hr:Room k (A.deeper (PyProof.Rows.envOfC "_law_deeds" (az (top 32)) s.heap.objs.size f cdv))):MSs (a1g CX0 P w K mg base ["_law_pen_here", "_law_size", "_law_many", "_law_found", "_law_k", "_law_there", "_law_some_here"] "_law_deeds" (az (top 32)) f cdv A outer s H E).nox X0 (jc (top 32)) (PN.a0k F_10) :=
 have SC:=aq8
 (ao (dz (i:=3) SC.nd rfl (Or.inl rfl) (p6 au))
 (ao (zm PassesOwn.never rfl (a04 rfl M.range (aa (bh 1) au)) (jg (i:=4) SC.nd rfl (Or.inl rfl)) (ao (dz (i:=5) SC.nd rfl (Or.inl rfl) (gk false D_10 (hr.mono h_10) rfl (aa (bh 0) (aa (bh 2) au))))
 (ao (dz (i:=6) SC.nd rfl (Or.inl rfl) (a3s (p6 (aa (km (aa mj au)) (aa (km (aa mj au)) (aa (km (aa mj (aa (bh 5) au))) (aa (km (aa mj (aa (bh 5) au))) (aa (km (aa mj au)) (aa (km (aa mj (aa (bh 5) au))) au)))))))))
 (dm (uv (a1q PySem.F.slot_list_append PySem.F.type_list_append o6 v5 (bh 3) (aa (bj (bh 6) (gk false D_10 (hr.mono h_10) rfl (aa (bh 0) (aa bc au))) (λ_ _=>rfl)) au)))))))
 (dm (kj (yz (L2.CallR.or m7 (m9 rfl)) uq rfl M.tuple qu (aa (bh 3) au))))))
theorem aq9:FnScope ["_law_pen_here", "_law_tongue", "_law_most", "_law_many", "_law_modes", "_law_k", "_law_table_here", "_law_least"] ["_law_pen_here", "_law_tongue", "_law_most"] (az (top 33)):=⟨rfl,rfl,rfl,by decide +kernel,rfl,by decide +kernel,by decide +kernel⟩
theorem awr{k:Nat}(M:Nm mg){a_15:Addr}{d_15:FuncData}{k_15:Nat}{F_15:SF}(D_15:Dn P w K mg base k_15 "_law_deeds" ["_law_pen_here", "_law_size", "_law_many"] (uo K 3 F_15) a_15 d_15)(h_15:k_15<=k){a_14:Addr}{d_14:FuncData}{k_14:Nat}{F_14:SF}(D_14:Dn P w K mg base k_14 "_law_table" ["_law_pen_here", "_law_tongue", "_law_most"] (uo K 3 F_14) a_14 d_14)(h_14:k_14<=k){a_10:Addr}{d_10:FuncData}{k_10:Nat}{F_10:SF}(D_10:Dn P w K mg base k_10 "_law_take" ["_law_pen_here", "_law_many"] (uo K 2 F_10) a_10 d_10)(h_10:k_10<=k)(cdv:Value)(A:Around)(outer:List Env)(s:Shared)(H:Hp)(E:XK)(hr:Room k (A.deeper (PyProof.Rows.envOfC "_law_machine" (az (top 33)) s.heap.objs.size f cdv))):MSs (a1g CX0 P w K mg base ["_law_pen_here", "_law_tongue", "_law_most", "_law_many", "_law_modes", "_law_k", "_law_table_here", "_law_least"] "_law_machine" (az (top 33)) f cdv A outer s H E).nox X0 (jc (top 33)) (PN.ym F_15 F_14 F_10) :=
 have SC:=aq9
 (ao (dz (i:=3) SC.nd rfl (Or.inl rfl) (jh bc (gk false D_10 (hr.mono h_10) rfl (aa (bh 0) (aa bc au)))))
 (ao (dz (i:=4) SC.nd rfl (Or.inl rfl) (p6 au))
 (ao (zm PassesOwn.never rfl (a04 rfl M.range (aa (bh 3) au)) (jg (i:=5) SC.nd rfl (Or.inl rfl)) (ao (dz (i:=6) SC.nd rfl (Or.inl rfl) (gk false D_14 (hr.mono h_14) rfl (aa (bh 0) (aa (bh 1) (aa (bh 2) au)))))
 (ao (dz (i:=7) SC.nd rfl (Or.inl rfl) (jh (ph (abp rfl) ah5 rfl M.max apc (aa (bj (bh 6) bc (λ_ _=>rfl)) au)) bc))
 (dm (uv (a1q PySem.F.slot_list_append PySem.F.type_list_append o6 v5 (bh 4) (aa (km (aa (bj (bh 6) bc (λ_ _=>rfl)) (aa (bj (bh 6) bc (λ_ _=>rfl)) (aa (gk false D_15 (hr.mono h_15) rfl (aa (bh 0) (aa (jh (bh 7) (gk false D_10 (hr.mono h_10) rfl (aa (bh 0) (aa (ajd bc (bh 7)) au)))) (aa (bh 3) au)))) au)))) au)))))))
 (dm (kj (km (aa (bh 1) (aa (yz (L2.CallR.or m7 (m9 rfl)) uq rfl M.tuple qu (aa (bh 4) au)) au))))))))
theorem aqa:FnScope ["_law_machine_here", "_law_mode", "_law_text", "_law_start", "_law_room", "_law_found", "_law_at"] ["_law_machine_here", "_law_mode", "_law_text", "_law_start"] (az (top 34)):=⟨rfl,rfl,rfl,by decide +kernel,rfl,by decide +kernel,by decide +kernel⟩
theorem aws{k:Nat}(M:Nm mg)(cdv:Value)(A:Around)(outer:List Env)(s:Shared)(H:Hp)(E:XK)(hr:Room k (A.deeper (PyProof.Rows.envOfC "_law_first" (az (top 34)) s.heap.objs.size f cdv))):MSs (a1g CX0 P w K mg base ["_law_machine_here", "_law_mode", "_law_text", "_law_start", "_law_room", "_law_found", "_law_at"] "_law_first" (az (top 34)) f cdv A outer s H E).nox X0 (jc (top 34)) (PN.a0l) :=
 have SC:=aqa
 (ao (dz (i:=4) SC.nd rfl (Or.inl rfl) bc)
 (ao (dz (i:=5) SC.nd rfl (Or.inl rfl) a3i)
 (ao (zm PassesOwn.never rfl (al3 rfl M.range (aa (bh 3) (aa (ph (L2.CallR.or iw iy) oh rfl M.len uh (aa (bh 2) au)) au))) (jg (i:=6) SC.nd rfl (Or.inl rfl)) (ao (dz (i:=4) SC.nd rfl (Or.inl rfl) (bj (bj (bj (bj (bj (bh 0) bc (λ_ _=>rfl)) (bh 1) (λ_ _=>rfl)) bc (λ_ _=>rfl)) (bh 4) (λ_ _=>rfl)) (alf PySem.F.slot_str_find PySem.F.type_str_find aku agm (bj (bh 0) bc (λ_ _=>rfl)) (aa (bj (bh 2) (bh 6) (λ_ _=>rfl)) au)) (λ_ _=>rfl)))
 (dm (qj (j9 aoa ajf (bj (bj (bj (bj (bh 0) bc (λ_ _=>rfl)) (bh 1) (λ_ _=>rfl)) bc (λ_ _=>rfl)) (bh 4) (λ_ _=>rfl)) bc (jy _))
 (dm (dz (i:=5) SC.nd rfl (Or.inl rfl) (km (aa (bj (bj (bj (bj (bh 0) bc (λ_ _=>rfl)) (bh 1) (λ_ _=>rfl)) bc (λ_ _=>rfl)) (bh 4) (λ_ _=>rfl)) (aa (jh (bh 6) bc) au)))))
 jm))))
 (dm (kj (bh 5))))))
theorem aqb:FnScope ["_law_modes", "_law_deed"] ["_law_modes", "_law_deed"] (az (top 35)):=⟨rfl,rfl,rfl,by decide +kernel,rfl,by decide +kernel,by decide +kernel⟩
theorem awt{k:Nat}(cdv:Value)(A:Around)(outer:List Env)(s:Shared)(H:Hp)(E:XK)(hr:Room k (A.deeper (PyProof.Rows.envOfC "_law_later" (az (top 35)) s.heap.objs.size f cdv))):MSs (a1g CX0 P w K mg base ["_law_modes", "_law_deed"] "_law_later" (az (top 35)) f cdv A outer s H E).nox X0 (jc (top 35)) (K69.vy) :=
 have SC:=aqb
 (ao (qj (j9 (yc hr.u) ue (bj (bh 1) bc (λ_ _=>rfl)) mj (jy _))
 (dm (kj (jh (bh 0) (a3s (p6 (aa (bj (bh 1) bc (λ_ _=>rfl)) au))))))
 jm)
 (ao (qj (j9 (yc hr.u) ue (bj (bh 1) bc (λ_ _=>rfl)) mj (jy _))
 (dm (kj (jh (a3s (mq (bh 0) v4 (ud (zp bc)))) (a3s (p6 (aa (bj (bh 1) bc (λ_ _=>rfl)) au))))))
 jm)
 (ao (qj (j9 (yc hr.u) ue (bj (bh 1) bc (λ_ _=>rfl)) mj (jy _))
 (dm (kj (mq (bh 0) v4 (ud (zp bc)))))
 jm)
 (dm (kj (bh 0))))))
theorem aqc:FnScope ["_law_machine_here", "_law_start", "_law_text", "_law_pieces", "_law_modes", "_law_at", "_law_mode", "_law_found", "_law_after"] ["_law_machine_here", "_law_start", "_law_text"] (az (top 36)):=⟨rfl,rfl,rfl,by decide +kernel,rfl,by decide +kernel,by decide +kernel⟩
theorem awu{k:Nat}(M:Nm mg){a_17:Addr}{d_17:FuncData}{k_17:Nat}{F_17:SF}(D_17:Dn P w K mg base k_17 "_law_first" ["_law_machine_here", "_law_mode", "_law_text", "_law_start"] (uo K 4 F_17) a_17 d_17)(h_17:k_17<=k){a_18:Addr}{d_18:FuncData}{k_18:Nat}{F_18:SF}(D_18:Dn P w K mg base k_18 "_law_later" ["_law_modes", "_law_deed"] (uo K 2 F_18) a_18 d_18)(h_18:k_18<=k)(cdv:Value)(A:Around)(outer:List Env)(s:Shared)(H:Hp)(E:XK)(hr:Room k (A.deeper (PyProof.Rows.envOfC "_law_cut" (az (top 36)) s.heap.objs.size f cdv))):MSs (a1g CX0 P w K mg base ["_law_machine_here", "_law_start", "_law_text", "_law_pieces", "_law_modes", "_law_at", "_law_mode", "_law_found", "_law_after"] "_law_cut" (az (top 36)) f cdv A outer s H E).nox X0 (jc (top 36)) (K69.a2g F_17 F_18) :=
 have SC:=aqc
 (ao (dz (i:=3) SC.nd rfl (Or.inl rfl) (p6 au))
 (ao (dz (i:=4) SC.nd rfl (Or.inl rfl) (a3s (p6 (aa (bh 1) au))))
 (ao (dz (i:=5) SC.nd rfl (Or.inl rfl) bc)
 (ao (a6u 100000 PassesOwn.never (j9 (a6l.or uy) a1z (bh 5) (ph (L2.CallR.or iw iy) oh rfl M.len uh (aa (bh 2) au)) (jy _)) (ao (dz (i:=6) SC.nd rfl (Or.inl rfl) (bj (bh 4) (zp bc) (λ_ _=>rfl)))
 (ao (dz (i:=7) SC.nd rfl (Or.inl rfl) (gk false D_17 (hr.mono h_17) rfl (aa (bh 0) (aa (bh 6) (aa (bh 2) (aa (bh 5) au))))))
 (ao (qj (j9 (aco.or a6q) ado (bh 7) a3i (jy _))
 (dm (kj (km (aa (bh 3) (aa (bh 5) (aa mj (aa (yz (L2.CallR.or m7 (m9 rfl)) uq rfl M.tuple qu (aa (bh 4) au)) au)))))))
 jm)
 (ao (dz (i:=8) SC.nd rfl (Or.inl rfl) (gk false D_18 (hr.mono h_18) rfl (aa (bh 4) (aa (bj (bj (bj (bj (bh 0) bc (λ_ _=>rfl)) (bh 6) (λ_ _=>rfl)) bc (λ_ _=>rfl)) (bj (bh 7) bc (λ_ _=>rfl)) (λ_ _=>rfl)) au))))
 (ao (qj (j9 (aq0 hr.u) (aej false) (bh 8) (a3s (p6 au)) (jy _))
 (dm (kj (km (aa (bh 3) (aa (bh 5) (aa mj (aa (yz (L2.CallR.or m7 (m9 rfl)) uq rfl M.tuple qu (aa (bh 4) au)) au)))))))
 jm)
 (ao (uv (a1q PySem.F.slot_list_append PySem.F.type_list_append o6 v5 (bh 3) (aa (km (aa (bh 6) (aa (bj (bh 7) bc (λ_ _=>rfl)) (aa (bh 5) (aa (bj (bh 7) bc (λ_ _=>rfl)) au))))) au)))
 (ao (dz (i:=4) SC.nd rfl (Or.inl rfl) (bh 8))
 (dm (dz (i:=5) SC.nd rfl (Or.inl rfl) (bj (bh 7) bc (λ_ _=>rfl))))))))))))
 (dm (kj (km (aa (bh 3) (aa (bh 5) (aa mj (aa (yz (L2.CallR.or m7 (m9 rfl)) uq rfl M.tuple qu (aa (bh 4) au)) au)))))))))))
theorem aqd:FnScope ["_law_pen_here", "_law_tongue", "_law_size"] ["_law_pen_here", "_law_tongue"] (az (top 37)):=⟨rfl,rfl,rfl,by decide +kernel,rfl,by decide +kernel,by decide +kernel⟩
theorem awv{k:Nat}(M:Nm mg){a_10:Addr}{d_10:FuncData}{k_10:Nat}{F_10:SF}(D_10:Dn P w K mg base k_10 "_law_take" ["_law_pen_here", "_law_many"] (uo K 2 F_10) a_10 d_10)(h_10:k_10<=k)(cdv:Value)(A:Around)(outer:List Env)(s:Shared)(H:Hp)(E:XK)(hr:Room k (A.deeper (PyProof.Rows.envOfC "_law_signed" (az (top 37)) s.heap.objs.size f cdv))):MSs (a1g CX0 P w K mg base ["_law_pen_here", "_law_tongue", "_law_size"] "_law_signed" (az (top 37)) f cdv A outer s H E).nox X0 (jc (top 37)) (PN.zu F_10) :=
 have SC:=aqd
 (ao (dz (i:=2) SC.nd rfl (Or.inl rfl) (gk false D_10 (hr.mono h_10) rfl (aa (bh 0) (aa (bj (a3s (p6 (aa bc (aa bc (aa bc (aa bc (aa bc (aa bc au)))))))) (gk false D_10 (hr.mono h_10) rfl (aa (bh 0) (aa bc au))) (λ_ _=>rfl)) au))))
 (dm (kj (alf PySem.F.slot_str_join PySem.F.type_str_join akx agn mj (aa (a3s (a1o rfl (CSc.of (ts:=["_law_k"]) (fr:=["_law_pen_here", "_law_tongue"]) (ix:=[0,1]) rfl rfl rfl rfl (by intro p hp;simp only [List.mem_cons,List.not_mem_nil,or_false] at hp;rcases hp with rfl | rfl<;>rfl) rfl rfl rfl rfl) (a04 rfl M.range (aa (bh 2) au)) (λ_ _ _ _=>(vh (i:=0) (show (["_law_k", "_law_pen_here", "_law_tongue"]:List Str).Nodup by decide +kernel) rfl (Or.inl rfl) (.inr rfl))) a1y (λ_ _ _ _=>(bj (bh 2) (gk false D_10 (hr.mono h_10) rfl (aa (bh 1) (aa (ph (L2.CallR.or iw iy) oh rfl M.len uh (aa (bh 2) au)) au))) (λ_ _=>rfl))))) au)))))
theorem aqe:FnScope ["_law_found", "_law_due_here", "_law_one", "_law_other"] ["_law_found", "_law_due_here"] (az (top 38)):=⟨rfl,rfl,rfl,by decide +kernel,rfl,by decide +kernel,by decide +kernel⟩
theorem aww{k:Nat}(M:Nm mg){a_21:Addr}{as4:FuncData}{k_21:Nat}{F_21:SF}(D_21:Dn P w K mg base k_21 "_law_same" ["_law_found", "_law_due_here"] (uo K 2 F_21) a_21 as4)(h_21:k_21<=k)(cdv:Value)(A:Around)(outer:List Env)(s:Shared)(H:Hp)(E:XK)(hr:Room k (A.deeper (PyProof.Rows.envOfC "_law_same" (az (top 38)) s.heap.objs.size f cdv))):MSs (a1g CX0 P w K mg base ["_law_found", "_law_due_here", "_law_one", "_law_other"] "_law_same" (az (top 38)) f cdv A outer s H E).nox X0 (jc (top 38)) (K69.u6 F_21) :=
 have SC:=aqe
 (ao (qj (a1w (ph a8q ahq rfl M.isinstance jn (aa (bh 1) (aa (km (aa (a4y rfl M.list a98) (aa (a4y rfl M.tuple qu) au))) au))))
 (ao (qj (PW.pt (age (j9 (a8c hr.u) a5b (ph (L2.CallR.or p8 o7) yh rfl M.isinstance jn (aa (bh 1) (aa (a4y rfl M.list a98) au))) (ph (L2.CallR.or p8 o7) yh rfl M.isinstance jn (aa (bh 0) (aa (a4y rfl M.list a98) au))) (jy _)) (aa7 (j9 (a8c hr.u) a5b (ph (L2.CallR.or p8 o7) yh rfl M.isinstance jn (aa (bh 1) (aa (a4y rfl M.tuple qu) au))) (ph (L2.CallR.or p8 o7) yh rfl M.isinstance jn (aa (bh 0) (aa (a4y rfl M.tuple qu) au))) (jy _)))))
 a2c
 jm)
 (ao (qj (j9 (a8c hr.u) a5b (ph (L2.CallR.or iw iy) oh rfl M.len uh (aa (bh 0) au)) (ph (L2.CallR.or iw iy) oh rfl M.len uh (aa (bh 1) au)) (jy _))
 a2c
 jm)
 (ao (zm PassesOwn.never rfl (ape rfl M.zip apf (bh 0) (bh 1)) (a1h rfl (jq (jg (i:=2) SC.nd rfl (Or.inl rfl)) (jq (jg (i:=3) SC.nd rfl (Or.inl rfl)) a03))) (dm (qj (a66 (a1w (gk false D_21 (hr.mono h_21) rfl (aa (bh 2) (aa (bh 3) au)))))
 a2c
 jm)))
 (dm (kj adc)))))
 jm)
 (ao (qj (j9 (aco.or a6q) ado (bh 1) a3i (jy _))
 a2c
 jm)
 (ao (qj (a1w (ph (L2.CallR.or p8 o7) yh rfl M.isinstance jn (aa (bh 1) (aa (a4y rfl M.str ad7) au))))
 (dm (kj (a5a (ph (L2.CallR.or p8 o7) yh rfl M.isinstance jn (aa (bh 0) (aa (a4y rfl M.str ad7) au))) (a4z (a1m (yc hr.u) ue (bh 0) (bh 1) (jy _))))))
 jm)
 (dm (kj (a5a (ph (L2.CallR.or p8 o7) yh rfl M.isinstance jn (aa (bh 0) (aa (a4y rfl M.int aj6) au))) (a5a (aoz (ph (L2.CallR.or p8 o7) yh rfl M.isinstance jn (aa (bh 0) (aa (a4y rfl M.bool ali) au)))) (a4z (a1m (yc hr.u) ue (bh 0) (bh 1) (jy _))))))))))
theorem aqf:FnScope ["_law_machine_here", "_law_start", "_law_thing", "_law_good", "e"] ["_law_machine_here", "_law_start", "_law_thing"] (az (top 39)):=⟨rfl,rfl,rfl,by decide +kernel,rfl,by decide +kernel,by decide +kernel⟩
theorem awx{k:Nat}(M:Nm mg){y_NoText y_ReachError y_Closed y_NoBook y_NoModes y_NoPlace y_NoTable y_Stopped y_TooMany y_Unlike:Addr}(Z:Xn K mg y_NoText y_ReachError y_Closed y_NoBook y_NoModes y_NoPlace y_NoTable y_Stopped y_TooMany y_Unlike){a_8:Addr}{d_8:FuncData}{k_8:Nat}{F_8:SF}(D_8:DnX P w K mg base k_8 "partners" ["machine", "start", "text"] (spX K mg 3 F_8) a_8 d_8)(h_8:k_8<=k)(cdv:Value)(A:Around)(outer:List Env)(s:Shared)(H:Hp)(E:XK)(hr:Room k (A.deeper (PyProof.Rows.envOfC "_law_refused" (az (top 39)) s.heap.objs.size f cdv))):MSs (a1g CX0 P w K mg base ["_law_machine_here", "_law_start", "_law_thing", "_law_good", "e"] "_law_refused" (az (top 39)) f cdv A outer s H E).nox X0 (jc (top 39)) (yr F_8) :=
 have SC:=aqf
 (ao (dz (i:=3) SC.nd rfl (Or.inl rfl) adc)
 (ao (apw (i:=4) ⟨rfl,Z.g_ReachError,SC.nd,rfl,rfl,⟨rfl,rfl⟩,by decide⟩ (a5t Z)
 (am6 (am5 D_8 (hr.mono h_8) rfl (aa (bh 0) (aa (bh 1) (aa (bh 2) au)))))
 (λa=>(ao (dz (i:=3) SC.nd rfl (Or.inl rfl) (a5a (ajq (i:=4) rfl M.isinstance jn rfl (Or.inl rfl) (a0e (v:=.ref y_NoText) rfl Z.g_NoText rfl) (.inl ⟨_,rfl,rfl⟩) (aem Z)) (a4z (ajq (i:=4) rfl M.isinstance jn rfl (Or.inl rfl) (ace (v:=.ty "ValueError") rfl M.ValueError PyProof.Rows.Boot.«ValueError» rfl) (.inr ⟨_,rfl,rfl⟩) (a7d Z)))))
 (dm (qj (a1w (am7 (i:=4) (cs:=[y_Closed,y_NoBook,y_NoModes,y_NoPlace,y_NoTable,y_Stopped,y_TooMany,y_Unlike]) rfl M.isinstance jn rfl (Or.inl rfl) (qi (a0e (v:=.ref y_Closed) rfl Z.g_Closed rfl) (qi (a0e (v:=.ref y_NoBook) rfl Z.g_NoBook rfl) (qi (a0e (v:=.ref y_NoModes) rfl Z.g_NoModes rfl) (qi (a0e (v:=.ref y_NoPlace) rfl Z.g_NoPlace rfl) (qi (a0e (v:=.ref y_NoTable) rfl Z.g_NoTable rfl) (qi (a0e (v:=.ref y_Stopped) rfl Z.g_Stopped rfl) (qi (a0e (v:=.ref y_TooMany) rfl Z.g_TooMany rfl) (qi (a0e (v:=.ref y_Unlike) rfl Z.g_Unlike rfl) a4p)))))))) (λ_ _ _ q=>q) (a99 (by simp)) (lz Z)))
 a2c
 jm)))))
 (dm (kj (bh 3)))))
theorem aqg:FnScope ["_law_pen_here", "_law_tongue", "_law_many", "_law_size", "_law_modes", "_law_k", "_law_row", "_law_third", "_law_deeds_here", "_law_rooms", "_law_last"] ["_law_pen_here", "_law_tongue"] (az (top 40)):=⟨rfl,rfl,rfl,by decide +kernel,rfl,by decide +kernel,by decide +kernel⟩
theorem awy{k:Nat}(M:Nm mg){a_10:Addr}{d_10:FuncData}{k_10:Nat}{F_10:SF}(D_10:Dn P w K mg base k_10 "_law_take" ["_law_pen_here", "_law_many"] (uo K 2 F_10) a_10 d_10)(h_10:k_10<=k)(cdv:Value)(A:Around)(outer:List Env)(s:Shared)(H:Hp)(E:XK)(hr:Room k (A.deeper (PyProof.Rows.envOfC "_law_brackets" (az (top 40)) s.heap.objs.size f cdv))):MSs (a1g CX0 P w K mg base ["_law_pen_here", "_law_tongue", "_law_many", "_law_size", "_law_modes", "_law_k", "_law_row", "_law_third", "_law_deeds_here", "_law_rooms", "_law_last"] "_law_brackets" (az (top 40)) f cdv A outer s H E).nox X0 (jc (top 40)) (wz F_10) :=
 have SC:=aqg
 (ao (dz (i:=2) SC.nd rfl (Or.inl rfl) (jh bc (gk false D_10 (hr.mono h_10) rfl (aa (bh 0) (aa bc au)))))
 (ao (dz (i:=3) SC.nd rfl (Or.inl rfl) (ph (L2.CallR.or iw iy) oh rfl M.len uh (aa (bh 1) au)))
 (ao (dz (i:=4) SC.nd rfl (Or.inl rfl) (p6 au))
 (ao (zm PassesOwn.never rfl (a04 rfl M.range (aa (bh 2) au)) (jg (i:=5) SC.nd rfl (Or.inl rfl)) (ao (dz (i:=6) SC.nd rfl (Or.inl rfl) (yz (L2.CallR.or m7 (m9 rfl)) uq rfl M.tuple qu (aa (a3s (a1o rfl (CSc.noFree (ts:=["_law_place"]) rfl (by decide +kernel) (by decide +kernel) (by decide +kernel)) (a04 rfl M.range (aa (bh 3) au)) (λ_ _ _ _=>(vh (i:=0) (show (["_law_place"]:List Str).Nodup by decide +kernel) rfl (Or.inl rfl) (.inr rfl))) a1y (λ_ _ _ _=>(jh (ph (a4o rfl) a6x rfl M.min ady (aa (bh 0) (aa bc au))) bc)))) au)))
 (ao (dz (i:=7) SC.nd rfl (Or.inl rfl) (bj (a3s (p6 (aa (km (aa mj au)) (aa (km (aa mj (aa (gk false D_10 (hr.mono h_10) rfl (aa (bh 0) (aa (bh 2) au))) au))) au)))) (gk false D_10 (hr.mono h_10) rfl (aa (bh 0) (aa bc au))) (λ_ _=>rfl)))
 (ao (dz (i:=8) SC.nd rfl (Or.inl rfl) (km (aa (km (aa mj (aa (gk false D_10 (hr.mono h_10) rfl (aa (bh 0) (aa (bh 2) au))) au))) (aa (km (aa mj au)) (aa (bh 7) au)))))
 (ao (dz (i:=9) SC.nd rfl (Or.inl rfl) (jh (ph (a4o rfl) a6x rfl M.min ady (aa (bh 3) (aa bc au))) bc))
 (ao (dz (i:=10) SC.nd rfl (Or.inl rfl) (ael (km (aa (bh 9) au)) (bh 3)))
 (dm (uv (a1q PySem.F.slot_list_append PySem.F.type_list_append o6 v5 (bh 4) (aa (km (aa (jh (km (aa (bh 6) au)) (ael (km (aa (bh 10) au)) (bh 9))) (aa (jh (mq (km (aa (zp bc) (aa bc (aa bc (aa bc au))))) v4 (ud (bh 9))) (km (aa (zp bc) au))) (aa (bh 8) au)))) au))))))))))
 (dm (kj (km (aa (bh 1) (aa (yz (L2.CallR.or m7 (m9 rfl)) uq rfl M.tuple qu (aa (bh 4) au)) au)))))))))
theorem aqh:FnScope ["_law_machine_here", "_law_pieces", "_law_opened", "_law_found", "_law_shut", "_law_number", "_law_deed"] ["_law_machine_here", "_law_pieces"] (az (top 41)):=⟨rfl,rfl,rfl,by decide +kernel,rfl,by decide +kernel,by decide +kernel⟩
theorem awz{k:Nat}(M:Nm mg)(cdv:Value)(A:Around)(outer:List Env)(s:Shared)(H:Hp)(E:XK)(hr:Room k (A.deeper (PyProof.Rows.envOfC "_law_due" (az (top 41)) s.heap.objs.size f cdv))):MSs (a1g CX0 P w K mg base ["_law_machine_here", "_law_pieces", "_law_opened", "_law_found", "_law_shut", "_law_number", "_law_deed"] "_law_due" (az (top 41)) f cdv A outer s H E).nox X0 (jc (top 41)) (a2h) :=
 have SC:=aqh
 (ao (dz (i:=2) SC.nd rfl (Or.inl rfl) (p6 au))
 (ao (dz (i:=3) SC.nd rfl (Or.inl rfl) (p6 au))
 (ao (dz (i:=4) SC.nd rfl (Or.inl rfl) bc)
 (ao (zm PassesOwn.never rfl (a04 rfl M.range (aa (ph (L2.CallR.or iw iy) oh rfl M.len uh (aa (bh 1) au)) au)) (jg (i:=5) SC.nd rfl (Or.inl rfl)) (ao (dz (i:=6) SC.nd rfl (Or.inl rfl) (bj (bj (bj (bj (bh 0) bc (λ_ _=>rfl)) (bj (bj (bh 1) (bh 5) (λ_ _=>rfl)) bc (λ_ _=>rfl)) (λ_ _=>rfl)) bc (λ_ _=>rfl)) (bj (bj (bh 1) (bh 5) (λ_ _=>rfl)) bc (λ_ _=>rfl)) (λ_ _=>rfl)))
 (ao (qj (j9 (yc hr.u) ue (bj (bh 6) bc (λ_ _=>rfl)) mj (jy _))
 (dm (uv (a1q PySem.F.slot_list_append PySem.F.type_list_append o6 v5 (bh 2) (aa (bh 5) au))))
 jm)
 (dm (qj (j9 (yc hr.u) ue (bj (bh 6) bc (λ_ _=>rfl)) mj (jy _))
 (ao (dz (i:=4) SC.nd rfl (Or.inl rfl) (jh (bh 4) bc))
 (ao (uv (a1q PySem.F.slot_list_append PySem.F.type_list_append o6 v5 (bh 3) (aa (km (aa (bj (bh 2) (zp bc) (λ_ _=>rfl)) (aa (bh 5) au))) au)))
 (dm (dz (i:=2) SC.nd rfl (Or.inl rfl) (mq (bh 2) v4 (ud (zp bc)))))))
 jm)))))
 (dm (kj (km (aa (bh 3) (aa (bh 4) au)))))))))
theorem aqi:FnScope ["_law_one", "_law_other"] ["_law_one", "_law_other"] (az (top 42)):=⟨rfl,rfl,rfl,by decide +kernel,rfl,by decide +kernel,by decide +kernel⟩
theorem ax0{k:Nat}(cdv:Value)(A:Around)(outer:List Env)(s:Shared)(H:Hp)(E:XK)(hr:Room k (A.deeper (PyProof.Rows.envOfC "_law_apart" (az (top 42)) s.heap.objs.size f cdv))):MSs (a1g CX0 P w K mg base ["_law_one", "_law_other"] "_law_apart" (az (top 42)) f cdv A outer s H E).nox X0 (jc (top 42)) (a0o) :=
 have SC:=aqi
 (ao (qj (PW.pt (age (j9 (a6l.or uy) a1z (bj (bh 0) bc (λ_ _=>rfl)) (bj (bh 1) bc (λ_ _=>rfl)) (jy _)) (aa7 (j9 (a6l.or uy) a1z (bj (bh 1) bc (λ_ _=>rfl)) (bj (bh 0) bc (λ_ _=>rfl)) (jy _)))))
 (dm (kj adc))
 jm)
 (dm (kj (atp (a5a (a1m (a6l.or uy) a1z (bj (bh 0) bc (λ_ _=>rfl)) (bj (bh 1) bc (λ_ _=>rfl)) (jy _)) (a4z atx)) (a4z (a5a (a1m (a6l.or uy) a1z (bj (bh 1) bc (λ_ _=>rfl)) (bj (bh 0) bc (λ_ _=>rfl)) (jy _)) (a4z (a1m (a6l.or uy) a1z (bj (bh 0) bc (λ_ _=>rfl)) (bj (bh 1) bc (λ_ _=>rfl)) (jy _)))))))))
theorem aqj:FnScope ["_law_script", "_law_pen_here", "_law_plain", "_law_tongue", "_law_machine_here", "_law_rest", "_law_start", "_law_text", "_law_due_here", "_law_shut", "_law_found", "_law_k", "_law_at", "_law_odd"] ["_law_script"] (az (top 43)):=⟨rfl,rfl,rfl,by decide +kernel,rfl,by decide +kernel,by decide +kernel⟩
theorem ax1{k:Nat}(M:Nm mg){a_25:Addr}{d_25:FuncData}{k_25:Nat}{F_25:SF}(D_25:Dn P w K mg base k_25 "_law_apart" ["_law_one", "_law_other"] (uo K 2 F_25) a_25 d_25)(h_25:k_25<=k){a_23:Addr}{d_23:FuncData}{k_23:Nat}{F_23:SF}(D_23:Dn P w K mg base k_23 "_law_brackets" ["_law_pen_here", "_law_tongue"] (uo K 2 F_23) a_23 d_23)(h_23:k_23<=k){a_19:Addr}{d_19:FuncData}{k_19:Nat}{F_19:SF}(D_19:Dn P w K mg base k_19 "_law_cut" ["_law_machine_here", "_law_start", "_law_text"] (uo K 3 F_19) a_19 d_19)(h_19:k_19<=k){a_24:Addr}{d_24:FuncData}{k_24:Nat}{F_24:SF}(D_24:Dn P w K mg base k_24 "_law_due" ["_law_machine_here", "_law_pieces"] (uo K 2 F_24) a_24 d_24)(h_24:k_24<=k){a_16:Addr}{d_16:FuncData}{k_16:Nat}{F_16:SF}(D_16:Dn P w K mg base k_16 "_law_machine" ["_law_pen_here", "_law_tongue", "_law_most"] (uo K 3 F_16) a_16 d_16)(h_16:k_16<=k){a_9:Addr}{d_9:FuncData}{k_9:Nat}{F_9:SF}(D_9:Dn P w K mg base k_9 "_law_pen" ["_law_script"] (uo K 1 F_9) a_9 d_9)(h_9:k_9<=k){a_22:Addr}{d_22:FuncData}{k_22:Nat}{F_22:SF}(D_22:Dn P w K mg base k_22 "_law_refused" ["_law_machine_here", "_law_start", "_law_thing"] (uo K 3 F_22) a_22 d_22)(h_22:k_22<=k){a_21:Addr}{as4:FuncData}{k_21:Nat}{F_21:SF}(D_21:Dn P w K mg base k_21 "_law_same" ["_law_found", "_law_due_here"] (uo K 2 F_21) a_21 as4)(h_21:k_21<=k){a_20:Addr}{d_20:FuncData}{k_20:Nat}{F_20:SF}(D_20:Dn P w K mg base k_20 "_law_signed" ["_law_pen_here", "_law_tongue"] (uo K 2 F_20) a_20 d_20)(h_20:k_20<=k){a_11:Addr}{d_11:FuncData}{k_11:Nat}{F_11:SF}(D_11:Dn P w K mg base k_11 "_law_signs" [] (uo K 0 F_11) a_11 d_11)(h_11:k_11<=k){a_12:Addr}{d_12:FuncData}{k_12:Nat}{F_12:SF}(D_12:Dn P w K mg base k_12 "_law_some" ["_law_pen_here", "_law_rest", "_law_most"] (uo K 3 F_12) a_12 d_12)(h_12:k_12<=k){a_10:Addr}{d_10:FuncData}{k_10:Nat}{F_10:SF}(D_10:Dn P w K mg base k_10 "_law_take" ["_law_pen_here", "_law_many"] (uo K 2 F_10) a_10 d_10)(h_10:k_10<=k){a_8:Addr}{d_8:FuncData}{k_8:Nat}{F_8:SF}(D_8:DnX P w K mg base k_8 "partners" ["machine", "start", "text"] (spX K mg 3 F_8) a_8 d_8)(h_8:k_8<=k)(cdv:Value)(A:Around)(outer:List Env)(s:Shared)(H:Hp)(E:XK)(hr:Room k (A.deeper (PyProof.Rows.envOfC "law" (az (top 43)) s.heap.objs.size f cdv))):MSs (a1g CX0 P w K mg base ["_law_script", "_law_pen_here", "_law_plain", "_law_tongue", "_law_machine_here", "_law_rest", "_law_start", "_law_text", "_law_due_here", "_law_shut", "_law_found", "_law_k", "_law_at", "_law_odd"] "law" (az (top 43)) f cdv A outer s H E).nox X0 (jc (top 43)) (ahu F_25 F_23 F_19 F_24 F_16 F_9 F_22 F_21 F_20 F_11 F_12 F_10 F_8) :=
 have SC:=aqj
 (ao (dz (i:=1) SC.nd rfl (Or.inl rfl) (gk true D_9 (hr.mono h_9) rfl (aa (bh 0) au)))
 (ao (dz (i:=2) SC.nd rfl (Or.inl rfl) (gk false D_10 (hr.mono h_10) rfl (aa (bh 1) (aa bc au))))
 (ao (dz (i:=3) SC.nd rfl (Or.inr rfl) (gk false D_12 (hr.mono h_12) rfl (aa (bh 1) (aa (a8h false D_11 (hr.mono h_11) rfl) (aa bc au)))))
 (ao (dz (i:=4) SC.nd rfl (Or.inl rfl) (gk false D_16 (hr.mono h_16) rfl (aa (bh 1) (aa (bh 3) (aa (bj (a3s (p6 (aa bc (aa bc (aa bc (aa bc au)))))) (gk false D_10 (hr.mono h_10) rfl (aa (bh 1) (aa bc au))) (λ_ _=>rfl)) au)))))
 (ao (qj (j9 (yc hr.u) ue (bh 2) bc (jy _))
 (dm (dz (i:=4) SC.nd rfl (Or.inl rfl) (gk false D_23 (hr.mono h_23) rfl (aa (bh 1) (aa (bh 3) au)))))
 jm)
 (ao (agx (i:=5) SC.nd rfl (Or.inl rfl) rfl (CSc.of (ts:=["_law_sign"]) (fr:=["_law_tongue"]) (ix:=[3]) rfl rfl rfl rfl (by intro p hp;cases List.mem_singleton.mp hp;rfl) rfl rfl rfl rfl) (a1i (a8h false D_11 (hr.mono h_11) rfl)) (λ_ _ _ _=>(vh (i:=0) (show (["_law_sign", "_law_tongue"]:List Str).Nodup by decide +kernel) rfl (Or.inl rfl) (.inr rfl))) a1y (λ_ _ _ _=>(bh 0)) (λ_ _ _ _=>(j9 (a5z.or a3h) adt (bh 0) (bh 1) (by with_unfolding_all rfl))))
 (ao (zm PassesOwn.never rfl (a04 rfl M.range (aa (ph (L2.CallR.or iw iy) oh rfl M.len uh (aa (bj (bh 4) bc (λ_ _=>rfl)) au)) au)) (jg (i:=6) SC.nd rfl (Or.inl rfl)) (ao (dz (i:=7) SC.nd rfl (Or.inl rfl) (gk false D_20 (hr.mono h_20) rfl (aa (bh 1) (aa (bh 3) au))))
 (ao (a67 (gk false D_24 (hr.mono h_24) rfl (aa (bh 4) (aa (bj (gk false D_19 (hr.mono h_19) rfl (aa (bh 4) (aa (bh 6) (aa (bh 7) au)))) bc (λ_ _=>rfl)) au))) (a1h rfl (jq (jg (i:=8) SC.nd rfl (Or.inl rfl)) (jq (jg (i:=9) SC.nd rfl (Or.inl rfl)) a03))))
 (ao (dz (i:=10) SC.nd rfl (Or.inr rfl) (ahs D_8 (hr.mono h_8) rfl (aa (bh 4) (aa (bh 6) (aa (bh 7) au)))))
 (ao (qj (PW.pt (age (a66 (a1w (gk false D_21 (hr.mono h_21) rfl (aa (bh 10) (aa (bh 8) au))))) (aa7 (j9 (a8c hr.u) a5b (ph (L2.CallR.or iw iy) oh rfl M.len uh (aa (bh 10) au)) (bh 9) (jy _)))))
 a2c
 jm)
 (ao (zm PassesOwn.never rfl (a04 rfl M.range (aa (ph (L2.CallR.or iw iy) oh rfl M.len uh (aa (bh 10) au)) au)) (jg (i:=11) SC.nd rfl (Or.inr rfl)) (dm (qj (j9 (aq1 hr.u) (aej true) (a3s (agh rfl (CSc.of (ts:=["_law_other"]) (fr:=["_law_found", "_law_k"]) (ix:=[10,11]) rfl rfl rfl rfl (by intro p hp;simp only [List.mem_cons,List.not_mem_nil,or_false] at hp;rcases hp with rfl | rfl<;>rfl) rfl rfl rfl rfl) (a1i (a3s (mq (bh 10) (ud (jh (bh 11) bc)) v4))) (λ_ _ _ _=>(vh (i:=0) (show (["_law_other", "_law_found", "_law_k"]:List Str).Nodup by decide +kernel) rfl (Or.inl rfl) (.inr rfl))) a1y (λ_ _ _ _=>bc) (λ_ _ _ _=>(a66 (a1w (gk false D_25 (hr.mono h_25) rfl (aa (bj (bh 1) (bh 2) (λ_ _=>rfl)) (aa (bh 0) au)))))))) (a3s (p6 au)) (jy _))
 a2c
 jm)))
 (ao (dz (i:=12) SC.nd rfl (Or.inl rfl) (gk false D_10 (hr.mono h_10) rfl (aa (bh 1) (aa (jh (ph (L2.CallR.or iw iy) oh rfl M.len uh (aa (bh 7) au)) bc) au))))
 (ao (dz (i:=13) SC.nd rfl (Or.inl rfl) (jh (jh (mq (bh 7) v4 (ud (bh 12))) (bj (bh 5) (gk false D_10 (hr.mono h_10) rfl (aa (bh 1) (aa (ph (L2.CallR.or iw iy) oh rfl M.len uh (aa (bh 5) au)) au))) (λ_ _=>rfl))) (mq (bh 7) (ud (bh 12)) v4)))
 (ao (qj (a66 (a1w (gk false D_22 (hr.mono h_22) rfl (aa (bh 4) (aa (bh 6) (aa (bj (a3s (p6 (aa (bh 13) (aa (bh 13) (aa a3i (aa bc (aa (a3s (p6 (aa (bh 7) au))) (aa (km (aa (bh 7) au)) (aa adc au))))))))) (gk false D_10 (hr.mono h_10) rfl (aa (bh 1) (aa bc au))) (λ_ _=>rfl)) au))))))
 a2c
 jm)
 (ao (uv (a1q PySem.F.slot_list_append PySem.F.type_list_append o6 v5 (bh 10) (aa (km (aa bc (aa bc au))) au)))
 (dm (qj (a66 (a1w (gk false D_21 (hr.mono h_21) rfl (aa (aeg D_8 (hr.mono h_8) rfl (aa (bh 4) (aa (bh 6) (aa (bh 7) au)))) (aa (bh 8) au)))))
 a2c
 jm))))))))))))
 (dm (kj adc)))))))))
end
end K70
namespace HND
open PySem PySem.Spec L2 MI
noncomputable def zc:SS :=
 (j5 (lq 0 (sC (.str " !\"#$&'()*+,-./0123456789:;<=>?@ABCDEFGHIJKLMNOPQRSTUVWXYZ[\\]^_`")))
 (vf (s2 jr (sV 0) (sC (.str "abcdefghijklmnopqrstuvwxyz{|}~\n")))))
end HND
namespace MI
open PySem PySem.Spec L2
abbrev S(l:List Nat):Str:=⟨l.toArray⟩
theorem a2j(l:List Nat):(S l).cps.toList=l:=by simp
theorem a9m(l:List Nat):(S l).length=l.length:=by simp [Str.length]
theorem ahv(x:Str):S x.cps.toList=x:=by cases x;simp
theorem amb(a b:List Nat):S a++S b=S (a++b):=by rw [<-ahv (S a++S b),atl]
section
variable{h:Hd}{a b l:List Nat}{i:Nat}{c:Nat}
theorem au5(hl:l.length<=LINE)(e:l[i]? = some c):gIx (.str (S l)) (.int (i:Nat)) h = .ok (.str (S [c])) h:=by
 unfold gIx;simp only [a9m,if_pos hl,a2j,vm e]
theorem aen(hl:a.length+b.length<=LINE):jr (.str (S a)) (.str (S b)) h = .ok (.str (S (a++b))) h:=by
 unfold jr;simp only [a9m,if_pos hl,amb]
theorem a9n(hl:l.length<=LINE):xx [.str (S l)] h = .ok (.int l.length) h:=by
 unfold xx;simp only [a9m,if_pos hl]
theorem avh(k:Nat)(hl:l.length<=LINE):a92 (.str (S l)) none (some (k:Int)) h = .ok (.str (S (l.take k))) h:=by
 show gSl (.str (S l)) none (some (k:Int)) h=_;unfold gSl;simp only [a9m,if_pos hl,a2j,ad8]
theorem aeo(k:Nat)(hl:l.length<=LINE):a92 (.str (S l)) (some (k:Int)) none h = .ok (.str (S (l.drop k))) h:=by
 show gSl (.str (S l)) (some (k:Int)) none h=_;unfold gSl;simp only [a9m,if_pos hl,a2j,a4u]
end
section
variable{h:Hd}{i j:Int}{xs ys:List D}
theorem a3g:gIx (.tup xs) (.int i) h=(match atI xs i with | some d=>.ok d h | none=>.no):=rfl
theorem a6d:gIx (.rol xs) (.int i) h=(match atI xs i with | some d=>.ok d h | none=>.no):=rfl
theorem a5i{k:Nat}:gIx (.ref k) (.int i) h=(match a0u (.ref k) h with | some xs=>(match atI xs i with | some d=>.ok d h | none=>.no) | none=>.no):=rfl
theorem a2z:xx [.tup xs] h = .ok (.int xs.length) h:=rfl
theorem a3a:xx [.rol xs] h = .ok (.int xs.length) h:=rfl
theorem a3b{k:Nat}:xx [.ref k] h=(match a0u (.ref k) h with | some xs=>.ok (.int xs.length) h | none=>.no):=rfl
theorem v9:jr (.int i) (.int j) h = .ok (.int (i+j)) h:=rfl
theorem a7e:atu (.int i) (.int j) h = .ok (.int (i+j)) h:=rfl
open Classical in
theorem aay:a3t (.int i) (.int j) h=if CMul i j then .ok (.int (i*j)) h else .no:=by unfold a3t;rfl
theorem xm(b:Bool):tru (.bl b) h = .ok b h:=rfl
theorem a7f:tru (.int i) h = .ok (i != 0) h:=rfl
theorem a7g:tru (.rol xs) h = .ok (!xs.isEmpty) h:=rfl
theorem a7h:tru (.tup xs) h = .ok (!xs.isEmpty) h:=rfl
theorem a7i:tru .non h = .ok false h:=rfl
theorem abu:hEq (.int i) (.int j) h = .ok (.bl (i == j)) h:=rfl
theorem abv:hNe (.int i) (.int j) h = .ok (.bl (!(i == j))) h:=rfl
theorem ahw(a b:Bool):hEq (.bl a) (.bl b) h = .ok (.bl (a == b)) h:=rfl
theorem ahx(a b:Bool):hNe (.bl a) (.bl b) h = .ok (.bl (!(a == b))) h:=rfl
theorem a6e(x:D):gIs x .non h = .ok (.bl (a5r x)) h:=by cases x<;>rfl
theorem a0c(x:D):a8b x .non h = .ok (.bl (!a5r x)) h:=by cases x<;>rfl
theorem ahy(a b:Bool):gIs (.bl a) (.bl b) h = .ok (.bl (a == b)) h:=rfl
theorem a4g(a b:Bool):a8b (.bl a) (.bl b) h = .ok (.bl (a != b)) h:=rfl
theorem asf:a5r (.int i)=false:=rfl
theorem ash(x:Str):a5r (.str x)=false:=rfl
theorem asi:a5r .non=true:=rfl
theorem asj:a5r (.tup xs)=false:=rfl
end
end MI
namespace HND
open PySem PySem.Spec L2 MI AT
local macro_rules | `(tactic| walk_at "ev") => `(tactic| simp only [wg,xf,aam,a8k,aan,lq,asb,agz,sIf,vf,um,ac6,put,ah2,a5p,a1n,jj,a1t,kN,sV,sC,s2,s1,sA,aj,dj,sNx,sT,asB,a87,xm,a7f,a7g,a7h,a7i,anb,sOr,a90,a09,aj8,a88,sCh,ade,gq,a5e,MI.a3g,MI.a6d,MI.a5i,apj,a0u,gLt,gGt,gGe,gLe,abu,abv,ahw,ahx,a6e,a0c,ahy,a4g,asf,ash,asi,asj,v9,MI.ac3,a6w,adk,aay,AT.aho,AT.p18,a2z,a3a,a3b,alb,a7e,a2l,a3r,agk,MI.qp,MI.yx,sML,isL,a3l,oN,oS,a0v,a0h,sIt,adh,sRg,List.length_map,List.length_cons,List.length_nil,List.length_append,List.getElem?_cons_zero,List.getElem?_cons_succ,List.set_cons_zero,List.set_cons_succ,List.nil_append,List.cons_append,AT.ahg,AT.ahh,AT.ahi,AT.ahj,AT.ahk,AT.ahl,AT.ahm,AT.ahn,AT.x10,AT.x20,AT.x21,AT.x30,AT.x31,AT.x32,AT.x40,AT.x41,AT.x42,AT.x43,AT.x50,AT.x51,AT.x52,AT.x53,AT.x54,AT.x60,AT.x61,AT.x62,AT.x63,AT.x64,AT.x65,AT.x70,AT.x71,AT.x72,AT.x73,AT.x74,AT.x75,AT.x76,decide_true,decide_false,reduceIte,Bool.true_and,Bool.and_self,Bool.not_true,Bool.not_false,and_self,true_and,and_true,beq_self_eq_true,Nat.reduceAdd,Nat.reduceLeDiff,Nat.reduceLT,Nat.reducePow,Int.reduceLT,Int.reduceLE,Int.reduceNeg,Int.reduceEq,Int.reduceBEq,Bool.false_eq_true,Bool.true_eq_false,ite_true,ite_false,if_true,if_false, *])
end HND
namespace HND
open PySem PySem.Spec L2 MI AT
local macro_rules | `(tactic| walk_at "ev") => `(tactic| simp only [wg,xf,aam,a8k,aan,lq,asb,agz,sIf,vf,um,ac6,put,ah2,a5p,a1n,jj,a1t,kN,sV,sC,s2,s1,sA,aj,dj,sNx,sT,asB,a87,xm,a7f,a7g,a7h,a7i,anb,sOr,a90,a09,aj8,a88,sCh,ade,gq,a5e,MI.a3g,MI.a6d,MI.a5i,apj,a0u,gLt,gGt,gGe,gLe,abu,abv,ahw,ahx,a6e,a0c,ahy,a4g,asf,ash,asi,asj,v9,MI.ac3,a6w,adk,aay,AT.aho,AT.p18,a2z,a3a,a3b,alb,a7e,a2l,a3r,agk,MI.qp,MI.yx,sML,isL,a3l,oN,oS,a0v,a0h,sIt,adh,sRg,a3x,a0g,a89,apn,a9g,abo,ajl,ase,srcOf,  List.length_map,List.length_cons,List.length_nil,List.length_append,List.getElem?_cons_zero,List.getElem?_cons_succ,List.set_cons_zero,List.set_cons_succ,List.nil_append,List.cons_append,AT.ahg,AT.ahh,AT.ahi,AT.ahj,AT.ahk,AT.ahl,AT.ahm,AT.ahn,AT.x10,AT.x20,AT.x21,AT.x30,AT.x31,AT.x32,AT.x40,AT.x41,AT.x42,AT.x43,AT.x50,AT.x51,AT.x52,AT.x53,AT.x54,AT.x60,AT.x61,AT.x62,AT.x63,AT.x64,AT.x65,AT.x70,AT.x71,AT.x72,AT.x73,AT.x74,AT.x75,AT.x76,decide_true,decide_false,reduceIte,Bool.true_and,Bool.and_self,Bool.not_true,Bool.not_false,and_self,true_and,and_true,beq_self_eq_true,Nat.reduceAdd,Nat.reduceLeDiff,Nat.reduceLT,Nat.reducePow,Int.reduceLT,Int.reduceLE,Int.reduceNeg,Int.reduceEq,Int.reduceBEq,Bool.false_eq_true,Bool.true_eq_false,ite_true,ite_false,if_true,if_false, *])
def asl:Str := " !\"#$&'()*+,-./0123456789:;<=>?@ABCDEFGHIJKLMNOPQRSTUVWXYZ[\\]^_`"
def asm:Str := "abcdefghijklmnopqrstuvwxyz{|}~\n"
def sig:List Nat:=asl.cps.toList++asm.cps.toList
theorem a5j:sig.length=95:=by decide +kernel
theorem ajt:sig.Nodup:=by decide +kernel
noncomputable def dh:SF:=o9 zc 1
theorem lits{h:Hd}:jr (.str asl) (.str asm) h = .ok (.str (S sig)) h:=by
 rw [<-ahv asl,<-ahv asm,aen (by decide +kernel)]
 rfl
theorem a4h:Pu dh 0 [] (.str (S sig)):=by
 refine Pu.of rfl (by simp) (r:=.ok (.str (S sig)) []) ?_ (by rw [nq (j6 _) (by simp)];rfl) (j6 _)
 unfold dh;rw [j7];unfold zc;have e:=@lits [];unfold asl asm at e;show toR (j5 (lq 0 _) _ [none] [])=_;simp only [wg,lq,sC,a5e,xf,vf,s2,sV,List.set_cons_zero,List.getElem?_cons_zero,gq,e,a8k]
structure Tongue (l:List Nat):Prop where
 lo:1<=l.length
 hi:l.length<=6
 nd:l.Nodup
 sub:∀ c∈l,c∈sig
theorem aep(a r:List Nat)(i:Nat)(c:Nat)(e:r[i]? = some c):List.Perm (a++r) ((a++[c])++(r.take i++r.drop (i+1))):=by
 obtain ⟨hi,e⟩:=List.getElem?_eq_some_iff.mp e;have:r=r.take i++c::r.drop (i+1):=by rw [<-e];simp
 rw [List.append_assoc];refine List.Perm.append_left a ?_;rw [List.singleton_append]
 conv=>lhs;rw [this]
 exact List.perm_middle
end HND
namespace MI
open PySem PySem.Spec L2
theorem au6(n:Nat):rng 0 n=(List.range n).map λi:Nat=>D.int (i:Nat):=by
 unfold rng;exact List.map_congr_left λi _=>by rw [Int.zero_add]
theorem au7(a:Int)(n:Nat):rng a n=(List.range n).map λi:Nat=>D.int (a+(i:Nat)):=rfl
theorem a9o{n:Nat}(h:n<=LINE):B62 (n:Int):=by
 have:n<=16777216:=h
 unfold B62;omega
theorem aqk{n:Nat}(h:Hd)(z:n<=LINE):a0g [.int (n:Nat)] h = .ok ⟨(List.range n).map λi:Nat=>D.int (i:Nat),λ_=>True⟩ h:=by
 unfold a0g;simp only [a9o z,if_true,Int.toNat_natCast,au6]
theorem aql{a n:Nat}(h:Hd)(za:a<=LINE)(z:n<=LINE):a89 [.int (a:Nat), .int (n:Nat)] h = .ok ⟨(List.range (n - a)).map λi:Nat=>D.int ((a+i:Nat)),λ_=>True⟩ h:=by
 unfold a89;simp only [a9o z,a9o za,and_self,if_true,au7];rw [show ((n:Int) - (a:Int)).toNat=n - a by omega]
 congr 2
theorem au8{f:SE}{τ:Sd}{h:Hd}{d:D}(e:f τ h = .ok d h):aj f dj τ h = .ok [d] h:=by unfold aj dj;rw [e];rfl
theorem a1s{f g:SE}{τ:Sd}{h:Hd}{c d:D}(e:f τ h = .ok c h)(e':g τ h = .ok d h):aj f (aj g dj) τ h = .ok [c,d] h:=by unfold aj;rw [e,gq,e',gq];rfl
theorem a0p{f:SE}{τ:Sd}{h:Hd}{n:Nat}(e:f τ h = .ok (.int (n:Nat)) h)(z:n<=LINE):sRg a0g (aj f dj) τ h = .ok ⟨(List.range n).map λi:Nat=>D.int (i:Nat),λ_=>True⟩ h:=by
 unfold sRg;rw [au8 e,gq];exact aqk h z
theorem amc{f g:SE}{τ:Sd}{h:Hd}{a n:Nat}(e':g τ h = .ok (.int (a:Nat)) h)(e:f τ h = .ok (.int (n:Nat)) h)(za:a<=LINE)(z:n<=LINE):sRg a89 (aj g (aj f dj)) τ h = .ok ⟨(List.range (n - a)).map λi:Nat=>D.int ((a+i:Nat)),λ_=>True⟩ h:=by
 unfold sRg;rw [a1s e' e,gq];exact aql h za z
theorem bf{i:Nat}{τ:Sd}{h:Hd}{d:D}(e:τ[i]? = some (some d)):sV i τ h = .ok d h:=by unfold sV;rw [e]
theorem a5k{fi:SI}{t:D->Option Sd}{fe:SE}{ix:List Nat}{τ:Sd}{h:Hd}{α:Type}(g F:α->D)(xs:List α)(e:fi τ h = .ok ⟨xs.map g,λ_=>True⟩ h)(z:xs.length<=LINE)
  (st:∀ x∈xs,a5q t fe (frs' ix τ) (g x) h = .ok (F x) h):uz fi t fe ix τ h = .ok (.ref h.length) (h++[.lst (xs.map F)]):=by
 unfold uz;rw [e,gq];dsimp only;rw [if_pos (by rw [List.length_map];exact z),a8l g F st]
 rfl
theorem a8s{fi:SI}{t:D->Option Sd}{c:ST}{fe:SE}{ix:List Nat}{τ:Sd}{h:Hd}{α:Type}(g:α->D)(F:α->Option D)(xs:List α)(e:fi τ h = .ok ⟨xs.map g,λ_=>True⟩ h)(z:xs.length<=LINE)
  (st:∀ x∈xs,a9c t c fe (frs' ix τ) (g x) h = .ok (F x) h):a1x fi t c fe ix τ h = .ok (.ref h.length) (h++[.lst (xs.filterMap F)]):=by
 unfold a1x;rw [e,gq];dsimp only;rw [if_pos (by rw [List.length_map];exact z),a8m g F st]
 rfl
theorem a3c(fe:SE)(r:Sd)(x:D)(h:Hd):a5q t1 fe r x h=fe (some x::r) h:=rfl
theorem amd(c:ST)(fe:SE)(r:Sd)(x:D)(h:Hd):a9c t1 c fe r x h=(c (some x::r) h).bind λb h1=>if b=true then (fe (some x::r) h1).bind λy h2=>.ok (some y) h2 else .ok none h1:=rfl
theorem aaz(i:Nat)(ix:List Nat)(τ:Sd):frs' (i::ix) τ=(τ[i]?).join::frs' ix τ:=rfl
theorem aeq(τ:Sd):frs' [] τ=[]:=rfl
section
variable{f k f1 f2 f3:SE}{c c1 c2:ST}{g p q:SS}{τ τ1:Sd}{h h1 h2 h3 h4:Hd}{a b d v:D}{i:Nat}{t u:Bool}
theorem gf(d:D)(τ:Sd)(h:Hd):sC d τ h = .ok d h:=rfl
theorem avi{G:List D->Hd->R D}(e3:G [] h = .ok v h1):sA G dj τ h = .ok v h1:=e3
theorem w6{G:List D->Hd->R D}(e1:f τ h = .ok a h1)(e3:G [a] h1 = .ok v h2):sA G (aj f dj) τ h = .ok v h2:=by
 have:aj f dj τ h = .ok [a] h1:=by unfold aj;rw [e1];rfl
 unfold sA;rw [this,gq,e3]
theorem qt{G:List D->Hd->R D}(e1:f τ h = .ok a h1)(e2:k τ h1 = .ok b h2)(e3:G [a,b] h2 = .ok v h3):sA G (aj f (aj k dj)) τ h = .ok v h3:=by
 have:aj f (aj k dj) τ h = .ok [a,b] h2:=by unfold aj;rw [e1,gq,e2];rfl
 unfold sA;rw [this,gq,e3]
theorem a8t{G:List D->Hd->R D}(e0:f1 τ h = .ok d h1)(e1:f τ h1 = .ok a h2)(e2:k τ h2 = .ok b h3)(e3:G [d,a,b] h3 = .ok v h4):sA G (aj f1 (aj f (aj k dj))) τ h = .ok v h4:=by
 have:aj f1 (aj f (aj k dj)) τ h = .ok [d,a,b] h3:=by unfold aj;rw [e0,gq,e1,gq,e2];rfl
 unfold sA;rw [this,gq,e3]
theorem jk(e:f τ h = .ok d h1):j5 (lq i f) g τ h=g (τ.set i (some d)) h1:=by
 rw [wg];unfold lq;rw [e];rfl
theorem ahz(e:f τ h = .ok d h1):lq i f τ h = .nx (τ.set i (some d)) h1:=by
 unfold lq;rw [e];rfl
theorem zg(e:p τ h = .nx τ1 h1):j5 p g τ h=g τ1 h1:=by rw [wg,e];rfl
theorem a2k(e:p τ h = .rt d h1):j5 p g τ h = .rt d h1:=by rw [wg,e];rfl
theorem ifT(e:c τ h = .ok true h1):sIf c p q τ h=p τ h1:=by unfold sIf;rw [e];rfl
theorem ifF(e:c τ h = .ok false h1):sIf c p q τ h=q τ h1:=by unfold sIf;rw [e];rfl
theorem ifN(e:c τ h = .ok false h1):j5 (sIf c p sNx) g τ h=g τ h1:=by rw [wg,ifF e];rfl
theorem tof(e:f τ h = .ok (.bl t) h1):sT f τ h = .ok t h1:=by unfold sT;rw [e];rfl
theorem a3d(e:f τ h = .ok d h1)(e':tru d h1 = .ok t h2):a87 f τ h = .ok t h2:=by unfold a87;rw [e,gq,e']
theorem orT(e:c1 τ h = .ok true h1):sOr c1 c2 τ h = .ok true h1:=by unfold sOr;rw [e,gq,if_pos rfl]
theorem orF(e:c1 τ h = .ok false h1)(e':c2 τ h1 = .ok t h2):sOr c1 c2 τ h = .ok t h2:=by unfold sOr;rw [e,gq,if_neg (by simp),e']
theorem aqm(e:c τ h = .ok t h1):a90 c τ h = .ok (!t) h1:=by unfold a90;rw [e];rfl
theorem ame(e:c τ h = .ok true h1):a90 c τ h = .ok false h1:=aqm e
theorem ax2(e:c τ h = .ok false h1):a90 c τ h = .ok true h1:=aqm e
theorem qd(e:f τ h = .ok d h1):vf f τ h = .rt d h1:=by unfold vf;rw [e];rfl
theorem aer(e:f τ h = .ok (.bl true) h1)(e':k τ h1 = .ok d h2):a09 f k τ h = .ok d h2:=by unfold a09;rw [e,gq];exact e'
theorem zx{G:D->List D->Hd->R D}{A:SA}{ds:List D}(e1:f τ h = .ok d h1)(l:isL d h1=true)(e2:A τ h1 = .ok ds h2)(e3:G d ds h2 = .ok v h3):um (sML G f A) τ h = .nx τ h3:=by
 unfold um sML;rw [e1,gq,if_pos l,e2,gq,e3];rfl
theorem aqn{G:D->List D->Hd->R D}{A:SA}{ds:List D}(e1:f τ h = .ok d h1)(l:isL d h1=true)(e2:A τ h1 = .ok ds h2)(e3:G d ds h2 = .ok v h3):sML G f A τ h = .ok v h3:=by
 unfold sML;rw [e1,gq,if_pos l,e2,gq,e3]
theorem arg1(e:f τ h = .ok d h1):aj f dj τ h = .ok [d] h1:=by unfold aj dj;rw [e];rfl
theorem gj{G:D->D->Hd->R D}(e1:f τ h = .ok a h1)(e2:k τ h1 = .ok b h2)(e3:G a b h2 = .ok v h3):s2 G f k τ h = .ok v h3:=by
 unfold s2;rw [e1,gq,e2,gq,e3]
theorem aca{G:D->Hd->R D}(e1:f τ h = .ok a h1)(e3:G a h1 = .ok v h2):s1 G f τ h = .ok v h2:=by
 unfold s1;rw [e1,gq,e3]
theorem abw{G:SG}(e:f τ h = .ok d h1)(e2:G d τ h1 = .nx τ1 h2):a5p f G τ h = .nx τ1 h2:=by
 unfold a5p;rw [e,a5e,e2]
theorem au9(e1:f1 τ h = .ok v h1)(e2:f2 τ h1 = .ok a h2)(e3:f3 τ h2 = .ok b h3)(e4:put a b v h3=some h4):ac6 f1 f2 f3 τ h = .nx τ h4:=by
 unfold ac6;rw [e1,a5e,e2,a5e,e3,a5e,e4]
theorem a3e{fi:SI}{G:SG}{b:SS}{xs:List D}{ck:Hd->Prop}(e:fi τ h = .ok ⟨xs,ck⟩ h1):j5 (a3x fi G b) g τ h=thn (forL ck G b xs τ h1) g:=by
 rw [wg];unfold a3x;rw [e];rfl
theorem afw{xs:List D}{ck:Hd->Prop}(e:f τ h = .ok d h1)(e2:adh d h1 = .ok ⟨xs,ck⟩ h1):sIt f τ h = .ok ⟨xs,ck⟩ h1:=by
 unfold sIt;rw [e,gq,e2]
theorem zy{xs:List D}(e:h[i]? = some (.lst xs))(z:xs.length<LINE):a3l (.ref i) [a] h = .ok .non (h.set i (.lst (xs++[a]))):=by
 unfold a3l;simp only [e,if_pos z]
theorem aua{xs:List D}{j:Nat}(e:h[i]? = some (.lst xs))(hj:j<xs.length):put (.ref i) (.int (j:Nat)) v h=some (h.set i (.lst (xs.set j v))):=by
 have:ixN xs.length (j:Int)=some j:=by unfold ixN;rw [if_pos (by omega),if_pos (by omega)];simp
 unfold put;simp only [e,this]
theorem ab0{xs:List D}{j:Nat}{y:D}(e:h[i]? = some (.lst xs))(hj:xs[j]? = some y):gIx (.ref i) (.int (j:Nat)) h = .ok y h:=by
 rw [a5i];unfold a0u;simp only [e,vm hj]
theorem aju{xs:List D}{j:Nat}{y:D}(hj:xs[j]? = some y):gIx (.rol xs) (.int (j:Nat)) h = .ok y h:=by
 rw [a6d];simp only [vm hj]
theorem a00{xs:List D}{j:Nat}{y:D}(hj:xs[j]? = some y):gIx (.tup xs) (.int (j:Nat)) h = .ok y h:=by
 rw [a3g];simp only [vm hj]
theorem amf{xs:List D}(e:h[i]? = some (.lst xs)):xx [.ref i] h = .ok (.int (xs.length:Nat)) h:=by
 rw [a3b];unfold a0u;simp only [e]
theorem aqo{x y:Int}(c:0<y):a6w (.int x) (.int y) h = .ok (.int (x % y)) h:=by unfold a6w;exact if_pos c
theorem avj{x y:Int}(c:y<x):gGt (.int x) (.int y) h = .ok (.bl true) h:=by unfold gGt;simp only [c,decide_true]
theorem avk{x y:Int}(c:¬ y<x):gGt (.int x) (.int y) h = .ok (.bl false) h:=by unfold gGt;simp only [c,decide_false]
theorem aqp{x y:Int}(c:x<y):gLt (.int x) (.int y) h = .ok (.bl true) h:=by unfold gLt;simp only [c,decide_true]
theorem aqq{x y:Int}(c:¬ x<y):gLt (.int x) (.int y) h = .ok (.bl false) h:=by unfold gLt;simp only [c,decide_false]
theorem aes{x y:Int}(c:x=y):hEq (.int x) (.int y) h = .ok (.bl true) h:=by rw [abu,c,beq_self_eq_true]
theorem aet{x y:Int}(c:¬ x=y):hEq (.int x) (.int y) h = .ok (.bl false) h:=by rw [abu,beq_eq_false_iff_ne.mpr c]
theorem ai0{x y:Int}(c:x=y):hNe (.int x) (.int y) h = .ok (.bl false) h:=by rw [abv,c,beq_self_eq_true];rfl
theorem aub{x y:Int}(c:¬ x=y):hNe (.int x) (.int y) h = .ok (.bl true) h:=by rw [abv,beq_eq_false_iff_ne.mpr c];rfl
theorem a3u(x:Int):a2l (.int x) h = .ok (.int (-x)) h:=rfl
theorem ajv(x y:Int):MI.ac3 (.int x) (.int y) h = .ok (.int (x - y)) h:=rfl
theorem jx{n:Nat}(h:n<=1000000):n<=LINE:=by show n<=16777216;omega
theorem a01{n:Nat}(h:n<=1000000):n<LINE:=by show n<16777216;omega
theorem ab1:MI.qp [a,b] h = .ok (.tup [a,b]) h:=by unfold MI.qp;rw [if_pos (jx (by simp))]
theorem aqr:MI.qp [a,b,v] h = .ok (.tup [a,b,v]) h:=by unfold MI.qp;rw [if_pos (jx (by simp))]
end
end MI
namespace EVX
open PySem PySem.Spec L2 MI
section
variable{i:Nat}{cs:Str->Bool}{fb fs p g:SS}{τ τ1 τ2:Sd}{h h1 h2:Hd}{c:Str}{f:SE}{ka:SA}{ds:List D}{F:SF}{n:Nat}
theorem amg(e:p τ h = .ex c h1):j5 p g τ h = .ex c h1:=by unfold j5;rw [e]
theorem amh(e:ka τ h = .ok ds h1)(l:ds.length<=100):a8n c ka τ h = .ex c h1:=by
 unfold a8n;rw [e];show (if ds.length<=LINE then Fl.ex c h1 else .no)=_
 rw [if_pos (jx (by omega))]
theorem a9p(hn:ds.length=n)(cd:∀ x∈ds,MI.clo 0 x)(e:F ds [] = .ex c h1):zf n F ds h = .ex c h:=by
 unfold zf;rw [if_pos cd,e];exact if_pos hn
theorem a9q{d d':D}(cd:∀ x∈ds,MI.clo 0 x)(e:F ds [] = .ok d h1)(p:Pu F n ds d'):zf n F ds h = .ok d' h:=by
 unfold zf;rw [if_pos cd,e];exact p h
theorem aqs(e:fb τ h = .ex c h1)(hc:cs c=true)(e2:fs (τ.set i (some (.exc c))) h1 = .nx τ2 h2):apv i cs fb fs τ h = .nx (τ2.set i none) h2:=by
 unfold apv;rw [e];show (if cs c=true then _ else _)=_
 rw [if_pos hc,e2]
theorem ajw(e:f τ h = .ex c h1):um f τ h = .ex c h1:=by unfold um;rw [e];rfl
theorem qof{α:Type}{k:Sd->Hd->R α}{x:α}(e:k τ h = .ok x h1):qA k τ h = .ok x h1:=by unfold qA;rw [e];rfl
theorem ami(e:ka τ h = .ok ds h1):sA F ka τ h=F ds h1:=by unfold sA;rw [e];rfl
theorem amj{x:Str->Option Bool}{b:Bool}(e:τ[i]? = some (some (.exc c)))(e2:x c=some b):ahd i x τ h = .ok (.bl b) h:=by unfold ahd;rw [e];dsimp only;rw [e2]
theorem aqt{b:Bool}(e:f τ h = .ok (.bl b) h1):a88 f τ h = .ok (.bl (!b)) h1:=by unfold a88;rw [e];rfl
theorem fj{d:D}(e:f τ h = .ok d h1)(e2:ka τ h1 = .ok ds h2):aj f ka τ h = .ok (d::ds) h2:=by
 unfold aj;rw [e,gq,e2];rfl
end
end EVX
namespace PN
open PySem PySem.Spec L2 MI AT HND EVX
local macro_rules | `(tactic| walk_at "ev") => `(tactic| simp only [wg,xf,aam,a8k,aan,lq,asb,agz,sIf,vf,um,ac6,put,ah2,a5p,a1n,jj,a1t,kN,sV,sC,s2,s1,sA,aj,dj,sNx,sT,asB,a87,xm,a7f,a7g,a7h,a7i,anb,sOr,a90,a09,aj8,a88,sCh,ade,gq,a5e,MI.a3g,MI.a6d,MI.a5i,apj,a0u,gLt,gGt,gGe,gLe,abu,abv,ahw,ahx,a6e,a0c,ahy,a4g,asf,ash,asi,asj,v9,MI.ac3,a6w,adk,aay,AT.aho,AT.p18,a2z,a3a,a3b,alb,a7e,a2l,a3r,agk,MI.qp,MI.yx,sML,isL,a3l,oN,oS,a0v,a0h,sIt,adh,sRg,List.length_map,List.length_cons,List.length_nil,List.length_append,List.getElem?_cons_zero,List.getElem?_cons_succ,List.set_cons_zero,List.set_cons_succ,List.nil_append,List.cons_append,AT.ahg,AT.ahh,AT.ahi,AT.ahj,AT.ahk,AT.ahl,AT.ahm,AT.ahn,AT.x10,AT.x20,AT.x21,AT.x30,AT.x31,AT.x32,AT.x40,AT.x41,AT.x42,AT.x43,AT.x50,AT.x51,AT.x52,AT.x53,AT.x54,AT.x60,AT.x61,AT.x62,AT.x63,AT.x64,AT.x65,AT.x70,AT.x71,AT.x72,AT.x73,AT.x74,AT.x75,AT.x76,decide_true,decide_false,reduceIte,Bool.true_and,Bool.and_self,Bool.not_true,Bool.not_false,and_self,true_and,and_true,beq_self_eq_true,Nat.reduceAdd,Nat.reduceLeDiff,Nat.reduceLT,Nat.reducePow,Int.reduceLT,Int.reduceLE,Int.reduceNeg,Int.reduceEq,Int.reduceBEq,Bool.false_eq_true,Bool.true_eq_false,ite_true,ite_false,if_true,if_false, *])
structure Pen (o:O) (N:Nat):Prop where
 ex:∃ (cells:List Int) (a l:Int),o = .lst [.rol (cells.map D.int), .int a, .int l]/\0<=a/\a<=N/\0<=l
theorem Pen.clo{o:O}{N:Nat}(P:Pen o N):zj 0 o:=by
 obtain ⟨cells,a,l,rfl,_⟩:=P.ex;exact du (v6 (lw λx _=>iz x)) (du (iz _) (du (iz _) lu))
theorem Pen.up{o:O}{N M:Nat}(P:Pen o N)(h:N<=M):Pen o M:=by
 obtain ⟨cells,a,l,e,h1,h2,h3⟩:=P.ex;exact ⟨cells,a,l,e,h1,by omega,h3⟩
noncomputable def ak:SF:=o9 a2w 7
theorem aeu{o:O}{N:Nat}{m:Int}(P:Pen o N)(hN:N<=1000000000)(m0:0<m)(m1:m<1073741824):∃ r o',ak [.ref 0, .int m] [o] = .ok (.int r) [o']/\0<=r/\r<m/\Pen o' (N+1):=by
 obtain ⟨cells,a,l,rfl,a0,a1,l0⟩:=P.ex;unfold ak;rw [j7];unfold a2w a0y;simp only [List.map_cons,List.map_nil,List.length_cons,List.length_nil,Nat.reduceSub,Nat.reduceAdd,List.replicate,List.cons_append,List.nil_append];have k3:(0<m/\m<1073741824)=True:=by simp [m0,m1]
 have k3':(0<m)=True:=by simp [m0]
 by_cases hl:0<l
 ·have kl:decide (0<l)=true:=decide_eq_true hl;refine ⟨l % m,_,?_,Int.emod_nonneg _ (by omega),Int.emod_lt_of_pos _ m0,⟨cells,a,l / m,rfl,a0,by omega,Int.ediv_nonneg (by omega) (by omega)⟩⟩
  walk_at "ev"
 ·have:l=0:=by omega
  subst this;have last:∀ c:Int,∃ r q q2,0<=r/\r<m/\(c % 2147483587+40709*a+31) ^ (3:Int).toNat % 2147483647=q/\(q*q+48271*q+a) % 2147483629=q2/\q2 / 64 % m=r/\CMul 40709 a/\CMul q q/\CMul 48271 q /\
    (∀ h,adl (.int (c % 2147483587+40709*a+31)) (.int 3) h = .ok (.int ((c % 2147483587+40709*a+31) ^ (3:Int).toNat)) h):=λc=>by
   have p0:0<=c % 2147483587:=Int.emod_nonneg _ (by decide)
   have p1:c % 2147483587<2147483587:=Int.emod_lt_of_pos _ (by decide)
   have q0:0<=(c % 2147483587+40709*a+31) ^ (3:Int).toNat % 2147483647:=Int.emod_nonneg _ (by decide)
   have q1:(c % 2147483587+40709*a+31) ^ (3:Int).toNat % 2147483647<2147483647:=Int.emod_lt_of_pos _ (by decide)
   refine ⟨_,_,_,Int.emod_nonneg _ (by omega),Int.emod_lt_of_pos _ m0,rfl,rfl,rfl, .inl ⟨by decide,by decide⟩, .inl ⟨by omega,by omega⟩, .inl ⟨by decide,by decide⟩,λh=>au3 ⟨by decide,by decide,by omega⟩⟩
  obtain ⟨n,rfl⟩:=Int.eq_ofNat_of_zero_le a0
  by_cases hc:0<(cells.length:Int)
  ·have kc:decide (0<(cells.length:Int))=true:=decide_eq_true hc;have ic:(0<(cells.length:Int))=True:=by simpa using hc
   have im:((n:Int) % (cells.length:Int))=((n % cells.length:Nat):Int):=by omega
   have hj:n % cells.length<cells.length:=Nat.mod_lt _ (by omega)
   have hat:atI (cells.map D.int) ((n % cells.length:Nat):Int)=some (.int cells[n % cells.length]):=vm (by simp [hj])
   generalize cells[n % cells.length]=x at hat
   by_cases hA:(n:Int)<(cells.length:Int)
   ·have ka:decide ((n:Int)<(cells.length:Int))=true:=decide_eq_true hA
    by_cases hB:(1000000000000000000:Int)<=ajs x
    ·have kb:decide ((1000000000000000000:Int)<=ajs x)=true:=decide_eq_true hB;have cm:CMul 2 (ajs x):=.inl ⟨by decide,by decide⟩
     have g0:0<=2*ajs x+(if decide (x<0)=true then 1 else 0):=by split<;>omega
     refine ⟨(2*ajs x+(if decide (x<0)=true then 1 else 0)) % m,_,?_,Int.emod_nonneg _ (by omega),Int.emod_lt_of_pos _ m0,⟨cells,(n:Int)+1,(2*ajs x+(if decide (x<0)=true then 1 else 0)) / m,rfl,by omega,by omega,Int.ediv_nonneg g0 (by omega)⟩⟩
     walk_at "ev"
    ·have kb:decide ((1000000000000000000:Int)<=ajs x)=false:=decide_eq_false hB;obtain ⟨r,q,q2,r0,r1,eq,eq2,er,d1,d2,d3,d4⟩:=last x;refine ⟨r,_,?_,r0,r1,⟨cells,(n:Int)+1,0,rfl,by omega,by omega,by omega⟩⟩
     walk_at "ev"
   ·have ka:decide ((n:Int)<(cells.length:Int))=false:=decide_eq_false hA;obtain ⟨r,q,q2,r0,r1,eq,eq2,er,d1,d2,d3,d4⟩:=last x;refine ⟨r,_,?_,r0,r1,⟨cells,(n:Int)+1,0,rfl,by omega,by omega,by omega⟩⟩
    walk_at "ev"
  ·have kc:decide (0<(cells.length:Int))=false:=decide_eq_false hc;have ka:decide ((n:Int)<(cells.length:Int))=false:=decide_eq_false (by omega)
   obtain ⟨r,q,q2,r0,r1,eq,eq2,er,d1,d2,d3,d4⟩:=last 5;refine ⟨r,_,?_,r0,r1,⟨cells,(n:Int)+1,0,rfl,by omega,by omega,by omega⟩⟩
   walk_at "ev"
theorem a9r{o:O}{N:Nat}{m:Int}(P:Pen o N)(hN:N<=1000000000)(m0:0<m)(m1:m<1073741824):∃ r o',Dr ak 2 [.int m] o (.int r) o'/\0<=r/\r<m/\Pen o' (N+1):=by
 obtain ⟨r,o',e,r0,r1,P'⟩:=aeu P hN m0 m1;refine ⟨r,o',Dr.of rfl (by simp [iz]) P.clo e (nq (iz _) ?_) (iz _) P'.clo,r0,r1,P'⟩
 intro u hu
 simp at hu
 subst hu;exact nu (by omega) P'.clo
noncomputable def ie:SF:=o9 a2e 1
theorem aqu(ns:List Int)(h:Hd):∃ o,Pen o 0/\nj true 1 ie [.scr (ns.map D.int)] h = .ok (.ref h.length) (h++[o]):=by
 have cl:clos 0 ((ns.take 63).map D.int):=lw λx _=>iz x;have z1:sZ (a0v (sV 0) oN (oS (sC (.int 63)))) [some (.scr (ns.map D.int))] [] = .ok (.rol ((ns.take 63).map D.int)) []:=by
  refine yg (by
   show gSl (.scr (ns.map D.int)) none (some ((63:Nat):Int)) []=_;unfold gSl;simp only [ad8,List.map_take]) cl (by simp)
 have e:ie [.scr (ns.map D.int)] [] = .ok (.ref 0) [.lst [.rol ((ns.take 63).map D.int), .int 0, .int 0]]:=by
  unfold ie;rw [j7];show toR (a2e [some (.scr (ns.map D.int))] [])=_;unfold a2e;exact congrArg toR (qd (a8t z1 (gf _ _ _) (gf _ _ _) rfl))
 have P:Pen (.lst [.rol ((ns.take 63).map D.int), .int 0, .int 0]) 0:=⟨_,0,0,rfl,by decide,by decide,by decide⟩
 exact ⟨_,P,apo rfl (by simpa [MI.clo] using (lw λx _=>iz x:clos 0 (ns.map D.int))) e rfl P.clo h⟩
noncomputable def dh:SF:=o9 zc 1
theorem a4h:Pu dh 0 [] (.str (S sig)):=HND.a4h
end PN
namespace SRC
open PySem PySem.Spec L2 MI
end SRC
namespace SRC
open PySem PySem.Spec L2 MI AT
end SRC
namespace SRC
open PySem PySem.Spec L2 MI AT HND EVX
theorem ints_map:∀ l:List Int,a5s (l.map D.int)=some l
 | []=>rfl
 | a::l=>by rw [List.map_cons];simp only [a5s,ints_map l,Option.map_some]
theorem a9s{g:List D->Hd->R D}{k:SA}{τ:Sd}{h h1 h2:Hd}{ds:List D}{d:D}(e:k τ h = .ok ds h1)(eg:g ds h1 = .ok d h2):sA g k τ h = .ok d h2:=by
 unfold sA;rw [e,gq,eg]
end SRC
namespace HND
open PySem PySem.Spec L2 MI AT
theorem a7j{ck:Hd->Prop}{g:SG}{b:SS}{α:Type}(f:α->D)(I:List α->Sd->Hd->Prop)(c:∀ pre τ h,I pre τ h->ck h):∀ (xs pre:List α) (τ:Sd) (h:Hd),
  (∀ pre' x post τ h,pre++xs=pre'++x::post->I pre' τ h->∃ τ1 h1,g (f x) τ h = .nx τ1 h1/\∃ τ2 h2,b τ1 h1 = .nx τ2 h2/\I (pre'++[x]) τ2 h2)->I pre τ h->∃ τ' h',forL ck g b (xs.map f) τ h = .nx τ' h'/\I (pre++xs) τ' h'
 | [],pre,τ,h,_,i0=>⟨τ,h,by rw [List.map_nil,forL,if_pos (c _ _ _ i0)],by simpa using i0⟩
 | x::xs,pre,τ,h,st,i0=>by
  obtain ⟨τ1,h1,e1,τ2,h2,e2,i2⟩:=st pre x xs τ h rfl i0;obtain ⟨τ',h',e3,i3⟩:=a7j f I c xs (pre++[x]) τ2 h2 (λpre' y post τ h e=>st pre' y post τ h (by simpa using e)) i2
  refine ⟨τ',h',?_,by simpa using i3⟩
  rw [List.map_cons,forL,if_pos (c _ _ _ i0),e1];dsimp only;rw [e2];exact e3
theorem a8u{k i:Nat}{pre post:List Nat}(h:List.range k=pre++i::post):i=pre.length/\i<k:=by
 have h1:=congrArg (λl=>l[pre.length]?) h;have h2:=congrArg List.length h;simp at h1 h2;have:pre.length<k:=by omega
 rw [List.getElem?_range this] at h1;simp at h1;omega
abbrev KOk(k:Int):Prop := -1<=k/\k<=5
abbrev bz(i:Nat):D:=.int (i:Nat)
theorem jb{k:Nat}(l:List Nat):clos k (l.map bz):=lw λx _=>iz _
abbrev a3q(r:List Nat):D:=.tup (r.map bz)
abbrev ai1(s n:Nat)(r:List Nat):Prop:=r.length=s/\∀ x∈r,x<n
structure Table where
 tg:List Nat
 go:List (List Nat)
 ks:List Int
def Table.d(T:Table):D:=.tup [.str (S T.tg), .tup (T.go.map a3q), .tup (T.ks.map D.int)]
structure Table.Ok (T:Table):Prop where
 tong:Tongue T.tg
 n1:1<=T.go.length
 n32:T.go.length<=32
 row:∀ r∈T.go,ai1 T.tg.length T.go.length r
 kl:T.ks.length=T.go.length
 k0:T.ks[0]? = some (-1)
 kk:∀ k∈T.ks,KOk k
theorem Table.clo{T:Table}:clo 0 T.d:=m5 (du (j6 _) (du (m5 (lw λx _=>m5 (jb _))) (du (m5 (lw λx _=>iz x)) lu)))
end HND
namespace MI
open PySem PySem.Spec L2
end MI
namespace PAP
open PySem PySem.Spec L2 MI AT HND
theorem aqv(l:List Nat)(h:Hd):adh (.str (S l)) h = .ok ⟨l.map λc=>.str (S [c]),λ_=>True⟩ h:=by
 show R.ok (⟨a0a (S l),λ_=>True⟩:Itm) _=_;unfold a0a;rw [a2j]
theorem amk{f k:SE}{τ:Sd}{h h1:Hd}(e:f τ h = .ok (.bl false) h1):a09 f k τ h = .ok (.bl false) h1:=by unfold a09;rw [e,gq]
theorem avl(xs:List D)(lo hi:Option Int)(h:Hd):a92 (.tup xs) lo hi h = .ok (.tup (a2r xs lo hi)) h:=by
 unfold a92;dsimp only
 split
 ·rename_i w;obtain ⟨a,b⟩:=w
  congr 2
  unfold a2r;rw [a,b,List.drop_zero,List.take_of_length_le (by omega)]
 ·rfl
theorem ai2{xs ys:List D}{h:Hd}(z:xs.length+ys.length<=1000000):jr (.tup xs) (.tup ys) h = .ok (.tup (xs++ys)) h:=by
 cases xs with
 | nil=>rfl
 | cons x xs =>
  show (if (x::xs).length+ys.length<=LINE then R.ok (D.tup (x::xs++ys)) h else .no)=_
  rw [if_pos (jx z)]
theorem aqw{f:SE}{τ:Sd}{h h':Hd}{xs:List D}(hl:h'.length=h.length)(e:f τ h = .ok (.ref h'.length) (h'++[.lst xs]))(cx:clos h.length xs)(c:∀ o∈h',zj h.length o):sZ f τ h = .ok (.rol xs) h':=by
 unfold sZ;rw [e,a1f (by omega) (by simp) cx (by rw [<-hl];simpa [hl] using c)]
 rw [<-hl];simp
end PAP
namespace SRC
open PySem PySem.Spec L2 MI AT HND EVX
theorem avm{c:ST}{f g:SE}{τ:Sd}{h h1:Hd}{r:R D}(e1:c τ h = .ok true h1)(e2:f τ h1=r):ade c f g τ h=r:=by unfold ade;rw [e1,gq,if_pos rfl];exact e2
theorem avn{c:ST}{f g:SE}{τ:Sd}{h h1:Hd}{r:R D}(e1:c τ h = .ok false h1)(e2:g τ h1=r):ade c f g τ h=r:=by unfold ade;rw [e1,gq,if_neg (by simp)];exact e2
end SRC
namespace BF
def walk(step:Nat->Nat->Nat)(r:Nat):List Nat->Nat
 | []=>r
 | c::p=>step (walk step r p) c
section
variable(s:Nat)(step:Nat->Nat->Nat)(K:Nat->Bool)
def fl:Nat->Nat->Bool
 | 0,r=>K r
 | k+1,r=>(List.range s).any λc=>fl k (step r c)
variable{s step K}
end
theorem ab2:∀ (n:Nat) (l:List Nat),l.Nodup->(∀ x∈l,x<n)->l.length<=n
 | 0,l,_,h=>by
  cases l with
  | nil=>exact Nat.le_refl _
  | cons x l=>exact absurd (h x List.mem_cons_self) (by omega)
 | n+1,l,nd,h=>by
  have:=ab2 n (l.erase n) (nd.erase n) λx hx=>by
   have h1:=h x (List.mem_of_mem_erase hx);have h2:x≠n:=λz=>by subst z;exact (List.Nodup.not_mem_erase nd) hx
   omega
  have:=List.length_erase (a:=n) (l:=l)
  split at this<;>omega
end BF
namespace SRC
open PySem PySem.Spec L2 MI AT HND EVX
theorem avo{ck:Hd->Prop}{f:D->Hd->R D}{α:Type}(g F:α->D){h:Hd}(c:ck h):∀ {xs:List α},(∀ x∈xs,f (g x) h = .ok (F x) h)->mapR ck f (xs.map g) h = .ok (xs.map F) h
 | [],_=>by rw [List.map_nil,mapR,if_pos c];rfl
 | x::xs,st=>by
  rw [List.map_cons,mapR,if_pos c,st x List.mem_cons_self];show (mapR _ f (xs.map g) h).bind _=_;rw [avo g F c λy hy=>st y (List.mem_cons_of_mem _ hy)];rfl
theorem aml{fi:SI}{t:D->Option Sd}{fe:SE}{ix:List Nat}{τ:Sd}{h:Hd}{α:Type}{ck:Hd->Prop}(g F:α->D)(xs:List α)(c:ck h)(e:fi τ h = .ok ⟨xs.map g,ck⟩ h)(z:xs.length<=LINE)
  (st:∀ x∈xs,a5q t fe (frs' ix τ) (g x) h = .ok (F x) h):uz fi t fe ix τ h = .ok (.ref h.length) (h++[.lst (xs.map F)]):=by
 unfold uz;rw [e,gq];dsimp only;rw [if_pos (by rw [List.length_map];exact z),avo g F c st]
 rfl
theorem amm{x:Nat}{l:List Nat}:inD (bz x) (l.map bz)=decide (x∈l):=by
 unfold inD;rw [List.any_map]
 by_cases h:x∈l
 ·rw [decide_eq_true h,List.any_eq_true];exact ⟨x,h,by show ((x:Int) == (x:Int))=true;simp⟩
 ·rw [decide_eq_false h,List.any_eq_false]
  intro y hy
  have:x≠y:=λe=>h (e ▸ hy)
  show ¬ ((y:Int) == (x:Int))=true;rw [beq_iff_eq];omega
theorem ab3{x i:Nat}{l:List Nat}{h:Hd}(e:h[i]? = some (.lst (l.map bz))):gIn true (bz x) (.ref i) h = .ok (.bl (!decide (x∈l))) h:=by
 have fl:a1p (bz x)=true/\(l.map bz).all a1p=true:=⟨rfl,by
  rw [List.all_eq_true]
  intro y hy
  obtain ⟨n,_,rfl⟩:=List.mem_map.mp hy
  rfl⟩
 unfold gIn a0u;simp only [e,if_pos fl,if_true,amm]
abbrev cst(l:List Nat):List Int:=l.map λx:Nat=>(x:Int)
theorem amn(l:List Nat):l.map bz=(cst l).map D.int:=by unfold cst;rw [List.map_map];rfl
theorem abx{i:Nat}{l:List Nat}{h:Hd}(e:h[i]? = some (.lst (l.map bz))):a8j (.ref i) h=some (cst l):=by
 unfold a8j;simp only [e];rw [amn,ints_map]
def pos(m:List Nat)(x:Nat):Nat:=(ixI (x:Int) (cst m)).getD 0
theorem aev{m:List Nat}{x:Nat}(h:x∈m):ixI (x:Int) (cst m)=some (pos m x)/\pos m x<m.length:=by
 obtain ⟨j,hj⟩:=aal (n:=(x:Int)) (l:=cst m) (List.mem_map.mpr ⟨x,h,rfl⟩);unfold pos;rw [hj];refine ⟨rfl,?_⟩;have:=(List.getElem?_eq_some_iff.mp (aak hj).1).1;simpa using this
structure Met (n:Nat) (met:List Nat):Prop where
 nd:met.Nodup
 lt:∀ x∈met,x<n
 z:0∈met
theorem Met.len{n:Nat}{met:List Nat}(M:Met n met):met.length<=n:=BF.ab2 n met M.nd M.lt
theorem Met.add{n x:Nat}{met:List Nat}(M:Met n met)(hx:x<n)(h:x ∉ met):Met n (met++[x]):=by
 refine ⟨?_,λy hy=>?_,List.mem_append_left _ M.z⟩
 ·rw [List.nodup_append];refine ⟨M.nd,by simp,λa ha b hb=>?_⟩
  rw [List.mem_singleton] at hb;subst hb;exact λe=>h (e ▸ ha)
 ·rcases List.mem_append.mp hy with z | z
  ·exact M.lt y z
  ·rw [List.mem_singleton] at z;subst z;exact hx
section
variable{A B C:SF}{most n:Nat}{tg:List Nat}{many:Int}{rows:List (List Nat)}{ks:List Int}
def Done(rows:List (List Nat))(met:List Nat)(i:Nat):Prop:=∀ j,j<i->∀ r,met[j]? = some r->∀ x∈(rows[r]?).getD [],x∈met
end
theorem aew{i x:Nat}{m:List Nat}{h:Hd}(e:h[i]? = some (.lst (m.map bz)))(hx:x∈m):a5d (.ref i) [bz x] h = .ok (bz (pos m x)) h:=by
 have q:=abx e;unfold a5d;simp only [q,(aev hx).1]
section
variable{A B C:SF}{most n:Nat}{tg:List Nat}{many:Int}{rows:List (List Nat)}{ks:List Int}
abbrev a5u(rows:List (List Nat))(m:List Nat):List (List Nat):=m.map λr=>((rows[r]?).getD []).map (pos m)
abbrev a6f(ks:List Int)(m:List Nat):List Int:=m.map λr=>(ks[r]?).getD 0
end
end SRC
namespace K21
open PySem PySem.Spec L2 MI
noncomputable def xg:SE :=
 (s2 (gIn false) (sV 0) (sV 1))
noncomputable def ut:SS :=
 (vf (a09 (sA uf (aj (sV 1) (aj (sC (.ty "str")) dj))) (sA ajj (aj (sZ (uz (sIt (sV 1)) t1 xg [0])) dj))))
noncomputable def sy(my:SF):SS :=
 (j5 (sIf (a90 (a87 (sA (nj false 2 my) (aj (sV 0) (aj (sV 1) dj)))))
 (a8n "NoText" (aj (sC (.str "no text of the tongue")) dj))
 sNx)
 (vf (sV 1)))
end K21
namespace K23
open PySem PySem.Spec L2 MI
noncomputable def xg:SE :=
 (s2 (gIn false) (sV 0) (sV 1))
noncomputable def ut:SS :=
 (vf (a09 (sA uf (aj (sV 1) (aj (sC (.ty "str")) dj))) (sA ajj (aj (sZ (uz (sIt (sV 1)) t1 xg [0])) dj))))
noncomputable def m8:SS :=
 (um (sML a3l (sV 6) (aj (s2 gIx (s2 gIx (sV 4) (s2 gIx (sV 6) (s1 a2l (sC (.int 1))))) (sMS a6a (sV 3) (aj (sV 7) dj))) dj)))
noncomputable def o8:SS :=
 (j5 (a5p (sV 0) (a1n 3 (jj (kN 3) (jj (kN 4) (jj (kN 5) a1t)))))
 (j5 (lq 6 (sA yx (aj (sV 1) dj)))
 (j5 (a3x (sIt (sV 2)) (kN 7) m8)
 (vf (sV 6)))))
end K23
namespace K22
open PySem PySem.Spec L2 MI
end K22
namespace K22
open PySem PySem.Spec L2 MI AT HND
section
variable(T:Table)
def stp(r c:Nat):Nat:=(((T.go[r]?).getD [])[c]?).getD 0
def knd(r:Nat):Bool:=decide ((T.ks[r]?).getD (-1) ≠ -1)
end
section
variable{T:Table}(h:T.Ok)
theorem aqx(h:T.Ok)(r c:Nat):stp T r c<T.go.length:=by
 have h1:=h.n1;unfold stp
 cases e:T.go[r]? with
 | none=>simp;omega
 | some row =>
  simp only [Option.getD_some]
  cases e2:row[c]? with
  | none=>simp;omega
  | some x=>simp only [Option.getD_some];exact (h.row row (List.mem_of_getElem? e)).2 x (List.mem_of_getElem? e2)
theorem aqy(h:T.Ok){r:Nat}(hr:r<T.go.length):∃ row:List Nat,T.go[r]? = some row/\row.length=T.tg.length/\(∀ x∈row,x<T.go.length)/\∀ c,c<T.tg.length->row[c]? = some (stp T r c):=by
 refine ⟨T.go[r],List.getElem?_eq_getElem hr,(h.row _ (List.getElem_mem hr)).1,(h.row _ (List.getElem_mem hr)).2,λc hc=>?_⟩;have l:=(h.row _ (List.getElem_mem hr)).1;unfold stp;rw [List.getElem?_eq_getElem hr,Option.getD_some,List.getElem?_eq_getElem (by omega),Option.getD_some]
theorem amo(h:T.Ok){r:Nat}(hr:r<T.go.length):∃ k:Int,T.ks[r]? = some k /\ -1<=k/\knd T r=decide (k ≠ -1):=by
 have l:r<T.ks.length:=by rw [h.kl];exact hr
 refine ⟨T.ks[r],List.getElem?_eq_getElem l,(h.kk _ (List.getElem_mem l)).1,?_⟩;unfold knd;rw [List.getElem?_eq_getElem l,Option.getD_some]
end
section
variable{T:Table}
theorem auc(h:T.Ok){r:Nat}(hr:r<T.go.length):T.go[r]? = some ((List.range T.tg.length).map (stp T r)):=by
 obtain ⟨row,e,l,_,at'⟩:=aqy h hr;rw [e]
 congr 1
 refine List.ext_getElem? λi=>?_
 by_cases hi:i<T.tg.length
 ·rw [at' i hi,List.getElem?_map,List.getElem?_range hi];rfl
 ·rw [List.getElem?_eq_none (by omega),List.getElem?_eq_none (by simp;omega)]
def kI(T:Table)(r:Nat):Int:=(T.ks[r]?).getD (-1)
abbrev avp(T:Table)(r:Nat):D:=a3q ((List.range T.tg.length).map (stp T r))
theorem aex{α:Type}(l:List α)(x:α):atI (l++[x]) (-1)=some x:=by
 have:ixN (l++[x]).length (-1)=some l.length:=by
  unfold ixN;rw [if_neg (by decide),List.length_append,List.length_singleton]
  rw [if_pos (by omega)]
  congr 1
  omega
 unfold atI;rw [this];simp
end
section
variable{T:Table}
theorem ajx(h:T.Ok){r:Nat}(hr:r<T.go.length)(hh:Hd):gIx (.tup (T.go.map a3q)) (bz r) hh = .ok (avp T r) hh:=a00 (by rw [List.getElem?_map,auc h hr];rfl)
end
end K22
namespace K23
open PySem PySem.Spec L2 MI AT HND K22
section
variable{T:Table}
def Pln:D->Prop
 | .non=>True | .bl _=>True | .int _=>True | .str x=>x.cps.toList.length<=1000 | .tup xs=>clos 0 xs | .rol xs=>clos 0 xs | .rod _ xs=>clos 0 xs | _=>False
theorem Pln.clo{d:D}(p:Pln d):clo 0 d:=by
 cases d<;>first | (simp only [Pln] at p;done) | (simp only [Pln] at p;simpa [MI.clo] using p) | simp [MI.clo]
def isStr:D->Bool | .str _=>true | _=>false
theorem aqz{d:D}{h:Hd}(p:Pln d):uf [d, .ty "str"] h = .ok (.bl (isStr d)) h:=by
 cases d<;>first | (simp only [Pln] at p;done) | simp [uf,abk,tyD,a69,isStr]
def psn(T:Table)(c:Nat):Nat:=(a1v (S T.tg) c).toNat
def ldw(T:Table)(r:Nat):List Nat->Nat
 | []=>r
 | c::l=>ldw T (stp T r (psn T c)) l
theorem ab4{c:Nat}(hc:c∈T.tg):a1v (S T.tg) c=(psn T c:Nat)/\psn T c<T.tg.length:=by
 obtain ⟨i,e1,e2,_⟩:=aa6 (T:=S T.tg) (c:=c) (by rw [a2j];exact hc)
 rw [a2j] at e2;unfold psn;rw [e1];exact ⟨by simp,by simpa using (List.getElem?_eq_some_iff.mp e2).1⟩
theorem aey(h:T.Ok):∀ (l:List Nat) {r:Nat},r<T.go.length->ldw T r l<T.go.length
 | [],_,hr=>hr
 | c::l,r,_=>aey h l (aqx h r _)
theorem a7k(c:Nat):∀ (l:List Nat) (r:Nat),ldw T r (l++[c])=stp T (ldw T r l) (psn T c)
 | [],_=>rfl
 | d::l,r=>a7k c l _
theorem aqv(l:List Nat)(h:Hd):adh (.str (S l)) h = .ok ⟨l.map λc=>.str (S [c]),λ_=>True⟩ h:=by
 show R.ok (⟨a0a (S l),λ_=>True⟩:Itm) _=_;unfold a0a;rw [a2j]
theorem ar0{c:Nat}(hc:c∈T.tg)(h:Hd):adv (.str (S T.tg)) [.str (S [c])] h = .ok (bz (psn T c)) h:=by
 show R.ok (D.int (a1v (S T.tg) c)) h=_;rw [(ab4 hc).1]
theorem amq{c:Nat}(hc:c∈T.tg)(h:Hd):a6a (.str (S T.tg)) [.str (S [c])] h = .ok (bz (psn T c)) h:=by
 show (if c∈(S T.tg).cps.toList then R.ok (D.int (a1v (S T.tg) c)) h else .no)=_
 rw [if_pos (by rw [a2j];exact hc),(ab4 hc).1]
theorem aud{g:D->List D->Hd->R D}{f:SE}{k:SA}{τ:Sd}{h h1 h2 h3:Hd}{z:Str}{ds:List D}{v:D}(e1:f τ h = .ok (.str z) h1)(e2:k τ h1 = .ok ds h2)(e3:g (.str z) ds h2 = .ok v h3):sMS g f k τ h = .ok v h3:=by
 unfold sMS;rw [e1,gq];dsimp only;rw [e2,gq,e3]
theorem ar3(h:T.Ok){r c:Nat}(hc:c<T.tg.length)(hh:Hd):gIx (avp T r) (bz c) hh = .ok (bz (stp T r c)) hh:=a00 (by rw [List.getElem?_map,List.getElem?_map,List.getElem?_range hc];rfl)
theorem aue{d e:D}(hd:clo 0 d)(he:clo 0 e):∀ x∈[T.d,d,e],clo 0 x:=by
 intro x hx
 simp only [List.mem_cons,List.not_mem_nil,or_false] at hx
 rcases hx with rfl | rfl | rfl
 ·exact Table.clo
 ·exact hd
 ·exact he
noncomputable def iu:SF:=o9 o8 8
def rms(T:Table)(r:Nat)(l:List Nat):List Nat:=(List.range (l.length+1)).map λi=>ldw T r (l.take i)
theorem ai3(r c:Nat)(l:List Nat):rms T r (l++[c])=rms T r l++[ldw T r (l++[c])]:=by
 unfold rms;rw [List.length_append,List.length_singleton,List.range_succ (n:=l.length+1),List.map_append,List.map_singleton]
 congr 1
 ·refine List.map_congr_left λi hi=>?_;rw [List.mem_range] at hi;rw [List.take_append_of_le_length (by omega)]
 ·rw [List.take_of_length_le (by simp)]
theorem ai4(r:Nat)(l:List Nat):∃ p,rms T r l=p++[ldw T r l]:=by
 unfold rms;rw [List.range_succ,List.map_append,List.map_singleton];exact ⟨_,by rw [List.take_of_length_le (Nat.le_refl _)]⟩
theorem a7l(h:T.Ok){r:Nat}{l:List Nat}(hr:r<T.go.length)(hl:∀ c∈l,c∈T.tg)(ll:l.length<=1000):Pu iu 3 [T.d,bz r, .str (S l)] (.rol ((rms T r l).map bz)):=by
 refine Pu.of rfl (aue (iz _) (j6 _)) (r:=.ok (.ref 0) [.lst ((rms T r l).map bz)]) ?_ (a1f (Nat.le_refl _) rfl (jb _) (by simp)) (v6 (jb _))
 unfold iu;rw [j7];show toR (o8 [some T.d,some (bz r),some (.str (S l)),none,none,none,none,none] [])=_;unfold o8;refine Eq.trans (congrArg toR (zg (abw (bf rfl) rfl))) ?_;refine Eq.trans (congrArg toR (jk (d:=.ref 0) (h1:=[.lst ((rms T r []).map bz)]) rfl)) ?_;refine Eq.trans (congrArg toR (a3e (afw (bf rfl) (aqv l _)))) ?_;have lp:=qw (g:=kN 7) (b:=m8) (λc:Nat=>D.str (S [c]))
  (λpre τ hh=>∃ t7:Option D,τ=[some T.d,some (bz r),some (.str (S l)),some (.str (S T.tg)),some (.tup (T.go.map a3q)),some (.tup (T.ks.map D.int)),some (.ref 0),t7]/\hh=[.lst ((rms T r pre).map bz)]) l
  [some T.d,some (bz r),some (.str (S l)),some (.str (S T.tg)),some (.tup (T.go.map a3q)),some (.tup (T.ks.map D.int)),some (.ref 0),none] [.lst ((rms T r []).map bz)] ?_ ⟨none,rfl,rfl⟩
 ·obtain ⟨τ',h',e,t7,rfl,rfl⟩:=lp;refine Eq.trans (congrArg (λz=>toR (thn z _)) e) ?_;rfl
 ·rintro pre c post τ hh all ⟨t7,rfl,rfl⟩
  have hc:=hl c (by rw [all];simp)
  have pl:pre.length<=l.length:=by rw [all];simp
  refine ⟨_,_,rfl,[some T.d,some (bz r),some (.str (S l)),some (.str (S T.tg)),some (.tup (T.go.map a3q)),some (.tup (T.ks.map D.int)),some (.ref 0),some (.str (S [c]))],[.lst ((rms T r (pre++[c])).map bz)],?_,_,rfl,rfl⟩;unfold m8;obtain ⟨p,ep⟩:=ai4 (T:=T) r pre;have last:∀ hh:Hd,hh[0]? = some (.lst ((rms T r pre).map bz))->gIx (.ref 0) (.int (-1)) hh = .ok (bz (ldw T r pre)) hh:=λhh e0=>by
   rw [a5i];unfold a0u;simp only [e0];rw [ep,List.map_append,List.map_singleton,aex]
  refine Eq.trans (zx (v:=.non) (bf rfl) rfl (arg1 (gj (gj (bf rfl) (gj (bf rfl) (aca (gf _ _ _) (a3u _)) (last _ rfl)) (ajx h (aey h pre hr) _)) (aud (bf rfl) (arg1 (bf rfl)) (amq hc _)) (ar3 h (ab4 hc).2 _))) (zy (xs:=(rms T r pre).map bz) rfl (a01 (by simp [rms];omega)))) ?_
  rw [ai3,List.map_append,a7k];rfl
noncomputable def my:SF:=o9 ut 2
def inT(T:Table)(l:List Nat):Bool:=l.all λc=>decide (c∈T.tg)
theorem ar4(bs:List Bool)(h:Hd):ajj [.rol (bs.map D.bl)] h = .ok (.bl (bs.all id)) h:=by
 unfold ajj;simp only [ago]
theorem ai5{l:List Nat}(ll:l.length<=1000){ce:SE}(hce:∀ c:Nat,ce [some (.str (S [c])),some (.str (S T.tg))] [] = .ok (.bl (decide (c∈T.tg))) []){τ:Sd}(h1:τ[1]? = some (some (.str (S l))))(h0:τ[0]? = some (some (.str (S T.tg)))) :
  sA ajj (aj (sZ (uz (sIt (sV 1)) t1 ce [0])) dj) τ [] = .ok (.bl (inT T l)) []:=by
 have cz:sZ (uz (sIt (sV 1)) t1 ce [0]) τ [] = .ok (.rol ((l.map λc=>decide (c∈T.tg)).map D.bl)) []:=by
  rw [List.map_map];refine yg (a5k (λc:Nat=>D.str (S [c])) (λc=>.bl (decide (c∈T.tg))) l (afw (bf h1) (aqv l _)) (jx (by omega)) λc _=>?_) (lw λc _=>a1j _) (by simp)
  rw [a3c,aaz,aeq,h0];exact hce c
 refine w6 cz ?_;rw [ar4]
 congr 2
 unfold inT;rw [List.all_map];rfl
theorem amr(c:Nat)(h:Hd):gIn false (.str (S [c])) (.str (S T.tg)) h = .ok (.bl (decide (c∈T.tg))) h:=by
 show R.ok (D.bl (decide (c∈(S T.tg).cps.toList))) h=_;rw [a2j]
theorem aez{l:List Nat}(ll:l.length<=1000):Pu my 2 [.str (S T.tg), .str (S l)] (.bl (inT T l)):=by
 refine Pu.of rfl (by intro x hx;simp only [List.mem_cons,List.not_mem_nil,or_false] at hx;rcases hx with rfl | rfl<;>exact j6 _) (r:=.ok (.bl (inT T l)) []) ?_ (nq (a1j _) (by simp)) (a1j _)
 unfold my;rw [j7];show toR (ut [some (.str (S T.tg)),some (.str (S l))] [])=_;unfold ut;exact congrArg toR (qd (aer (qt (bf rfl) (gf _ _ _) (aqz (d:=.str (S l)) (by simp only [Pln,a2j];exact ll))) (ai5 ll (λc=>gj (bf rfl) (bf rfl) (amr c _)) rfl rfl)))
theorem amk{f k:SE}{τ:Sd}{h h1:Hd}(e:f τ h = .ok (.bl false) h1):a09 f k τ h = .ok (.bl false) h1:=by unfold a09;rw [e,gq]
theorem af0{d:D}(p:Pln d)(ns:isStr d=false):Pu my 2 [.str (S T.tg),d] (.bl false):=by
 refine Pu.of rfl (by intro x hx;simp only [List.mem_cons,List.not_mem_nil,or_false] at hx;rcases hx with rfl | rfl;exact j6 _;exact p.clo) (r:=.ok (.bl false) []) ?_ (nq (a1j _) (by simp)) (a1j _)
 unfold my;rw [j7];show toR (ut [some (.str (S T.tg)),some d] [])=_;unfold ut;exact congrArg toR (qd (amk (qt (bf rfl) (gf _ _ _) (by rw [aqz p,ns]))))
end
end K23
namespace K21
open PySem PySem.Spec L2 MI AT HND K22 K23 EVX
section
variable{T:Table}
noncomputable def my:SF:=o9 ut 2
def txt(T:Table):D->Bool
 | .str x=>inT T x.cps.toList
 | _=>false
theorem ams(l:List Nat):txt T (.str (S l))=inT T l:=by simp only [txt,a2j]
theorem aby{d:D}(p:Pln d):Pu my 2 [.str (S T.tg),d] (.bl (txt T d)):=by
 by_cases sd:isStr d=true
 ·obtain ⟨x,rfl⟩:∃ x,d = .str x:=by cases d<;>first | exact ⟨_,rfl⟩ | (simp [isStr] at sd)
  have ll:x.cps.toList.length<=1000:=p;rw [<-ahv x] at ll ⊢;rw [a2j] at ll;rw [ams];exact K23.aez ll
 ·have sd':isStr d=false:=by simpa using sd
  have:txt T d=false:=by cases d<;>first | rfl | (simp [isStr] at sd)
  rw [this];exact K23.af0 p sd'
theorem a1s{a b:D}(ha:MI.clo 0 a)(hb:MI.clo 0 b):∀ x∈[a,b],MI.clo 0 x:=by
 intro x hx
 simp only [List.mem_cons,List.not_mem_nil,or_false] at hx
 rcases hx with rfl | rfl
 ·exact ha
 ·exact hb
theorem af1{a b c:D}(ha:MI.clo 0 a)(hb:MI.clo 0 b)(hc:MI.clo 0 c):∀ x∈[a,b,c],MI.clo 0 x:=by
 intro x hx
 simp only [List.mem_cons,List.not_mem_nil,or_false] at hx
 rcases hx with rfl | rfl | rfl
 ·exact ha
 ·exact hb
 ·exact hc
noncomputable def ig:SF:=o9 (sy my) 2
theorem a6g{d:D}(p:Pln d):ig [.str (S T.tg),d] []=if txt T d=true then .ok d [] else .ex "NoText" []:=by
 unfold ig;rw [j7];show toR (sy my [some (.str (S T.tg)),some d] [])=_;unfold sy;have c:=aby (T:=T) p []
 cases e:txt T d with
 | true =>
  rw [e] at c;rw [if_pos rfl];refine Eq.trans (congrArg toR (ifN (ame (a3d (qt (bf rfl) (bf rfl) c) (xm _))))) ?_;exact congrArg toR (qd (bf rfl))
 | false =>
  rw [e] at c;rw [if_neg (by simp)]
  exact congrArg toR (amg (Eq.trans (ifT (ax2 (a3d (qt (bf rfl) (bf rfl) c) (xm _)))) (amh (arg1 (gf _ _ _)) (by simp))))
theorem a7m{d:D}(p:Pln d)(t:txt T d=true)(h:Hd):zf 2 ig [.str (S T.tg),d] h = .ok d h:=by
 have r:=a6g (T:=T) p;rw [if_pos t] at r;exact a9q (a1s (j6 _) p.clo) r (Pu.of rfl (a1s (j6 _) p.clo) r (nq p.clo (by simp)) p.clo)
theorem a7n{d:D}(p:Pln d)(t:txt T d=false)(h:Hd):zf 2 ig [.str (S T.tg),d] h = .ex "NoText" h:=by
 have r:=a6g (T:=T) p;rw [if_neg (by simp [t])] at r
 exact a9p rfl (a1s (j6 _) p.clo) r
theorem auf(h:Hd):gIx T.d (.int 2) h = .ok (.tup (T.ks.map D.int)) h:=a00 (j:=2) rfl
theorem amt{l:List Nat}(ll:l.length<=1000):Pln (.str (S l)):=by simp only [Pln,a2j];exact ll
theorem ar5{l:List Nat}(hl:∀ c∈l,c∈T.tg):inT T l=true:=by
 unfold inT;rw [List.all_eq_true];exact λc hc=>decide_eq_true (hl c hc)
theorem ajy(h:T.Ok){r:Nat}(hr:r<T.go.length)(hh:Hd):gIx (.tup (T.ks.map D.int)) (bz r) hh = .ok (.int (kI T r)) hh:=by
 obtain ⟨k,e,_⟩:=amo h hr;exact a00 (by rw [List.getElem?_map,e];simp [kI,e])
end
section
variable{T:Table}
abbrev ones(t:List Nat):List D:=t.map λc=>.str (S [c])
theorem join_ones:∀ t:List Nat,Txt.join (S []) (t.map λc=>S [c])=S t:=by
 have e:∀ zs:List Str,Txt.join (S []) zs=Str.join (S []) zs:=PySem.StrLaws.glued_eq_join (S []);have st:∀ (x y:Str) (r:List Str),Str.join (S []) (x::y::r)=x++S []++Str.join (S []) (y::r):=λ_ _ _=>rfl
 intro t
 rw [e]
 induction t with
 | nil=>rfl
 | cons a t ih =>
  cases t with
  | nil=>rfl
  | cons b t =>
   rw [List.map_cons,List.map_cons,st,show S [b]::t.map (λc=>S [c])=(b::t).map (λc=>S [c]) from rfl,ih,amb,amb]
   rfl
theorem a8v:∀ t:List Nat,a9e (ones t)=some (t.map λc=>S [c])
 | []=>rfl
 | a::t=>by
  show (a9e (ones t)).map _=_;rw [a8v t];rfl
theorem ai6(t:List Nat):((t.map λc=>S [c]).map (·.length)).sum=t.length:=by
 induction t with
 | nil=>rfl
 | cons a t ih=>rw [List.map_cons,List.map_cons,List.sum_cons,ih,a9m,List.length_cons];simp;omega
theorem af2{t:List Nat}{h:Hd}(z:t.length<=1000000):adx (.str (S [])) [.rol (ones t)] h = .ok (.str (S t)) h:=by
 unfold adx;simp only [a8v,ai6,a9m,List.length_nil,Nat.mul_zero,Nat.add_zero,join_ones];rw [if_pos (by omega)]
theorem ax3{f:SE}{τ:Sd}{h h':Hd}{xs:List D}(hl:h'.length=h.length)(e:f τ h = .ok (.ref h'.length) (h'++[.lst xs]))(cx:clos h.length xs)(c:∀ o∈h',zj h.length o):sZ f τ h = .ok (.rol xs) h':=by
 unfold sZ;rw [e,a1f (by omega) (by simp) cx (by rw [<-hl];simpa [hl] using c)]
 rw [<-hl];simp
theorem a7o{f:SE}{τ:Sd}{h h1:Hd}{i:Int}(e:f τ h = .ok (.int i) h1):oS f τ h = .ok (some i) h1:=by unfold oS;rw [e];rfl
theorem a3v{f:SE}{lo hi:SO}{τ:Sd}{h h1 h2 h3 h4:Hd}{d v:D}{a b:Option Int}(e:f τ h = .ok d h1)(e1:lo τ h1 = .ok a h2)(e2:hi τ h2 = .ok b h3)(e3:a92 d a b h3 = .ok v h4):a0v f lo hi τ h = .ok v h4:=by
 unfold a0v;rw [e,gq,e1,gq,e2,gq,e3]
theorem ai7(n:Nat)(l:List Nat):clos n (ones l):=lw λc _=>j6 _
theorem a7p(tg:List Nat):∀ l:List Nat,(l.filterMap λc=>if (!decide (c∈tg))=true then some (D.str (S [c])) else none)=ones (l.filter λc => !decide (c∈tg))
 | []=>rfl
 | c::l=>by
  have ih:=a7p tg l
  by_cases h:c∈tg
  ·rw [List.filterMap_cons_none (by rw [decide_eq_true h];rfl),List.filter_cons_of_neg (by simp [h]),ih]
  ·rw [List.filterMap_cons_some (b:=D.str (S [c])) (by rw [decide_eq_false h];rfl),List.filter_cons_of_pos (by simp [h]),ih]
   rfl
theorem ar6(c:Nat)(t:List Nat)(h:Hd):gIn true (.str (S [c])) (.str (S t)) h = .ok (.bl (!decide (c∈t))) h:=by
 show R.ok (D.bl (!decide (c∈(S t).cps.toList))) h=_;rw [a2j]
theorem af3{l:List Nat}{c:Nat}(hc:c∈l)(hn:c ∉ T.tg):txt T (.str (S l))=false:=by
 rw [ams];unfold inT;rw [List.all_eq_false];exact ⟨c,hc,by simpa using hn⟩
end
end K21
namespace SRC
open PySem PySem.Spec L2 MI AT HND EVX K22 K23 K21
section
variable{T:Table}
def rm(T:Table)(l:List Nat)(k:Nat):Nat:=ldw T 0 (l.take k)
def best(T:Table)(a:Nat)(l:List Nat):Nat->D
 | 0=>.non
 | k+1=>if kI T (rm T l k) = -1 then best T a l k else .tup [.int (kI T (rm T l k)),bz (a+k)]
theorem af4{a k:Nat}{l:List Nat}(e:kI T (rm T l k) = -1):best T a l (k+1)=best T a l k:=if_pos e
theorem af5{a k:Nat}{l:List Nat}(e:¬ kI T (rm T l k) = -1):best T a l (k+1) = .tup [.int (kI T (rm T l k)),bz (a+k)]:=if_neg e
theorem kI0(h:T.Ok):kI T 0 = -1:=by unfold kI;rw [h.k0];rfl
theorem auh(h:T.Ok)(a:Nat)(l:List Nat):best T a l 1 = .non:=by
 show (if kI T (rm T l 0) = -1 then best T a l 0 else _)=_
 rw [if_pos (show kI T (rm T l 0) = -1 from kI0 h)]
 rfl
theorem ai8(h:T.Ok)(l:List Nat)(k:Nat):rm T l k<T.go.length:=aey h _ h.n1
theorem amu{l:List Nat}{k c:Nat}(e:l[k]? = some c):rm T l (k+1)=stp T (rm T l k) (psn T c):=by
 unfold rm;rw [List.take_succ,e];exact a7k c _ _
theorem af6(a:Nat)(l:List Nat):∀ k,best T a l k = .non\/∃ x y:Int,best T a l k = .tup [.int x, .int y]
 | 0=>.inl rfl
 | k+1=>by
  unfold best
  split
  ·exact af6 a l k
  ·exact .inr ⟨_,_,rfl⟩
theorem a4i(a:Nat)(l:List Nat)(k:Nat):MI.clo 0 (best T a l k):=by
 rcases af6 (T:=T) a l k with e | ⟨x,y,e⟩<;>rw [e]
 ·exact a9h
 ·exact m5 (du (iz _) (du (iz _) lu))
end
end SRC
namespace PN
open PySem PySem.Spec L2 MI AT HND EVX K22 K23 K21
local macro_rules | `(tactic| walk_at "ev") => `(tactic| simp only [wg,xf,aam,a8k,aan,lq,asb,agz,sIf,vf,um,ac6,put,ah2,a5p,a1n,jj,a1t,kN,sV,sC,s2,s1,sA,aj,dj,sNx,sT,asB,a87,xm,a7f,a7g,a7h,a7i,anb,sOr,a90,a09,aj8,a88,sCh,ade,gq,a5e,MI.a3g,MI.a6d,MI.a5i,apj,a0u,gLt,gGt,gGe,gLe,abu,abv,ahw,ahx,a6e,a0c,ahy,a4g,asf,ash,asi,asj,v9,MI.ac3,a6w,adk,aay,AT.aho,AT.p18,a2z,a3a,a3b,alb,a7e,a2l,a3r,agk,MI.qp,MI.yx,sML,isL,a3l,oN,oS,a0v,a0h,sIt,adh,sRg,a3x,a0g,a89,apn,a9g,abo,ajl,ase,srcOf,  List.length_map,List.length_cons,List.length_nil,List.length_append,List.getElem?_cons_zero,List.getElem?_cons_succ,List.set_cons_zero,List.set_cons_succ,List.nil_append,List.cons_append,AT.ahg,AT.ahh,AT.ahi,AT.ahj,AT.ahk,AT.ahl,AT.ahm,AT.ahn,AT.x10,AT.x20,AT.x21,AT.x30,AT.x31,AT.x32,AT.x40,AT.x41,AT.x42,AT.x43,AT.x50,AT.x51,AT.x52,AT.x53,AT.x54,AT.x60,AT.x61,AT.x62,AT.x63,AT.x64,AT.x65,AT.x70,AT.x71,AT.x72,AT.x73,AT.x74,AT.x75,AT.x76,decide_true,decide_false,reduceIte,Bool.true_and,Bool.and_self,Bool.not_true,Bool.not_false,and_self,true_and,and_true,beq_self_eq_true,Nat.reduceAdd,Nat.reduceLeDiff,Nat.reduceLT,Nat.reducePow,Int.reduceLT,Int.reduceLE,Int.reduceNeg,Int.reduceEq,Int.reduceBEq,Bool.false_eq_true,Bool.true_eq_false,ite_true,ite_false,if_true,if_false, *])
noncomputable def g8:SF:=o9 (a2x ak) 6
theorem amv{o:O}{N most:Nat}{all:List Nat}(P:Pen o N)(hN:N<=999999000)(m1:1<=most)(m2:most<=all.length)(al:all.length<=95)(nd0:all.Nodup) :
  ∃ l o',1<=l.length/\l.length<=most/\l.Nodup/\(∀ c∈l,c∈all)/\Dr g8 3 [.str (S all),bz most] o (.str (S l)) o'/\Pen o' (N+1+most):=by
 obtain ⟨r0,o1,e1,r0a,r0b,P1⟩:=a9r (m:=(most:Int)) P (by omega) (by omega) (by omega)
 have lo:=qw (g:=kN 4) (b:=yj ak) (λi:Nat=>D.int (0+(i:Nat)))
  (λpre τ h=>∃ (rest told:List Nat) (u:O) (t4 t5:Option D),τ=[some (.ref 0),some (.str (S rest)),some (bz most),some (.str (S told)),t4,t5]/\h=[u]/\Pen u (N+1+pre.length)/\told.length=pre.length/\(told++rest).length=all.length/\(told++rest).Nodup/\∀ c∈told++rest,c∈all)
  (List.range (1+r0).toNat) [some (.ref 0),some (.str (S all)),some (bz most),some (.str (S [])),none,none] [o1] ?_
  ⟨all,[],o1,none,none,rfl,rfl,P1,rfl,by simp,by simpa using nd0,by simp⟩
 ·obtain ⟨τ',h',e2,rest,told,u,t4,t5,rfl,rfl,P2,l1,l2,nd,sb⟩:=lo;rw [List.length_range] at P2 l1;refine ⟨told,u,by omega,by omega,(List.nodup_append.mp nd).1,λc hc=>sb c (List.mem_append_left _ hc),Dr.of rfl (a1s (j6 _) (iz _)) P.clo (r:=.ok (.str (S told)) [u]) ?_ (nq (j6 _) (by simpa using nu (by omega) P2.clo)) (j6 _) P2.clo,P2.up (by omega)⟩
  unfold g8;rw [j7];unfold a2x a0y;simp only [List.map_cons,List.map_nil,List.length_cons,List.length_nil,Nat.reduceSub,Nat.reduceAdd,List.replicate,List.cons_append,List.nil_append];have c2:nj false 2 ak [.ref 0, .int (most:Nat)] [o]=_:=e1 0 [o] rfl;have em:("" : Str)=S []:=rfl;have bd:B62 (1+r0):=by unfold B62;omega
  have e2:forL (λ_=>True) (kN 4) (yj ak) (rng 0 (1+r0).toNat) [some (D.ref 0),some (D.str (S all)),some (bz most),some (D.str (S [])),none,none] [o1]=_:=e2
  walk_at "ev"
 ·rintro pre i post τ h al' ⟨rest,told,u,t4,t5,rfl,rfl,P2,l1,l2,nd,sb⟩
  have hlen:pre.length<(1+r0).toNat:=by
   have:=congrArg List.length al'
   simp at this;omega
  rw [List.length_append] at l2;obtain ⟨r,u',e2,ra,rb,P3⟩:=a9r (m:=(rest.length:Nat)) P2 (by omega) (by omega) (by omega)
  obtain ⟨j,rfl⟩:=Int.eq_ofNat_of_zero_le ra;have hj:j<rest.length:=by omega
  have gx:rest[j]? = some rest[j]:=List.getElem?_eq_getElem hj;have pp:=aep told rest j rest[j] gx;refine ⟨_,_,rfl,_,_,?_,rest.take j++rest.drop (j+1),told++[rest[j]],u',some (.int (0+(i:Nat))),some (.int (j:Nat)),rfl,rfl,by simpa [Nat.add_assoc] using P3,by simp [l1],?_,pp.nodup_iff.mp nd,λc hc=>sb c (pp.mem_iff.mpr hc)⟩
  ·unfold yj;have L:∀ n:Nat,n<=95->n<=LINE:=λn hn=>by show n<=16777216;omega
   have c2:=e2 0 [u] rfl;have x1:∀ h,gIx (.str (S rest)) (.int (j:Nat)) h = .ok (.str (S [rest[j]])) h:=λh=>au5 (L _ (by omega)) gx
   have x2:∀ h,xx [.str (S rest)] h = .ok (.int rest.length) h:=λh=>a9n (L _ (by omega))
   have x3:∀ h,jr (.str (S told)) (.str (S [rest[j]])) h = .ok (.str (S (told++[rest[j]]))) h:=λh=>aen (L _ (by simp;omega))
   have x4:∀ h,a92 (.str (S rest)) none (some (j:Int)) h = .ok (.str (S (rest.take j))) h:=λh=>avh j (L _ (by omega))
   have x5:∀ h,a92 (.str (S rest)) (some ((j:Int)+1)) none h = .ok (.str (S (rest.drop (j+1)))) h:=λh=>aeo (j+1) (L _ (by omega))
   have x6:∀ h,jr (.str (S (rest.take j))) (.str (S (rest.drop (j+1)))) h = .ok (.str (S (rest.take j++rest.drop (j+1)))) h:=λh=>aen (L _ (by simp;omega))
   clear al' hlen
   walk_at "ev"
  ·rw [<-pp.length_eq];simpa using l2
end PN
namespace PN
open PySem PySem.Spec L2 MI AT HND EVX K22 K23 K21
abbrev ye(r:List Nat):O:=.lst (r.map bz)
structure Laid (g:Hd) (rows:List (List Nat)) (ks:List Int):Prop where
 go:∃ is:List Nat,g[1]? = some (.lst (is.map D.ref))/\∀ r,r<rows.length->∃ i,is[r]? = some i/\g[i]? = some (ye ((rows[r]?).getD []))
 ks:g[2]? = some (.lst (ks.map D.int))
 clo:∀ o∈g,zj g.length o
theorem a5l{g t:Hd}{i:Nat}{o:O}(e:g[i]? = some o):(g++t)[i]? = some o:=by
 rw [List.getElem?_append_left (List.getElem?_eq_some_iff.mp e).1];exact e
theorem Laid.row{g:Hd}{rows:List (List Nat)}{ks:List Int}(L:Laid g rows ks){r:Nat}(hr:r<rows.length):∃ i,g[i]? = some (ye ((rows[r]?).getD []))/\∀ t:Hd,gIx (.ref 1) (bz r) (g++t) = .ok (.ref i) (g++t):=by
 obtain ⟨is,e,f⟩:=L.go;obtain ⟨i,e1,e2⟩:=f r hr;exact ⟨i,e2,λt=>ab0 (a5l e) (by rw [List.getElem?_map,e1];rfl)⟩
theorem xr(g:Hd)(o:O):(g++[o])[g.length]? = some o:=by simp
theorem ab5(g:Hd)(o o':O):(g++[o]).set g.length o'=g++[o']:=by simp
theorem a8w{i:Nat}{xs:List D}{h:Hd}(e:h[i]? = some (.lst xs)):isL (.ref i) h=true:=by unfold isL;simp only [e]
theorem ai9{i:Nat}{xs:List D}{h:Hd}(e:h[i]? = some (.lst xs)):adh (.ref i) h = .ok ⟨xs,λh=>h[i]? = some (.lst xs)⟩ h:=by unfold adh;simp only [e]
theorem a7q{i:Nat}{l:List Nat}{h:Hd}(e:h[i]? = some (.lst (l.map bz))):xx [.ref i] h = .ok (bz l.length) h:=by rw [amf e,List.length_map]
abbrev τD(tg:List Nat)(tu:Nat)(m:D)(i:Nat)(t6 t7:Option D):Sd:=[some (.str (S tg)),some (.ref 1),some (.ref 2),some (bz tu),some m,some (bz i),t6,t7]
section
variable{g:Hd}{n tu:Nat}{tg:List Nat}{rows:List (List Nat)}{ks:List Int}
theorem aia{i j:Nat}{t6:Option D}{met row:List Nat}(n32:n<=32)(hj:g[j]? = some (ye row))(M:SRC.Met n met)(rx:∀ x∈row,x<n)(Q:Nat->Prop)(qm:∀ x∈met,Q x)(qr:∀ x∈row,Q x) :
  ∃ (met':List Nat) (t6':Option D),forL (λh=>h[j]? = some (ye row)) (kN 6) qx (row.map bz) (τD tg tu (.ref g.length) i t6 none) (g++[ye met]) = .nx (τD tg tu (.ref g.length) i t6' none) (g++[ye met'])/\SRC.Met n met'/\(∃ add,met'=met++add)/\(∀ x∈row,x∈met')/\∀ x∈met',Q x:=by
 have lp:=a7j (g:=kN 6) (b:=qx) (ck:=λh=>h[j]? = some (ye row)) bz
  (λpre τ h=>∃ (met':List Nat) (t6:Option D),τ=τD tg tu (.ref g.length) i t6 none/\h=g++[ye met']/\SRC.Met n met'/\(∃ add,met'=met++add)/\(∀ x∈pre,x∈met')/\∀ x∈met',Q x)
  (by rintro pre τ h ⟨met',t6,rfl,rfl,_⟩;exact a5l hj)
  row [] (τD tg tu (.ref g.length) i t6 none) (g++[ye met]) ?_ ⟨met,t6,rfl,rfl,M,⟨[],by simp⟩,by simp,qm⟩
 ·obtain ⟨τ',h',e,met',t6',rfl,rfl,M',ad,al,aq⟩:=lp;exact ⟨met',t6',e,M',ad,by simpa using al,aq⟩
 ·rintro pre x post τ h all ⟨met',t6,rfl,rfl,M',⟨add,rfl⟩,al,aq⟩
  rw [List.nil_append] at all;have hx:x<n:=rx x (by rw [all];simp)
  have hq:Q x:=qr x (by rw [all];simp)
  unfold qx
  by_cases h:x∈met++add
  ·refine ⟨_,_,rfl,τD tg tu (.ref g.length) i (some (bz x)) none,g++[ye (met++add)],?_,met++add,_,rfl,rfl,M',⟨add,rfl⟩,λy hy=>?_,aq⟩
   ·refine Eq.trans (ifF (tof (gj (bf rfl) (bf rfl) ((SRC.ab3 (l:=met++add) (xr _ _)).trans (by rw [decide_eq_true h];rfl))))) rfl
   ·rcases List.mem_append.mp hy with z | z
    ·exact al y z
    ·rw [List.mem_singleton] at z;subst z;exact h
  ·refine ⟨_,_,rfl,τD tg tu (.ref g.length) i (some (bz x)) none,g++[ye (met++add++[x])],?_,met++add++[x],_,rfl,rfl,M'.add hx h,⟨add++[x],by simp⟩,λy hy=>?_,λy hy=>(List.mem_append.mp hy).elim (aq y) λz=>by rw [List.mem_singleton] at z;subst z;exact hq⟩
   ·have ln:=M'.len;refine Eq.trans (ifT (tof (gj (bf rfl) (bf rfl) ((SRC.ab3 (l:=met++add) (xr _ _)).trans (by rw [decide_eq_false h];rfl))))) ?_
    have ap:=zy (h:=g++[ye (met++add)]) (a:=bz x) (xr g _) (by rw [List.length_map];exact a01 (by omega))
    rw [ab5] at ap;unfold ye;rw [List.map_append (l₁:=met++add)];exact zx (bf rfl) (a8w (xr g _)) (arg1 (bf rfl)) ap
   ·rcases List.mem_append.mp hy with z | z
    ·exact List.mem_append_left _ (al y z)
    ·rw [List.mem_singleton] at z;subst z;simp
theorem amw{s:Nat}(L:Laid g rows ks)(n1:1<=n)(n32:n<=32)(lr:rows.length=n)(rr:∀ r∈rows,ai1 s n r)(Q:Nat->Prop)(q0:Q 0)(qs:∀ r,Q r->∀ x∈(rows[r]?).getD [],Q x) :
  ∃ (met:List Nat) (i:Nat) (t6:Option D),sWh vo qy 100000 (τD tg tu (.ref g.length) 0 none none) (g++[ye [0]]) = .nx (τD tg tu (.ref g.length) i t6 none) (g++[ye met])/\SRC.Met n met/\met[0]? = some 0/\(∀ r∈met,∀ x∈(rows[r]?).getD [],x∈met)/\∀ r∈met,Q r:=by
 have w:=am1 (c:=vo) (f:=qy)
  (λm τ h=>∃ (met:List Nat) (i:Nat) (t6:Option D),τ=τD tg tu (.ref g.length) i t6 none/\h=g++[ye met]/\m=32 - i/\i<=met.length/\SRC.Met n met/\met[0]? = some 0/\SRC.Done rows met i/\∀ r∈met,Q r)
  (λτ h=>∃ (met:List Nat) (i:Nat) (t6:Option D),τ=τD tg tu (.ref g.length) i t6 none/\h=g++[ye met]/\SRC.Met n met/\met[0]? = some 0/\SRC.Done rows met met.length/\∀ r∈met,Q r)
  (λ_ _=>False) ?_ 32 100000 (τD tg tu (.ref g.length) 0 none none) (g++[ye [0]]) (by omega)
  ⟨[0],0,none,rfl,rfl,rfl,by simp,⟨by simp,by simp;omega,by simp⟩,rfl,λj hj=>absurd hj (Nat.not_lt_zero j),by simpa using q0⟩
 ·rcases w with ⟨τ',h',e,met,i,t6,rfl,rfl,M,m0,D,aq⟩ | ⟨_,_,_,z⟩
  ·refine ⟨met,i,t6,e,M,m0,λr hr x hx=>?_,aq⟩;obtain ⟨j,hj,rfl⟩:=List.getElem_of_mem hr;exact D j hj _ (List.getElem?_eq_getElem hj) x hx
  ·exact z.elim
 ·rintro m τ h ⟨met,i,t6,rfl,rfl,rfl,il,M,m0,D,aq⟩
  have ln:=M.len
  by_cases lt:i<met.length
  ·refine .inr ⟨_,tof (gj (bf rfl) (w6 (bf rfl) (a7q (xr g _))) (aqp (by omega))), .inl ?_⟩
   have rl:met[i]<n:=M.lt _ (List.getElem_mem lt);have gm:met[i]? = some met[i]:=List.getElem?_eq_getElem lt
   generalize met[i]=r at rl gm
   have gr:rows[r]? = some ((rows[r]?).getD []):=by rw [List.getElem?_eq_getElem (by omega)];rfl
   have rn:=rr _ (List.mem_of_getElem? gr);obtain ⟨j,hj,gx⟩:=L.row (r:=r) (by omega)
   obtain ⟨met',t6',e,M',⟨add,ea⟩,al,aq'⟩:=aia (tg:=tg) (tu:=tu) (i:=i) (t6:=t6) n32 hj M rn.2 Q aq (qs r (aq r (List.mem_of_getElem? gm)));refine ⟨τD tg tu (.ref g.length) (i+1) t6' none,g++[ye met'],32 - (i+1),?_,by omega,met',i+1,t6',rfl,rfl,rfl,by rw [ea,List.length_append];omega,M',?_,λk hk q hq x hx=>?_,aq'⟩
   ·unfold qy;refine Eq.trans (a3e (afw (gj (bf rfl) (gj (bf rfl) (bf rfl) (ab0 (xs:=met.map bz) (xr g _) (y:=bz r) (by rw [List.getElem?_map,gm];rfl))) (gx _)) (ai9 (a5l hj)))) ?_
    refine Eq.trans (congrArg (λz=>MI.thn z _) e) ?_;rw [xf];exact ahz (gj (bf rfl) (gf _ _ _) v9)
   ·rw [ea,List.getElem?_append_left (by cases met with | nil=>simp at m0 | cons _ _=>simp)];exact m0
   ·by_cases je:k=i
    ·subst je;rw [ea,List.getElem?_append_left lt,gm] at hq;cases hq
     exact al x hx
    ·have jl:k<met.length:=by omega
     rw [ea,List.getElem?_append_left jl] at hq;rw [ea];exact List.mem_append_left _ (D k (by omega) q hq x hx)
  ·refine .inl ⟨_,tof (gj (bf rfl) (w6 (bf rfl) (a7q (xr g _))) (aqq (by omega))),met,i,t6,rfl,rfl,M,m0,?_,aq⟩
   rw [show met.length=i by omega];exact D
end
noncomputable def j4:SF:=o9 wj 8
section
variable{g:Hd}{n tu:Nat}{tg:List Nat}{rows:List (List Nat)}{ks:List Int}
theorem aib{i:Nat}{xs:List D}{lo hi:Option Int}{h:Hd}(e:h[i]? = some (.lst xs)):a92 (.ref i) lo hi h = .ok (.ref h.length) (h++[.lst (a2r xs lo hi)]):=by
 show gSl (.ref i) lo hi h=_;unfold gSl;simp only [e]
abbrev turned(t:Nat)(met:List Nat):List Nat:=[0]++met.drop t++(met.drop 1).take (t - 1)
theorem a9t{t:Nat}{met:List Nat}(t1:1<=t)(m0:met[0]? = some 0):(turned t met).Perm met:=by
 cases met with
 | nil=>simp at m0
 | cons a l =>
  have:a=0:=by simpa using m0
  subst this;obtain ⟨k,rfl⟩:∃ k,t=k+1:=⟨t - 1,by omega⟩
  show ([0]++l.drop k++(l.take k)).Perm (0::l);rw [List.append_assoc];refine List.Perm.cons 0 ?_;show (l.drop k++l.take k).Perm l;have p:(l.drop k++l.take k).Perm (l.take k++l.drop k):=List.perm_append_comm
  rwa [List.take_append_drop] at p
theorem amx{i:Nat}{t6:Option D}{met:List Nat}(L:Laid g rows ks)(n32:n<=32)(lr:rows.length=n)(lk:ks.length=n)(t6':tg.length<=6)(rr:∀ r∈rows,ai1 tg.length n r)(M:SRC.Met n met)(m0:met[0]? = some 0)(cl:∀ r∈met,∀ x∈(rows[r]?).getD [],x∈met) :
  ∃ m:List Nat,m.Perm met/\m[0]? = some 0/\toR (j5 (lq 3 (s2 jr (sC (.int 1)) (s2 a6w (sV 3) (sA xx (aj (sV 4) dj)))))
   (j5 (lq 4 (s2 jr (sZ (s2 jr (sZ (sA yx (aj (sC (.int 0)) dj))) (sZ (a0v (sV 4) (oS (sV 3)) oN)))) (sZ (a0v (sV 4) (oS (sC (.int 1))) (oS (sV 3))))))
   (j5 (lq 7 (sA ou (aj (sZ (uz (sIt (sV 4)) t1 qz [1,4])) dj)))
   (vf (sA qp (aj (sV 0) (aj (sV 7) (aj (sA ou (aj (sZ (uz (sIt (sV 4)) t1 sr [2])) dj)) dj))))))) (τD tg tu (.ref g.length) i t6 none) (g++[ye met])) =
   .ok (.tup [.str (S tg), .tup ((SRC.a5u rows m).map a3q), .tup ((SRC.a6f ks m).map D.int)]) (g++[ye met]++[ye m]):=by
 have ln:=M.len;have lp:1<=met.length:=by cases met with | nil=>simp at m0 | cons _ _=>simp
 let t:Nat:=1+tu % met.length
 have et:(1:Int)+(tu:Int) % (met.length:Int)=((t:Nat):Int):=by show _=((1+tu % met.length:Nat):Int);omega
 let m:=turned t met
 have pm:m.Perm met:=a9t (by show 1<=1+tu % met.length;omega) m0
 have lm:m.length=met.length:=pm.length_eq
 let G:Hd:=g++[ye met]
 let H:Hd:=G++[ye m]
 have gc:∀ o∈G,zj G.length o:=by
  intro o ho
  rcases List.mem_append.mp ho with z | z
  ·exact nu (by simp [G]) (L.clo o z)
  ·rw [List.mem_singleton] at z;subst z;exact nu (Nat.zero_le _) (jb _)
 have hc:∀ o∈H,zj H.length o:=by
  intro o ho
  rcases List.mem_append.mp ho with z | z
  ·exact nu (by simp [H]) (gc o z)
  ·rw [List.mem_singleton] at z;subst z;exact nu (Nat.zero_le _) (jb _)
 have hm:H[G.length]? = some (ye m):=xr G _;have rw':∀ r∈m,r<rows.length/\ai1 tg.length n ((rows[r]?).getD [])/\∀ x∈(rows[r]?).getD [],x∈m:=λr hr=>by
  have h1:=M.lt r (pm.mem_iff.mp hr);have e:rows[r]? = some ((rows[r]?).getD []):=by rw [List.getElem?_eq_getElem (by omega)];rfl
  exact ⟨by omega,rr _ (List.mem_of_getElem? e),λx hx=>pm.mem_iff.mpr (cl r (pm.mem_iff.mp hr) x hx)⟩
 have s0:∀ τ:Sd,sZ (sA yx (aj (sC (.int 0)) dj)) τ G = .ok (.rol ([0].map bz)) G:=λτ=>yg (w6 (gf _ _ _) rfl) (jb [0]) gc;have s1:∀ τ:Sd,τ[4]? = some (some (.ref g.length))->τ[3]? = some (some (bz t))->sZ (a0v (sV 4) (oS (sV 3)) oN) τ G = .ok (.rol ((met.drop t).map bz)) G:=λτ h4 h3=>by
  refine yg ((a3v (bf h4) (a7o (bf h3)) rfl (aib (xr g _))).trans ?_) (jb _) gc;rw [a4u,List.map_drop]
 have s2':∀ τ:Sd,τ[4]? = some (some (.ref g.length))->τ[3]? = some (some (bz t))->sZ (s2 jr (sZ (sA yx (aj (sC (.int 0)) dj))) (sZ (a0v (sV 4) (oS (sV 3)) oN))) τ G = .ok (.rol (([0]++met.drop t).map bz)) G:=λτ h4 h3=>by
  refine yg (gj (s0 τ) (s1 τ h4 h3) ?_) (jb _) gc;rw [a74 (xs:=[0].map bz) (ys:=(met.drop t).map bz) rfl rfl,if_pos (jx (by simp only [List.length_map,List.length_drop,List.length_singleton];omega)),<-List.map_append]
 have s3:∀ τ:Sd,τ[4]? = some (some (.ref g.length))->τ[3]? = some (some (bz t))->sZ (a0v (sV 4) (oS (sC (.int 1))) (oS (sV 3))) τ G = .ok (.rol (((met.drop 1).take (t - 1)).map bz)) G:=λτ h4 h3=>by
  refine yg ((a3v (bf h4) (a7o (gf _ _ _)) (a7o (bf h3)) (aib (xr g _))).trans ?_) (jb _) gc;rw [show (1:Int)=((1:Nat):Int) from rfl,aks,List.map_take,List.map_drop]
 have s4:∀ τ:Sd,τ[4]? = some (some (.ref g.length))->τ[3]? = some (some (bz t))->s2 jr (sZ (s2 jr (sZ (sA yx (aj (sC (.int 0)) dj))) (sZ (a0v (sV 4) (oS (sV 3)) oN)))) (sZ (a0v (sV 4) (oS (sC (.int 1))) (oS (sV 3)))) τ G = .ok (.ref G.length) H:=λτ h4 h3=>by
  refine gj (s2' τ h4 h3) (s3 τ h4 h3) ?_;rw [a74 (xs:=([0]++met.drop t).map bz) (ys:=((met.drop 1).take (t - 1)).map bz) rfl rfl,if_pos (jx (by simp only [List.length_map,List.length_append,List.length_take,List.length_drop,List.length_singleton];omega)),<-List.map_append]
 have z1:∀ t7:Option D,sZ (uz (sIt (sV 4)) t1 qz [1,4]) (τD tg t (.ref G.length) i t6 t7) H = .ok (.rol ((SRC.a5u rows m).map a3q)) H:=λt7=>by
  rw [List.map_map];refine yg (SRC.aml (ck:=λh=>h[G.length]? = some (ye m)) bz (a3q ∘ λr=>((rows[r]?).getD []).map (SRC.pos m)) m hm (afw (bf rfl) (ai9 hm)) (jx (by omega)) λr hr=>?_) (lw λx _=>m5 (jb _)) hc
  obtain ⟨e1,⟨e2,_⟩,e3⟩:=rw' r hr;obtain ⟨j,hj,gx⟩:=L.row e1;have hj':H[j]? = some (ye ((rows[r]?).getD [])):=a5l (a5l hj);have gx':gIx (.ref 1) (bz r) H = .ok (.ref j) H:=by have:=gx ([ye met]++[ye m]);rwa [<-List.append_assoc] at this
  rw [a3c];unfold qz;have z2:sZ (uz (sIt (s2 gIx (sV 1) (sV 0))) t1 vp [2]) (some (bz r)::frs' [1,4] (τD tg t (.ref G.length) i t6 t7)) H = .ok (.rol ((((rows[r]?).getD []).map (SRC.pos m)).map bz)) H:=by
   rw [List.map_map];refine yg (SRC.aml (ck:=λh=>h[j]? = some (ye ((rows[r]?).getD []))) bz (bz ∘ SRC.pos m) ((rows[r]?).getD []) hj' (afw (gj (bf rfl) (bf rfl) gx') (ai9 hj')) (jx (by omega)) λx hx=>?_) (lw λx _=>iz _) hc
   rw [a3c];unfold vp;exact aqn (bf rfl) (a8w hm) (arg1 (bf rfl)) (SRC.aew hm (e3 x hx))
  exact w6 z2 rfl
 have z3:∀ t7:Option D,sZ (uz (sIt (sV 4)) t1 sr [2]) (τD tg t (.ref G.length) i t6 t7) H = .ok (.rol ((SRC.a6f ks m).map D.int)) H:=λt7=>by
  rw [List.map_map];refine yg (SRC.aml (ck:=λh=>h[G.length]? = some (ye m)) bz (D.int ∘ λr=>(ks[r]?).getD 0) m hm (afw (bf rfl) (ai9 hm)) (jx (by omega)) λr hr=>?_) (lw λx _=>iz _) hc
  have h1:=M.lt r (pm.mem_iff.mp hr);have e:ks[r]? = some ((ks[r]?).getD 0):=by rw [List.getElem?_eq_getElem (by omega)];rfl
  rw [a3c];unfold sr;exact gj (bf rfl) (bf rfl) (ab0 (a5l (a5l L.ks)) (by rw [List.getElem?_map,e];rfl))
 refine ⟨m,pm,rfl,?_⟩;refine Eq.trans (congrArg toR (jk (gj (gf _ _ _) (gj (bf rfl) (w6 (bf rfl) (a7q (xr g _))) (aqo (by omega))) v9))) ?_
 rw [et];refine Eq.trans (congrArg toR (jk (s4 _ rfl rfl))) ?_;refine Eq.trans (congrArg toR (jk (w6 (z1 _) (show ou [.rol ((SRC.a5u rows m).map a3q)] H = .ok (.tup ((SRC.a5u rows m).map a3q)) H from rfl)))) ?_
 exact congrArg toR (qd (a8t (bf rfl) (bf rfl) (w6 (z3 _) (show ou [.rol ((SRC.a6f ks m).map D.int)] H = .ok (.tup ((SRC.a6f ks m).map D.int)) H from rfl)) aqr))
def Rch(rows:List (List Nat))(r:Nat):Prop:=∀ Q:Nat->Prop,Q 0->(∀ r,Q r->∀ x∈(rows[r]?).getD [],Q x)->Q r
theorem Rch.zero(rows:List (List Nat)):Rch rows 0:=λ_ q _=>q
theorem Rch.step{rows:List (List Nat)}{r x:Nat}(h:Rch rows r)(hx:x∈(rows[r]?).getD []):Rch rows x:=λQ q0 qs=>qs r (h Q q0 qs) x hx
theorem ajz{m:List Nat}{x:Nat}(h:x∈m):m[SRC.pos m x]? = some x:=by
 have e:=(aak (SRC.aev h).1).1;unfold SRC.cst at e;rw [List.getElem?_map] at e
 cases q:m[SRC.pos m x]? with
 | none=>rw [q] at e;cases e
 | some y =>
  rw [q] at e;have e:(y:Int)=(x:Int):=by simpa using e
  congr 1
  omega
theorem ak0{m:List Nat}{x i:Nat}(nd:m.Nodup)(h:m[i]? = some x):SRC.pos m x=i:=by
 have h1:=ajz (List.mem_of_getElem? h);obtain ⟨a,ea⟩:=List.getElem?_eq_some_iff.mp h;obtain ⟨b,eb⟩:=List.getElem?_eq_some_iff.mp h1;have pw:=List.pairwise_iff_getElem.mp nd
 rcases Nat.lt_trichotomy (SRC.pos m x) i with z | z | z
 ·exact absurd (eb.trans ea.symm) (pw _ _ b a z)
 ·exact z
 ·exact absurd (ea.trans eb.symm) (pw _ _ a b z)
theorem amy{rows:List (List Nat)}{m:List Nat}(nd:m.Nodup)(m0:m[0]? = some 0)(cl:∀ r∈m,∀ x∈(rows[r]?).getD [],x∈m)(rc:∀ r∈m,Rch rows r):∀ r,r<(SRC.a5u rows m).length->Rch (SRC.a5u rows m) r:=by
 intro r hr Q q0 qs
 have hr':r<m.length:=by simpa using hr
 have er:m[r]? = some m[r]:=List.getElem?_eq_getElem hr';have key:=(rc m[r] (List.getElem_mem hr') (λx=>x∈m/\Q (SRC.pos m x)) ⟨List.mem_of_getElem? m0,by rw [ak0 nd m0];exact q0⟩ λa ⟨ha,qa⟩ x hx=>⟨cl a ha x hx,qs _ qa _ (by
  rw [List.getElem?_map,ajz ha];exact List.mem_map.mpr ⟨x,hx,rfl⟩)⟩).2
 rwa [ak0 nd er] at key
theorem ar7(L:Laid g rows ks)(T1:Tongue tg)(n1:1<=n)(n32:n<=32)(lr:rows.length=n)(lk:ks.length=n)(k0:ks[0]? = some (-1))(kk:∀ k∈ks,KOk k)(rr:∀ r∈rows,ai1 tg.length n r) :
  ∃ (T:Table) (x y:O),T.Ok/\T.tg=tg/\T.go.length<=n/\(∀ r,r<T.go.length->Rch T.go r)/\j4 [.str (S tg), .ref 1, .ref 2,bz tu] g = .ok T.d (g++[x]++[y]):=by
 obtain ⟨met,i,t6,ew,M,m0,cl,rc⟩:=amw (tg:=tg) (tu:=tu) L n1 n32 lr rr (Rch rows) (Rch.zero rows) λr h x hx=>h.step hx;obtain ⟨m,pm,mz,ee⟩:=amx (tg:=tg) (tu:=tu) (i:=i) (t6:=t6) L n32 lr lk T1.hi rr M m0 cl;have lm:m.length=met.length:=pm.length_eq;have ln:=M.len;have ml:1<=m.length:=by cases m with | nil=>simp at mz | cons _ _=>simp
 let T:Table:=⟨tg,SRC.a5u rows m,SRC.a6f ks m⟩
 have ok:T.Ok:=by
  refine ⟨T1,by simpa [T] using ml,by show (SRC.a5u rows m).length<=32;rw [List.length_map];omega,λr hr=>?_,by simp [T],?_,λk hk=>?_⟩
  ·obtain ⟨q,hq,rfl⟩:=List.mem_map.mp hr;have h1:=M.lt q (pm.mem_iff.mp hq);have e:rows[q]? = some ((rows[q]?).getD []):=by rw [List.getElem?_eq_getElem (by omega)];rfl
   obtain ⟨a,b⟩:=rr _ (List.mem_of_getElem? e);refine ⟨by rw [List.length_map];exact a,λx hx=>?_⟩
   obtain ⟨v,hv,rfl⟩:=List.mem_map.mp hx;show SRC.pos m v<(SRC.a5u rows m).length;rw [List.length_map];exact (SRC.aev (pm.mem_iff.mpr (cl q (pm.mem_iff.mp hq) v hv))).2
  ·show (SRC.a6f ks m)[0]? = _;rw [List.getElem?_map,mz];show some ((ks[0]?).getD 0)=_;rw [k0];rfl
  ·obtain ⟨q,hq,rfl⟩:=List.mem_map.mp hk;have h1:=M.lt q (pm.mem_iff.mp hq);have e:ks[q]? = some ((ks[q]?).getD 0):=by rw [List.getElem?_eq_getElem (by omega)];rfl
   exact kk _ (List.mem_of_getElem? e)
 refine ⟨T,ye met,ye m,ok,rfl,by show (SRC.a5u rows m).length<=n;rw [List.length_map];omega,amy (pm.nodup_iff.mpr M.nd) mz (λr hr x hx=>pm.mem_iff.mpr (cl r (pm.mem_iff.mp hr) x hx)) (λr hr=>rc r (pm.mem_iff.mp hr)),?_⟩
 unfold j4;rw [j7];show toR (wj [some (.str (S tg)),some (.ref 1),some (.ref 2),some (bz tu),none,none,none,none] g)=_;unfold wj;refine Eq.trans (congrArg toR (jk (d:=.ref g.length) (h1:=g++[ye [0]]) rfl)) ?_;refine Eq.trans (congrArg toR (jk (gf _ _ _))) ?_;refine Eq.trans (congrArg toR (zg ew)) ?_;exact ee
end
noncomputable def n6:SF:=o9 (a0j j4 ak) 11
abbrev refs(k:Nat):List D:=(List.range k).map λj=>D.ref (3+j)
abbrev HT(u:O)(is:List D)(ks:List Int)(t:Hd):Hd:=u::.lst is::.lst (ks.map D.int)::t
abbrev τP(tg:List Nat)(most many:Nat)(road often:Int)(i r k:Option D):Sd:=[some (.ref 0),some (.str (S tg)),some (bz most),some (bz many),some (.int road),some (.int often),some (.ref 1),some (.ref 2),i,r,k]
theorem af7(u:O)(is:List D)(ks:List Int)(t:Hd)(x:O):(HT u is ks (t++[x]))[3+t.length]? = some x:=by
 rw [show 3+t.length=t.length+1+1+1 by omega]
 simp
theorem ar8(u:O)(is:List D)(ks:List Int)(t:Hd)(x y:O):(HT u is ks (t++[x])).set (3+t.length) y=HT u is ks (t++[y]):=by
 rw [show 3+t.length=t.length+1+1+1 by omega]
 simp
section
variable{u:O}{N n most:Nat}{tg:List Nat}{is:List D}{ks:List Int}{t:Hd}{road often:Int}
theorem tk{m:Int}(P:Pen u N)(hN:N<=999999000)(m0:0<m)(m1:m<1073741824):∃ (r:Int) (u':O),0<=r/\r<m/\Pen u' (N+1)/\∀ h:Hd,nj false 2 ak [.ref 0, .int m] (u::h) = .ok (.int r) (u'::h):=by
 obtain ⟨r,u',e,r0,r1,P'⟩:=a9r P (by omega) m0 m1
 exact ⟨r,u',r0,r1,P',λh=>e 0 _ rfl⟩
theorem af8{i r k:Option D}(P:Pen u N)(hN:N<=999990000)(t6:tg.length<=6)(n1:1<=n)(n32:n<=32) :
  ∃ (u':O) (row:List Nat),ai1 tg.length n row/\Pen u' (N+6)/\uz (sIt (sV 1)) t1 (wu j4 ak) [0,3] (τP tg most n road often i r k) (HT u is ks t) = .ok (.ref (3+t.length)) (HT u' is ks (t++[ye row])):=by
 have mp:=a76 (f:=a5q t1 (wu j4 ak) (frs' [0,3] (τP tg most n road often i r k))) (λc:Nat=>D.str (S [c]))
  (λpre ys h=>∃ (u':O) (row:List Nat),h=HT u' is ks t/\Pen u' (N+pre.length)/\ys=row.map bz/\row.length=pre.length/\∀ x∈row,x<n)
  tg [] [] (HT u is ks t) ?_ ⟨u,[],rfl,P,rfl,rfl,by simp⟩
 ·obtain ⟨zs,h',em,u',row,rfl,P',ez,rl,rx⟩:=mp;rw [List.nil_append] at ez rl P';subst ez;refine ⟨u',row,⟨rl,rx⟩,P'.up (by omega),?_⟩
  unfold uz;rw [afw (bf rfl) (PAP.aqv tg _),gq];dsimp only;rw [if_pos (by rw [List.length_map];exact jx (by omega)),em,gq]
  show R.ok (D.ref (HT u' is ks t).length) (HT u' is ks t++[ye row])=_;rw [show (HT u' is ks t).length=3+t.length by simp;omega]
  rfl
 ·rintro pre c post ys h all ⟨u',row,rfl,P',rfl,rl,rx⟩
  rw [List.nil_append] at all;have pl:pre.length<tg.length:=by rw [all];simp
  obtain ⟨x,u2,x0,x1,P2,c1⟩:=tk (m:=(n:Int)) P' (by omega) (by omega) (by omega)
  obtain ⟨j,rfl⟩:=Int.eq_ofNat_of_zero_le x0;refine ⟨bz j,HT u2 is ks t,?_,u2,row++[j],rfl,P2.up (by rw [List.length_append,List.length_singleton];omega),by rw [List.map_append];rfl,by rw [List.length_append,List.length_append,List.length_singleton,List.length_singleton,rl],λy hy=>?_⟩
  ·rw [a3c];unfold wu;exact qt (bf rfl) (bf rfl) (c1 _)
  ·rcases List.mem_append.mp hy with z | z
   ·exact rx y z
   ·rw [List.mem_singleton] at z;subst z;omega
theorem turn{i:Nat}{r k:Option D}(P:Pen u N)(hN:N<=999990000)(t1:1<=tg.length)(t6:tg.length<=6)(n1:1<=n)(n32:n<=32)(hi:i<n)(o2:0<often)(o3:often<10)(il:is.length<=100)(kl:ks.length<=100)(k0:ks.length=i) :
  ∃ (u':O) (row:List Nat) (kd:Int) (r' k':Option D),ai1 tg.length n row/\KOk kd/\(i=0->kd = -1)/\Pen u' (N+9) /\
   ur j4 ak (τP tg most n road often (some (bz i)) r k) (HT u is ks t) = .nx (τP tg most n road often (some (bz i)) r' k') (HT u' (is++[.ref (3+t.length)]) (ks++[kd]) (t++[ye row])):=by
 obtain ⟨u1,row,⟨l1,x1⟩,P1,e1⟩:=af8 (most:=most) (road:=road) (often:=often) (i:=some (bz i)) (r:=r) (k:=k) (is:=is) (ks:=ks) (t:=t) P hN t6 n1 n32
 let τ1:Sd:=τP tg most n road often (some (bz i)) (some (.ref (3+t.length))) k
 obtain ⟨u2,row2,⟨l2,x2⟩,P2,e2⟩:∃ (u2:O) (row2:List Nat),ai1 tg.length n row2/\Pen u2 (N+7)/\∀ g:SS,j5 (sIf (sT (s2 hEq (sV 4) (sC (.int 0))))
   (ac6 (sA a3r (aj (s2 jr (sV 8) (sC (.int 1))) (aj (s2 ac3 (sV 3) (sC (.int 1))) dj))) (sV 9) (sA (nj false 2 ak) (aj (sV 0) (aj (sA xx (aj (sV 9) dj)) dj))))
   sNx) g τ1 (HT u1 is ks (t++[ye row]))=g τ1 (HT u2 is ks (t++[ye row2])):=by
  by_cases hr:road=0
  ·obtain ⟨x,u2,x0,x1',P2,c1⟩:=tk (m:=(row.length:Int)) P1 (by omega) (by omega) (by omega)
   obtain ⟨j,rfl⟩:=Int.eq_ofNat_of_zero_le x0
   let v:Nat:=if n - 1<i+1 then n - 1 else i+1
   have ev:a3r [.int ((i:Int)+1), .int ((n:Int) - 1)] (HT u1 is ks (t++[ye row])) = .ok (bz v) (HT u1 is ks (t++[ye row])):=by
    show R.ok (D.int (if (n:Int) - 1<(i:Int)+1 then (n:Int) - 1 else (i:Int)+1)) _=_
    have:(if (n:Int) - 1<(i:Int)+1 then (n:Int) - 1 else (i:Int)+1)=((v:Nat):Int):=by show _=((if n - 1<i+1 then n - 1 else i+1:Nat):Int);split<;>split<;>omega
    rw [this]
   have vn:v<n:=by show (if n - 1<i+1 then n - 1 else i+1)<n;split<;>omega
   refine ⟨u2,row.set j v,⟨by rw [List.length_set,l1],λy hy=>?_⟩,P2,λg=>?_⟩
   ·rcases List.mem_or_eq_of_mem_set hy with z | z
    ·exact x1 y z
    ·rw [z];exact vn
   ·refine zg (Eq.trans (ifT (tof (gj (bf rfl) (gf _ _ _) (aes hr)))) (au9 (qt (gj (bf rfl) (gf _ _ _) v9) (gj (bf rfl) (gf _ _ _) (ajv _ _)) ev) (bf rfl) (qt (bf rfl) (w6 (bf rfl) (a7q (af7 _ _ _ _ _))) (c1 _)) ?_));have pu:=aua (v:=bz v) (af7 u2 is ks t (ye row)) (j:=j) (by rw [List.length_map];omega)
    rw [ar8] at pu;show put (.ref (3+t.length)) (.int (j:Nat)) (bz v) (HT u2 is ks (t++[ye row]))=_;rw [pu];show _=some (HT u2 is ks (t++[.lst ((row.set j v).map bz)]));rw [List.map_set]
  ·refine ⟨u1,row,⟨l1,x1⟩,P1.up (by omega),λg=>?_⟩
   exact ifN (tof (gj (bf rfl) (gf _ _ _) (aet hr)))
 obtain ⟨a,u3,a0,a1,P3,c3⟩:=tk (m:=6) P2 (by omega) (by omega) (by omega)
 obtain ⟨b,u4,b0,b1,P4,c4⟩:=tk (m:=often) P3 (by omega) (by omega) (by omega)
 let t':Hd:=t++[ye row2]
 have fin:∀ (w:O) (kd:Int),j5 (um (sML a3l (sV 6) (aj (sV 9) dj))) (um (sML a3l (sV 7) (aj (sV 10) dj))) (τP tg most n road often (some (bz i)) (some (.ref (3+t.length))) (some (.int kd))) (HT w is ks t') = .nx (τP tg most n road often (some (bz i)) (some (.ref (3+t.length))) (some (.int kd))) (HT w (is++[.ref (3+t.length)]) (ks++[kd]) t'):=λw kd=>by
  refine Eq.trans (zg (zx (bf rfl) rfl (arg1 (bf rfl)) (zy (xs:=is) rfl (a01 (by omega))))) ?_
  unfold HT;rw [List.map_append];exact zx (bf rfl) rfl (arg1 (bf rfl)) (zy (xs:=ks.map D.int) rfl (by rw [List.length_map];exact a01 (by omega)))
 have start:∀ g:SS,j5 (lq 10 (sA (nj false 2 ak) (aj (sV 0) (aj (sC (.int 6)) dj)))) g τ1 (HT u2 is ks t')=g (τP tg most n road often (some (bz i)) (some (.ref (3+t.length))) (some (.int a))) (HT u3 is ks t'):=λg=>jk (qt (bf rfl) (gf _ _ _) (c3 _));have main:∃ (w:O) (kd:Int),KOk kd/\(i=0->kd = -1)/\Pen w (N+9)/\ur j4 ak (τP tg most n road often (some (bz i)) r k) (HT u is ks t) = .nx (τP tg most n road often (some (bz i)) (some (.ref (3+t.length))) (some (.int kd))) (HT w (is++[.ref (3+t.length)]) (ks++[kd]) t'):=by
  unfold ur
  by_cases h0:(i:Int)=0
  ·refine ⟨u3, -1,by decide,λ_=>rfl,P3.up (by omega),?_⟩
   refine Eq.trans (jk e1) ?_;refine Eq.trans (e2 _) ?_;refine Eq.trans (start _) ?_;refine Eq.trans (zg (Eq.trans (ifT (orT (tof (gj (bf rfl) (gf _ _ _) (aes h0))))) (ahz (aca (gf _ _ _) (a3u _))))) ?_;exact fin _ _
  ·by_cases hb:0<b
   ·refine ⟨u4, -1,by decide,λ_=>rfl,P4.up (by omega),?_⟩
    refine Eq.trans (jk e1) ?_;refine Eq.trans (e2 _) ?_;refine Eq.trans (start _) ?_;refine Eq.trans (zg (Eq.trans (ifT (orF (tof (gj (bf rfl) (gf _ _ _) (aet h0))) (tof (gj (qt (bf rfl) (bf rfl) (c4 _)) (gf _ _ _) (avj hb))))) (ahz (aca (gf _ _ _) (a3u _))))) ?_;exact fin _ _
   ·refine ⟨u4,a,by constructor<;>omega,λz=>absurd (by omega) h0,P4.up (by omega),?_⟩
    refine Eq.trans (jk e1) ?_;refine Eq.trans (e2 _) ?_;refine Eq.trans (start _) ?_;refine Eq.trans (ifN (orF (tof (gj (bf rfl) (gf _ _ _) (aet h0))) (tof (gj (qt (bf rfl) (bf rfl) (c4 _)) (gf _ _ _) (avk hb))))) ?_;exact fin _ _
 obtain ⟨w,kd,q1,q2,q3,q4⟩:=main;exact ⟨w,row2,kd,_,_,⟨l2,x2⟩,q1,q2,q3,q4⟩
end
theorem a02{n x:Nat}{pre post:List Nat}(e:List.range n=pre++x::post):x=pre.length/\pre.length<n:=by
 have h1:(List.range n)[pre.length]? = some x:=by rw [e];simp
 have h2:=List.getElem?_eq_some_iff.mp h1;obtain ⟨h3,h4⟩:=h2;rw [List.getElem_range] at h4;rw [List.length_range] at h3;exact ⟨h4.symm,h3⟩
theorem af9(k:Nat):refs (k+1)=refs k++[.ref (3+k)]:=by unfold refs;rw [List.range_succ,List.map_append];rfl
theorem laid{u:O}{N:Nat}{rows:List (List Nat)}{ks:List Int}(P:Pen u N):Laid (HT u (refs rows.length) ks (rows.map ye)) rows ks:=by
 refine ⟨⟨(List.range rows.length).map λj=>3+j,?_,λr hr=>⟨3+r,by rw [List.getElem?_map,List.getElem?_range hr];rfl,?_⟩⟩,rfl,?_⟩
 ·show some (O.lst (refs rows.length))=_;rw [List.map_map];rfl
 ·rw [show 3+r=r+1+1+1 by omega]
  simp only [List.getElem?_cons_succ];rw [List.getElem?_map,List.getElem?_eq_getElem hr];rfl
 ·intro o ho
  simp only [List.mem_cons] at ho
  rcases ho with rfl | rfl | rfl | ho
  ·exact nu (Nat.zero_le _) P.clo
  ·refine lw λj hj=>?_;rw [List.mem_range] at hj;show 3+j<_;simp only [List.length_cons,List.length_map];omega
  ·exact nu (Nat.zero_le _) (lw λx _=>iz x)
  ·obtain ⟨r,_,rfl⟩:=List.mem_map.mp ho;exact nu (Nat.zero_le _) (jb _)
theorem aic{o:O}{N most:Nat}{tg:List Nat}(P:Pen o N)(hN:N<=999980000)(T1:Tongue tg)(m1:1<=most)(m32:most<=32) :
  ∃ (T:Table) (o':O),T.Ok/\T.tg=tg/\T.go.length<=most/\(∀ r,r<T.go.length->Rch T.go r)/\Dr n6 3 [.str (S tg),bz most] o T.d o'/\Pen o' (N+400):=by
 obtain ⟨x,o1,x0,x1,P1,c1⟩:=tk (m:=(most:Int)) P (by omega) (by omega) (by omega)
 obtain ⟨road,o2,y0,y1,P2,c2⟩:=tk (m:=3) P1 (by omega) (by omega) (by omega)
 obtain ⟨z,o3,z0,z1,P3,c3⟩:=tk (m:=2) P2 (by omega) (by omega) (by omega)
 obtain ⟨j,rfl⟩:=Int.eq_ofNat_of_zero_le x0
 let n:Nat:=1+j
 have en:(1:Int)+(j:Int)=((n:Nat):Int):=by show _=((1+j:Nat):Int);omega
 have hn1:1<=n:=by show 1<=1+j;omega
 have hnm:n<=most:=by show 1+j<=most;omega
 let often:Int:=2+z
 have lp:=qw (g:=kN 8) (b:=ur j4 ak) bz
  (λpre τ h=>∃ (u:O) (rows:List (List Nat)) (ks:List Int) (i r k:Option D),τ=τP tg most n road often i r k/\h=HT u (refs rows.length) ks (rows.map ye)/\Pen u (N+3+9*pre.length)/\rows.length=pre.length/\ks.length=pre.length/\(∀ r∈rows,ai1 tg.length n r)/\(∀ k∈ks,KOk k)/\(0<pre.length->ks[0]? = some (-1)))
  (List.range n) (τP tg most n road often none none none) (HT o3 (refs 0) [] []) ?_ ⟨o3,[],[],none,none,none,rfl,rfl,P3,rfl,rfl,by simp,by simp,by simp⟩
 ·obtain ⟨τ',h',e,u,rows,ks,i,r,k,rfl,rfl,Pu,lr,lk,rr,kk,k0⟩:=lp;rw [List.length_range] at Pu lr lk k0;obtain ⟨w,u',w0,w1,Pw,c4⟩:=tk (m:=32) Pu (by omega) (by omega) (by omega)
  obtain ⟨tu,rfl⟩:=Int.eq_ofNat_of_zero_le w0;obtain ⟨T,a,b,ok,et,el,rc,ec⟩:=ar7 (tu:=tu) (laid (rows:=rows) (ks:=ks) Pw) T1 hn1 (by omega) lr lk (k0 (by omega)) kk rr
  refine ⟨T,u',ok,et,by omega,rc,Dr.of rfl (a1s (j6 _) (iz _)) P.clo (r:=.ok T.d (HT u' (refs rows.length) ks (rows.map ye)++[a]++[b])) ?_ (nq (aao (Nat.zero_le 1) Table.clo) (by intro x hx;rw [show List.take 1 (HT u' (refs rows.length) ks (rows.map ye)++[a]++[b])=[u'] from rfl,List.mem_singleton] at hx;subst hx;exact nu (by omega) Pw.clo)) Table.clo Pw.clo,Pw.up (by omega)⟩
  unfold n6;rw [j7];show toR (a0j j4 ak [some (.ref 0),some (.str (S tg)),some (bz most),none,none,none,none,none,none,none,none] [o])=_;unfold a0j;refine Eq.trans (congrArg toR (jk (gj (gf _ _ _) (qt (bf rfl) (bf rfl) (c1 _)) v9))) ?_;rw [en];refine Eq.trans (congrArg toR (jk (qt (bf rfl) (gf _ _ _) (c2 _)))) ?_;refine Eq.trans (congrArg toR (jk (gj (gf _ _ _) (qt (bf rfl) (gf _ _ _) (c3 _)) v9))) ?_;refine Eq.trans (congrArg toR (jk (d:=.ref 1) (h1:=[o3, .lst []]) rfl)) ?_;refine Eq.trans (congrArg toR (jk (d:=.ref 2) (h1:=HT o3 (refs 0) [] []) rfl)) ?_
  refine Eq.trans (congrArg toR (a3e (a0p (n:=n) (bf rfl) (jx (by omega))))) ?_
  refine Eq.trans (congrArg (λz=>toR (MI.thn z _)) e) ?_;rw [xf];refine congrArg toR (qd (SRC.a9s (fj (bf rfl) (fj (bf rfl) (fj (bf rfl) (fj (qt (bf rfl) (gf _ _ _) (c4 _)) rfl)))) ?_));unfold sN;exact (if_pos (show [D.str (S tg),D.ref 1,D.ref 2,bz tu].length=4 from rfl)).trans ec
 ·rintro pre x post τ h all ⟨u,rows,ks,i,r,k,rfl,rfl,Pu,lr,lk,rr,kk,k0⟩
  obtain ⟨rfl,hx⟩:=a02 all;obtain ⟨u',row,kd,r',k',q1,q2,q3,q4,q5⟩:=turn (most:=most) (road:=road) (often:=often) (i:=pre.length) (r:=r) (k:=k) (is:=refs rows.length) (ks:=ks) (t:=rows.map ye) Pu (by omega) T1.lo T1.hi hn1 (by omega) hx (by show 0<2+z;omega) (by show 2+z<10;omega) (by simp;omega) (by omega) lk
  refine ⟨_,_,rfl,τP tg most n road often (some (bz pre.length)) r' k',HT u' (refs (rows++[row]).length) (ks++[kd]) ((rows++[row]).map ye),?_,u',rows++[row],ks++[kd],_,_,_,rfl,rfl,q4.up (by simp;omega),by simp [lr],by simp [lk],λy hy=>?_,λy hy=>?_,λ_=>?_⟩
  ·rw [List.length_append,List.length_singleton,af9,List.map_append];rw [List.length_map] at q5;exact q5
  ·rcases List.mem_append.mp hy with z | z
   ·exact rr y z
   ·rw [List.mem_singleton] at z;subst z;exact q1
  ·rcases List.mem_append.mp hy with z | z
   ·exact kk y z
   ·rw [List.mem_singleton] at z;subst z;exact q2
  ·cases ks with
   | nil=>show some kd=_;rw [q3 (by simpa using lk.symm)]
   | cons a l=>exact k0 (by rw [<-lk];simp)
inductive Deed where
 | stay | shut | opn (k:Nat) | trn (k:Nat)
def Deed.d:Deed->D
 | .stay=>.tup [.str "stay"]
 | .shut=>.tup [.str "shut"]
 | .opn k=>.tup [.str "open",bz k]
 | .trn k=>.tup [.str "turn",bz k]
def Deed.Ok(n:Nat):Deed->Prop
 | .opn k=>k<n
 | .trn k=>k<n
 | _=>True
theorem Deed.clo(x:Deed)(n:Nat):MI.clo n x.d:=by
 cases x
 ·exact m5 (du (j6 _) lu)
 ·exact m5 (du (j6 _) lu)
 ·exact m5 (du (j6 _) (du (iz _) lu))
 ·exact m5 (du (j6 _) (du (iz _) lu))
noncomputable def n8:SF:=o9 (a0k ak) 7
abbrev six(k:Nat):List Deed:=[.stay, .shut, .opn k, .trn k, .shut, .opn k]
abbrev dsD(ds:List Deed):List D:=ds.map Deed.d
theorem a6h(n:Nat)(ds:List Deed):clos n (dsD ds):=lw λx _=>x.clo n
abbrev τQ(size many:Nat)(i a b:Option D):Sd:=[some (.ref 0),some (bz size),some (bz many),some (.ref 1),i,a,b]
theorem aid{o:O}{N size many:Nat}(P:Pen o N)(hN:N<=999990000)(s6:size<=6)(m1:1<=many)(m4:many<=4) :
  ∃ (ds:List Deed) (o':O),ds.length=size/\(∀ x∈ds,x.Ok many)/\Dr n8 3 [bz size,bz many] o (.tup (dsD ds)) o'/\Pen o' (N+12):=by
 have lp:=qw (g:=kN 4) (b:=a05 ak) bz
  (λpre τ h=>∃ (u:O) (ds:List Deed) (i a b:Option D),τ=τQ size many i a b/\h=[u, .lst (dsD ds)]/\Pen u (N+2*pre.length)/\ds.length=pre.length/\∀ x∈ds,x.Ok many)
  (List.range size) (τQ size many none none none) [o, .lst []] ?_ ⟨o,[],none,none,none,rfl,rfl,P,rfl,by simp⟩
 ·obtain ⟨τ',h',e,u,ds,i,a,b,rfl,rfl,Pu,ld,dk⟩:=lp;rw [List.length_range] at Pu ld;have one:∀ x∈List.take 1 [u,O.lst (dsD ds)],zj 1 x:=by
   intro x hx
   rw [show List.take 1 [u,O.lst (dsD ds)]=[u] from rfl,List.mem_singleton] at hx
   subst hx;exact nu (by omega) Pu.clo
  refine ⟨ds,u,ld,dk,Dr.of rfl (a1s (iz _) (iz _)) P.clo (r:=.ok (.tup (dsD ds)) [u, .lst (dsD ds)]) ?_ (nq (m5 (a6h _ _)) one) (m5 (a6h _ _)) Pu.clo,Pu.up (by omega)⟩
  unfold n8;rw [j7];show toR (a0k ak [some (.ref 0),some (bz size),some (bz many),none,none,none,none] [o])=_;unfold a0k;refine Eq.trans (congrArg toR (jk (d:=.ref 1) (h1:=[o, .lst []]) rfl)) ?_;refine Eq.trans (congrArg toR (a3e (a0p (n:=size) (bf rfl) (jx (by omega))))) ?_
  refine Eq.trans (congrArg (λz=>toR (MI.thn z _)) e) ?_;rw [xf];exact congrArg toR (qd (w6 (bf rfl) rfl))
 ·rintro pre x post τ h all ⟨u,ds,i,a,b,rfl,rfl,Pu,ld,dk⟩
  obtain ⟨rfl,hx⟩:=a02 all;obtain ⟨y,u1,y0,y1,P1,c1⟩:=tk (m:=(many:Int)) Pu (by omega) (by omega) (by omega)
  obtain ⟨z,u2,z0,z1,P2,c2⟩:=tk (m:=6) P1 (by omega) (by omega) (by omega)
  obtain ⟨k,rfl⟩:=Int.eq_ofNat_of_zero_le y0;obtain ⟨j,rfl⟩:=Int.eq_ofNat_of_zero_le z0;have jl:j<(six k).length:=by show j<6;omega
  have gx:(six k)[j]? = some (six k)[j]:=List.getElem?_eq_getElem jl;have gm:(six k)[j]∈six k:=List.getElem_mem jl
  generalize (six k)[j]=w at gx gm
  have wk:w.Ok many:=by
   simp only [List.mem_cons,List.not_mem_nil,or_false] at gm
   rcases gm with rfl | rfl | rfl | rfl | rfl | rfl<;>first | trivial | (show k<many;omega)
  refine ⟨_,_,rfl,τQ size many (some (bz pre.length)) (some (bz k)) (some (.rol (dsD (six k)))),[u2, .lst (dsD (ds++[w]))],?_,u2,ds++[w],_,_,_,rfl,rfl,P2.up (by rw [List.length_append,List.length_singleton];omega),by rw [List.length_append,List.length_append,ld];rfl,λq hq=>?_⟩
  ·unfold a05;refine Eq.trans (jk (qt (bf rfl) (bf rfl) (c1 _))) ?_;have cl:∀ q∈[u1,O.lst (dsD ds)],zj 2 q:=by
    intro q hq
    simp only [List.mem_cons,List.not_mem_nil,or_false] at hq
    rcases hq with rfl | rfl
    ·exact nu (by omega) P1.clo
    ·exact a6h _ _
   have z:∀ τ:Sd,τ[5]? = some (some (bz k))->sZ (sA yx (aj (sA qp (aj (sC (.str "stay")) dj)) (aj (sA qp (aj (sC (.str "shut")) dj)) (aj (sA qp (aj (sC (.str "open")) (aj (sV 5) dj))) (aj (sA qp (aj (sC (.str "turn")) (aj (sV 5) dj))) (aj (sA qp (aj (sC (.str "shut")) dj)) (aj (sA qp (aj (sC (.str "open")) (aj (sV 5) dj))) dj))))))) τ [u1, .lst (dsD ds)] = .ok (.rol (dsD (six k))) [u1, .lst (dsD ds)]:=λτ h5 =>
    yg (SRC.a9s (fj (w6 (gf _ _ _) rfl) (fj (w6 (gf _ _ _) rfl) (fj (qt (gf _ _ _) (bf h5) ab1) (fj (qt (gf _ _ _) (bf h5) ab1) (fj (w6 (gf _ _ _) rfl) (fj (qt (gf _ _ _) (bf h5) ab1) rfl)))))) rfl) (a6h _ (six k)) cl
   refine Eq.trans (jk (z _ rfl)) ?_;unfold dsD;rw [List.map_append];exact zx (bf rfl) rfl (arg1 (gj (bf rfl) (qt (bf rfl) (gf _ _ _) (c2 _)) (aju (by rw [List.getElem?_map,gx];rfl)))) (zy (xs:=dsD ds) rfl (by rw [List.length_map];exact a01 (by omega)))
  ·rcases List.mem_append.mp hq with z | z
   ·exact dk q z
   ·rw [List.mem_singleton] at z;subst z;exact wk
structure Mach where
 tg:List Nat
 ms:List (Table × List Deed)
abbrev uc(m:Table × List Deed):D:=.tup [.tup (m.1.go.map a3q), .tup (m.1.ks.map D.int), .tup (dsD m.2)]
def Mach.d(M:Mach):D:=.tup [.str (S M.tg), .tup (M.ms.map uc)]
structure ModeOk (tg:List Nat) (n:Nat) (m:Table × List Deed):Prop where
 ok:m.1.Ok
 tg:m.1.tg=tg
 dl:m.2.length<=6
 kd:∀ k∈m.1.ks,k<(m.2.length:Int)
 dk:∀ x∈m.2,x.Ok n
 rc:∀ r,r<m.1.go.length->Rch m.1.go r
structure Mach.Ok (M:Mach):Prop where
 tong:Tongue M.tg
 n1:1<=M.ms.length
 n4:M.ms.length<=4
 mode:∀ m∈M.ms,ModeOk M.tg M.ms.length m
theorem aie(n:Nat)(m:Table × List Deed):MI.clo n (uc m):=m5 (du (m5 (lw λx _=>m5 (jb _))) (du (m5 (lw λx _=>iz x)) (du (m5 (a6h _ _)) lu)))
theorem a8x(n:Nat)(ms:List (Table × List Deed)):clos n (ms.map uc):=lw λm _=>aie n m
theorem Mach.clo(M:Mach)(n:Nat):MI.clo n M.d:=m5 (du (j6 _) (du (m5 (a8x _ _)) lu))
noncomputable def bx:SF:=o9 (ym n8 n6 ak) 8
abbrev τM(tg:List Nat)(most many:Nat)(i a b:Option D):Sd:=[some (.ref 0),some (.str (S tg)),some (bz most),some (bz many),some (.ref 1),i,a,b]
theorem abz{o:O}{N most:Nat}{tg:List Nat}(P:Pen o N)(hN:N<=999970000)(T1:Tongue tg)(m1:1<=most)(m32:most<=32) :
  ∃ (M:Mach) (o':O),M.Ok/\M.tg=tg/\Dr bx 3 [.str (S tg),bz most] o M.d o'/\Pen o' (N+2000):=by
 obtain ⟨x,o1,x0,x1,P1,c1⟩:=tk (m:=4) P (by omega) (by omega) (by omega)
 obtain ⟨j,rfl⟩:=Int.eq_ofNat_of_zero_le x0
 let n:Nat:=1+j
 have en:(1:Int)+(j:Int)=((n:Nat):Int):=by show _=((1+j:Nat):Int);omega
 have hn1:1<=n:=by show 1<=1+j;omega
 have hn4:n<=4:=by show 1+j<=4;omega
 have lp:=qw (g:=kN 5) (b:=xn n8 n6 ak) bz
  (λpre τ h=>∃ (u:O) (ms:List (Table × List Deed)) (i a b:Option D),τ=τM tg most n i a b/\h=[u, .lst (ms.map uc)]/\Pen u (N+1+450*pre.length)/\ms.length=pre.length/\∀ m∈ms,ModeOk tg n m)
  (List.range n) (τM tg most n none none none) [o1, .lst []] ?_ ⟨o1,[],none,none,none,rfl,rfl,P1,rfl,by simp⟩
 ·obtain ⟨τ',h',e,u,ms,i,a,b,rfl,rfl,Pu,lm,mk⟩:=lp;rw [List.length_range] at Pu lm;have one:∀ x∈List.take 1 [u,O.lst (ms.map uc)],zj 1 x:=by
   intro x hx
   rw [show List.take 1 [u,O.lst (ms.map uc)]=[u] from rfl,List.mem_singleton] at hx
   subst hx;exact nu (by omega) Pu.clo
  let M:Mach:=⟨tg,ms⟩
  refine ⟨M,u,⟨T1,by show 1<=ms.length;omega,by show ms.length<=4;omega,λm hm=>by show ModeOk tg ms.length m;rw [lm];exact mk m hm⟩,rfl,Dr.of rfl (a1s (j6 _) (iz _)) P.clo (r:=.ok M.d [u, .lst (ms.map uc)]) ?_ (nq (M.clo 1) one) (M.clo 0) Pu.clo,Pu.up (by omega)⟩
  unfold bx;rw [j7];show toR (ym n8 n6 ak [some (.ref 0),some (.str (S tg)),some (bz most),none,none,none,none,none] [o])=_;unfold ym;refine Eq.trans (congrArg toR (jk (gj (gf _ _ _) (qt (bf rfl) (gf _ _ _) (c1 _)) v9))) ?_;rw [en];refine Eq.trans (congrArg toR (jk (d:=.ref 1) (h1:=[o1, .lst []]) rfl)) ?_;refine Eq.trans (congrArg toR (a3e (a0p (n:=n) (bf rfl) (jx (by omega))))) ?_
  refine Eq.trans (congrArg (λz=>toR (MI.thn z _)) e) ?_;rw [xf];exact congrArg toR (qd (qt (bf rfl) (w6 (bf rfl) (show ou [.ref 1] [u, .lst (ms.map uc)] = .ok (.tup (ms.map uc)) [u, .lst (ms.map uc)] from rfl)) ab1))
 ·rintro pre x post τ h all ⟨u,ms,i,a,b,rfl,rfl,Pu,lm,mk⟩
  obtain ⟨rfl,hx⟩:=a02 all;obtain ⟨T,u1,ok,et,_,rc,e1,P1⟩:=aic (tg:=tg) (most:=most) Pu (by omega) T1 m1 m32
  have ne:T.ks≠[]:=by intro z;have:=ok.k0;rw [z] at this;cases this
  obtain ⟨mi,mx⟩:=ada ne;have mk':=ok.kk _ mi;obtain ⟨l,hl⟩:=Int.eq_ofNat_of_zero_le (show 0<=mxI T.ks+1 by omega)
  obtain ⟨y,u2,y0,y1,P2,c2⟩:=tk (m:=7 - (l:Int)) P1 (by omega) (by omega) (by omega)
  obtain ⟨q,rfl⟩:=Int.eq_ofNat_of_zero_le y0;obtain ⟨ds,u3,ld,dk,e3,P3⟩:=aid (size:=l+q) (many:=n) P2 (by omega) (by omega) hn1 hn4
  have d1:nj false 3 n6 [.ref 0, .str (S tg),bz most] [u, .lst (ms.map uc)] = .ok T.d [u1, .lst (ms.map uc)]:=e1 0 _ rfl;have d3:nj false 3 n8 [.ref 0, .int ((l:Int)+(q:Int)),bz n] [u2, .lst (ms.map uc)] = .ok (.tup (dsD ds)) [u3, .lst (ms.map uc)]:=by
   have:=e3 0 [u2, .lst (ms.map uc)] rfl
   rwa [show bz (l+q)=D.int ((l:Int)+(q:Int)) by show D.int ((l+q:Nat):Int)=_;congr 1] at this
  refine ⟨_,_,rfl,τM tg most n (some (bz pre.length)) (some T.d) (some (bz l)),[u3, .lst ((ms++[(T,ds)]).map uc)],?_,u3,ms++[(T,ds)],_,_,_,rfl,rfl,P3.up (by rw [List.length_append,List.length_singleton];omega),by rw [List.length_append,List.length_append,lm];rfl,λm hm=>?_⟩
  ·unfold xn;refine Eq.trans (jk (a8t (bf rfl) (bf rfl) (bf rfl) d1)) ?_;have i2:∀ hh:Hd,gIx T.d (.int 2) hh = .ok (.tup (T.ks.map D.int)) hh:=λhh=>a00 (j:=2) rfl;have i1:∀ hh:Hd,gIx T.d (.int 1) hh = .ok (.tup (T.go.map a3q)) hh:=λhh=>a00 (j:=1) rfl;refine Eq.trans (jk (gj (w6 (gj (bf rfl) (gf _ _ _) (i2 _)) (aps ne)) (gf _ _ _) v9)) ?_;rw [hl,List.map_append];exact zx (bf rfl) rfl (arg1 (a8t (gj (bf rfl) (gf _ _ _) (i1 _)) (gj (bf rfl) (gf _ _ _) (i2 _)) (a8t (bf rfl) (gj (bf rfl) (qt (bf rfl) (gj (gf _ _ _) (bf rfl) (ajv _ _)) (c2 _)) v9) (bf rfl) d3) aqr)) (zy (xs:=ms.map uc) rfl (by rw [List.length_map];exact a01 (by omega)))
  ·rcases List.mem_append.mp hm with z | z
   ·exact mk m z
   ·rw [List.mem_singleton] at z;subst z;exact ⟨ok,et,by show ds.length<=6;omega,λk hk=>by have:=mx k hk;show k<(ds.length:Int);rw [ld];omega,dk,rc⟩
noncomputable def cu:SF:=o9 (zu ak) 3
theorem afa{o:O}{N:Nat}{tg:List Nat}(P:Pen o N)(hN:N<=999990000)(T1:Tongue tg):∃ t o',t.length<=60/\(∀ c∈t,c∈tg)/\Dr cu 2 [.str (S tg)] o (.str (S t)) o'/\Pen o' (N+100):=by
 have lo:=T1.lo;have hi:=T1.hi;obtain ⟨x,o1,x0,x1,P1,c1⟩:=tk (m:=6) P (by omega) (by omega) (by omega)
 obtain ⟨j,rfl⟩:=Int.eq_ofNat_of_zero_le x0
 let ws:List Nat:=[17,17,17,17,17,61]
 have jl:j<ws.length:=by show j<6;omega
 have gx:ws[j]? = some ws[j]:=List.getElem?_eq_getElem jl;have gm:ws[j]∈ws:=List.getElem_mem jl
 generalize ws[j]=w at gx gm
 have wl:0<w/\w<=61:=by
  simp only [ws,List.mem_cons,List.not_mem_nil,or_false] at gm;omega
 obtain ⟨y,o2,y0,y1,P2,c2⟩:=tk (m:=(w:Int)) P1 (by omega) (by omega) (by omega)
 obtain ⟨n,rfl⟩:=Int.eq_ofNat_of_zero_le y0;have one:∀ {u:O} {M:Nat},Pen u M->∀ x∈[u],zj 1 x:=λPu x hx=>by rw [List.mem_singleton] at hx;subst hx;exact nu (by omega) Pu.clo
 have zw:∀ τ:Sd,sZ (sA yx (aj (sC (.int 17)) (aj (sC (.int 17)) (aj (sC (.int 17)) (aj (sC (.int 17)) (aj (sC (.int 17)) (aj (sC (.int 61)) dj))))))) τ [o] = .ok (.rol (ws.map bz)) [o]:=λτ =>
  yg (SRC.a9s (fj (gf _ _ _) (fj (gf _ _ _) (fj (gf _ _ _) (fj (gf _ _ _) (fj (gf _ _ _) (fj (gf _ _ _) rfl)))))) rfl) (jb ws) (one P)
 have mp:=a76 (f:=a5q t1 (v7 ak) (frs' [0,1] [some (.ref 0),some (.str (S tg)),some (.int (n:Nat))])) (λi:Nat=>D.int (i:Nat))
  (λpre ys h=>∃ (u:O) (t:List Nat),h=[u]/\Pen u (N+2+pre.length)/\ys=ones t/\t.length=pre.length/\∀ c∈t,c∈tg)
  (List.range n) [] [] [o2] ?_ ⟨o2,[],rfl,P2,rfl,rfl,by simp⟩
 ·obtain ⟨zs,h',em,u',t,rfl,P5,ez,tl,tt⟩:=mp;rw [List.nil_append] at ez tl P5;rw [List.length_range] at tl P5;subst ez;refine ⟨t,u',by omega,tt,Dr.of rfl (by intro x hx;rw [List.mem_singleton] at hx;subst hx;exact j6 _) P.clo (r:=.ok (.str (S t)) [u']) ?_ (nq (j6 _) (by simpa using one P5)) (j6 _) P5.clo,P5.up (by omega)⟩
  unfold cu;rw [j7];show toR (zu ak [some (.ref 0),some (.str (S tg)),none] [o])=_;unfold zu;refine Eq.trans (congrArg toR (jk (qt (bf rfl) (gj (zw _) (qt (bf rfl) (gf _ _ _) (c1 _)) (aju (by rw [List.getElem?_map,gx];rfl))) (c2 _)))) ?_
  have cz:sZ (uz (sRg a0g (aj (sV 2) dj)) t1 (v7 ak) [0,1]) [some (.ref 0),some (.str (S tg)),some (.int (n:Nat))] [o2] = .ok (.rol (ones t)) [u']:=by
   refine ax3 rfl ?_ (lw λl _=>j6 _) (one P5);unfold uz;rw [a0p (bf rfl) (jx (by omega)),gq]
   dsimp only;rw [if_pos (by rw [List.length_map,List.length_range];exact jx (by omega)),em]
   rfl
  exact congrArg toR (qd (aud (z:=S []) (gf _ _ _) (arg1 cz) (af2 (by omega))))
 ·rintro pre i post ys h all ⟨u,t,rfl,Pu,rfl,tl,tt⟩
  rw [List.nil_append] at all;obtain ⟨rfl,hx⟩:=a02 all;obtain ⟨x,u',x0,x1,P5,c5⟩:=tk (m:=(tg.length:Int)) Pu (by omega) (by omega) (by omega)
  obtain ⟨q,rfl⟩:=Int.eq_ofNat_of_zero_le x0;have hq:q<tg.length:=by omega
  refine ⟨.str (S [tg[q]]),[u'],?_,u',t++[tg[q]],rfl,by rw [List.length_append,List.length_singleton];exact P5,by simp [ones],by rw [List.length_append,List.length_append,tl];rfl,λc hc=>?_⟩
  ·rw [a3c];unfold v7;exact gj (bf rfl) (qt (bf rfl) (w6 (bf rfl) (a9n (l:=tg) (jx (by omega)))) (c5 _)) (au5 (jx (by omega)) (List.getElem?_eq_getElem hq))
  ·rcases List.mem_append.mp hc with z | z
   ·exact tt c z
   ·rw [List.mem_singleton] at z;rw [z];exact List.getElem_mem hq
end PN
namespace K35
open PySem PySem.Spec L2 MI
end K35
namespace K34
open PySem PySem.Spec L2 MI
noncomputable def m8:SS :=
 (um (sML a3l (sV 6) (aj (s2 gIx (s2 gIx (sV 4) (s2 gIx (sV 6) (s1 a2l (sC (.int 1))))) (sMS a6a (sV 3) (aj (sV 7) dj))) dj)))
noncomputable def o8:SS :=
 (j5 (a5p (sV 0) (a1n 3 (jj (kN 3) (jj (kN 4) (jj (kN 5) a1t)))))
 (j5 (lq 6 (sA yx (aj (sV 1) dj)))
 (j5 (a3x (sIt (sV 2)) (kN 7) m8)
 (vf (sV 6)))))
noncomputable def u5(iu:SF):SS :=
 (sIf (sT (s2 hNe (s2 gIx (sV 3) (sV 6)) (s1 a2l (sC (.int 1)))))
 (lq 4 (sA qp (aj (s2 gIx (sV 3) (sV 6)) (aj (sV 5) dj))))
 sNx)
noncomputable def yt(iu:SF):SS :=
 (j5 (lq 3 (s2 gIx (sV 0) (sC (.int 2))))
 (j5 (lq 4 (sC .non))
 (j5 (a3x (a8p (sA (nj false 3 iu) (aj (sV 0) (aj (sC (.int 0)) (aj (a0v (sV 1) (oS (sV 2)) oN) dj)))) (sV 2)) (a1n 2 (jj (kN 5) (jj (kN 6) a1t))) (u5 iu))
 (vf (sV 4)))))
end K34
namespace K34
open PySem PySem.Spec L2 MI AT HND EVX K22 K23 K21
section
variable{T:Table}
noncomputable def iu:SF:=o9 K34.o8 8
noncomputable def ju:SF:=o9 (yt K34.iu) 7
theorem a7l(h:T.Ok){l:List Nat}(hl:∀ c∈l,c∈T.tg)(ll:l.length<=1000):Pu K34.iu 3 [T.d, .int 0, .str (S l)] (.rol ((rms T 0 l).map bz)):=K23.a7l (r:=0) h h.n1 hl ll
theorem afb{α β γ:Type}(f:α->β)(g:α × β->γ):∀ l:List α,(l.zip (l.map f)).map g=l.map λx=>g (x,f x)
 | []=>rfl
 | a::l=>by rw [List.map_cons,List.zip_cons_cons,List.map_cons,List.map_cons,afb f g l]
theorem a7r(h:T.Ok){x:List Nat}{a:Nat}(ht:∀ c∈x,c∈T.tg)(xl:x.length<=1000)(al:a<=x.length):Pu ju 3 [T.d, .str (S x),bz a] (SRC.best T a (x.drop a) (x.length - a+1)):=by
 refine Pu.of rfl (af1 Table.clo (j6 _) (iz _)) (r:=.ok (SRC.best T a (x.drop a) (x.length - a+1)) []) ?_ (nq (SRC.a4i _ _ _) (by simp)) (SRC.a4i _ _ _)
 unfold ju;rw [j7];show toR (yt K34.iu [some T.d,some (.str (S x)),some (bz a),none,none,none,none] [])=_;unfold yt;refine Eq.trans (congrArg toR (jk (gj (bf rfl) (gf _ _ _) (auf _)))) ?_;refine Eq.trans (congrArg toR (jk (gf _ _ _))) ?_;have dl:(x.drop a).length=x.length - a:=List.length_drop;have e1:a8p (sA (nj false 3 K34.iu) (aj (sV 0) (aj (sC (.int 0)) (aj (a0v (sV 1) (oS (sV 2)) oN) dj)))) (sV 2) [some T.d,some (.str (S x)),some (bz a),some (.tup (T.ks.map D.int)),some .non,none,none] [] = .ok ⟨(List.range (x.length - a+1)).map λk=>.tup [.int ((a+k:Nat):Int),bz (SRC.rm T (x.drop a) k)],λ_=>True⟩ []:=by
  unfold a8p;rw [a8t (bf rfl) (gf _ _ _) (a3v (bf rfl) (a7o (bf rfl)) rfl (aeo a (jx (by omega)))) (a7l h (λc hc=>ht c (List.mem_of_mem_drop hc)) (by omega) _),gq,bf rfl,gq]
  show (if 0<=(a:Int)/\(a:Int)<=16777216 then R.ok (⟨((List.range ((rms T 0 (x.drop a)).map bz).length).zip ((rms T 0 (x.drop a)).map bz)).map λp=>.tup [.int (((a:Int).toNat+p.1:Nat):Int),p.2],λ_=>True⟩:Itm) [] else .no)=_
  rw [if_pos ⟨by omega,by omega⟩]
  congr 2
  have lr:((rms T 0 (x.drop a)).map bz).length=x.length - a+1:=by unfold rms;rw [List.length_map,List.length_map,List.length_range,dl]
  rw [lr];unfold rms;rw [dl,List.map_map,afb];rfl
 refine Eq.trans (congrArg toR (a3e e1)) ?_;have lp:=qw (g:=a1n 2 (jj (kN 5) (jj (kN 6) a1t))) (b:=u5 K34.iu) (λk:Nat=>D.tup [.int ((a+k:Nat):Int),bz (SRC.rm T (x.drop a) k)])
  (λpre τ hh=>∃ t5 t6:Option D,τ=[some T.d,some (.str (S x)),some (bz a),some (.tup (T.ks.map D.int)),some (SRC.best T a (x.drop a) pre.length),t5,t6]/\hh=[])
  (List.range (x.length - a+1)) [some T.d,some (.str (S x)),some (bz a),some (.tup (T.ks.map D.int)),some .non,none,none] [] ?_ ⟨none,none,rfl,rfl⟩
 ·obtain ⟨τ',h',e,t5,t6,rfl,rfl⟩:=lp;refine Eq.trans (congrArg (λz=>toR (MI.thn z _)) e) ?_;rw [xf,List.length_range];exact congrArg toR (qd (bf rfl))
 ·rintro pre k post τ hh all ⟨t5,t6,rfl,rfl⟩
  obtain ⟨hi,hk⟩:=a8u all;subst hi;rw [List.length_append,List.length_singleton];have kg:∀ τ:Sd,τ[3]? = some (some (.tup (T.ks.map D.int)))->τ[6]? = some (some (bz (SRC.rm T (x.drop a) pre.length)))->s2 gIx (sV 3) (sV 6) τ [] = .ok (.int (kI T (SRC.rm T (x.drop a) pre.length))) []:=λτ h3 h6=>gj (bf h3) (bf h6) (ajy h (SRC.ai8 h _ _) _)
  by_cases hm:kI T (SRC.rm T (x.drop a) pre.length) = -1
  ·refine ⟨_,_,rfl,[some T.d,some (.str (S x)),some (bz a),some (.tup (T.ks.map D.int)),some (SRC.best T a (x.drop a) pre.length),some (.int ((a+pre.length:Nat):Int)),some (bz (SRC.rm T (x.drop a) pre.length))],[],?_,_,_,by rw [SRC.af4 hm],rfl⟩
   unfold u5;exact Eq.trans (ifF (tof (gj (kg _ rfl rfl) (aca (gf _ _ _) (a3u _)) (ai0 hm)))) rfl
  ·refine ⟨_,_,rfl,[some T.d,some (.str (S x)),some (bz a),some (.tup (T.ks.map D.int)),some (.tup [.int (kI T (SRC.rm T (x.drop a) pre.length)),bz (a+pre.length)]),some (.int ((a+pre.length:Nat):Int)),some (bz (SRC.rm T (x.drop a) pre.length))],[],?_,_,_,by rw [SRC.af5 hm],rfl⟩
   unfold u5;exact Eq.trans (ifT (tof (gj (kg _ rfl rfl) (aca (gf _ _ _) (a3u _)) (aub hm)))) (ahz (qt (kg _ rfl rfl) (bf rfl) ab1))
end
section
variable{T:Table}
theorem sub_len:∀ {l t:List Nat},l.Nodup->(∀ x∈l,x∈t)->l.length<=t.length
 | [],_,_,_=>Nat.zero_le _
 | a::l,t,nd,h=>by
  obtain ⟨na,nl⟩:=List.nodup_cons.mp nd;have ha:=h a List.mem_cons_self;have:=sub_len (t:=t.erase a) nl λx hx=>(List.mem_erase_of_ne (λe:x=a=>na (e ▸ hx))).mpr (h x (List.mem_cons_of_mem _ hx));rw [List.length_erase_of_mem ha] at this;have:=List.length_pos_of_mem ha;rw [List.length_cons];omega
abbrev others(tg:List Nat):List Nat:=sig.filter λc => !decide (c∈tg)
theorem ac0{tg:List Nat}(t6:tg.length<=6):0<(others tg).length:=by
 rcases Nat.eq_zero_or_pos (others tg).length with z | z
 ·have e:=List.length_eq_zero_iff.mp z;have:=sub_len (l:=sig) (t:=tg) ajt λc hc=>by
   have n:¬ c∈others tg:=by rw [e];simp
   rw [List.mem_filter] at n;simpa [hc] using n
  rw [a5j] at this;omega
 ·exact z
end
end K34
namespace K35
open PySem PySem.Spec L2 MI AT HND EVX K22 K23 K21
section
variable{T:Table}
abbrev bst(T:Table)(x:List Nat)(a:Nat):D:=SRC.best T a (x.drop a) (x.length - a+1)
end
end K35
namespace K69
open PySem PySem.Spec L2 MI AT HND EVX K22 K23 K21 PN
noncomputable def my:SF:=o9 K69.ut 2
noncomputable def ig:SF:=o9 (K69.sy K69.my) 2
noncomputable def iu:SF:=o9 K69.o8 8
noncomputable def ju:SF:=o9 (K69.yt K69.iu) 7
abbrev bst:=K35.bst
section
variable{T:Table}
theorem a7m{d:D}(p:Pln d)(t:txt T d=true)(h:Hd):zf 2 K69.ig [.str (S T.tg),d] h = .ok d h:=K21.a7m p t h
theorem a7n{d:D}(p:Pln d)(t:txt T d=false)(h:Hd):zf 2 K69.ig [.str (S T.tg),d] h = .ex "NoText" h:=K21.a7n p t h
theorem a7r(h:T.Ok){x:List Nat}{a:Nat}(ht:∀ c∈x,c∈T.tg)(xl:x.length<=1000)(al:a<=x.length):Pu K69.ju 3 [T.d, .str (S x),bz a] (bst T x a):=K34.a7r h ht xl al
theorem afc(h:T.Ok)(a:Nat)(l:List Nat):∀ k,SRC.best T a l k = .non\/∃ (q j:Nat),1<=j/\j<k/\(q:Int)∈T.ks/\SRC.best T a l k = .tup [bz q,bz (a+j)]
 | 0=>.inl rfl
 | k+1=>by
  by_cases e:kI T (SRC.rm T l k) = -1
  ·rw [SRC.af4 e]
   rcases afc h a l k with z | ⟨q,j,j1,j2,j3,z⟩
   ·exact .inl z
   ·exact .inr ⟨q,j,j1,by omega,j3,z⟩
  ·obtain ⟨kv,ke,k1,_⟩:=amo h (SRC.ai8 h l k);have kx:kI T (SRC.rm T l k)=kv:=by unfold kI;rw [ke];rfl
   obtain ⟨q,hq⟩:=Int.eq_ofNat_of_zero_le (show 0<=kv by omega)
   refine .inr ⟨q,k,?_,by omega,by rw [<-hq];exact List.mem_of_getElem? ke,?_⟩
   ·rcases Nat.eq_zero_or_pos k with z | z
    ·subst z;exact absurd (show kI T (SRC.rm T l 0) = -1 from SRC.kI0 h) e
    ·exact z
   ·rw [SRC.af5 e,kx,hq]
theorem ar9(h:T.Ok){x:List Nat}{a:Nat}(al:a<=x.length):bst T x a = .non\/∃ q e:Nat,bst T x a = .tup [bz q,bz e]/\(q:Int)∈T.ks/\a<e/\e<=x.length:=by
 rcases afc h a (x.drop a) (x.length - a+1) with z | ⟨q,j,j1,j2,j3,z⟩
 ·exact .inl z
 ·exact .inr ⟨q,a+j,z,j3,by omega,by omega⟩
end
def dec:D->Option (Nat × Nat)
 | .tup [.int q, .int e]=>some (q.toNat,e.toNat)
 | _=>none
section
variable{M:Mach}
def tb(M:Mach)(m:Nat):Table:=((M.ms[m]?).map (·.1)).getD ⟨M.tg,[],[]⟩
def dd(M:Mach)(m:Nat):List Deed:=((M.ms[m]?).map (·.2)).getD []
theorem a9u{m:Nat}(hm:m<M.ms.length):M.ms[m]? = some (tb M m,dd M m):=by
 unfold tb dd;rw [List.getElem?_eq_getElem hm];rfl
theorem a7s(h:M.Ok){m:Nat}(hm:m<M.ms.length):ModeOk M.tg M.ms.length (tb M m,dd M m):=h.mode _ (List.mem_of_getElem? (a9u hm))
theorem aui(h:M.Ok){m:Nat}(hm:m<M.ms.length):(tb M m).Ok:=(a7s h hm).ok
theorem ara(h:M.Ok){m:Nat}(hm:m<M.ms.length):(tb M m).tg=M.tg:=(a7s h hm).tg
theorem a9v(hh:Hd):gIx M.d (.int 0) hh = .ok (.str (S M.tg)) hh:=a00 (j:=0) rfl
theorem ac1(hh:Hd):gIx M.d (.int 1) hh = .ok (.tup (M.ms.map uc)) hh:=a00 (j:=1) rfl
theorem afd{m:Nat}(hm:m<M.ms.length)(hh:Hd):gIx (.tup (M.ms.map uc)) (bz m) hh = .ok (uc (tb M m,dd M m)) hh:=a00 (by rw [List.getElem?_map,a9u hm];rfl)
def dg(M:Mach)(m k:Nat):Deed:=((dd M m)[k]?).getD .stay
theorem arb(h:M.Ok){m k:Nat}(hm:m<M.ms.length)(hk:(k:Int)∈(tb M m).ks):(dd M m)[k]? = some (dg M m k):=by
 have:=(a7s h hm).kd _ hk
 unfold dg;rw [List.getElem?_eq_getElem (by show k<(dd M m).length;have:(k:Int)<((dd M m).length:Int):=this;omega)]
 rfl
theorem afe(h:M.Ok){m k:Nat}(hm:m<M.ms.length)(hk:(k:Int)∈(tb M m).ks):(dg M m k).Ok M.ms.length:=(a7s h hm).dk _ (List.mem_of_getElem? (arb h hm hk))
theorem amz(h:M.Ok){m k:Nat}(hm:m<M.ms.length)(hk:(k:Int)∈(tb M m).ks)(hh:Hd):gIx (.tup (dsD (dd M m))) (bz k) hh = .ok (dg M m k).d hh:=a00 (by rw [List.getElem?_map,arb h hm hk];rfl)
theorem an0{a:D}(ha:MI.clo 0 a):∀ x∈[a],MI.clo 0 x:=by intro x hx;rw [List.mem_singleton] at hx;subst hx;exact ha
noncomputable def jd:SF:=o9 yo 3
theorem afg(h:M.Ok):Pu jd 1 [M.d] (.rol (M.ms.map λm=>m.1.d)):=by
 have cl:∀ n,clos n (M.ms.map λm=>m.1.d):=λn=>lw λm _=>aao (Nat.zero_le _) Table.clo;refine Pu.of rfl (an0 (M.clo 0)) (r:=.ok (.ref 0) [.lst (M.ms.map λm=>m.1.d)]) ?_ (a1f (Nat.zero_le _) rfl (cl _) (by simp)) (v6 (cl 0))
 unfold jd;rw [j7];show toR (yo [some M.d,none,none] [])=_;unfold yo;have as:a5p (sV 0) (a1n 2 (jj (kN 1) (jj (kN 2) a1t))) [some M.d,none,none] [] = .nx [some M.d,some (.str (S M.tg)),some (.tup (M.ms.map uc))] []:=abw (bf rfl) rfl;refine Eq.trans (congrArg toR (zg as)) ?_;have n4:=h.n4;refine congrArg toR (qd (a5k uc (λm=>m.1.d) M.ms (afw (bf rfl) rfl) (jx (by omega)) λm hm=>?_))
 show xq [some (.tup (m.1.go.map a3q)),some (.tup (m.1.ks.map D.int)),some (.tup (dsD m.2)),some (.str (S M.tg))] []=_;unfold xq;refine (a8t (bf rfl) (bf rfl) (bf rfl) aqr).trans ?_;show R.ok (D.tup [.str (S M.tg), .tup (m.1.go.map a3q), .tup (m.1.ks.map D.int)]) []=R.ok (D.tup [.str (S m.1.tg),_,_]) [];rw [(h.mode m hm).tg]
theorem ak1{m:Nat}(hm:m<M.ms.length)(hh:Hd):gIx (.rol (M.ms.map λm=>m.1.d)) (bz m) hh = .ok (tb M m).d hh:=aju (by rw [List.getElem?_map,a9u hm];rfl)
noncomputable def jf:SF:=o9 a2f 6
theorem afh(h:M.Ok){m k:Nat}(hm:m<M.ms.length)(hk:(k:Int)∈(tb M m).ks):Pu jf 3 [M.d,bz m,bz k] (dg M m k).d:=by
 refine Pu.of rfl (af1 (M.clo 0) (iz _) (iz _)) (r:=.ok (dg M m k).d []) ?_ (nq (Deed.clo _ _) (by simp)) (Deed.clo _ _)
 unfold jf;rw [j7];show toR (a2f [some M.d,some (bz m),some (bz k),none,none,none] [])=_;unfold a2f;have as:a5p (s2 gIx (s2 gIx (sV 0) (sC (.int 1))) (sV 1)) (a1n 3 (jj (kN 3) (jj (kN 4) (jj (kN 5) a1t)))) [some M.d,some (bz m),some (bz k),none,none,none] [] = .nx [some M.d,some (bz m),some (bz k),some (.tup ((tb M m).go.map a3q)),some (.tup ((tb M m).ks.map D.int)),some (.tup (dsD (dd M m)))] []:=abw (gj (gj (bf rfl) (gf _ _ _) (ac1 _)) (bf rfl) (afd hm _)) rfl;refine Eq.trans (congrArg toR (zg as)) ?_
 exact congrArg toR (qd (gj (bf rfl) (bf rfl) (amz h hm hk _)))
end
abbrev a06(l:List Nat):D:=.tup (l.map bz)
def behind(l:List Nat):Deed->Option (List Nat)
 | .opn k=>some (l++[k])
 | .trn k=>some (l.take (l.length - 1)++[k])
 | .stay=>some l
 | .shut=>if 1<l.length then some (l.take (l.length - 1)) else none
abbrev asn:Option (List Nat)->D
 | some l=>a06 l
 | none=>.non
theorem a4j(n:Nat)(l:List Nat):MI.clo n (a06 l):=m5 (jb _)
theorem afi(o:Option (List Nat)):MI.clo 0 (asn o):=by
 cases o
 ·exact a9h
 ·exact a4j _ _
theorem afj{α:Type}(l:List α):a2r l none (some (-1))=l.take (l.length - 1):=by
 unfold a2r;rw [HT.a6n,List.drop_zero,Nat.sub_zero]
 congr 1
 unfold HT.sIx;simp;omega
theorem arc(r:List Nat)(h:Hd):a92 (a06 r) none (some (-1)) h = .ok (a06 (r.take (r.length - 1))) h:=by
 rw [PAP.avl,afj,List.length_map,<-List.map_take]
theorem a0d(a b:Str)(h:Hd):hEq (.str a) (.str b) h = .ok (.bl (a == b)) h:=by
 unfold hEq;rw [if_pos ⟨rfl,rfl⟩];rfl
noncomputable def j8:SF:=o9 yp 2
theorem afk(l:List Nat)(ll:l.length<=1000)(x:Deed):Pu j8 2 [a06 l,x.d] (asn (behind l x)):=by
 refine Pu.of rfl (a1s (a4j _ _) (x.clo _)) (r:=.ok (asn (behind l x)) []) ?_ (nq (afi _) (by simp)) (afi _)
 unfold j8;rw [j7];show toR (yp [some (a06 l),some x.d] [])=_;unfold yp;have m1:∀ τ:Sd,oS (s1 a2l (sC (.int 1))) τ [] = .ok (some (-1)) []:=λτ=>rfl;have tf:∀ s:Str,(show Prop from True)->True:=λ_ _=>trivial
 cases x with
 | opn k =>
  refine congrArg toR (a2k (Eq.trans (ifT (tof (gj (gj (bf rfl) (gf _ _ _) (a00 (j:=0) rfl)) (gf _ _ _) (a0d _ _ _)))) (qd (gj (bf rfl) (w6 (gj (bf rfl) (gf _ _ _) (a00 (j:=1) rfl)) rfl) ((PAP.ai2 (by simp;omega)).trans ?_)))))
  show R.ok (D.tup (l.map bz++[bz k])) []=R.ok (D.tup ((l++[k]).map bz)) [];rw [List.map_append];rfl
 | trn k =>
  refine Eq.trans (congrArg toR (ifN (tof (gj (gj (bf rfl) (gf _ _ _) (a00 (j:=0) rfl)) (gf _ _ _) (a0d _ _ _))))) ?_;refine congrArg toR (a2k (Eq.trans (ifT (tof (gj (gj (bf rfl) (gf _ _ _) (a00 (j:=0) rfl)) (gf _ _ _) (a0d _ _ _)))) (qd (gj (a3v (bf rfl) rfl (m1 _) (arc _ _)) (w6 (gj (bf rfl) (gf _ _ _) (a00 (j:=1) rfl)) rfl) ((PAP.ai2 (by simp;omega)).trans ?_)))))
  show R.ok (D.tup ((l.take (l.length - 1)).map bz++[bz k])) []=R.ok (D.tup ((l.take (l.length - 1)++[k]).map bz)) [];rw [List.map_append];rfl
 | stay =>
  refine Eq.trans (congrArg toR (ifN (tof (gj (gj (bf rfl) (gf _ _ _) (a00 (j:=0) rfl)) (gf _ _ _) (a0d _ _ _))))) ?_;refine Eq.trans (congrArg toR (ifN (tof (gj (gj (bf rfl) (gf _ _ _) (a00 (j:=0) rfl)) (gf _ _ _) (a0d _ _ _))))) ?_;exact congrArg toR (a2k (Eq.trans (ifT (tof (gj (gj (bf rfl) (gf _ _ _) (a00 (j:=0) rfl)) (gf _ _ _) (a0d _ _ _)))) (qd (bf rfl))))
 | shut =>
  refine Eq.trans (congrArg toR (ifN (tof (gj (gj (bf rfl) (gf _ _ _) (a00 (j:=0) rfl)) (gf _ _ _) (a0d _ _ _))))) ?_;refine Eq.trans (congrArg toR (ifN (tof (gj (gj (bf rfl) (gf _ _ _) (a00 (j:=0) rfl)) (gf _ _ _) (a0d _ _ _))))) ?_;refine Eq.trans (congrArg toR (ifN (tof (gj (gj (bf rfl) (gf _ _ _) (a00 (j:=0) rfl)) (gf _ _ _) (a0d _ _ _))))) ?_;have ln:xx [a06 l] [] = .ok (bz l.length) []:=by rw [a2z,List.length_map]
  unfold behind
  by_cases h:1<l.length
  ·rw [if_pos h];exact congrArg toR (qd (SRC.avm (tof (gj (w6 (bf rfl) ln) (gf _ _ _) (avj (by omega)))) (a3v (bf rfl) rfl (m1 _) (arc _ _))))
  ·rw [if_neg h];exact congrArg toR (qd (SRC.avn (tof (gj (w6 (bf rfl) ln) (gf _ _ _) (avk (by omega)))) (gf _ _ _)))
abbrev Pc:=Nat × Nat × Nat × Nat
abbrev pcD(p:Pc):D:=.tup [bz p.1,bz p.2.1,bz p.2.2.1,bz p.2.2.2]
theorem ard(n:Nat)(p:Pc):MI.clo n (pcD p):=m5 (du (iz _) (du (iz _) (du (iz _) (du (iz _) lu))))
theorem a5m(n:Nat)(ps:List Pc):clos n (ps.map pcD):=lw λp _=>ard n p
def wd:Nat->Str
 | 0 => "none"
 | 1 => "end"
 | _ => "low"
abbrev Rs:=List Pc × Nat × Nat × List Nat
abbrev a7t(r:Rs):List D:=[bz r.2.1, .str (wd r.2.2.1),a06 r.2.2.2]
abbrev anh(r:Rs):D:=.tup (.rol (r.1.map pcD)::a7t r)
theorem aif(n:Nat)(r:Rs):clos n (a7t r):=du (iz _) (du (j6 _) (du (a4j _ _) lu))
theorem afl(r:Rs):MI.clo 0 (anh r):=m5 (du (v6 (a5m _ _)) (aif _ _))
theorem ak2{a b c d:D}{h:Hd}:MI.qp [a,b,c,d] h = .ok (.tup [a,b,c,d]) h:=by unfold MI.qp;rw [if_pos (jx (by simp))]
theorem afm{r:Rs}:a91 0 (.ok (.tup (.ref 0::a7t r)) [.lst (r.1.map pcD)]) = .ok (anh r) []:=by
 have oc:∀ {k:Nat} {d d':D} {ds ds':List D},a2m 0 [.lst (r.1.map pcD)] k d=some d'->a0s (a2m 0 [.lst (r.1.map pcD)] k) ds=some ds'->a0s (a2m 0 [.lst (r.1.map pcD)] k) (d::ds)=some (d'::ds'):=λe1 e2=>by unfold a0s;rw [e1,e2]
 refine a5f (h1:=[.lst (r.1.map pcD)]) (aap (k:=19) (oc (a4b (k:=17) (by omega) rfl (a5m _ _)) (oc (a1e (k:=18) (iz _)) (oc (a1e (k:=18) (j6 _)) (oc (a1e (k:=18) (a4j _ _)) rfl)))) ?_) (by simp)
 intro z
 have:=yf.mp z (.ref 0) List.mem_cons_self
 simp only [MI.clo] at this;omega
section
variable{M:Mach}
def lst(l:List Nat):Nat:=(l[l.length - 1]?).getD 0
theorem a5n{l:List Nat}(ne:l≠[]):l[l.length - 1]? = some (lst l):=by
 have:=List.length_pos_iff.mpr ne
 unfold lst;rw [List.getElem?_eq_getElem (by omega)]
 rfl
theorem an1{xs:List D}{d:D}(h:xs[xs.length - 1]? = some d):atI xs (-1)=some d:=by
 have hl:0<xs.length:=by cases xs with | nil=>simp at h | cons _ _=>simp
 have e:xs=xs.take (xs.length - 1)++[d]:=by
  have:=List.take_succ (l:=xs) (i:=xs.length - 1)
  rw [h,Nat.sub_add_cancel hl,List.take_length] at this;exact this
 rw [e];exact aex _ _
theorem afn{l:List Nat}(ne:l≠[])(h:Hd):gIx (a06 l) (.int (-1)) h = .ok (bz (lst l)) h:=by
 rw [MI.a3g,an1 (d:=bz (lst l)) (by rw [List.length_map,List.getElem?_map,a5n ne];rfl)]
theorem aig{l:List Nat}(ne:l≠[])(h:Hd):gIx (.rol (l.map bz)) (.int (-1)) h = .ok (bz (lst l)) h:=by
 rw [MI.a6d,an1 (d:=bz (lst l)) (by rw [List.length_map,List.getElem?_map,a5n ne];rfl)]
structure Pile (M:Mach) (l:List Nat):Prop where
 ne:l≠[]
 lt:∀ m∈l,m<M.ms.length
theorem Pile.last{l:List Nat}(h:Pile M l):lst l<M.ms.length:=h.lt _ (List.mem_of_getElem? (a5n h.ne))
theorem Pile.behind{l l':List Nat}{x:Deed}(h:Pile M l)(hx:x.Ok M.ms.length)(e:K69.behind l x=some l'):Pile M l'/\l'.length<=l.length+1:=by
 have sub:∀ m∈l.take (l.length - 1),m<M.ms.length:=λm hm=>h.lt m (List.mem_of_mem_take hm)
 cases x with
 | opn k =>
  cases e
  refine ⟨⟨by simp,λm hm=>?_⟩,by simp⟩
  rcases List.mem_append.mp hm with z | z
  ·exact h.lt m z
  ·rw [List.mem_singleton] at z;subst z;exact hx
 | trn k =>
  cases e
  refine ⟨⟨by simp,λm hm=>?_⟩,by rw [List.length_append,List.length_take,List.length_singleton];omega⟩
  rcases List.mem_append.mp hm with z | z
  ·exact sub m z
  ·rw [List.mem_singleton] at z;subst z;exact hx
 | stay=>cases e;exact ⟨h,by omega⟩
 | shut =>
  have e:(if 1<l.length then some (l.take (l.length - 1)) else none)=some l':=e
  split at e
  ·cases e
   refine ⟨⟨λz=>?_,sub⟩,by rw [List.length_take];omega⟩
   have:=congrArg List.length z
   simp at this
   omega
  ·cases e
def a5o(M:Mach)(x:List Nat):Nat->Nat->List Nat->List Pc->Rs
 | 0,p,l,acc=>(acc,p,0,l)
 | n+1,p,l,acc=>match dec (bst (tb M (lst l)) x p) with
  | none=>(acc,p,if p=x.length then 1 else 0,l)
  | some (k,e)=>match K69.behind l (dg M (lst l) k) with
   | none=>(acc,p,2,l)
   | some l'=>a5o M x n e l' (acc++[(lst l,k,p,e)])
abbrev res(M:Mach)(x:List Nat)(s:Nat):Rs:=a5o M x (x.length+1) 0 [s] []
theorem arf(h:M.Ok){x:List Nat}{m p:Nat}(hm:m<M.ms.length)(pl:p<=x.length):(bst (tb M m) x p = .non/\dec (bst (tb M m) x p)=none)\/∃ q e:Nat,bst (tb M m) x p = .tup [bz q,bz e]/\dec (bst (tb M m) x p)=some (q,e)/\(q:Int)∈(tb M m).ks/\p<e/\e<=x.length:=by
 rcases ar9 (aui h hm) pl with z | ⟨q,e,z,z1,z2,z3⟩
 ·exact .inl ⟨z,by rw [z];rfl⟩
 ·exact .inr ⟨q,e,z,by rw [z];rfl,z1,z2,z3⟩
theorem more(h:M.Ok){x:List Nat}:∀ (n k p:Nat) (l:List Nat) (acc:List Pc),p<=x.length->x.length - p+1<=n->Pile M l->a5o M x (n+k) p l acc=a5o M x n p l acc:=by
 intro n
 induction n with
 | zero=>intro k p l acc hp hn;omega
 | succ n ih =>
  intro k p l acc hp hn P
  rw [show n+1+k=(n+k)+1 by omega]
  unfold a5o
  rcases arf h P.last hp with ⟨_,y2⟩ | ⟨q',e',_,y2,yk,pe',el'⟩
  ·rw [y2]
  ·rw [y2];dsimp only
   cases hb:K69.behind l (dg M (lst l) q') with
   | none=>rfl
   | some l'=>exact ih k e' l' _ el' (by omega) (P.behind (afe h P.last yk) hb).1
theorem next(h:M.Ok){x:List Nat}{p q e:Nat}{l l':List Nat}{acc:List Pc}{r:Rs}(P:Pile M l)(el:e<=x.length)(pe:p<e)(z2:dec (bst (tb M (lst l)) x p)=some (q,e))(hk:(q:Int)∈(tb M (lst l)).ks)(hb:K69.behind l (dg M (lst l) q)=some l')(er:a5o M x (x.length - p+1) p l acc=r) :
  a5o M x (x.length - e+1) e l' (acc++[(lst l,q,p,e)])=r:=by
 rw [<-er]
 conv=>rhs;unfold a5o
 rw [z2];dsimp only;rw [hb];dsimp only;have:=more h (x:=x) (x.length - e+1) (x.length - p - (x.length - e+1)) e l' (acc++[(lst l,q,p,e)]) el (Nat.le_refl _) (P.behind (afe h P.last hk) hb).1;rw [show x.length - e+1+(x.length - p - (x.length - e+1))=x.length - p by omega] at this
 exact this.symm
noncomputable def jo:SF:=o9 (vq jf K69.ig jd K69.ju j8) 12
abbrev τc(M:Mach)(s:Nat)(x:List Nat)(p:Nat)(l:List Nat)(f:D)(a b c d:Option D):Sd:=[some M.d,some (bz s),some (.str (S x)),some (.rol (M.ms.map λm=>m.1.d)),some (.ref 0),some (bz p),some (a06 l),some f,a,b,c,d]
theorem arh(h:M.Ok){x:List Nat}{m:Nat}(hm:m<M.ms.length)(ht:∀ c∈x,c∈M.tg):∀ c∈x,c∈(tb M m).tg:=by rw [ara h hm];exact ht
theorem ak3(h:M.Ok){x:List Nat}{m p:Nat}(hm:m<M.ms.length)(ht:∀ c∈x,c∈M.tg)(xl:x.length<=900)(pl:p<=x.length)(hh:Hd):nj false 3 K69.ju [(tb M m).d, .str (S x),bz p] hh = .ok (bst (tb M m) x p) hh:=a7r (aui h hm) (arh h hm ht) (by omega) pl hh
theorem afo(h:M.Ok){x:List Nat}{s:Nat}(hs:s<M.ms.length)(ht:∀ c∈x,c∈M.tg)(xl:x.length<=900):jo [M.d,bz s, .str (S x)] [] = .ok (.tup (.ref 0::a7t (res M x s))) [.lst ((res M x s).1.map pcD)]:=by
 have lts:∀ (p:Nat) (l:List Nat) (acc:List Pc) (w:Nat),(acc,p,w,l)=res M x s->(.tup [.ref 0,bz p, .str (wd w),a06 l]:D) = .tup (.ref 0::a7t (res M x s))/\acc.map pcD=(res M x s).1.map pcD:=λp l acc w e=>by rw [<-e];exact ⟨rfl,rfl⟩
 have w:=am1 (c:=a1k jf K69.ig jd K69.ju j8) (f:=wy jf K69.ig jd K69.ju j8)
  (λm τ hp=>∃ (p:Nat) (l:List Nat) (acc:List Pc) (a b c d:Option D),τ=τc M s x p l (bst (tb M (lst l)) x p) a b c d/\hp=[.lst (acc.map pcD)]/\m=x.length - p/\p<=x.length/\acc.length<=p/\l.length<=p+1/\Pile M l/\a5o M x (x.length - p+1) p l acc=res M x s)
  (λτ hp=>∃ (p:Nat) (l:List Nat) (acc:List Pc) (a b c d:Option D),τ=τc M s x p l (bst (tb M (lst l)) x p) a b c d/\hp=[.lst (acc.map pcD)]/\(acc,p,(if p=x.length then 1 else 0),l)=res M x s)
  (λd hp=>d = .tup (.ref 0::a7t (res M x s))/\hp=[.lst ((res M x s).1.map pcD)]) ?_ x.length 100000 (τc M s x 0 [s] (bst (tb M s) x 0) none none none none) [.lst []] (by omega) ⟨0,[s],[],none,none,none,none,rfl,rfl,rfl,by omega,by simp,by simp,⟨by simp,by simpa using hs⟩,rfl⟩
 ·unfold jo;rw [j7];show toR (vq jf K69.ig jd K69.ju j8 [some M.d,some (bz s),some (.str (S x)),none,none,none,none,none,none,none,none,none] [])=_;unfold vq;have lk:=a7m (T:=tb M s) (amt (l:=x) (by omega)) (by rw [ams];exact ar5 (arh h hs ht)) []
  rw [ara h hs] at lk;have dr:um (sA (zf 2 K69.ig) (aj (s2 gIx (sV 0) (sC (.int 0))) (aj (sV 2) dj))) [some M.d,some (bz s),some (.str (S x)),none,none,none,none,none,none,none,none,none] [] = .nx [some M.d,some (bz s),some (.str (S x)),none,none,none,none,none,none,none,none,none] []:=by
   unfold um;rw [(ami (fj (gj (bf rfl) (gf _ _ _) (a9v _)) (fj (bf rfl) rfl))).trans lk];rfl
  refine Eq.trans (congrArg toR (zg dr)) ?_;refine Eq.trans (congrArg toR (jk (w6 (bf rfl) (afg h _)))) ?_;refine Eq.trans (congrArg toR (jk (d:=.ref 0) (h1:=[.lst []]) rfl)) ?_;refine Eq.trans (congrArg toR (jk (gf _ _ _))) ?_;refine Eq.trans (congrArg toR (jk (w6 (bf rfl) (show MI.qp [bz s] _ = .ok (a06 [s]) _ by unfold MI.qp;rw [if_pos (jx (by simp))];rfl)))) ?_
  refine Eq.trans (congrArg toR (jk (a8t (gj (bf rfl) (bf rfl) (ak1 hs _)) (bf rfl) (bf rfl) (ak3 h (p:=0) hs ht xl (by omega) _)))) ?_
  rcases w with ⟨τ',h',e,p,l,acc,a,b,c,d,rfl,rfl,er⟩ | ⟨d,h',e,rfl,rfl⟩
  ·refine Eq.trans (congrArg toR (zg (av3 e))) ?_;obtain ⟨q1,q2⟩:=lts _ _ _ _ er;rw [<-q1,<-q2];have ln:∀ hh:Hd,xx [.str (S x)] hh = .ok (bz x.length) hh:=λhh=>a9n (jx (by omega))
   refine congrArg toR (qd (SRC.a9s (fj (bf rfl) (fj (bf rfl) (fj ?_ (fj (bf rfl) rfl)))) ak2))
   by_cases hp:p=x.length
   ·rw [if_pos hp];exact SRC.avm (tof (gj (bf rfl) (w6 (bf rfl) (ln _)) (aes (by omega)))) (gf _ _ _)
   ·rw [if_neg hp];exact SRC.avn (tof (gj (bf rfl) (w6 (bf rfl) (ln _)) (aet (by omega)))) (gf _ _ _)
  ·exact congrArg toR (a2k (awk e))
 ·rintro m τ hp ⟨p,l,acc,a,b,c,d,rfl,rfl,rfl,pl,al,ll,P,er⟩
  rcases arf h P.last pl with ⟨z1,z2⟩ | ⟨q,e,z1,z2,zk,pe,el⟩
  ·refine .inl ⟨_,tof (gj (bf rfl) (gf _ _ _) ((a0c _).trans (by rw [z1];rfl))),p,l,acc,a,b,c,d,rfl,rfl,?_⟩
   rw [<-er];unfold a5o;rw [z2]
  ·refine .inr ⟨_,tof (gj (bf rfl) (gf _ _ _) ((a0c _).trans (by rw [z1];rfl))),?_⟩
   have as:a5p (sV 7) (a1n 2 (jj (kN 8) (jj (kN 9) a1t))) (τc M s x p l (bst (tb M (lst l)) x p) a b c d) [.lst (acc.map pcD)] = .nx (τc M s x p l (bst (tb M (lst l)) x p) (some (bz q)) (some (bz e)) c d) [.lst (acc.map pcD)]:=abw (bf rfl) (by rw [z1];rfl)
   have head:∀ g:SS,j5 (a5p (sV 7) (a1n 2 (jj (kN 8) (jj (kN 9) a1t)))) (j5 (lq 10 (s2 gIx (sV 6) (s1 a2l (sC (.int 1))))) (j5 (lq 11 (sA (nj false 2 j8) (aj (sV 6) (aj (sA (nj false 3 jf) (aj (sV 0) (aj (sV 10) (aj (sV 8) dj)))) dj)))) g)) (τc M s x p l (bst (tb M (lst l)) x p) a b c d) [.lst (acc.map pcD)]=g (τc M s x p l (bst (tb M (lst l)) x p) (some (bz q)) (some (bz e)) (some (bz (lst l))) (some (asn (K69.behind l (dg M (lst l) q))))) [.lst (acc.map pcD)]:=λg=>by
    refine Eq.trans (zg as) ?_;refine Eq.trans (jk (gj (bf rfl) (aca (gf _ _ _) (a3u _)) (afn P.ne _))) ?_;exact jk (qt (bf rfl) (a8t (bf rfl) (bf rfl) (bf rfl) (afh h P.last zk _)) (afk l (by omega) _ _))
   cases hb:K69.behind l (dg M (lst l) q) with
   | none =>
    refine .inr ⟨.tup [.ref 0,bz p, .str (wd 2),a06 l],[.lst (acc.map pcD)],?_,?_⟩
    ·unfold wy;refine Eq.trans (head _) ?_;rw [hb];exact a2k (Eq.trans (ifT (tof (gj (bf rfl) (gf _ _ _) (show gIs .non .non _ = .ok (.bl true) _ from rfl)))) (qd (SRC.a9s (fj (bf rfl) (fj (bf rfl) (fj (gf _ _ _) (fj (bf rfl) rfl)))) ak2)))
    ·obtain ⟨q1,q2⟩:=lts p l acc 2 (by rw [<-er];unfold a5o;rw [z2];dsimp only;rw [hb])
     exact ⟨q1,by rw [q2]⟩
   | some l' =>
    obtain ⟨P',ll'⟩:=P.behind (afe h P.last zk) hb;refine .inl ⟨τc M s x e l' (bst (tb M (lst l')) x e) (some (bz q)) (some (bz e)) (some (bz (lst l))) (some (a06 l')),[.lst ((acc++[(lst l,q,p,e)]).map pcD)],x.length - e,?_,by omega,e,l',acc++[(lst l,q,p,e)],_,_,_,_,rfl,rfl,rfl,el,by rw [List.length_append,List.length_singleton];omega,by omega,P',next h P el pe z2 zk hb er⟩
    unfold wy;refine Eq.trans (head _) ?_;rw [hb];refine Eq.trans (ifN (tof (gj (bf rfl) (gf _ _ _) (show gIs (a06 l') .non _ = .ok (.bl false) _ from rfl)))) ?_
    rw [List.map_append];refine Eq.trans (zg (zx (bf rfl) rfl (arg1 (SRC.a9s (fj (bf rfl) (fj (bf rfl) (fj (bf rfl) (fj (bf rfl) rfl)))) ak2)) (zy (xs:=acc.map pcD) rfl (by rw [List.length_map];exact a01 (by omega))))) ?_
    refine Eq.trans (jk (bf rfl)) ?_;refine Eq.trans (jk (bf rfl)) ?_;exact ahz (a8t (gj (bf rfl) (gj (bf rfl) (aca (gf _ _ _) (a3u _)) (afn P'.ne _)) (ak1 P'.last _)) (bf rfl) (bf rfl) (ak3 h P'.last ht xl el _))
end
section
variable{M:Mach}
theorem auj{a b c d:D}(ha:MI.clo 0 a)(hb:MI.clo 0 b)(hc:MI.clo 0 c)(hd:MI.clo 0 d):∀ x∈[a,b,c,d],MI.clo 0 x:=by
 intro x hx
 simp only [List.mem_cons,List.not_mem_nil,or_false] at hx
 rcases hx with rfl | rfl | rfl | rfl<;>assumption
theorem a7u{s:Nat}{d:D}(hd:MI.clo 0 d):∀ x∈[M.d,bz s,d],MI.clo 0 x:=af1 (M.clo 0) (iz _) hd
theorem aih(h:M.Ok){x:List Nat}{s:Nat}(hs:s<M.ms.length)(ht:∀ c∈x,c∈M.tg)(xl:x.length<=900)(hh:Hd):zf 3 jo [M.d,bz s, .str (S x)] hh = .ok (anh (res M x s)) hh :=
 a9q (a7u (j6 _)) (afo h hs ht xl) (Pu.of rfl (a7u (j6 _)) (afo h hs ht xl) afm (afl _))
theorem an2(h:M.Ok){d:D}{s:Nat}(hs:s<M.ms.length)(p:Pln d)(t:txt (tb M s) d=false)(hh:Hd):zf 3 jo [M.d,bz s,d] hh = .ex "NoText" hh:=by
 refine a9p rfl (a7u p.clo) (h1:=[]) ?_;unfold jo;rw [j7];show toR (vq jf K69.ig jd K69.ju j8 [some M.d,some (bz s),some d,none,none,none,none,none,none,none,none,none] [])=_;unfold vq;have lk:=a7n (T:=tb M s) p t [];rw [ara h hs] at lk;exact congrArg toR (amg (ajw ((ami (fj (gj (bf rfl) (gf _ _ _) (a9v _)) (fj (bf rfl) rfl))).trans lk)))
noncomputable def jz:SF:=o9 PN.a0l 7
theorem aii(h:M.Ok){x:List Nat}{a m:Nat}(hm:m<M.ms.length)(ht:∀ c∈x,c∈M.tg)(xl:x.length<=1000)(al:a<=x.length):Pu jz 4 [M.d,bz m, .str (S x),bz a] (bst (tb M m) x a):=by
 have hT:=aui h hm;have tq:=ara h hm
 let T:=tb M m
 refine Pu.of rfl (auj (M.clo 0) (iz _) (j6 _) (iz _)) (r:=.ok (bst T x a) []) ?_ (nq (SRC.a4i _ _ _) (by simp)) (SRC.a4i _ _ _)
 unfold jz;rw [j7];show toR (PN.a0l [some M.d,some (bz m),some (.str (S x)),some (bz a),none,none,none] [])=_;unfold PN.a0l;refine Eq.trans (congrArg toR (jk (gf _ _ _))) ?_;refine Eq.trans (congrArg toR (jk (gf _ _ _))) ?_;refine Eq.trans (congrArg toR (a3e (amc (a:=a) (n:=x.length) (bf rfl) (w6 (bf rfl) (a9n (jx (by omega)))) (jx (by omega)) (jx (by omega))))) ?_
 have lp:=qw (g:=kN 6) (b:=PN.ww) (λi:Nat=>D.int ((a+i:Nat)))
  (λpre τ hh=>∃ t6:Option D,τ=[some M.d,some (bz m),some (.str (S x)),some (bz a),some (bz (SRC.rm T (x.drop a) pre.length)),some (SRC.best T a (x.drop a) (pre.length+1)),t6]/\hh=[])
  (List.range (x.length - a)) [some M.d,some (bz m),some (.str (S x)),some (bz a),some (bz 0),some .non,none] [] ?_ ⟨none,by rw [List.length_nil,SRC.auh hT];rfl,rfl⟩
 ·obtain ⟨τ',h',e,t6,rfl,rfl⟩:=lp;refine Eq.trans (congrArg (λz=>toR (MI.thn z _)) e) ?_;rw [xf,List.length_range];exact congrArg toR (qd (bf rfl))
 ·rintro pre i post τ hh all ⟨t6,rfl,rfl⟩
  obtain ⟨hi,hk⟩:=a8u all;have ek:(x.drop a)[pre.length]? = some (x[a+i]'(by omega)):=by rw [List.getElem?_drop,<-hi,List.getElem?_eq_getElem (by omega)]
  have ec:x[a+i]? = some (x[a+i]'(by omega)):=List.getElem?_eq_getElem (by omega)
  have hc:x[a+i]'(by omega)∈T.tg:=by show _∈(tb M m).tg;rw [tq];exact ht _ (List.mem_of_getElem? ec)
  generalize x[a+i]'(by omega)=c at ek ec hc
  have rl:=SRC.ai8 hT (x.drop a) pre.length;have r2:=SRC.ai8 hT (x.drop a) (pre.length+1);rw [List.length_append,List.length_singleton];have goi:∀ τ:Sd,τ[0]? = some (some M.d)->τ[1]? = some (some (bz m))->s2 gIx (s2 gIx (s2 gIx (sV 0) (sC (.int 1))) (sV 1)) (sC (.int 0)) τ [] = .ok (.tup (T.go.map a3q)) []:=λτ h0 h1=>gj (gj (gj (bf h0) (gf _ _ _) (ac1 _)) (bf h1) (afd hm _)) (gf _ _ _) (a00 (j:=0) rfl);have ksi:∀ τ:Sd,τ[0]? = some (some M.d)->τ[1]? = some (some (bz m))->s2 gIx (s2 gIx (s2 gIx (sV 0) (sC (.int 1))) (sV 1)) (sC (.int 1)) τ [] = .ok (.tup (T.ks.map D.int)) []:=λτ h0 h1=>gj (gj (gj (bf h0) (gf _ _ _) (ac1 _)) (bf h1) (afd hm _)) (gf _ _ _) (a00 (j:=1) rfl)
  have tgx:∀ hh:Hd,gIx M.d (.int 0) hh = .ok (.str (S T.tg)) hh:=λhh=>by show _=R.ok (D.str (S (tb M m).tg)) hh;rw [tq];exact a9v hh
  have st:s2 gIx (s2 gIx (s2 gIx (s2 gIx (s2 gIx (sV 0) (sC (.int 1))) (sV 1)) (sC (.int 0))) (sV 4)) (sMS adv (s2 gIx (sV 0) (sC (.int 0))) (aj (s2 gIx (sV 2) (sV 6)) dj)) [some M.d,some (bz m),some (.str (S x)),some (bz a),some (bz (SRC.rm T (x.drop a) pre.length)),some (SRC.best T a (x.drop a) (pre.length+1)),some (.int ((a+i:Nat)))] [] = .ok (bz (SRC.rm T (x.drop a) (pre.length+1))) []:=by
   rw [SRC.amu ek];exact gj (gj (goi _ rfl rfl) (bf rfl) (ajx hT rl _)) (aud (gj (bf rfl) (gf _ _ _) (tgx _)) (arg1 (gj (bf rfl) (bf rfl) (au5 (jx (by omega)) ec))) (ar0 hc _)) (ar3 hT (ab4 hc).2 _)
  have kg:∀ τ:Sd,τ[0]? = some (some M.d)->τ[1]? = some (some (bz m))->τ[4]? = some (some (bz (SRC.rm T (x.drop a) (pre.length+1))))->s2 gIx (s2 gIx (s2 gIx (s2 gIx (sV 0) (sC (.int 1))) (sV 1)) (sC (.int 1))) (sV 4) τ [] = .ok (.int (kI T (SRC.rm T (x.drop a) (pre.length+1)))) []:=λτ h0 h1 h4=>gj (ksi τ h0 h1) (bf h4) (ajy hT r2 _);obtain ⟨kv,ke,k1,k2⟩:=amo hT r2;have kx:kI T (SRC.rm T (x.drop a) (pre.length+1))=kv:=by unfold kI;rw [ke];rfl
  by_cases hmn:kI T (SRC.rm T (x.drop a) (pre.length+1)) = -1
  ·refine ⟨_,_,rfl,[some M.d,some (bz m),some (.str (S x)),some (bz a),some (bz (SRC.rm T (x.drop a) (pre.length+1))),some (SRC.best T a (x.drop a) (pre.length+1)),some (.int ((a+i:Nat)))],[],?_,_,by rw [SRC.af4 (k:=pre.length+1) hmn],rfl⟩
   unfold PN.ww;refine Eq.trans (jk st) ?_;refine Eq.trans (ifF (tof (gj (kg _ rfl rfl rfl) (gf _ _ _) (show gGe (.int (kI T (SRC.rm T (x.drop a) (pre.length+1)))) (.int 0) [] = .ok (.bl false) [] by rw [hmn];rfl)))) rfl
  ·refine ⟨_,_,rfl,[some M.d,some (bz m),some (.str (S x)),some (bz a),some (bz (SRC.rm T (x.drop a) (pre.length+1))),some (.tup [.int (kI T (SRC.rm T (x.drop a) (pre.length+1))), .int ((a+i:Nat)+1)]),some (.int ((a+i:Nat)))],[],?_,some (.int ((a+i:Nat))),?_,rfl⟩
   ·unfold PN.ww;refine Eq.trans (jk st) ?_;refine Eq.trans (ifT (tof (gj (kg _ rfl rfl rfl) (gf _ _ _) (show gGe (.int (kI T (SRC.rm T (x.drop a) (pre.length+1)))) (.int 0) [] = .ok (.bl true) [] by
     show R.ok (D.bl (decide ((0:Int)<=kI T (SRC.rm T (x.drop a) (pre.length+1))))) []=_;rw [decide_eq_true (by omega)])))) ?_
    exact ahz (qt (kg _ rfl rfl rfl) (gj (bf rfl) (gf _ _ _) v9) ab1)
   ·rw [SRC.af5 (k:=pre.length+1) hmn,hi];rfl
abbrev a5v(l:List Nat):D:=.rol (l.map bz)
def later(l:List Nat):Deed->List Nat
 | .opn k=>l++[k]
 | .trn k=>l.take (l.length - 1)++[k]
 | .stay=>l
 | .shut=>l.take (l.length - 1)
noncomputable def kh:SF:=o9 vy 2
theorem aij(l:List Nat)(ll:l.length<=1000)(x:Deed):Pu kh 2 [a5v l,x.d] (a5v (later l x)):=by
 have go:toR (vy [some (a5v l),some x.d] []) = .ok (a5v (later l x)) []\/toR (vy [some (a5v l),some x.d] []) = .ok (.ref 0) [.lst ((later l x).map bz)]:=by
  unfold vy;have m1:∀ τ:Sd,oS (s1 a2l (sC (.int 1))) τ [] = .ok (some (-1)) []:=λτ=>rfl;have sl:a92 (a5v l) none (some (-1)) [] = .ok (.ref 0) [.lst ((l.take (l.length - 1)).map bz)]:=by
   show gSl (a5v l) none (some (-1)) []=_;unfold gSl;dsimp only;rw [afj,List.length_map,<-List.map_take];rfl
  have one:∀ (k:Nat) (τ:Sd),τ[1]? = some (some (.tup [.str (show Str from "open"),bz k]))\/τ[1]? = some (some (.tup [.str (show Str from "turn"),bz k]))->sZ (sA yx (aj (s2 gIx (sV 1) (sC (.int 1))) dj)) τ [] = .ok (a5v [k]) []:=λk τ h1=>by
   rcases h1 with h1 | h1
   ·exact yg (w6 (gj (bf h1) (gf _ _ _) (a00 (j:=1) rfl)) rfl) (jb [k]) (by simp)
   ·exact yg (w6 (gj (bf h1) (gf _ _ _) (a00 (j:=1) rfl)) rfl) (jb [k]) (by simp)
  have ad:∀ a b:List Nat,a.length+b.length<=2000->jr (a5v a) (a5v b) [] = .ok (.ref 0) [.lst ((a++b).map bz)]:=λa b hl=>by
   rw [a74 (xs:=a.map bz) (ys:=b.map bz) rfl rfl,if_pos (jx (by rw [List.length_map,List.length_map];omega)),<-List.map_append]
   rfl
  cases x with
  | opn k =>
   exact .inr (congrArg toR (a2k (Eq.trans (ifT (tof (gj (gj (bf rfl) (gf _ _ _) (a00 (j:=0) rfl)) (gf _ _ _) (a0d _ _ _)))) (qd (gj (bf rfl) (one k _ (.inl rfl)) (ad _ _ (by simp;omega)))))))
  | trn k =>
   refine .inr (Eq.trans (congrArg toR (ifN (tof (gj (gj (bf rfl) (gf _ _ _) (a00 (j:=0) rfl)) (gf _ _ _) (a0d _ _ _))))) ?_);have zs:∀ τ:Sd,τ[0]? = some (some (a5v l))->sZ (a0v (sV 0) oN (oS (s1 a2l (sC (.int 1))))) τ [] = .ok (a5v (l.take (l.length - 1))) []:=λτ h0=>yg (a3v (bf h0) rfl (m1 _) sl) (jb _) (by simp)
   exact congrArg toR (a2k (Eq.trans (ifT (tof (gj (gj (bf rfl) (gf _ _ _) (a00 (j:=0) rfl)) (gf _ _ _) (a0d _ _ _)))) (qd (gj (zs _ rfl) (one k _ (.inr rfl)) (ad _ _ (by simp;omega))))))
  | shut =>
   refine .inr (Eq.trans (congrArg toR (ifN (tof (gj (gj (bf rfl) (gf _ _ _) (a00 (j:=0) rfl)) (gf _ _ _) (a0d _ _ _))))) ?_);refine Eq.trans (congrArg toR (ifN (tof (gj (gj (bf rfl) (gf _ _ _) (a00 (j:=0) rfl)) (gf _ _ _) (a0d _ _ _))))) ?_;exact congrArg toR (a2k (Eq.trans (ifT (tof (gj (gj (bf rfl) (gf _ _ _) (a00 (j:=0) rfl)) (gf _ _ _) (a0d _ _ _)))) (qd (a3v (bf rfl) rfl (m1 _) sl))))
  | stay =>
   refine .inl (Eq.trans (congrArg toR (ifN (tof (gj (gj (bf rfl) (gf _ _ _) (a00 (j:=0) rfl)) (gf _ _ _) (a0d _ _ _))))) ?_);refine Eq.trans (congrArg toR (ifN (tof (gj (gj (bf rfl) (gf _ _ _) (a00 (j:=0) rfl)) (gf _ _ _) (a0d _ _ _))))) ?_;refine Eq.trans (congrArg toR (ifN (tof (gj (gj (bf rfl) (gf _ _ _) (a00 (j:=0) rfl)) (gf _ _ _) (a0d _ _ _))))) ?_;exact congrArg toR (qd (bf rfl))
 have un:kh [a5v l,x.d] []=toR (vy [some (a5v l),some x.d] []):=by unfold kh;rw [j7];rfl
 have ca:∀ y∈[a5v l,x.d],MI.clo 0 y:=a1s (v6 (jb _)) (x.clo _)
 rcases go with g | g
 ·exact Pu.of rfl ca (un.trans g) (nq (v6 (jb _)) (by simp)) (v6 (jb _))
 ·exact Pu.of rfl ca (un.trans g) (a1f (Nat.zero_le _) rfl (jb _) (by simp)) (v6 (jb _))
theorem aik{l:List Nat}(ne:l≠[])(x:Deed):(behind l x=none/\later l x=[])\/∃ l',l'≠[]/\behind l x=some l'/\later l x=l':=by
 have hp:=List.length_pos_iff.mpr ne
 cases x with
 | opn k=>exact .inr ⟨_,by simp,rfl,rfl⟩
 | trn k=>exact .inr ⟨_,by simp,rfl,rfl⟩
 | stay=>exact .inr ⟨_,ne,rfl,rfl⟩
 | shut =>
  show ((if 1<l.length then some (l.take (l.length - 1)) else none)=none/\l.take (l.length - 1)=[])\/∃ l',l'≠[]/\(if 1<l.length then some (l.take (l.length - 1)) else none)=some l'/\l.take (l.length - 1)=l'
  by_cases h:1<l.length
  ·refine .inr ⟨_,λz=>?_,by rw [if_pos h],rfl⟩
   have:=congrArg List.length z
   simp at this
   omega
  ·refine .inl ⟨by rw [if_neg h],?_⟩
   rw [show l.length - 1=0 by omega]
   rfl
end
section
variable{M:Mach}
noncomputable def gw:SF:=o9 (K69.a2g jz kh) 9
abbrev τl(M:Mach)(s:Nat)(x:List Nat)(p:Nat)(l:List Nat)(a b c:Option D):Sd:=[some M.d,some (bz s),some (.str (S x)),some (.ref 0),some (a5v l),some (bz p),a,b,c]
theorem ak4(l:List Nat)(h:Hd):am8 false (a5v l) (.rol []) h = .ok (.bl (decide (l=[]))) h:=by
 unfold am8 a0h;dsimp only;rw [if_pos ⟨by rw [List.all_eq_true];intro x hx;obtain ⟨y,_,rfl⟩:=List.mem_map.mp hx;rfl,rfl⟩]
 cases l<;>rfl
theorem ail(h:M.Ok){x:List Nat}{s:Nat}(hs:s<M.ms.length)(ht:∀ c∈x,c∈M.tg)(xl:x.length<=900):gw [M.d,bz s, .str (S x)] [] = .ok (.tup (.ref 0::a7t (res M x s))) [.lst ((res M x s).1.map pcD)]:=by
 have lts:∀ (p:Nat) (l:List Nat) (acc:List Pc) (w:Nat),(acc,p,w,l)=res M x s->(.tup [.ref 0,bz p, .str (wd w),a06 l]:D) = .tup (.ref 0::a7t (res M x s))/\acc.map pcD=(res M x s).1.map pcD:=λp l acc w e=>by rw [<-e];exact ⟨rfl,rfl⟩
 have ln:∀ hh:Hd,xx [.str (S x)] hh = .ok (bz x.length) hh:=λhh=>a9n (jx (by omega))
 have tp:∀ (l:List Nat) (hh:Hd),ou [a5v l] hh = .ok (a06 l) hh:=λl hh=>rfl;have w:=am1 (c:=K69.a3p jz kh) (f:=K69.xj jz kh)
  (λm τ hp=>∃ (p:Nat) (l:List Nat) (acc:List Pc) (a b c:Option D),τ=τl M s x p l a b c/\hp=[.lst (acc.map pcD)]/\m=x.length - p/\p<=x.length/\acc.length<=p/\l.length<=p+1/\Pile M l/\a5o M x (x.length - p+1) p l acc=res M x s)
  (λτ hp=>∃ (p:Nat) (l:List Nat) (acc:List Pc) (a b c:Option D),τ=τl M s x p l a b c/\hp=[.lst (acc.map pcD)]/\(acc,p,1,l)=res M x s)
  (λd hp=>d = .tup (.ref 0::a7t (res M x s))/\hp=[.lst ((res M x s).1.map pcD)]) ?_ x.length 100000 (τl M s x 0 [s] none none none) [.lst []] (by omega) ⟨0,[s],[],none,none,none,rfl,rfl,rfl,by omega,by simp,by simp,⟨by simp,by simpa using hs⟩,rfl⟩
 ·unfold gw;rw [j7];show toR (K69.a2g jz kh [some M.d,some (bz s),some (.str (S x)),none,none,none,none,none,none] [])=_;unfold K69.a2g;have zs:∀ (τ:Sd),τ[1]? = some (some (bz s))->sZ (sA yx (aj (sV 1) dj)) τ [.lst []] = .ok (a5v [s]) [.lst []]:=λτ h1=>yg (w6 (bf h1) rfl) (jb [s]) (by intro o ho;rw [List.mem_singleton] at ho;subst ho;exact a5m 1 [])
  refine Eq.trans (congrArg toR (jk (d:=.ref 0) (h1:=[.lst []]) rfl)) ?_;refine Eq.trans (congrArg toR (jk (zs _ rfl))) ?_;refine Eq.trans (congrArg toR (jk (gf _ _ _))) ?_
  rcases w with ⟨τ',h',e,p,l,acc,a,b,c,rfl,rfl,er⟩ | ⟨d,h',e,rfl,rfl⟩
  ·refine Eq.trans (congrArg toR (zg e)) ?_;obtain ⟨q1,q2⟩:=lts _ _ _ _ er;rw [<-q1,<-q2];exact congrArg toR (qd (SRC.a9s (fj (bf rfl) (fj (bf rfl) (fj (gf _ _ _) (fj (w6 (bf rfl) (tp l _)) rfl)))) ak2))
  ·exact congrArg toR (a2k e)
 ·rintro m τ hp ⟨p,l,acc,a,b,c,rfl,rfl,rfl,pl,al,ll,P,er⟩
  by_cases hp:p<x.length
  ·refine .inr ⟨_,tof (gj (bf rfl) (w6 (bf rfl) (ln _)) (aqp (by omega))),?_⟩
   have fo:∀ hh:Hd,nj false 4 jz [M.d,bz (lst l), .str (S x),bz p] hh = .ok (bst (tb M (lst l)) x p) hh:=λhh=>aii h P.last ht (by omega) pl hh
   have head:∀ g:SS,j5 (lq 6 (s2 gIx (sV 4) (s1 a2l (sC (.int 1))))) (j5 (lq 7 (sA (nj false 4 jz) (aj (sV 0) (aj (sV 6) (aj (sV 2) (aj (sV 5) dj)))))) g) (τl M s x p l a b c) [.lst (acc.map pcD)]=g (τl M s x p l (some (bz (lst l))) (some (bst (tb M (lst l)) x p)) c) [.lst (acc.map pcD)]:=λg=>by
    refine Eq.trans (jk (gj (bf rfl) (aca (gf _ _ _) (a3u _)) (aig P.ne _))) ?_;exact jk (SRC.a9s (fj (bf rfl) (fj (bf rfl) (fj (bf rfl) (fj (bf rfl) rfl)))) (fo _))
   rcases arf h P.last pl with ⟨z1,z2⟩ | ⟨q,e,z1,z2,zk,pe,el⟩
   ·refine .inr ⟨.tup [.ref 0,bz p, .str (wd 0),a06 l],[.lst (acc.map pcD)],?_,?_⟩
    ·unfold K69.xj;refine Eq.trans (head _) ?_;exact a2k (Eq.trans (ifT (tof (gj (bf rfl) (gf _ _ _) ((a6e _).trans (by rw [z1];rfl))))) (qd (SRC.a9s (fj (bf rfl) (fj (bf rfl) (fj (gf _ _ _) (fj (w6 (bf rfl) (tp l _)) rfl)))) ak2)))
    ·obtain ⟨q1,q2⟩:=lts p l acc 0 (by rw [<-er];unfold a5o;rw [z2];dsimp only;rw [if_neg (by omega)])
     exact ⟨q1,by rw [q2]⟩
   ·have i0:∀ hh:Hd,gIx (bst (tb M (lst l)) x p) (.int 0) hh = .ok (bz q) hh:=λhh=>by rw [z1];exact a00 (j:=0) rfl
    have i1:∀ hh:Hd,gIx (bst (tb M (lst l)) x p) (.int 1) hh = .ok (bz e) hh:=λhh=>by rw [z1];exact a00 (j:=1) rfl
    have head2:∀ g:SS,j5 (sIf (sT (s2 gIs (sV 7) (sC .non)))
      (vf (sA qp (aj (sV 3) (aj (sV 5) (aj (sC (.str "none")) (aj (sA ou (aj (sV 4) dj)) dj))))))
      sNx) (j5 (lq 8 (sA (nj false 2 kh) (aj (sV 4) (aj (s2 gIx (s2 gIx (s2 gIx (s2 gIx (sV 0) (sC (.int 1))) (sV 6)) (sC (.int 2))) (s2 gIx (sV 7) (sC (.int 0)))) dj)))) g) (τl M s x p l (some (bz (lst l))) (some (bst (tb M (lst l)) x p)) c) [.lst (acc.map pcD)]=g (τl M s x p l (some (bz (lst l))) (some (bst (tb M (lst l)) x p)) (some (a5v (later l (dg M (lst l) q))))) [.lst (acc.map pcD)]:=λg=>by
     refine Eq.trans (ifN (tof (gj (bf rfl) (gf _ _ _) ((a6e _).trans (by rw [z1];rfl))))) ?_
     exact jk (qt (bf rfl) (gj (gj (gj (gj (bf rfl) (gf _ _ _) (ac1 _)) (bf rfl) (afd P.last _)) (gf _ _ _) (a00 (j:=2) rfl)) (gj (bf rfl) (gf _ _ _) (i0 _)) (amz h P.last zk _)) (aij l (by omega) _ _))
    have zn:∀ τ:Sd,sZ (sA yx dj) τ [.lst (acc.map pcD)] = .ok (.rol []) [.lst (acc.map pcD)]:=λτ=>yg (xs:=[]) rfl lu (by intro o ho;rw [List.mem_singleton] at ho;subst ho;exact a5m _ _)
    rcases aik P.ne (dg M (lst l) q) with ⟨b1,b2⟩ | ⟨l',ne',b1,b2⟩
    ·refine .inr ⟨.tup [.ref 0,bz p, .str (wd 2),a06 l],[.lst (acc.map pcD)],?_,?_⟩
     ·unfold K69.xj;refine Eq.trans (head _) ?_;refine Eq.trans (head2 _) ?_;rw [b2];exact a2k (Eq.trans (ifT (tof (gj (bf rfl) (zn _) (ak4 [] _)))) (qd (SRC.a9s (fj (bf rfl) (fj (bf rfl) (fj (gf _ _ _) (fj (w6 (bf rfl) (tp l _)) rfl)))) ak2)))
     ·obtain ⟨q1,q2⟩:=lts p l acc 2 (by rw [<-er];unfold a5o;rw [z2];dsimp only;rw [b1])
      exact ⟨q1,by rw [q2]⟩
    ·obtain ⟨P',ll'⟩:=P.behind (afe h P.last zk) b1;refine .inl ⟨τl M s x e l' (some (bz (lst l))) (some (bst (tb M (lst l)) x p)) (some (a5v l')),[.lst ((acc++[(lst l,q,p,e)]).map pcD)],x.length - e,?_,by omega,e,l',acc++[(lst l,q,p,e)],_,_,_,rfl,rfl,rfl,el,by rw [List.length_append,List.length_singleton];omega,by omega,P',next h P el pe z2 zk b1 er⟩
     unfold K69.xj;refine Eq.trans (head _) ?_;refine Eq.trans (head2 _) ?_;rw [b2];refine Eq.trans (ifN (tof (gj (bf rfl) (zn _) ((ak4 l' _).trans (by rw [decide_eq_false ne']))))) ?_
     rw [List.map_append];refine Eq.trans (zg (zx (bf rfl) rfl (arg1 (SRC.a9s (fj (bf rfl) (fj (gj (bf rfl) (gf _ _ _) (i0 _)) (fj (bf rfl) (fj (gj (bf rfl) (gf _ _ _) (i1 _)) rfl)))) ak2)) (zy (xs:=acc.map pcD) rfl (by rw [List.length_map];exact a01 (by omega))))) ?_
     refine Eq.trans (jk (bf rfl)) ?_;exact ahz (gj (bf rfl) (gf _ _ _) (i1 _))
  ·refine .inl ⟨_,tof (gj (bf rfl) (w6 (bf rfl) (ln _)) (aqq (by omega))),p,l,acc,a,b,c,rfl,rfl,?_⟩
   rw [<-er];unfold a5o
   rcases arf h P.last pl with ⟨z1,z2⟩ | ⟨q,e,z1,z2,zk,pe,el⟩
   ·rw [z2];dsimp only;rw [if_pos (by omega)]
   ·omega
theorem an3(h:M.Ok){x:List Nat}{s:Nat}(hs:s<M.ms.length)(ht:∀ c∈x,c∈M.tg)(xl:x.length<=900):Pu gw 3 [M.d,bz s, .str (S x)] (anh (res M x s)):=Pu.of rfl (a7u (j6 _)) (ail h hs ht xl) afm (afl _)
theorem a9w(h:M.Ok)(x:List Nat):∀ (n p:Nat) (l:List Nat) (acc:List Pc),(a5o M x n p l acc).1.length<=acc.length+n/\(a5o M x n p l acc).2.2.2.length<=l.length+n
 | 0,p,l,acc=>⟨Nat.le_refl _,Nat.le_refl _⟩
 | n+1,p,l,acc=>by
  unfold a5o
  split
  ·exact ⟨Nat.le_add_right _ _,Nat.le_add_right _ _⟩
  ·rename_i k e _
   split
   ·exact ⟨Nat.le_add_right _ _,Nat.le_add_right _ _⟩
   ·rename_i l' hb;have ih:=a9w h x n e l' (acc++[(lst l,k,p,e)]);rw [List.length_append,List.length_singleton] at ih;have lb:l'.length<=l.length+1:=by
     generalize dg M (lst l) k=w at hb
     cases w with
     | opn k=>cases hb;simp
     | trn k=>cases hb;rw [List.length_append,List.length_take,List.length_singleton];omega
     | stay=>cases hb;omega
     | shut =>
      have e:(if 1<l.length then some (l.take (l.length - 1)) else none)=some l':=hb
      split at e
      ·cases e;rw [List.length_take];omega
      ·cases e
    exact ⟨by omega,by omega⟩
end
noncomputable def bw:Nat->SF
 | 0=>λ_ _=>.no
 | n+1=>o9 (u6 (bw n)) 4
theorem ari{n:Nat}{a b:D}:bw (n+1) [a,b] []=toR (u6 (bw n) [some a,some b,none,none] []):=by
 show o9 (u6 (bw n)) 4 [a,b] []=_;rw [j7];rfl
theorem aim{F:SF}{n:Nat}{ds:List D}{b:Bool}(hn:ds.length=n)(ca:∀ x∈ds,MI.clo 0 x)(e:F ds [] = .ok (.bl b) []):Pu F n ds (.bl b):=Pu.of hn ca e (nq (a1j _) (by simp)) (a1j _)
theorem tys(τ:Sd)(h:Hd):sA MI.qp (aj (sC (.ty "list")) (aj (sC (.ty "tuple")) dj)) τ h = .ok (.tup [.ty "list", .ty "tuple"]) h:=qt (gf _ _ _) (gf _ _ _) ab1
theorem ain(b:Bool)(h:Hd):hNe (.bl b) (.bl b) h = .ok (.bl false) h:=by
 unfold hNe;rw [if_pos ⟨rfl,rfl⟩]
 cases b<;>rfl
theorem arj(n:Nat)(i:Int):Pu (bw (n+1)) 2 [.int i, .int i] (.bl true):=by
 refine aim rfl (a1s (iz _) (iz _)) ?_;rw [ari];unfold u6;have i1:a79 [.int i, .tup [.ty "list", .ty "tuple"]] [] = .ok (.bl false) []:=by simp [a79,tyD,a69,ahp,a5h]
 have i2:uf [.int i, .ty "str"] [] = .ok (.bl false) []:=by simp [uf,abk,tyD,a69]
 have i3:uf [.int i, .ty "int"] [] = .ok (.bl true) []:=by simp [uf,abk,tyD,a69]
 have i4:uf [.int i, .ty "bool"] [] = .ok (.bl false) []:=by simp [uf,abk,tyD,a69]
 refine Eq.trans (congrArg toR (ifN (a3d (qt (bf rfl) (tys _ _) i1) (xm _)))) ?_;refine Eq.trans (congrArg toR (ifN (tof (gj (bf rfl) (gf _ _ _) (show gIs (.int i) .non [] = .ok (.bl false) [] from rfl))))) ?_
 refine Eq.trans (congrArg toR (ifN (a3d (qt (bf rfl) (gf _ _ _) i2) (xm _)))) ?_;exact congrArg toR (qd (aer (qt (bf rfl) (gf _ _ _) i3) (aer (aqt (qt (bf rfl) (gf _ _ _) i4)) (gj (bf rfl) (bf rfl) (aes rfl)))))
theorem a7v:∀ xs:List D,(xs.zip xs).map (λp=>D.tup [p.1,p.2])=xs.map λx=>.tup [x,x]
 | []=>rfl
 | x::xs=>by rw [List.zip_cons_cons,List.map_cons,List.map_cons,a7v xs]
theorem ak5{n:Nat}{d:D}{xs:List D}(hd:d = .tup xs\/d = .rol xs)(cx:clos 0 xs)(h:∀ x∈xs,Pu (bw n) 2 [x,x] (.bl true)):Pu (bw (n+1)) 2 [d,d] (.bl true):=by
 have cd:MI.clo 0 d:=by rcases hd with rfl | rfl;exact m5 cx;exact v6 cx
 refine aim rfl (a1s cd cd) ?_;rw [ari];unfold u6;have i1:a79 [d, .tup [.ty "list", .ty "tuple"]] [] = .ok (.bl true) []:=by rcases hd with rfl | rfl<;>simp [a79,tyD,a69,ahp,a5h]
 have i2:∃ b,uf [d, .ty "list"] [] = .ok (.bl b) []:=by rcases hd with rfl | rfl<;>simp [uf,abk,tyD,a69]
 have i3:∃ b,uf [d, .ty "tuple"] [] = .ok (.bl b) []:=by rcases hd with rfl | rfl<;>simp [uf,abk,tyD,a69]
 obtain ⟨b2,i2⟩:=i2;obtain ⟨b3,i3⟩:=i3;have ln:xx [d] [] = .ok (bz xs.length) []:=by rcases hd with rfl | rfl<;>rfl
 have zi:ajl (sV 0) (sV 1) [some d,some d,none,none] [] = .ok ⟨xs.map λx=>.tup [x,x],λ_=>True⟩ []:=by
  unfold ajl;rw [bf rfl,gq,bf rfl,gq]
  rcases hd with rfl | rfl
  all_goals
   show R.ok (⟨(xs.zip xs).map λp=>.tup [p.1,p.2],λ_=>True/\True⟩:Itm) []=_;rw [a7v]
   congr 2
   funext _
   simp
 have lp:=qw (g:=a1n 2 (jj (kN 2) (jj (kN 3) a1t))) (b:=v8 (bw n)) (λx:D=>.tup [x,x])
  (λpre τ hh=>∃ t2 t3:Option D,τ=[some d,some d,t2,t3]/\hh=[]) xs [some d,some d,none,none] [] ?_ ⟨none,none,rfl,rfl⟩
 ·obtain ⟨τ',h',e,t2,t3,rfl,rfl⟩:=lp;refine congrArg toR (a2k (Eq.trans (ifT (a3d (qt (bf rfl) (tys _ _) i1) (xm _))) ?_));refine Eq.trans (ifN (orF (tof (gj (qt (bf rfl) (gf _ _ _) i2) (qt (bf rfl) (gf _ _ _) i2) (ain _ _))) (tof (gj (qt (bf rfl) (gf _ _ _) i3) (qt (bf rfl) (gf _ _ _) i3) (ain _ _))))) ?_;refine Eq.trans (ifN (tof (gj (w6 (bf rfl) ln) (w6 (bf rfl) ln) (ai0 rfl)))) ?_;refine Eq.trans (a3e zi) ?_;refine Eq.trans (congrArg (λz=>MI.thn z _) e) ?_;rw [xf];exact qd (gf _ _ _)
 ·rintro pre x post τ hh all ⟨t2,t3,rfl,rfl⟩
  have hx:x∈xs:=by rw [all];simp
  refine ⟨_,_,rfl,[some d,some d,some x,some x],[],?_,_,_,rfl,rfl⟩;unfold v8;exact Eq.trans (ifF (ame (a3d (qt (bf rfl) (bf rfl) (h x hx _)) (xm _)))) rfl
theorem an4(n:Nat)(l:List Nat):Pu (bw (n+2)) 2 [.tup (l.map bz), .tup (l.map bz)] (.bl true):=ak5 (.inl rfl) (jb _) λx hx=>by obtain ⟨y,_,rfl⟩:=List.mem_map.mp hx;exact arj n _
section
variable{M:Mach}
abbrev an5(o t:List Nat):List D:=[.str (S o), .str (S o), .non, .int 7, .rol [.str (S t)], .tup [.str (S t)], .bl true]
theorem an6{T:Table}{o t:List Nat}{c:Nat}(ol:o.length<=1000)(hc:c∈o)(nc:c ∉ T.tg):∀ d∈an5 o t,Pln d/\txt T d=false:=by
 intro d hd
 simp only [an5,List.mem_cons,List.not_mem_nil,or_false] at hd
 rcases hd with rfl | rfl | rfl | rfl | rfl | rfl | rfl
 ·exact ⟨amt ol,af3 hc nc⟩
 ·exact ⟨amt ol,af3 hc nc⟩
 ·exact ⟨trivial,rfl⟩
 ·exact ⟨trivial,rfl⟩
 ·exact ⟨du (j6 _) lu,rfl⟩
 ·exact ⟨du (j6 _) lu,rfl⟩
 ·exact ⟨trivial,rfl⟩
end
end K69
namespace K70
open PySem PySem.Spec L2 MI AT HND EVX K22 K23 K21 PN K69
section
variable{M:Mach}
abbrev Pq:=List Nat × List (Nat × Nat)
def go1(M:Mach)(n:Nat)(s:Pq)(p:Pc):Pq:=match dg M p.1 p.2.1 with
 | .opn _=>(s.1++[n],s.2)
 | .shut=>(s.1.take (s.1.length - 1),s.2++[(lst s.1,n)])
 | _=>s
def ark(M:Mach):List Pc->Pq
 | []=>([],[])
 | p::r=>go1 M r.length (ark M r) p
def run(M:Mach)(ps:List Pc):Pq:=ark M ps.reverse
theorem a4k(ps:List Pc)(p:Pc):run M (ps++[p])=go1 M ps.length (run M ps) p:=by
 unfold run;rw [List.reverse_append];show go1 M ps.reverse.length (ark M ps.reverse) p=_;rw [List.length_reverse]
inductive Gp (M:Mach):List Pc->Prop
 | nil:Gp M []
 | snoc {ps:List Pc} {p:Pc}:Gp M ps->p.1<M.ms.length->(p.2.1:Int)∈(tb M p.1).ks->(dg M p.1 p.2.1 = .shut->(run M ps).1≠[])->Gp M (ps++[p])
theorem Gp.at{l:List Pc}(h:Gp M l):∀ {a:List Pc} {p:Pc} {b:List Pc},l=a++p::b->p.1<M.ms.length/\(p.2.1:Int)∈(tb M p.1).ks/\(dg M p.1 p.2.1 = .shut->(run M a).1≠[]):=by
 induction h with
 | nil=>intro a p b e;cases a<;>cases e
 | @snoc ps q g h1 h2 h3 ih =>
  intro a p b e
  rcases List.eq_nil_or_concat b with rfl | ⟨b',x,rfl⟩
  ·obtain ⟨rfl,e2⟩:=List.append_inj' e rfl;cases e2
   exact ⟨h1,h2,h3⟩
  ·rw [List.concat_eq_append,show a++p::(b'++[x])=(a++p::b')++[x] by simp] at e
   exact ih (List.append_inj' e rfl).1
theorem arl(h:M.Ok)(x:List Nat):∀ (n p:Nat) (l:List Nat) (acc:List Pc),p<=x.length->Pile M l->Gp M acc->l.length=1+(run M acc).1.length->Gp M (a5o M x n p l acc).1:=by
 intro n
 induction n with
 | zero=>intro p l acc _ _ g _;exact g
 | succ n ih =>
  intro p l acc hp P g el
  unfold a5o
  rcases arf h P.last hp with ⟨_,y2⟩ | ⟨q',e',_,y2,yk,pe',el'⟩
  ·rw [y2];exact g
  ·rw [y2];dsimp only
   cases hb:K69.behind l (dg M (lst l) q') with
   | none=>exact g
   | some l' =>
    refine ih e' l' _ el' (P.behind (afe h P.last yk) hb).1 (g.snoc P.last yk λz=>?_) ?_
    ·dsimp only at z;rw [z] at hb;have hb:(if 1<l.length then some (l.take (l.length - 1)) else none)=some l':=hb
     split at hb
     ·intro w;rw [w] at el;simp at el;omega
     ·cases hb
    ·rw [a4k];unfold go1;dsimp only
     generalize dg M (lst l) q'=w at hb
     cases w with
     | opn k=>cases hb;simp only [List.length_append,List.length_singleton];omega
     | trn k =>
      cases hb
      have:=List.length_pos_iff.mpr P.ne
      simp only [List.length_append,List.length_take,List.length_singleton];omega
     | stay=>cases hb;exact el
     | shut =>
      have hb:(if 1<l.length then some (l.take (l.length - 1)) else none)=some l':=hb
      split at hb
      ·cases hb;simp only [List.length_take];omega
      ·cases hb
theorem ak6(h:M.Ok){x:List Nat}{s:Nat}(hs:s<M.ms.length):Gp M (res M x s).1:=arl h x _ 0 [s] [] (by omega) ⟨by simp,by simpa using hs⟩ .nil rfl
def Ap(p q:Nat × Nat):Prop:=p.2<q.1\/(q.1<p.1/\p.1<p.2/\p.2<q.2)
structure Iv (n:Nat) (s:Pq):Prop where
 os:s.1.Pairwise (· < ·)
 ol:∀ o∈s.1,o<n
 pl:∀ p∈s.2,p.1<p.2/\p.2<n
 op:∀ o∈s.1,∀ p∈s.2,o<p.1\/p.2<o
 pp:s.2.Pairwise Ap
theorem aio{l:List Nat}(ne:l≠[]):l=l.take (l.length - 1)++[lst l]:=by
 have:=List.length_pos_iff.mpr ne
 have e:=List.take_succ (l:=l) (i:=l.length - 1);rw [a5n ne,Nat.sub_add_cancel this,List.take_length] at e;exact e
theorem arn{ps:List Pc}(g:Gp M ps):Iv ps.length (run M ps):=by
 induction g with
 | nil =>
  show Iv 0 ([],[]);exact ⟨List.Pairwise.nil,λo ho=>(by cases ho),λp hp=>(by cases hp),λo ho=>(by cases ho),List.Pairwise.nil⟩
 | @snoc ps p g h1 h2 h3 ih =>
  rw [a4k,List.length_append,List.length_singleton];have up:Iv (ps.length+1) (run M ps):=⟨ih.os,λo ho=>by have:=ih.ol o ho;omega,λp hp=>by have:=ih.pl p hp;omega,ih.op,ih.pp⟩
  unfold go1
  cases hd:dg M p.1 p.2.1 with
  | opn k =>
   refine ⟨List.pairwise_append.mpr ⟨ih.os, .cons (by simp) .nil,λa ha b hb=>?_⟩,λo ho=>?_,up.pl,λo ho p hp=>?_,ih.pp⟩
   ·rw [List.mem_singleton] at hb;subst hb;exact ih.ol a ha
   ·rcases List.mem_append.mp ho with z | z
    ·exact up.ol o z
    ·rw [List.mem_singleton] at z;omega
   ·rcases List.mem_append.mp ho with z | z
    ·exact ih.op o z p hp
    ·rw [List.mem_singleton] at z;subst z;exact .inr (ih.pl p hp).2
  | trn k=>exact up
  | stay=>exact up
  | shut =>
   have ne:=h3 hd;have e:=aio ne;have os:=ih.os;rw [e,List.pairwise_append] at os;obtain ⟨o1,_,o2⟩:=os;have lm:lst (run M ps).1∈(run M ps).1:=List.mem_of_getElem? (a5n ne);have ll:=ih.ol _ lm;have sub:∀ o∈(run M ps).1.take ((run M ps).1.length - 1),o∈(run M ps).1:=λo ho=>List.mem_of_mem_take ho;refine ⟨o1,λo ho=>up.ol o (sub o ho),λq hq=>?_,λo ho q hq=>?_,List.pairwise_append.mpr ⟨ih.pp, .cons (by simp) .nil,λa ha b hb=>?_⟩⟩
   ·rcases List.mem_append.mp hq with z | z
    ·exact up.pl q z
    ·rw [List.mem_singleton] at z;subst z;exact ⟨ll,by show ps.length<_;omega⟩
   ·rcases List.mem_append.mp hq with z | z
    ·exact ih.op o (sub o ho) q z
    ·rw [List.mem_singleton] at z;subst z;exact .inl (o2 o ho _ (by simp))
   ·rw [List.mem_singleton] at hb;subst hb;have:=ih.pl a ha
    rcases ih.op _ lm a ha with z | z
    ·exact .inr ⟨z,this.1,this.2⟩
    ·exact .inl z
theorem a9x(ps:List Pc):(run M ps).1.length<=ps.length/\(run M ps).2.length<=ps.length:=by
 unfold run;rw [<-List.length_reverse (as:=ps)]
 generalize ps.reverse=l
 induction l with
 | nil=>exact ⟨Nat.le_refl _,Nat.le_refl _⟩
 | cons p r ih =>
  show (go1 M r.length (ark M r) p).1.length<=_/\(go1 M r.length (ark M r) p).2.length<=_;unfold go1;rw [List.length_cons]
  split
  ·simp only [List.length_append,List.length_singleton];omega
  ·simp only [List.length_append,List.length_take,List.length_singleton];omega
  ·omega
end
section
variable{M:Mach}
abbrev prD(p:Nat × Nat):D:=.tup [bz p.1,bz p.2]
theorem afp(n:Nat)(p:Nat × Nat):MI.clo n (prD p):=m5 (du (iz _) (du (iz _) lu))
theorem a07(n:Nat)(ps:List (Nat × Nat)):clos n (ps.map prD):=lw λp _=>afp n p
theorem aro{ps:List Pc}{pre post:List (Nat × Pc)}{x:Nat × Pc}(e:(List.range ps.length).zip ps=pre++x::post):x.1=pre.length/\ps=pre.map (·.2)++x.2::post.map (·.2):=by
 constructor
 ·have q:((List.range ps.length).zip ps)[pre.length]? = some x:=by rw [e,List.getElem?_append_right (Nat.le_refl _),Nat.sub_self];rfl
  have:=(List.getElem?_zip_eq_some.mp q).1
  obtain ⟨h1,h2⟩:=List.getElem?_eq_some_iff.mp this;rw [List.getElem_range] at h2;exact h2.symm
 ·have q:=congrArg (List.map (·.2)) e;rw [List.map_append,List.map_cons] at q;rw [<-q];exact (List.map_snd_zip (by simp)).symm
theorem seT(a:Str)(h:Hd):hEq (.str a) (.str a) h = .ok (.bl true) h:=by rw [a0d,beq_self_eq_true]
theorem seF{a b:Str}(n:(a == b)=false)(h:Hd):hEq (.str a) (.str b) h = .ok (.bl false) h:=by rw [a0d,n]
def wrd:Deed->Str
 | .stay => "stay"
 | .shut => "shut"
 | .opn _ => "open"
 | .trn _ => "turn"
theorem ak7(x:Deed)(h:Hd):gIx x.d (.int 0) h = .ok (.str (wrd x)) h:=by cases x<;>exact a00 (j:=0) rfl
theorem arp(ps:List Pc)(hh:Hd):abo (.rol (ps.map pcD)) hh = .ok ⟨((List.range ps.length).zip ps).map λp=>.tup [bz p.1,pcD p.2],λ_=>True⟩ hh:=by
 unfold abo srcOf;dsimp only;rw [List.length_map,List.zip_map_right,List.map_map];rfl
noncomputable def di:SF:=o9 (yu jf jo) 15
abbrev τP(M:Mach)(s:Nat)(x:List Nat)(r:Rs)(i a b c d e:Option D):Sd:=[some M.d,some (bz s),some (.str (S x)),some (.rol (r.1.map pcD)),some (bz r.2.1),some (.str (wd r.2.2.1)),some (a06 r.2.2.2),some (.ref 0),some (.ref 1),i,a,b,c,d,e]
abbrev HP2(s:Pq):Hd:=[.lst (s.1.map bz), .lst (s.2.map prD)]
theorem pop_at{h:Hd}{i:Nat}{xs:List D}{y:D}(e:h[i]? = some (.lst xs))(hy:xs[xs.length - 1]? = some y):ane (.ref i) [] h = .ok y (h.set i (.lst xs.dropLast)):=by
 unfold ane;simp only [e,hy]
theorem aip(h:M.Ok){x:List Nat}{s:Nat}(hs:s<M.ms.length)(ht:∀ c∈x,c∈M.tg)(xl:x.length<=900):di [M.d,bz s, .str (S x)] [] = .ok (.ref 1) (HP2 (run M (res M x s).1)):=by
 have g:=ak6 h (x:=x) hs;have cg:=aih h hs ht xl [];have pl:(res M x s).1.length<=901:=by
  have:=(a9w h x (x.length+1) 0 [s] []).1
  simp only [List.length_nil] at this;show (a5o M x (x.length+1) 0 [s] []).1.length<=901;omega
 generalize res M x s=r at g cg pl
 have lp:=qw (g:=a1n 2 (jj (kN 9) (jj (a1n 4 (jj (kN 10) (jj (kN 11) (jj (kN 12) (jj (kN 13) a1t))))) a1t))) (b:=yq jf jo) (λp:Nat × Pc=>.tup [bz p.1,pcD p.2])
  (λpre τ hh=>∃ i a b c d e:Option D,τ=τP M s x r i a b c d e/\hh=HP2 (run M (pre.map (·.2))))
  ((List.range r.1.length).zip r.1) (τP M s x r none none none none none none) (HP2 ([],[])) ?_ ⟨none,none,none,none,none,none,rfl,rfl⟩
 ·obtain ⟨τ',h',e,i,a,b,c,d,e',rfl,rfl⟩:=lp;rw [List.map_snd_zip (by simp)] at e
  unfold di;rw [j7];show toR (yu jf jo [some M.d,some (bz s),some (.str (S x)),none,none,none,none,none,none,none,none,none,none,none,none] [])=_;unfold yu;have as:a5p (sA (zf 3 jo) (aj (sV 0) (aj (sV 1) (aj (sV 2) dj)))) (a1n 4 (jj (kN 3) (jj (kN 4) (jj (kN 5) (jj (kN 6) a1t))))) [some M.d,some (bz s),some (.str (S x)),none,none,none,none,none,none,none,none,none,none,none,none] [] = .nx [some M.d,some (bz s),some (.str (S x)),some (.rol (r.1.map pcD)),some (bz r.2.1),some (.str (wd r.2.2.1)),some (a06 r.2.2.2),none,none,none,none,none,none,none,none] [] :=
   abw ((ami (fj (bf rfl) (fj (bf rfl) (fj (bf rfl) rfl)))).trans cg) rfl
  refine Eq.trans (congrArg toR (zg as)) ?_;refine Eq.trans (congrArg toR (jk (d:=.ref 0) (h1:=[.lst []]) rfl)) ?_;refine Eq.trans (congrArg toR (jk (d:=.ref 1) (h1:=[.lst [], .lst []]) rfl)) ?_;have it:a9g (sV 3) (τP M s x r none none none none none none) (HP2 ([],[])) = .ok ⟨((List.range r.1.length).zip r.1).map λp=>.tup [bz p.1,pcD p.2],λ_=>True⟩ (HP2 ([],[])):=by
   unfold a9g;rw [bf (i:=3) (d:=.rol (r.1.map pcD)) rfl,gq];exact arp _ _
  have lo:a3x (a9g (sV 3)) (a1n 2 (jj (kN 9) (jj (a1n 4 (jj (kN 10) (jj (kN 11) (jj (kN 12) (jj (kN 13) a1t))))) a1t))) (yq jf jo) (τP M s x r none none none none none none) (HP2 ([],[])) = .nx (τP M s x r i a b c d e') (HP2 (run M r.1)):=by
   unfold a3x;rw [it];exact e
  refine Eq.trans (congrArg toR (zg (av3 lo))) ?_;exact congrArg toR (qd (bf rfl))
 ·rintro pre ⟨n,p⟩ post τ hh all ⟨i,a,b,c,d,e,rfl,rfl⟩
  obtain ⟨en,ep⟩:=aro all;have en:n=pre.length:=en;subst en;obtain ⟨hm,hk,ne⟩:=g.at ep;have rl:=a9x (M:=M) (pre.map (·.2));have ql:(pre.map (·.2)).length<=901:=by
   have:=congrArg List.length ep
   rw [List.length_append,List.length_cons] at this;omega
  have pn:pre.length=(pre.map (·.2)).length:=by rw [List.length_map]
  refine ⟨_,_,rfl,τP M s x r (some (bz pre.length)) (some (bz p.1)) (some (bz p.2.1)) (some (bz p.2.2.1)) (some (bz p.2.2.2)) (some (dg M p.1 p.2.1).d),HP2 (run M ((pre++[(pre.length,p)]).map (·.2))),?_,_,_,_,_,_,_,rfl,rfl⟩;rw [List.map_append];show _=MI.Fl.nx _ (HP2 (run M (pre.map (·.2)++[p])));rw [a4k,<-pn]
  generalize hs':run M (pre.map (·.2))=st at ne rl
  unfold yq;refine Eq.trans (jk (a8t (bf rfl) (bf rfl) (bf rfl) (afh h hm hk _))) ?_;unfold go1;have w:=ak7 (dg M p.1 p.2.1)
  cases hd:dg M p.1 p.2.1 with
  | opn k =>
   rw [hd] at w;have w:∀ hh:Hd,gIx (Deed.opn k).d (.int 0) hh = .ok (.str "open") hh:=w;refine Eq.trans (zg (Eq.trans (ifT (tof (gj (gj (bf rfl) (gf _ _ _) (w _)) (gf _ _ _) (seT _ _)))) (zx (bf rfl) rfl (arg1 (bf (i:=9) rfl)) (zy (xs:=st.1.map bz) rfl (by rw [List.length_map];exact a01 (by omega)))))) ?_
   refine Eq.trans (ifF (tof (gj (gj (bf rfl) (gf _ _ _) (w _)) (gf _ _ _) (seF (by decide) _)))) ?_
   dsimp only;unfold HP2;rw [List.map_append];rfl
  | trn k =>
   rw [hd] at w;have w:∀ hh:Hd,gIx (Deed.trn k).d (.int 0) hh = .ok (.str "turn") hh:=w;refine Eq.trans (ifN (tof (gj (gj (bf rfl) (gf _ _ _) (w _)) (gf _ _ _) (seF (by decide) _)))) ?_
   exact ifF (tof (gj (gj (bf rfl) (gf _ _ _) (w _)) (gf _ _ _) (seF (by decide) _)))
  | stay =>
   rw [hd] at w;have w:∀ hh:Hd,gIx Deed.stay.d (.int 0) hh = .ok (.str "stay") hh:=w;refine Eq.trans (ifN (tof (gj (gj (bf rfl) (gf _ _ _) (w _)) (gf _ _ _) (seF (by decide) _)))) ?_
   exact ifF (tof (gj (gj (bf rfl) (gf _ _ _) (w _)) (gf _ _ _) (seF (by decide) _)))
  | shut =>
   rw [hd] at w;have w:∀ hh:Hd,gIx Deed.shut.d (.int 0) hh = .ok (.str "shut") hh:=w;refine Eq.trans (ifN (tof (gj (gj (bf rfl) (gf _ _ _) (w _)) (gf _ _ _) (seF (by decide) _)))) ?_
   refine Eq.trans (ifT (tof (gj (gj (bf rfl) (gf _ _ _) (w _)) (gf _ _ _) (seT _ _)))) ?_;have po:ane (.ref 0) [] (HP2 st) = .ok (bz (lst st.1)) [.lst (st.1.map bz).dropLast, .lst (st.2.map prD)]:=pop_at (h:=HP2 st) (i:=0) rfl (by rw [List.length_map,List.getElem?_map,a5n (ne hd)];rfl)
   refine Eq.trans (zx (bf rfl) rfl (arg1 (qt (aqn (bf rfl) rfl rfl po) (bf (i:=9) rfl) ab1)) (zy (xs:=st.2.map prD) rfl (by rw [List.length_map];exact a01 (by omega)))) ?_
   dsimp only;unfold HP2;rw [List.map_append,List.dropLast_eq_take,List.length_map,<-List.map_take];rfl
end
end K70
namespace EVT
open PySem PySem.Spec L2 MI AT HND
section
variable{f g k f1 f2 f3:SE}{ka:SA}{c c1 c2:ST}{τ:Sd}{h h1 h2 h3:Hd}{a b d v:D}{i:Nat}{t u:Bool}{xs ys ds:List D}
theorem ax4(e:f τ h = .ok (.bl false) h1)(e':g τ h1 = .ok d h2):aj8 f g τ h = .ok d h2:=by unfold aj8;rw [e,gq];exact e'
end
end EVT
namespace K70
open PySem PySem.Spec L2 MI AT HND EVX K22 K23 K21 PN K69
section
variable{M:Mach}
noncomputable def ik:SF:=o9 a2h 7
theorem aiq{h:Hd}{k:Nat}{l:List Nat}(e:h[k]? = some (.lst (l.map bz)))(ne:l≠[]):gIx (.ref k) (.int (-1)) h = .ok (bz (lst l)) h:=by
 rw [MI.a5i];unfold a0u;simp only [e];rw [an1 (d:=bz (lst l)) (by rw [List.length_map,List.getElem?_map,a5n ne];rfl)]
abbrev τD(M:Mach)(ps:List Pc)(k:Nat)(m:Int)(i d:Option D):Sd:=[some M.d,some (.rol (ps.map pcD)),some (.ref k),some (.ref 1),some (.int m),i,d]
abbrev aso(s:Pq):D:=.tup [.rol (s.2.map prD),bz s.2.length]
theorem an7(s:Pq):MI.clo 0 (aso s):=m5 (du (v6 (a07 _ _)) (du (iz _) lu))
theorem an8{hh:Hd}{s:Pq}(e:hh[1]? = some (.lst (s.2.map prD))):a91 0 (.ok (.tup [.ref 1,bz s.2.length]) hh) = .ok (aso s) []:=by
 have oc:∀ {k:Nat} {d d':D} {ds ds':List D},a2m 0 hh k d=some d'->a0s (a2m 0 hh k) ds=some ds'->a0s (a2m 0 hh k) (d::ds)=some (d'::ds'):=λe1 e2=>by unfold a0s;rw [e1,e2]
 refine (a5f (aap (k:=19) (oc (a4b (k:=17) (by omega) e (a07 _ _)) (oc (a1e (k:=18) (iz _)) rfl)) ?_) (by simp)).trans (by rw [List.take_zero])
 intro z
 have:=yf.mp z (.ref 1) List.mem_cons_self
 simp only [MI.clo] at this;omega
theorem arq(h:M.Ok){ps:List Pc}(g:Gp M ps)(pl:ps.length<=901):Pu ik 2 [M.d, .rol (ps.map pcD)] (aso (run M ps)):=by
 have lp:=qw (g:=kN 5) (b:=ux) bz
  (λpre τ hh=>∃ (k:Nat) (m:Int) (i d:Option D),τ=τD M ps k m i d/\m=((run M (ps.take pre.length)).2.length:Nat)/\k≠1/\hh[k]? = some (.lst ((run M (ps.take pre.length)).1.map bz))/\hh[1]? = some (.lst ((run M (ps.take pre.length)).2.map prD)))
  (List.range ps.length) (τD M ps 0 0 none none) [.lst [], .lst []] ?_ ⟨0,0,none,none,rfl,rfl,by omega,rfl,rfl⟩
 ·obtain ⟨τ',h',e,k,m,i,d,rfl,rfl,hk,e0,e1⟩:=lp;rw [List.length_range,List.take_length] at e e0 e1;refine Pu.of rfl (K21.a1s (M.clo 0) (v6 (a5m _ _))) (r:=.ok (.tup [.ref 1,bz (run M ps).2.length]) h') ?_ (an8 e1) (an7 _);unfold ik;rw [j7];show toR (a2h [some M.d,some (.rol (ps.map pcD)),none,none,none,none,none] [])=_;unfold a2h;refine Eq.trans (congrArg toR (jk (d:=.ref 0) (h1:=[.lst []]) rfl)) ?_;refine Eq.trans (congrArg toR (jk (d:=.ref 1) (h1:=[.lst [], .lst []]) rfl)) ?_;refine Eq.trans (congrArg toR (jk (gf _ _ _))) ?_
  refine Eq.trans (congrArg toR (a3e (a0p (n:=ps.length) (w6 (bf rfl) (by rw [a3a,List.length_map])) (jx (by omega))))) ?_
  refine Eq.trans (congrArg (λz=>toR (MI.thn z _)) e) ?_;rw [xf];exact congrArg toR (qd (qt (bf rfl) (bf rfl) ab1))
 ·rintro pre x post τ hh all ⟨k,m,i,d,rfl,rfl,hk,e0,e1⟩
  obtain ⟨rfl,hx⟩:=a02 all;have px:ps[pre.length]? = some ps[pre.length]:=List.getElem?_eq_getElem hx;have split:ps=ps.take pre.length++ps[pre.length]::ps.drop (pre.length+1):=by rw [<-List.drop_eq_getElem_cons hx,List.take_append_drop]
  obtain ⟨hm,hq,ne⟩:=g.at split;have tk1:ps.take (pre.length+1)=ps.take pre.length++[ps[pre.length]]:=by rw [List.take_succ,px];rfl
  have rl:=a9x (M:=M) (ps.take pre.length);have tl:(ps.take pre.length).length=pre.length:=by rw [List.length_take];omega
  rw [List.length_append,List.length_singleton,tk1,a4k,tl]
  generalize ps[pre.length]=p at px hm hq ne
  generalize run M (ps.take pre.length)=st at *
  have i1:∀ hh:Hd,gIx (.rol (ps.map pcD)) (bz pre.length) hh = .ok (pcD p) hh:=λhh=>aju (by rw [List.getElem?_map,px];rfl)
  have p0:∀ hh:Hd,gIx (pcD p) (.int 0) hh = .ok (bz p.1) hh:=λhh=>a00 (j:=0) rfl;have p1:∀ hh:Hd,gIx (pcD p) (.int 1) hh = .ok (bz p.2.1) hh:=λhh=>a00 (j:=1) rfl;have m2:∀ hh:Hd,gIx (uc (tb M p.1,dd M p.1)) (.int 2) hh = .ok (.tup (dsD (dd M p.1))) hh:=λhh=>a00 (j:=2) rfl;have kl:k<hh.length:=(List.getElem?_eq_some_iff.mp e0).1;have l1:1<hh.length:=(List.getElem?_eq_some_iff.mp e1).1;refine ⟨_,_,rfl,?_⟩;have hd1:∀ g:SS,j5 (lq 6 (s2 gIx (s2 gIx (s2 gIx (s2 gIx (sV 0) (sC (.int 1))) (s2 gIx (s2 gIx (sV 1) (sV 5)) (sC (.int 0)))) (sC (.int 2))) (s2 gIx (s2 gIx (sV 1) (sV 5)) (sC (.int 1))))) g (τD M ps k (st.2.length:Nat) (some (bz pre.length)) d) hh=g (τD M ps k (st.2.length:Nat) (some (bz pre.length)) (some (dg M p.1 p.2.1).d)) hh:=λg =>
   jk (gj (gj (gj (gj (bf rfl) (gf _ _ _) (ac1 _)) (gj (gj (bf rfl) (bf rfl) (i1 _)) (gf _ _ _) (p0 _)) (afd hm _)) (gf _ _ _) (m2 _)) (gj (gj (bf rfl) (bf rfl) (i1 _)) (gf _ _ _) (p1 _)) (amz h hm hq _))
  have w:=ak7 (dg M p.1 p.2.1);unfold go1
  cases hd:dg M p.1 p.2.1 with
  | opn q =>
   rw [hd] at w;have w:∀ hh:Hd,gIx (Deed.opn q).d (.int 0) hh = .ok (.str "open") hh:=w;refine ⟨τD M ps k (st.2.length:Nat) (some (bz pre.length)) (some (Deed.opn q).d),hh.set k (.lst (st.1.map bz++[bz pre.length])),?_,k,_,_,_,rfl,rfl,hk,?_,?_⟩
   ·unfold ux;refine Eq.trans (hd1 _) ?_;rw [hd];refine Eq.trans (zg (Eq.trans (ifT (tof (gj (gj (bf rfl) (gf _ _ _) (w _)) (gf _ _ _) (seT _ _)))) (zx (bf rfl) (PN.a8w e0) (arg1 (bf (i:=5) rfl)) (zy e0 (by rw [List.length_map];exact a01 (by omega)))))) ?_
    exact ifF (tof (gj (gj (bf rfl) (gf _ _ _) (w _)) (gf _ _ _) (seF (by decide) _)))
   ·dsimp only;rw [List.getElem?_set_self kl,List.map_append];rfl
   ·rw [List.getElem?_set_ne hk];exact e1
  | trn q =>
   rw [hd] at w;have w:∀ hh:Hd,gIx (Deed.trn q).d (.int 0) hh = .ok (.str "turn") hh:=w;refine ⟨τD M ps k (st.2.length:Nat) (some (bz pre.length)) (some (Deed.trn q).d),hh,?_,k,_,_,_,rfl,rfl,hk,e0,e1⟩;unfold ux;refine Eq.trans (hd1 _) ?_;rw [hd];refine Eq.trans (ifN (tof (gj (gj (bf rfl) (gf _ _ _) (w _)) (gf _ _ _) (seF (by decide) _)))) ?_
   exact ifF (tof (gj (gj (bf rfl) (gf _ _ _) (w _)) (gf _ _ _) (seF (by decide) _)))
  | stay =>
   rw [hd] at w;have w:∀ hh:Hd,gIx Deed.stay.d (.int 0) hh = .ok (.str "stay") hh:=w;refine ⟨τD M ps k (st.2.length:Nat) (some (bz pre.length)) (some Deed.stay.d),hh,?_,k,_,_,_,rfl,rfl,hk,e0,e1⟩;unfold ux;refine Eq.trans (hd1 _) ?_;rw [hd];refine Eq.trans (ifN (tof (gj (gj (bf rfl) (gf _ _ _) (w _)) (gf _ _ _) (seF (by decide) _)))) ?_
   exact ifF (tof (gj (gj (bf rfl) (gf _ _ _) (w _)) (gf _ _ _) (seF (by decide) _)))
  | shut =>
   rw [hd] at w;have w:∀ hh:Hd,gIx Deed.shut.d (.int 0) hh = .ok (.str "shut") hh:=w
   let hh1:Hd:=hh.set 1 (.lst (st.2.map prD++[.tup [bz (lst st.1),bz pre.length]]))
   have e2:hh1[k]? = some (.lst (st.1.map bz)):=by
    show (hh.set 1 _)[k]? = _;rw [List.getElem?_set_ne (Ne.symm hk)];exact e0
   refine ⟨τD M ps hh1.length ((st.2.length:Nat)+1) (some (bz pre.length)) (some Deed.shut.d),hh1++[.lst (a2r (st.1.map bz) none (some (-1)))],?_,hh1.length,_,_,_,rfl,?_,?_,?_,?_⟩
   ·unfold ux;refine Eq.trans (hd1 _) ?_;rw [hd];refine Eq.trans (ifN (tof (gj (gj (bf rfl) (gf _ _ _) (w _)) (gf _ _ _) (seF (by decide) _)))) ?_
    refine Eq.trans (ifT (tof (gj (gj (bf rfl) (gf _ _ _) (w _)) (gf _ _ _) (seT _ _)))) ?_;refine Eq.trans (jk (gj (bf rfl) (gf _ _ _) v9)) ?_;refine Eq.trans (zg (zx (bf rfl) (PN.a8w e1) (arg1 (qt (gj (bf rfl) (aca (gf _ _ _) (a3u _)) (aiq e0 (ne hd))) (bf (i:=5) rfl) ab1)) (zy e1 (by rw [List.length_map];exact a01 (by omega))))) ?_
    exact ahz (a3v (bf rfl) rfl (a7o (aca (gf _ _ _) (a3u _))) (aib e2))
   ·dsimp only;rw [List.length_append,List.length_singleton];omega
   ·show (hh.set 1 _).length≠1;rw [List.length_set];omega
   ·dsimp only;rw [xr,afj,List.length_map,<-List.map_take]
   ·dsimp only;have hl:1<hh1.length:=by show 1<(hh.set 1 _).length;rw [List.length_set];exact l1
    rw [List.getElem?_append_left hl,List.map_append];show (hh.set 1 _)[1]? = _;rw [List.getElem?_set_self l1];rfl
noncomputable def dw:SF:=o9 a0o 2
theorem ais{p q:Nat × Nat}(a:Ap p q):Pu dw 2 [prD p,prD q] (.bl true):=by
 refine aim rfl (K21.a1s (afp _ _) (afp _ _)) ?_;unfold dw;rw [j7];show toR (a0o [some (prD p),some (prD q)] [])=_;unfold a0o;have x0:∀ (z:Nat × Nat) (hh:Hd),gIx (prD z) (.int 0) hh = .ok (bz z.1) hh:=λz hh=>a00 (j:=0) rfl;have x1:∀ (z:Nat × Nat) (hh:Hd),gIx (prD z) (.int 1) hh = .ok (bz z.2) hh:=λz hh=>a00 (j:=1) rfl
 rcases a with a | ⟨a1,a2,a3⟩
 ·exact congrArg toR (a2k (Eq.trans (ifT (orT (tof (gj (gj (bf rfl) (gf _ _ _) (x1 _ _)) (gj (bf rfl) (gf _ _ _) (x0 _ _)) (aqp (by omega)))))) (qd (gf _ _ _))))
 ·refine Eq.trans (congrArg toR (ifN (orF (tof (gj (gj (bf rfl) (gf _ _ _) (x1 _ _)) (gj (bf rfl) (gf _ _ _) (x0 _ _)) (aqq (by omega)))) (tof (gj (gj (bf rfl) (gf _ _ _) (x1 _ _)) (gj (bf rfl) (gf _ _ _) (x0 _ _)) (aqq (by omega))))))) ?_
  exact congrArg toR (qd (EVT.ax4 (PAP.amk (gj (gj (bf rfl) (gf _ _ _) (x0 _ _)) (gj (bf rfl) (gf _ _ _) (x0 _ _)) (aqq (by omega)))) (aer (gj (gj (bf rfl) (gf _ _ _) (x0 _ _)) (gj (bf rfl) (gf _ _ _) (x0 _ _)) (aqp (by omega))) (gj (gj (bf rfl) (gf _ _ _) (x1 _ _)) (gj (bf rfl) (gf _ _ _) (x1 _ _)) (aqp (by omega))))))
theorem ait(h:M.Ok){d:D}{s:Nat}(hs:s<M.ms.length)(p:Pln d)(t:txt (tb M s) d=false)(hh:Hd):zf 3 di [M.d,bz s,d] hh = .ex "NoText" hh:=by
 refine a9p rfl (a7u p.clo) (h1:=[]) ?_;unfold di;rw [j7];show toR (yu jf jo [some M.d,some (bz s),some d,none,none,none,none,none,none,none,none,none,none,none,none] [])=_;unfold yu;refine congrArg toR (amg ?_);unfold a5p;rw [(ami (fj (bf rfl) (fj (bf rfl) (fj (bf rfl) rfl)))).trans (an2 h hs p t _)];rfl
noncomputable def cj:SF:=o9 (K70.yr di) 5
theorem afq(h:M.Ok){d:D}{s:Nat}(hs:s<M.ms.length)(p:Pln d)(t:txt (tb M s) d=false):Pu K70.cj 3 [M.d,bz s,d] (.bl true):=by
 refine aim rfl (a7u p.clo) ?_;unfold K70.cj;rw [j7];show toR (K70.yr di [some M.d,some (bz s),some d,none,none] [])=_;unfold K70.yr;refine Eq.trans (congrArg toR (jk (gf _ _ _))) ?_;refine Eq.trans (congrArg toR (zg (aqs (c := "NoText") (h1:=[]) ?_ (by decide) (Eq.trans (jk (aer (amj (b:=true) rfl (by decide)) (amj (b:=true) rfl (by decide)))) (Eq.trans (ifF (a3d (amj (c := "NoText") rfl (b:=false) (by decide)) (xm _))) rfl))))) ?_
 ·exact ajw ((ami (qof (fj (bf rfl) (fj (bf rfl) (fj (bf rfl) rfl))))).trans (ait h hs p t _))
 ·exact congrArg toR (qd (bf rfl))
end
theorem ars(i j:Nat)(hh:Hd):a3r [bz i,bz j] hh = .ok (bz (min i j)) hh:=by
 have e:(if (j:Int)<(i:Int) then (j:Int) else (i:Int))=((min i j:Nat):Int):=by split<;>omega
 show R.ok (D.int (if (j:Int)<(i:Int) then (j:Int) else (i:Int))) hh=_
 rw [e]
theorem rep1(s x:Nat):(List.replicate s [bz x]).flatten=(List.replicate s x).map bz:=by
 induction s with
 | zero=>rfl
 | succ s ih=>rw [List.replicate_succ,List.flatten_cons,ih,List.replicate_succ,List.map_cons];rfl
abbrev rmB(sz:Nat):Nat:=min sz 3+1
abbrev ksB(R:Nat):List Int:=([-1,0,1,2]:List Int).take R++[-1]
abbrev an9(sz:Nat):List Nat:=(List.range sz).map λi=>min i 2+1
def tbB(tg:List Nat):Table:=⟨tg,an9 tg.length::List.replicate (rmB tg.length) (List.replicate tg.length (rmB tg.length)),ksB (rmB tg.length)⟩
theorem afr{sz:Nat}(s1:1<=sz):rmB sz=2\/rmB sz=3\/rmB sz=4:=by show min sz 3+1=2\/min sz 3+1=3\/min sz 3+1=4;omega
theorem art{tg:List Nat}{n:Nat}{ds:List Deed}(T:Tongue tg)(dl:ds.length=3)(dk:∀ x∈ds,x.Ok n):ModeOk tg n (tbB tg,ds):=by
 have s1:=T.lo;have s6:=T.hi;have gl:(tbB tg).go.length=rmB tg.length+1:=by show (_::List.replicate _ _).length=_;rw [List.length_cons,List.length_replicate]
 have ks:∀ k∈ksB (rmB tg.length), -1<=k/\k<=2:=by
  rcases afr s1 with e | e | e<;>(rw [e];decide)
 have kl:(ksB (rmB tg.length)).length=rmB tg.length+1:=by
  rcases afr s1 with e | e | e<;>(rw [e];rfl)
 have rl:rmB tg.length=min tg.length 3+1:=rfl;refine ⟨⟨T,by rw [gl];omega,by rw [gl];omega,λr hr=>?_,by rw [gl];exact kl,?_,λk hk=>?_⟩,rfl,by show ds.length<=6;omega,λk hk=>?_,dk,λr hr=>?_⟩
 ·rw [gl]
  rcases List.mem_cons.mp hr with rfl | hr
  ·refine ⟨by rw [List.length_map,List.length_range];rfl,λx hx=>?_⟩
   obtain ⟨i,hi,rfl⟩:=List.mem_map.mp hx;rw [List.mem_range] at hi;omega
  ·rw [List.eq_of_mem_replicate hr];refine ⟨by rw [List.length_replicate];rfl,λx hx=>?_⟩
   rw [List.eq_of_mem_replicate hx];omega
 ·show (ksB (rmB tg.length))[0]? = _
  rcases afr s1 with e | e | e<;>(rw [e];rfl)
 ·have:=ks k hk
  exact ⟨this.1,by omega⟩
 ·have:=ks k hk
  show k<(ds.length:Int);omega
 ·have hr:r<rmB tg.length+1:=by rw [<-gl];exact hr
  have one:∀ x,1<=x->x<=min tg.length 3->Rch (tbB tg).go x:=λx h1 h2=>(Rch.zero _).step (by
   show x∈an9 tg.length;exact List.mem_map.mpr ⟨x - 1,List.mem_range.mpr (by omega),by omega⟩)
  by_cases z:r=0
  ·subst z;exact Rch.zero _
  ·by_cases y:r<=min tg.length 3
   ·exact one r (by omega) y
   ·have er:r=rmB tg.length:=by omega
    refine (one 1 (by omega) (by omega)).step ?_
    show r∈((List.replicate (rmB tg.length) (List.replicate tg.length (rmB tg.length)))[0]?).getD [];rw [List.getElem?_replicate,if_pos (by omega)]
    show r∈List.replicate tg.length (rmB tg.length);rw [List.mem_replicate];exact ⟨by omega,er⟩
noncomputable def bu:SF:=o9 (wz PN.ak) 11
abbrev τB(tg:List Nat)(n:Nat)(i a b c d e:Option D):Sd:=[some (.ref 0),some (.str (S tg)),some (bz n),some (bz tg.length),some (.ref 1),i,a,b,c,d,e]
theorem a9y{o:O}{N:Nat}{tg:List Nat}(P:Pen o N)(hN:N<=999970000)(T1:Tongue tg) :
  ∃ (M:Mach) (o':O),M.Ok/\M.tg=tg/\Dr bu 2 [.str (S tg)] o M.d o'/\Pen o' (N+100):=by
 have s1:=T1.lo;have s6:=T1.hi;have rb:rmB tg.length=min tg.length 3+1:=rfl;obtain ⟨x,o1,x0,x1,P1,c1⟩:=tk (m:=4) P (by omega) (by omega) (by omega)
 obtain ⟨j,rfl⟩:=Int.eq_ofNat_of_zero_le x0
 let n:Nat:=1+j
 have en:(1:Int)+(j:Int)=((n:Nat):Int):=by show _=((1+j:Nat):Int);omega
 have hn1:1<=n:=by show 1<=1+j;omega
 have hn4:n<=4:=by show 1+j<=4;omega
 have ln:∀ hh:Hd,xx [.str (S tg)] hh = .ok (bz tg.length) hh:=λhh=>a9n (jx (by omega))
 have lp:=qw (g:=kN 5) (b:=vz PN.ak) bz
  (λpre τ h=>∃ (u:O) (ms:List (Table × List Deed)) (i a b c d e:Option D),τ=τB tg n i a b c d e/\h=[u, .lst (ms.map uc)]/\Pen u (N+1+3*pre.length)/\ms.length=pre.length/\∀ m∈ms,ModeOk tg n m)
  (List.range n) (τB tg n none none none none none none) [o1, .lst []] ?_ ⟨o1,[],none,none,none,none,none,none,rfl,rfl,P1,rfl,by simp⟩
 ·obtain ⟨τ',h',e,u,ms,i,a,b,c,d,e',rfl,rfl,Pu,lm,mk⟩:=lp;rw [List.length_range] at Pu lm;have one:∀ x∈List.take 1 [u,O.lst (ms.map uc)],zj 1 x:=by
   intro x hx
   rw [show List.take 1 [u,O.lst (ms.map uc)]=[u] from rfl,List.mem_singleton] at hx
   subst hx;exact nu (by omega) Pu.clo
  let M:Mach:=⟨tg,ms⟩
  refine ⟨M,u,⟨T1,by show 1<=ms.length;omega,by show ms.length<=4;omega,λm hm=>by show ModeOk tg ms.length m;rw [lm];exact mk m hm⟩,rfl,Dr.of rfl (an0 (j6 _)) P.clo (r:=.ok M.d [u, .lst (ms.map uc)]) ?_ (nq (M.clo 1) one) (M.clo 0) Pu.clo,Pu.up (by omega)⟩
  unfold bu;rw [j7];show toR (wz PN.ak [some (.ref 0),some (.str (S tg)),none,none,none,none,none,none,none,none,none] [o])=_;unfold wz;refine Eq.trans (congrArg toR (jk (gj (gf _ _ _) (qt (bf rfl) (gf _ _ _) (c1 _)) v9))) ?_;rw [en];refine Eq.trans (congrArg toR (jk (w6 (bf rfl) (ln _)))) ?_;refine Eq.trans (congrArg toR (jk (d:=.ref 1) (h1:=[o1, .lst []]) rfl)) ?_;refine Eq.trans (congrArg toR (a3e (a0p (n:=n) (bf rfl) (jx (by omega))))) ?_
  refine Eq.trans (congrArg (λz=>toR (MI.thn z _)) e) ?_;rw [xf];exact congrArg toR (qd (qt (bf rfl) (w6 (bf rfl) (show ou [.ref 1] [u, .lst (ms.map uc)] = .ok (.tup (ms.map uc)) [u, .lst (ms.map uc)] from rfl)) ab1))
 ·rintro pre x post τ h all ⟨u,ms,i,a,b,c,d,e,rfl,rfl,Pu,lm,mk⟩
  obtain ⟨rfl,hx⟩:=a02 all;obtain ⟨y,u1,y0,y1,P1,d1⟩:=tk (m:=(n:Int)) Pu (by omega) (by omega) (by omega)
  obtain ⟨z,u2,z0,z1,P2,d2⟩:=tk (m:=2) P1 (by omega) (by omega) (by omega)
  obtain ⟨w,u3,w0,w1,P3,d3⟩:=tk (m:=(n:Int)) P2 (by omega) (by omega) (by omega)
  obtain ⟨k,rfl⟩:=Int.eq_ofNat_of_zero_le y0;obtain ⟨q,rfl⟩:=Int.eq_ofNat_of_zero_le z0;obtain ⟨r,rfl⟩:=Int.eq_ofNat_of_zero_le w0
  let two:List Deed:=[.stay, .trn k]
  have ql:q<two.length:=by show q<2;omega
  have gx:two[q]? = some two[q]:=List.getElem?_eq_getElem ql;have gm:two[q]∈two:=List.getElem_mem ql
  generalize two[q]=th at gx gm
  have tk':th.Ok n:=by
   simp only [two,List.mem_cons,List.not_mem_nil,or_false] at gm
   rcases gm with rfl | rfl
   ·trivial
   ·show k<n;omega
  let ds:List Deed:=[.opn r, .shut,th]
  have md:ModeOk tg n (tbB tg,ds):=art T1 rfl λx hx=>by
   simp only [ds,List.mem_cons,List.not_mem_nil,or_false] at hx
   rcases hx with rfl | rfl | rfl
   ·show r<n;omega
   ·trivial
   ·exact tk'
  let L:O:=.lst (ms.map uc)
  have cl:∀ {u:O} {N:Nat},Pen u N->∀ x∈[u,L],zj 2 x:=by
   intro u N Pu x hx
   simp only [List.mem_cons,List.not_mem_nil,or_false] at hx
   rcases hx with rfl | rfl
   ·exact nu (by omega) Pu.clo
   ·exact a8x _ _
  refine ⟨_,_,rfl,τB tg n (some (bz pre.length)) (some (a3q (an9 tg.length))) (some th.d) (some (.tup (dsD ds))) (some (bz (rmB tg.length))) (some (a3q (List.replicate tg.length (rmB tg.length)))),[u3, .lst ((ms++[(tbB tg,ds)]).map uc)],?_,u3,ms++[(tbB tg,ds)],_,_,_,_,_,_,rfl,rfl,P3.up (by rw [List.length_append,List.length_singleton];omega),by rw [List.length_append,List.length_append,lm];rfl,λm hm=>?_⟩
  ·unfold vz;have cp:∀ τ:Sd,τ[3]? = some (some (bz tg.length))->sZ (uz (sRg a0g (aj (sV 3) dj)) t1 (u9 PN.ak) []) τ [u,L] = .ok (.rol ((an9 tg.length).map bz)) [u,L]:=λτ h3=>by
    rw [List.map_map];refine yg (a5k (λi:Nat=>D.int (i:Nat)) (λi:Nat=>bz (min i 2+1)) (List.range tg.length) (a0p (bf h3) (jx (by omega))) (jx (by rw [List.length_range];omega)) λi _=>?_) (lw λi _=>iz _) (cl Pu)
    show u9 PN.ak [some (bz i)] [u,L]=_;unfold u9;exact gj (qt (bf rfl) (gf _ _ _) (ars i 2 _)) (gf _ _ _) v9
   refine Eq.trans (jk (w6 (cp _ rfl) (show ou [.rol ((an9 tg.length).map bz)] [u,L] = .ok (a3q (an9 tg.length)) [u,L] from rfl))) ?_
   have z2:∀ τ:Sd,τ[0]? = some (some (.ref 0))->τ[2]? = some (some (bz n))->sZ (sA yx (aj (sA MI.qp (aj (sC (.str "stay")) dj)) (aj (sA MI.qp (aj (sC (.str "turn")) (aj (sA (nj false 2 PN.ak) (aj (sV 0) (aj (sV 2) dj))) dj))) dj))) τ [u,L] = .ok (.rol (dsD two)) [u1,L]:=λτ h0 h2 =>
    PAP.aqw rfl (SRC.a9s (fj (w6 (gf _ _ _) rfl) (fj (qt (gf _ _ _) (qt (bf h0) (bf h2) (d1 _)) ab1) rfl)) rfl) (a6h _ two) (cl P1)
   refine Eq.trans (jk (gj (z2 _ rfl rfl) (qt (bf rfl) (gf _ _ _) (d2 _)) (aju (by rw [List.getElem?_map,gx];rfl)))) ?_
   refine Eq.trans (jk (a8t (qt (gf _ _ _) (qt (bf rfl) (bf rfl) (d3 _)) ab1) (w6 (gf _ _ _) rfl) (bf rfl) aqr)) ?_;refine Eq.trans (jk (gj (qt (bf rfl) (gf _ _ _) (ars tg.length 3 _)) (gf _ _ _) v9)) ?_;have z0row:∀ (j:Nat) (hh:Hd),a7a (.tup [bz j]) (.int tg.length) hh = .ok (a3q (List.replicate tg.length j)) hh:=λj hh=>(av5 (k:=tg.length) (by simp) s1 (by omega) (by simp)).trans (by rw [rep1])
   refine Eq.trans (jk (gj (w6 (bf rfl) rfl) (bf rfl) (z0row (rmB tg.length) _))) ?_;have rows:∀ hh:Hd,a7a (.tup [a3q (List.replicate tg.length (rmB tg.length))]) (bz (rmB tg.length)) hh = .ok (.tup ((List.replicate (rmB tg.length) (List.replicate tg.length (rmB tg.length))).map a3q)) hh:=λhh=>by
    refine (av5 (k:=rmB tg.length) (by simp) (by omega) (by omega) (by simp)).trans ?_
    rcases afr s1 with e | e | e<;>(rw [e];rfl)
   have kin:∀ hh:Hd,a92 (.tup [.int (-1), .int 0, .int 1, .int 2]) none (some ((rmB tg.length:Nat):Int)) hh = .ok (.tup ((([-1,0,1,2]:List Int).take (rmB tg.length)).map D.int)) hh:=λhh=>by
    rw [PAP.avl]
    rcases afr s1 with e | e | e<;>(rw [e];rfl)
   have ad:∀ hh:Hd,jr (.tup [a3q (an9 tg.length)]) (.tup ((List.replicate (rmB tg.length) (List.replicate tg.length (rmB tg.length))).map a3q)) hh = .ok (.tup ((tbB tg).go.map a3q)) hh:=λhh=>PAP.ai2 (by rw [List.length_map,List.length_replicate,List.length_singleton];omega)
   have ad2:∀ hh:Hd,jr (.tup ((([-1,0,1,2]:List Int).take (rmB tg.length)).map D.int)) (.tup [.int (-1)]) hh = .ok (.tup ((tbB tg).ks.map D.int)) hh:=λhh=>by
    refine (PAP.ai2 (by rw [List.length_map,List.length_take,List.length_singleton];show min _ 4+1<=_;omega)).trans ?_
    show _=R.ok (D.tup ((([-1,0,1,2]:List Int).take (rmB tg.length)++[-1]).map D.int)) hh;rw [List.map_append];rfl
   rw [List.map_append];refine zx (bf rfl) rfl (arg1 (a8t (gj (w6 (bf rfl) rfl) (gj (w6 (bf rfl) rfl) (bf rfl) (rows _)) (ad _)) (gj (a3v (SRC.a9s (fj (aca (gf _ _ _) (a3u _)) (fj (gf _ _ _) (fj (gf _ _ _) (fj (gf _ _ _) rfl)))) ak2) rfl (a7o (bf (i:=9) rfl)) (kin _)) (w6 (aca (gf _ _ _) (a3u _)) rfl) (ad2 _)) (bf rfl) aqr)) (zy (xs:=ms.map uc) rfl (by rw [List.length_map];exact a01 (by omega)))
  ·rcases List.mem_append.mp hm with q | q
   ·exact mk m q
   ·rw [List.mem_singleton] at q;subst q;exact md
theorem aru{n:Nat}{xs:List D}(cx:clos 0 xs)(h:∀ x∈xs,Pu (K69.bw n) 2 [x,x] (.bl true)):Dr (K69.bw (n+1)) 2 [.rol xs] (.lst xs) (.bl true) (.lst xs):=by
 have e0:K69.bw (n+1) [.ref 0, .rol xs] [.lst xs]=toR (u6 (K69.bw n) [some (.ref 0),some (.rol xs),none,none] [.lst xs]):=by
  show o9 (u6 (K69.bw n)) 4 [.ref 0, .rol xs] [.lst xs]=_;rw [j7];rfl
 refine Dr.of rfl (an0 (v6 cx)) cx (r:=.ok (.bl true) [.lst xs]) (e0.trans ?_) (nq (a1j _) (by intro x hx;rw [show List.take 1 [O.lst xs]=[.lst xs] from rfl,List.mem_singleton] at hx;subst hx;exact yf.mpr λy hy=>aao (Nat.zero_le _) (yf.mp cx y hy))) (a1j _) cx
 unfold u6;have i1:a79 [.rol xs, .tup [.ty "list", .ty "tuple"]] [.lst xs] = .ok (.bl true) [.lst xs]:=by simp [a79,tyD,a69,ahp,a5h]
 have r2:uf [.ref 0, .ty "list"] [.lst xs] = .ok (.bl true) [.lst xs]:=by simp [uf,abk,tyD,a69]
 have r3:uf [.ref 0, .ty "tuple"] [.lst xs] = .ok (.bl false) [.lst xs]:=by simp [uf,abk,tyD,a69]
 have s2':uf [.rol xs, .ty "list"] [.lst xs] = .ok (.bl true) [.lst xs]:=by simp [uf,abk,tyD,a69]
 have s3:uf [.rol xs, .ty "tuple"] [.lst xs] = .ok (.bl false) [.lst xs]:=by simp [uf,abk,tyD,a69]
 have ln:xx [.ref 0] [.lst xs] = .ok (bz xs.length) [.lst xs]:=rfl;have ln2:xx [.rol xs] [.lst xs] = .ok (bz xs.length) [.lst xs]:=rfl;have zi:ajl (sV 0) (sV 1) [some (.ref 0),some (.rol xs),none,none] [.lst xs] = .ok ⟨xs.map λx=>.tup [x,x],λh=>h[0]? = some (.lst xs)/\True⟩ [.lst xs]:=by
  unfold ajl;rw [bf rfl,gq,bf rfl,gq];show R.ok (⟨(xs.zip xs).map λp=>.tup [p.1,p.2],λh=>h[0]? = some (.lst xs)/\True⟩:Itm) [.lst xs]=_;rw [a7v]
 have lp:=a7j (ck:=λh=>h[0]? = some (.lst xs)/\True) (g:=a1n 2 (jj (kN 2) (jj (kN 3) a1t))) (b:=v8 (K69.bw n)) (λx:D=>.tup [x,x])
  (λpre τ hh=>∃ t2 t3:Option D,τ=[some (.ref 0),some (.rol xs),t2,t3]/\hh=[.lst xs]) (by rintro pre τ hh ⟨t2,t3,rfl,rfl⟩;exact ⟨rfl,trivial⟩) xs [] [some (.ref 0),some (.rol xs),none,none] [.lst xs] ?_ ⟨none,none,rfl,rfl⟩
 ·obtain ⟨τ',h',e,t2,t3,rfl,rfl⟩:=lp;refine congrArg toR (a2k (Eq.trans (ifT (a3d (qt (bf rfl) (tys _ _) i1) (xm _))) ?_));refine Eq.trans (ifN (orF (tof (gj (qt (bf rfl) (gf _ _ _) s2') (qt (bf rfl) (gf _ _ _) r2) (ain _ _))) (tof (gj (qt (bf rfl) (gf _ _ _) s3) (qt (bf rfl) (gf _ _ _) r3) (ain _ _))))) ?_;refine Eq.trans (ifN (tof (gj (w6 (bf rfl) ln) (w6 (bf rfl) ln2) (ai0 rfl)))) ?_;refine Eq.trans (a3e zi) ?_;refine Eq.trans (congrArg (λz=>MI.thn z _) e) ?_;rw [xf];exact qd (gf _ _ _)
 ·rintro pre x post τ hh all ⟨t2,t3,rfl,rfl⟩
  have hx:x∈xs:=by rw [<-List.nil_append xs,all];simp
  refine ⟨_,_,rfl,[some (.ref 0),some (.rol xs),some x,some x],[.lst xs],?_,_,_,rfl,rfl⟩;unfold v8;exact Eq.trans (ifF (ame (a3d (qt (bf rfl) (bf rfl) (h x hx _)) (xm _)))) rfl
theorem arv(n:Nat)(p:Nat × Nat):Pu (K69.bw (n+2)) 2 [prD p,prD p] (.bl true):=an4 n [p.1,p.2]
theorem arw(n:Nat)(ps:List (Nat × Nat)):Pu (K69.bw (n+3)) 2 [.rol (ps.map prD), .rol (ps.map prD)] (.bl true):=ak5 (.inr rfl) (a07 _ _) λx hx=>by obtain ⟨p,_,rfl⟩:=List.mem_map.mp hx;exact arv n p
theorem set_same{h:Hd}{i:Nat}{o:O}(e:h[i]? = some o):h.set i o=h:=by
 apply List.ext_getElem?
 intro j
 by_cases z:i=j
 ·subst z;rw [List.getElem?_set_self (List.getElem?_eq_some_iff.mp e).1,e]
 ·rw [List.getElem?_set_ne z]
section
variable{M:Mach}
noncomputable def aiu:SF:=o9 (K70.ahu dw bu K69.gw ik PN.bx PN.ie K70.cj (K69.bw 4) PN.cu PN.dh PN.g8 PN.ak di) 14
abbrev afs(sc pl:D)(M:Mach)(i a b c d e f j:Option D):Sd:=[some sc,some (.ref 0),some pl,some (.str (S M.tg)),some M.d,some (.rol (ones (K34.others M.tg))),i,a,b,c,d,e,f,j]
theorem arx{u:O}{N:Nat}{g:Hd}(P:Pen u N)(cg:∀ o∈g,zj 0 o)(k:Nat):∀ o∈u::g,zj k o:=by
 intro o ho
 rcases List.mem_cons.mp ho with rfl | ho
 ·exact nu (Nat.zero_le _) P.clo
 ·exact nu (Nat.zero_le _) (cg o ho)
theorem ac2{sc pl:D}{i a b c f j:Option D}{G:Hd}{ps:List (Nat × Nat)}{q k:Nat}(cg:∀ o∈G,zj 0 o)(eq:G[q]? = some (.lst (ps.map prD)))(pl':ps.length<=1000)(pp:ps.Pairwise Ap)(hk:k<ps.length) :
  K70.a4e dw bu K69.gw ik PN.bx PN.ie K70.cj (K69.bw 4) PN.cu PN.dh PN.g8 PN.ak di (afs sc pl M i a b c (some (.ref q)) (some (bz k)) f j) G = .nx (afs sc pl M i a b c (some (.ref q)) (some (bz k)) f j) G:=by
 have cl:∀ o∈G,zj G.length o:=λo ho=>nu (Nat.zero_le _) (cg o ho);have sl:sZ (a0v (sV 10) (oS (s2 jr (sV 11) (sC (.int 1)))) oN) (afs sc pl M i a b c (some (.ref q)) (some (bz k)) f j) G = .ok (.rol ((ps.drop (k+1)).map prD)) G:=by
  have e1:a92 (.ref q) (some ((k:Int)+1)) none G = .ok (.ref G.length) (G++[.lst ((ps.drop (k+1)).map prD)]):=by
   rw [aib eq,show (k:Int)+1=((k+1:Nat):Int) by omega,a4u,List.map_drop]
  exact yg (a3v (bf rfl) (a7o (gj (bf rfl) (gf _ _ _) v9)) rfl e1) (a07 _ _) cl
 have x0:ps[k]? = some ps[k]:=List.getElem?_eq_getElem hk;have ap:∀ x∈ps.drop (k+1),Ap ps[k] x:=by
  have e1:ps.drop k=ps[k]::ps.drop (k+1):=List.drop_eq_getElem_cons hk;have:=pp.sublist (List.drop_sublist k ps);rw [e1,List.pairwise_cons] at this;exact this.1
 generalize ps[k]=p at x0 ap
 have cf:sZ (a1x (sIt (sZ (a0v (sV 10) (oS (s2 jr (sV 11) (sC (.int 1)))) oN))) t1 (K70.a2i dw bu K69.gw ik PN.bx PN.ie K70.cj (K69.bw 4) PN.cu PN.dh PN.g8 PN.ak di) (K70.a7c dw bu K69.gw ik PN.bx PN.ie K70.cj (K69.bw 4) PN.cu PN.dh PN.g8 PN.ak di) [10,11]) (afs sc pl M i a b c (some (.ref q)) (some (bz k)) f j) G = .ok (.rol []) G:=by
  have nn:(ps.drop (k+1)).filterMap (λ_=>(none:Option D))=[]:=by
   generalize ps.drop (k+1)=l
   induction l with
   | nil=>rfl
   | cons x l ih=>exact ih
  have:=a8s (fi:=sIt (sZ (a0v (sV 10) (oS (s2 jr (sV 11) (sC (.int 1)))) oN))) (t:=t1) (c:=K70.a2i dw bu K69.gw ik PN.bx PN.ie K70.cj (K69.bw 4) PN.cu PN.dh PN.g8 PN.ak di) (fe:=K70.a7c dw bu K69.gw ik PN.bx PN.ie K70.cj (K69.bw 4) PN.cu PN.dh PN.g8 PN.ak di) (ix:=[10,11]) (τ:=afs sc pl M i a b c (some (.ref q)) (some (bz k)) f j) (h:=G) prD (λ_=>none) (ps.drop (k+1)) (afw sl rfl) (jx (by rw [List.length_drop];omega)) λx hx=>?_
  ·rw [nn] at this;exact yg this lu cl
  ·show (K70.a2i dw bu K69.gw ik PN.bx PN.ie K70.cj (K69.bw 4) PN.cu PN.dh PN.g8 PN.ak di [some (prD x),some (.ref q),some (bz k)] G).bind _=_;have q':K70.a2i dw bu K69.gw ik PN.bx PN.ie K70.cj (K69.bw 4) PN.cu PN.dh PN.g8 PN.ak di [some (prD x),some (.ref q),some (bz k)] G = .ok (!true) G:=ame (a3d (qt (gj (bf rfl) (bf rfl) (ab0 eq (by rw [List.getElem?_map,x0];rfl))) (bf (i:=0) rfl) (ais (ap x hx) _)) (xm _))
   rw [q',gq];rfl
 unfold K70.a4e;exact ifF (tof (gj cf (yg (xs:=[]) rfl lu cl) (show am8 true (.rol []) (.rol []) G = .ok (.bl false) G from rfl)))
end
section
variable{M:Mach}
theorem aiv(s:Pq):a91 0 (.ok (.ref 1) (HP2 s)) = .ok (.rol (s.2.map prD)) []:=a5f (a4b (k:=18) (by omega) rfl (a07 _ _)) (by simp)
theorem arz{sc pl:D}{u:O}{N s:Nat}{g:Hd}{a0 b0 c0 d0 e0 f0 j0:Option D}(h:M.Ok)(P:Pen u N)(hN:N<=999990000)(cg:∀ o∈g,zj 0 o)(hs:s<M.ms.length) :
  ∃ (u':O) (g':Hd) (a b c d e f j:Option D),Pen u' (N+110)/\(∀ o∈g',zj 0 o)/\K70.a4f dw bu K69.gw ik PN.bx PN.ie K70.cj (K69.bw 4) PN.cu PN.dh PN.g8 PN.ak di (afs sc pl M (some (bz s)) a0 b0 c0 d0 e0 f0 j0) (u::g) = .nx (afs sc pl M (some (bz s)) a b c d e f j) (u'::g'):=by
 obtain ⟨t,u1,tl,tt,e1,P1⟩:=afa (tg:=M.tg) P (by omega) h.tong
 have d1:nj false 2 PN.cu [.ref 0, .str (S M.tg)] (u::g) = .ok (.str (S t)) (u1::g):=e1 0 _ rfl;have d2:∀ hh:Hd,nj false 3 K69.gw [M.d,bz s, .str (S t)] hh = .ok (anh (res M t s)) hh:=λhh=>an3 h hs tt (by omega) hh
 have rl':(res M t s).1.length<=61:=by
  have:=(a9w h t (t.length+1) 0 [s] []).1
  simp only [List.length_nil] at this;show (a5o M t (t.length+1) 0 [s] []).1.length<=61;omega
 have gp:=ak6 h (x:=t) hs;have pr:=aip h hs tt (by omega)
 have iv:=arn gp;have rn:=a9x (M:=M) (res M t s).1;have dq:∀ hh:Hd,nj false 2 ik [M.d, .rol ((res M t s).1.map pcD)] hh = .ok (aso (run M (res M t s).1)) hh:=λhh=>arq h gp (by omega) hh
 generalize run M (res M t s).1=st at pr iv rn dq
 generalize res M t s=r at d2 rl' rn dq
 have ql:st.2.length<=61:=by omega
 have d4:∀ hh:Hd,a9l 3 di [M.d,bz s, .str (S t)] hh = .ok (.ref hh.length) (hh++[.lst (st.2.map prD)]):=λhh=>am9 rfl (a7u (j6 _)) pr rfl (a07 _ _);have d3:∀ hh:Hd,zf 3 di [M.d,bz s, .str (S t)] hh = .ok (.rol (st.2.map prD)) hh:=λhh=>a9q (a7u (j6 _)) pr (Pu.of rfl (a7u (j6 _)) pr (aiv st) (v6 (a07 _ _)));have sm:∀ hh:Hd,nj false 2 (K69.bw 4) [.rol (st.2.map prD), .rol (st.2.map prD)] hh = .ok (.bl true) hh:=λhh=>arw 1 st.2 hh;have smr:∀ (q:Nat) (hh:Hd),hh[q]? = some (.lst (st.2.map prD))->nj false 2 (K69.bw 4) [.ref q, .rol (st.2.map prD)] hh = .ok (.bl true) hh:=λq hh e=>by
  have:=aru (n:=3) (a07 0 st.2) (λx hx=>by obtain ⟨p,_,rfl⟩:=List.mem_map.mp hx;exact arv 1 p) q hh e
  rw [set_same e] at this;exact this
 have op:=K34.ac0 h.tong.hi;have ol:(K34.others M.tg).length<=95:=by have:=List.length_filter_le (λc => !decide (c∈M.tg)) sig;rwa [a5j] at this
 obtain ⟨x,u2,x0,x1,P2,c2⟩:=tk (m:=(t.length:Int)+1) P1 (by omega) (by omega) (by omega)
 obtain ⟨y,u3,y0,y1,P3,c3⟩:=tk (m:=((K34.others M.tg).length:Int)) P2 (by omega) (by omega) (by omega)
 obtain ⟨z,u4,z0,z1,P4,c4⟩:=tk (m:=7) P3 (by omega) (by omega) (by omega)
 obtain ⟨p,rfl⟩:=Int.eq_ofNat_of_zero_le x0;obtain ⟨q,rfl⟩:=Int.eq_ofNat_of_zero_le y0;obtain ⟨w,rfl⟩:=Int.eq_ofNat_of_zero_le z0;have ql2:q<(K34.others M.tg).length:=by omega
 have ex:(K34.others M.tg)[q]? = some (K34.others M.tg)[q]:=List.getElem?_eq_getElem ql2;have nx:(K34.others M.tg)[q] ∉ M.tg:=by
  have:=(List.mem_filter.mp (List.getElem_mem ql2)).2
  simpa using this
 generalize (K34.others M.tg)[q]=c at ex nx
 let odd:List Nat:=t.take p++[c]++t.drop p
 have odl:odd.length<=100:=by
  show (t.take p++[c]++t.drop p).length<=100;simp only [List.length_append,List.length_take,List.length_drop,List.length_singleton];omega
 have wl:w<(an5 odd t).length:=by show w<7;omega
 have gx:(an5 odd t)[w]? = some (an5 odd t)[w]:=List.getElem?_eq_getElem wl;obtain ⟨pd,td⟩:=an6 (T:=tb M s) (o:=odd) (t:=t) (c:=c) (by omega) (by show c∈t.take p++[c]++t.drop p;simp) (by rw [ara h hs];exact nx) _ (List.getElem_mem wl)
 generalize (an5 odd t)[w]=bd at gx pd td
 let LP:O:=.lst (st.2.map prD)
 let g1:Hd:=g++[LP]
 let Q:Nat:=g.length+1
 have cg1:∀ o∈g1,zj 0 o:=λo ho=>by
  rcases List.mem_append.mp ho with z | z
  ·exact cg o z
  ·rw [List.mem_singleton] at z;subst z;exact a07 _ _
 have at1:∀ v:O,(v::g1)[Q]? = some (.lst (st.2.map prD)):=λv=>by
  show (v::(g++[LP]))[g.length+1]? = _;rw [List.getElem?_cons_succ,List.getElem?_append_right (Nat.le_refl _),Nat.sub_self];rfl
 have lp:=qw (g:=kN 11) (b:=K70.a4e dw bu K69.gw ik PN.bx PN.ie K70.cj (K69.bw 4) PN.cu PN.dh PN.g8 PN.ak di) bz
  (λpre τ hh=>∃ e:Option D,τ=afs sc pl M (some (bz s)) (some (.str (S t))) (some (.rol (st.2.map prD))) (some (bz st.2.length)) (some (.ref Q)) e f0 j0/\hh=u1::g1)
  (List.range st.2.length) (afs sc pl M (some (bz s)) (some (.str (S t))) (some (.rol (st.2.map prD))) (some (bz st.2.length)) (some (.ref Q)) e0 f0 j0) (u1::g1) ?_ ⟨e0,rfl,rfl⟩
 ·obtain ⟨τ',h',e,e2,rfl,rfl⟩:=lp;have cl1:∀ {v:O} {N:Nat},Pen v N->∀ k,∀ o∈v::g1,zj k o:=λPv k=>arx Pv cg1 k;refine ⟨u4,g++[.lst (st.2.map prD++[.tup [.int 0, .int 0]])],some (.str (S t)),some (.rol (st.2.map prD)),some (bz st.2.length),some (.ref Q),e2,some (bz p),some (.str (S odd)),P4.up (by omega),λo ho=>?_,?_⟩
  ·rcases List.mem_append.mp ho with z | z
   ·exact cg o z
   ·rw [List.mem_singleton] at z;subst z;exact yf.mpr λy hy=>by
     rcases List.mem_append.mp hy with q | q
     ·exact yf.mp (a07 0 st.2) y q
     ·rw [List.mem_singleton] at q;subst q;exact m5 (du (iz _) (du (iz _) lu))
  ·unfold K70.a4f;refine Eq.trans (jk (qt (bf rfl) (bf rfl) d1)) ?_;have i0:∀ hh:Hd,gIx (anh r) (.int 0) hh = .ok (.rol (r.1.map pcD)) hh:=λhh=>a00 (j:=0) rfl;refine Eq.trans (zg (abw (qt (bf rfl) (gj (a8t (bf rfl) (bf rfl) (bf rfl) (d2 _)) (gf _ _ _) (i0 _)) (dq _)) rfl)) ?_;refine Eq.trans (jk ((ami (fj (bf rfl) (fj (bf rfl) (fj (bf rfl) rfl)))).trans (d4 _))) ?_;show _=MI.Fl.nx _ _;have lenF:xx [.ref Q] (u1::g1) = .ok (bz st.2.length) (u1::g1):=by rw [MI.a3b];unfold a0u;simp only [at1,List.length_map]
   refine Eq.trans (ifN (orF (ame (a3d (qt (bf rfl) (bf rfl) (smr Q _ (at1 u1))) (xm _))) (tof (gj (w6 (bf rfl) lenF) (bf rfl) (ai0 rfl))))) ?_;refine Eq.trans (a3e (a0p (n:=st.2.length) (w6 (bf rfl) lenF) (jx (by omega)))) ?_
   refine Eq.trans (congrArg (λz=>MI.thn z _) e) ?_;rw [xf];have ln:∀ hh:Hd,xx [.str (S t)] hh = .ok (bz t.length) hh:=λhh=>a9n (jx (by omega))
   refine Eq.trans (jk (qt (bf rfl) (gj (w6 (bf rfl) (ln _)) (gf _ _ _) v9) (c2 _))) ?_;have lr:∀ hh:Hd,xx [.rol (ones (K34.others M.tg))] hh = .ok (bz (K34.others M.tg).length) hh:=λhh=>by rw [a3a,List.length_map]
   have ix:∀ hh:Hd,gIx (.rol (ones (K34.others M.tg))) (bz q) hh = .ok (.str (S [c])) hh:=λhh=>aju (by rw [List.getElem?_map,ex];rfl)
   refine Eq.trans (jk (gj (gj (a3v (bf rfl) rfl (a7o (bf rfl)) (avh (l:=t) p (jx (by omega)))) (gj (bf rfl) (qt (bf rfl) (w6 (bf rfl) (lr _)) (c3 _)) (ix _)) (aen (jx (by simp only [List.length_take,List.length_singleton];omega)))) (a3v (bf rfl) (a7o (bf rfl)) rfl (aeo (l:=t) p (jx (by omega)))) (aen (jx (by simp only [List.length_append,List.length_take,List.length_drop,List.length_singleton];omega))))) ?_
   have hc3:=cl1 P3 (u3::g1).length;have zb:∀ τ:Sd,τ[7]? = some (some (.str (S t)))->τ[13]? = some (some (.str (S odd)))->sZ (sA yx (aj (sV 13) (aj (sV 13) (aj (sC .non) (aj (sC (.int 7)) (aj (sZ (sA yx (aj (sV 7) dj))) (aj (sA MI.qp (aj (sV 7) dj)) (aj (sC (.bl true)) dj)))))))) τ (u3::g1) = .ok (.rol (an5 odd t)) (u3::g1):=λτ h7 h11 =>
    yg (SRC.a9s (fj (bf h11) (fj (bf h11) (fj (gf _ _ _) (fj (gf _ _ _) (fj (yg (w6 (bf h7) rfl) (du (j6 _) lu) hc3) (fj (w6 (bf h7) rfl) (fj (gf _ _ _) rfl))))))) rfl) (du (j6 _) (du (j6 _) (du a9h (du (iz _) (du (v6 (du (j6 _) lu)) (du (m5 (du (j6 _) lu)) (du (a1j _) lu))))))) hc3
   refine Eq.trans (ifN (ame (a3d (a8t (bf rfl) (bf rfl) (gj (zb _ rfl rfl) (qt (bf rfl) (gf _ _ _) (c4 _)) (aju gx)) (K70.afq h hs pd td _)) (xm _)))) ?_;have ap:=zy (h:=u4::g1) (a:=.tup [.int 0, .int 0]) (at1 u4) (by rw [List.length_map];exact a01 (by omega))
   have se:(u4::g1).set Q (.lst (st.2.map prD++[.tup [.int 0, .int 0]]))=u4::(g++[.lst (st.2.map prD++[.tup [.int 0, .int 0]])]):=by
    show (u4::(g++[LP])).set (g.length+1) _=_;rw [List.set_cons_succ,PN.ab5]
   rw [se] at ap;refine Eq.trans (zg (zx (bf rfl) (PN.a8w (at1 u4)) (arg1 (qt (gf _ _ _) (gf _ _ _) ab1)) ap)) ?_;exact Eq.trans (ifF (ame (a3d (qt ((ami (fj (bf rfl) (fj (bf rfl) (fj (bf rfl) rfl)))).trans (d3 _)) (bf rfl) (sm _)) (xm _)))) rfl
 ·rintro pre k post τ hh all ⟨e,rfl,rfl⟩
  obtain ⟨rfl,hx⟩:=a02 all;refine ⟨_,_,rfl,_,_,ac2 (arx P1 cg1 0) (at1 u1) (by omega) iv.pp hx,_,rfl,rfl⟩
end
theorem as3(ns:List Int):∃ h',K70.aiu [.scr (ns.map D.int)] [] = .ok (.bl true) h':=by
 obtain ⟨o,P,e0⟩:=aqu ns [];obtain ⟨y,o0,y0,y1,P0,c0⟩:=tk (m:=2) P (by omega) (by omega) (by omega)
 obtain ⟨tg,o1,t1',t6,nd,sb,e1,P1⟩:=amv (most:=4) (all:=sig) P0 (by omega) (by omega) (by rw [a5j];omega) (by rw [a5j];omega) ajt
 have T1:Tongue tg:=⟨t1',by omega,nd,sb⟩
 have c1:nj false 3 PN.g8 [.ref 0, .str (S sig), .int 4] [o0] = .ok (.str (S tg)) [o1]:=e1 0 _ rfl;obtain ⟨x,o2,x0,x1,P2,c2⟩:=tk (m:=4) P1 (by omega) (by omega) (by omega)
 obtain ⟨j,rfl⟩:=Int.eq_ofNat_of_zero_le x0
 let ws:List Nat:=[8,8,8,16]
 have jl:j<ws.length:=by show j<4;omega
 have gx:ws[j]? = some ws[j]:=List.getElem?_eq_getElem jl;have gm:ws[j]∈ws:=List.getElem_mem jl
 generalize ws[j]=most at gx gm
 have ml:1<=most/\most<=32:=by
  simp only [ws,List.mem_cons,List.not_mem_nil,or_false] at gm;omega
 obtain ⟨M0,o3,hM0,et0,e3,P3⟩:=abz (most:=most) P2 (by omega) T1 ml.1 ml.2
 have c3:nj false 3 PN.bx [.ref 0, .str (S tg),bz most] [o2] = .ok M0.d [o3]:=e3 0 _ rfl
 let sc:D:=.scr (ns.map D.int)
 obtain ⟨M,o4,hM,et,P4,e4⟩:∃ (M:Mach) (o4:O),M.Ok/\M.tg=tg/\Pen o4 10000/\∀ G:SS,j5 (sIf (sT (s2 hEq (sV 2) (sC (.int 0)))) (lq 4 (sA (nj false 2 bu) (aj (sV 1) (aj (sV 3) dj)))) sNx) G [some sc,some (.ref 0),some (.int y),some (.str (S tg)),some M0.d,none,none,none,none,none,none,none,none,none] [o3]=G [some sc,some (.ref 0),some (.int y),some (.str (S tg)),some M.d,none,none,none,none,none,none,none,none,none] [o4]:=by
  by_cases z:y=0
  ·obtain ⟨M,o4,hM,et,e4,P4⟩:=a9y P3 (by omega) T1
   have c4:nj false 2 bu [.ref 0, .str (S tg)] [o3] = .ok M.d [o4]:=e4 0 _ rfl;exact ⟨M,o4,hM,et,P4.up (by omega),λG=>zg (Eq.trans (ifT (tof (gj (bf rfl) (gf _ _ _) (aes z)))) (ahz (qt (bf rfl) (bf rfl) c4)))⟩
  ·exact ⟨M0,o3,hM0,et0,P3.up (by omega),λG=>ifN (tof (gj (bf rfl) (gf _ _ _) (aet z)))⟩
 subst et;have one:∀ {u:O} {N:Nat},Pen u N->∀ x∈[u],zj 1 x:=λPu x hx=>by rw [List.mem_singleton] at hx;subst hx;exact nu (by omega) Pu.clo
 have n1:=hM.n1;have n4:=hM.n4;have lp:=qw (g:=kN 6) (b:=K70.a4f dw bu K69.gw ik PN.bx PN.ie K70.cj (K69.bw 4) PN.cu PN.dh PN.g8 PN.ak di) bz
  (λpre τ hh=>∃ (u:O) (g:Hd) (i a b c d e f k:Option D),τ=afs sc (.int y) M i a b c d e f k/\hh=u::g/\Pen u (10000+110*pre.length)/\(∀ o∈g,zj 0 o))
  (List.range M.ms.length) (afs sc (.int y) M none none none none none none none none) [o4] ?_ ⟨o4,[],none,none,none,none,none,none,none,none,rfl,rfl,P4,by simp⟩
 ·obtain ⟨τ',h',e,u,g,i,a,b,c,d,e',f,k,rfl,rfl,Pu,cg⟩:=lp;refine ⟨u::g,?_⟩;unfold K70.aiu;rw [j7];show toR (K70.ahu dw bu K69.gw ik PN.bx PN.ie K70.cj (K69.bw 4) PN.cu PN.dh PN.g8 PN.ak di [some sc,none,none,none,none,none,none,none,none,none,none,none,none,none] [])=_;unfold K70.ahu;refine Eq.trans (congrArg toR (jk (w6 (bf rfl) e0))) ?_;refine Eq.trans (congrArg toR (jk (qt (bf rfl) (gf _ _ _) (c0 _)))) ?_;refine Eq.trans (congrArg toR (jk (a8t (bf rfl) (avi (PN.a4h _)) (gf _ _ _) c1))) ?_;have zw:∀ τ:Sd,sZ (sA yx (aj (sC (.int 8)) (aj (sC (.int 8)) (aj (sC (.int 8)) (aj (sC (.int 16)) dj))))) τ [o1] = .ok (.rol (ws.map bz)) [o1]:=λτ =>
   yg (SRC.a9s (fj (gf _ _ _) (fj (gf _ _ _) (fj (gf _ _ _) (fj (gf _ _ _) rfl)))) rfl) (jb ws) (one P1)
  refine Eq.trans (congrArg toR (jk (a8t (bf rfl) (bf rfl) (gj (zw _) (qt (bf rfl) (gf _ _ _) (c2 _)) (aju (by rw [List.getElem?_map,gx];rfl))) c3))) ?_
  refine Eq.trans (congrArg toR (e4 _)) ?_;have cf:∀ τ:Sd,τ[3]? = some (some (.str (S M.tg)))->sZ (a1x (sIt (sA (nj false 0 PN.dh) dj)) t1 (K70.a4d dw bu K69.gw ik PN.bx PN.ie K70.cj (K69.bw 4) PN.cu PN.dh PN.g8 PN.ak di) (K70.aax dw bu K69.gw ik PN.bx PN.ie K70.cj (K69.bw 4) PN.cu PN.dh PN.g8 PN.ak di) [3]) τ [o4] = .ok (.rol (ones (K34.others M.tg))) [o4]:=λτ h0=>by
   rw [<-a7p];refine yg (a8s (λc:Nat=>D.str (S [c])) (λc=>if (!decide (c∈M.tg))=true then some (D.str (S [c])) else none) sig (afw (avi (PN.a4h _)) (aqv sig _)) (jx (by rw [a5j];omega)) λc _=>?_) (by rw [a7p];exact ai7 _ _) (one P4)
   rw [amd,aaz,aeq,h0];have q:K70.a4d dw bu K69.gw ik PN.bx PN.ie K70.cj (K69.bw 4) PN.cu PN.dh PN.g8 PN.ak di [some (.str (S [c])),some (.str (S M.tg))] [o4] = .ok (!decide (c∈M.tg)) [o4]:=tof (gj (bf rfl) (bf rfl) (K21.ar6 c M.tg _));show (K70.a4d dw bu K69.gw ik PN.bx PN.ie K70.cj (K69.bw 4) PN.cu PN.dh PN.g8 PN.ak di [some (.str (S [c])),some (.str (S M.tg))] [o4]).bind _=_;rw [q,gq]
   by_cases hc:c∈M.tg
   ·simp [hc]
   ·simp only [hc,decide_false,Bool.not_false,if_true];rfl
  refine Eq.trans (congrArg toR (jk (cf _ rfl))) ?_;have lm:∀ hh:Hd,xx [.tup (M.ms.map uc)] hh = .ok (bz M.ms.length) hh:=λhh=>by rw [a2z,List.length_map]
  refine Eq.trans (congrArg toR (a3e (a0p (n:=M.ms.length) (w6 (gj (bf rfl) (gf _ _ _) (ac1 _)) (lm _)) (jx (by omega))))) ?_
  refine Eq.trans (congrArg (λz=>toR (MI.thn z _)) e) ?_;rw [xf];exact congrArg toR (qd (gf _ _ _))
 ·rintro pre x post τ hh all ⟨u,g,i,a,b,c,d,e',f,k,rfl,rfl,Pu,cg⟩
  obtain ⟨rfl,hx⟩:=a02 all;obtain ⟨u',g',a',b',c',d',e2,f',k',q1,q2,q3⟩:=arz (sc:=sc) (pl:=.int y) (a0:=a) (b0:=b) (c0:=c) (d0:=d) (e0:=e') (f0:=f) (j0:=k) hM Pu (by omega) cg hx
  exact ⟨_,_,rfl,_,_,q3,u',g',_,_,_,_,_,_,_,_,rfl,rfl,q1.up (by rw [List.length_append,List.length_singleton];omega),q2⟩
end K70
namespace L2
open PySem PySem.Spec PySem.W PyProof.Rows
theorem ana{K:Frag}{C:Addr}(q:excIn K C [.type "ValueError", .type "Exception", .type "BaseException", .type "object"] "ValueError.__new__" = true):XCls K C:=by
 unfold excIn at q
 split at q
 ·rename_i dd cd sl lo
  split at q
  ·rename_i C' bm k0 k1 k2 k3 n k5 mo ss;simp only [Bool.and_eq_true,beq_iff_eq,Bool.not_eq_true'] at q;obtain ⟨⟨⟨⟨⟨e1,e2⟩,nd⟩,tl⟩,no⟩,ni⟩:=q;subst e1 e2;cases cd
   dsimp only at mo nd no ni;subst mo nd;obtain ⟨l⟩:=sl;simp only at ss;subst ss;exact ⟨_,_,_,_,bm,_,_,_,_,_,dd,k0,k1,k2,k3,k5,lo,no,ni,tl⟩
  ·cases q
 ·cases q
end L2
namespace K70
open PySem PySem.Spec L2 MI
section
variable{P:Program}{w:World}{K:PySem.W.Frag}{mg:Str->Option Value}{base:Heap}{f:Addr}{fd:FuncData}
theorem as4{f_21:Addr}{e_21:FuncData}(Fu_21:Fun K "_law_same" "_law_same" (top 38) f_21 e_21)(mk_21:mg "_law_same" = some (.ref f_21))(kp_21:PySem.W.keepIn K (.ref f_21)=true)(bd_21:Binds K e_21 ["_law_found", "_law_due_here"] [])(M:Nm mg):∀ n:Nat,Dn P w K mg base (n+0) "_law_same" ["_law_found", "_law_due_here"] (uo K 2 (K69.bw n)) f_21 e_21:=by
 intro n
 induction n with
 | zero=>exact ⟨atw (ps:=["_law_found", "_law_due_here"]),mk_21,kp_21,bd_21⟩
 | succ n ih =>
  have e:n+1+0=n+0+1:=by omega
  rw [e];have s_law_same:=ih;exact ⟨qg Fu_21 aqe (aww M s_law_same (by omega)),mk_21,kp_21,bd_21⟩
end
def aiw(K:PySem.W.Frag):Sp:=λvs H Q _=>∃ (a:Addr) (ns:List Int),vs=[.ref a]/\SqF K H a (ns.map V.int)/\ns.length<=63/\∀ H',Q (.bl true) H'
theorem a8y{K:PySem.W.Frag}{ι:List Addr}{H:Hp}:∀ ns:List Int,Reps K ι H (ns.map V.int) (ns.map D.int)
 | []=>.nil
 | n::ns=>.cons (.int n) (a8y ns)
theorem as5{K:PySem.W.Frag}(vs:List V)(H:Hp)(Q:VK)(E:XK)(h:aiw K vs H Q E):uo K 1 K70.aiu vs H Q E:=by
 obtain ⟨a,ns,rfl,hS,hl,q⟩:=h;obtain ⟨h',e⟩:=K70.as3 ns;refine ⟨rfl,[],[.scr (ns.map D.int)],[], .cons (.scr hS (a8y ns)) .nil,⟨List.nodup_nil,rfl,λi a o z=>by simp at z⟩,?_⟩
 rw [e]
 intro ι' H' b g r hr
 cases r
 exact q H'
theorem as6{K:PySem.W.Frag}{H:Hp}{a:Addr}{vs:List V}(hO:Only H)(hS:SqL K H a vs):SqF K H a vs:=by
 rcases hS with r | r
 ·rcases r with r | ⟨o,r⟩
  ·rcases hO a with z | ⟨o,xs,z⟩<;>rw [z] at r<;>cases r
  ·exact .inl ⟨o,r⟩
 ·exact .inr (.inr r)
abbrev fo(x:Str)(t:Stmt)(kV dc pm:Value)(an:Option Addr)(cd ct:Value):=PySem.W.fnOf x x (a2q t) (jc t) (az t) .none kV dc pm an cd ct
def Df(K:PySem.W.Frag)(f:Addr)(nm:Str)(i:Nat):Prop:=∃ oc od kV dc pm an cd ct sl,PySem.W.nsIn K mainGlobals nm=some (some (.ref f))/\K.lookup f=some ⟨oc,od, .func (fo nm (top i) kV dc pm an cd ct),sl⟩/\PySem.W.codeIn K cd nm=true/\PySem.W.keepIn K (.ref f)=true
theorem df{K:PySem.W.Frag}{f:Addr}{nm:Str}{i:Nat}(d:Df K f nm i):∃ e,PySem.W.nsIn K mainGlobals nm=some (some (.ref f))/\Fun K nm nm (top i) f e:=by
 obtain ⟨_,_,_,_,_,_,_,_,_,a,l,c,k⟩:=d;exact ⟨_,a,aoq l c k⟩
theorem as7{l:PySem.W.OpenLaw}{w:World}{K:PySem.W.Frag}{h:Heap}{mg:Str->Option Value}{fa f1 f2 f3 f4 f5 f6 f7 f8 f9 f10 f11 f12 f13 f14 f15 f16 f17 f18 f19 f20 f21 f22 f23 f24 f25 f26 f27:Addr}(X:K.In h)(G:h.Ns mainGlobals mg)(hfa:mg "law" = some (.ref fa))
  (d1:Df K f1 "is_text" 12)
  (d2:Df K f2 "looked_text" 14)
  (d3:Df K f3 "rooms_along" 15)
  (d4:Df K f4 "piece_at" 17)
  (d5:Df K f5 "mode_tables" 19)
  (d6:Df K f6 "deed_of" 20)
  (d7:Df K f7 "pile_behind" 21)
  (d8:Df K f8 "moded_cut" 23)
  (d9:Df K f9 "partners" 24)
  (d10:Df K f10 "_law_pen" 26)
  (d11:Df K f11 "_law_take" 27)
  (d12:Df K f12 "_law_signs" 28)
  (d13:Df K f13 "_law_some" 29)
  (d14:Df K f14 "_law_cut_down" 30)
  (d15:Df K f15 "_law_table" 31)
  (d16:Df K f16 "_law_deeds" 32)
  (d17:Df K f17 "_law_machine" 33)
  (d18:Df K f18 "_law_first" 34)
  (d19:Df K f19 "_law_later" 35)
  (d20:Df K f20 "_law_cut" 36)
  (d21:Df K f21 "_law_signed" 37)
  (d22:Df K f22 "_law_same" 38)
  (d23:Df K f23 "_law_refused" 39)
  (d24:Df K f24 "_law_brackets" 40)
  (d25:Df K f25 "_law_due" 41)
  (d26:Df K f26 "_law_apart" 42)
  (d27:Df K f27 "law" 43)
  {y_NoText y_ReachError y_Closed y_NoBook y_NoModes y_NoPlace y_NoTable y_Stopped y_TooMany y_Unlike:Addr}
  (xg_NoText:PySem.W.nsIn K mainGlobals "NoText" = some (some (.ref y_NoText)))
  (xg_ReachError:PySem.W.nsIn K mainGlobals "ReachError" = some (some (.ref y_ReachError)))
  (xg_Closed:PySem.W.nsIn K mainGlobals "Closed" = some (some (.ref y_Closed)))
  (xg_NoBook:PySem.W.nsIn K mainGlobals "NoBook" = some (some (.ref y_NoBook)))
  (xg_NoModes:PySem.W.nsIn K mainGlobals "NoModes" = some (some (.ref y_NoModes)))
  (xg_NoPlace:PySem.W.nsIn K mainGlobals "NoPlace" = some (some (.ref y_NoPlace)))
  (xg_NoTable:PySem.W.nsIn K mainGlobals "NoTable" = some (some (.ref y_NoTable)))
  (xg_Stopped:PySem.W.nsIn K mainGlobals "Stopped" = some (some (.ref y_Stopped)))
  (xg_TooMany:PySem.W.nsIn K mainGlobals "TooMany" = some (some (.ref y_TooMany)))
  (xg_Unlike:PySem.W.nsIn K mainGlobals "Unlike" = some (some (.ref y_Unlike)))
  (xc_NoText:XCls K y_NoText)
  (xk_NoText:XKit K y_NoText)
  (xe_NoText_ReachError:PySem.W.exmOne K (.ref y_NoText) (.ref y_ReachError)=some true)
  (xi_NoText_ValueError:PySem.W.kitOne K (.ref y_NoText) (.type "ValueError")=some true)
  (xi_NoText_NoText:PySem.W.kitOne K (.ref y_NoText) (.ref y_NoText)=some true)
  (xi_NoText_Closed_NoBook_NoModes_NoPlace_NoTable_Stopped_TooMany_Unlike:PySem.W.kitAny K (.ref y_NoText) [.ref y_Closed, .ref y_NoBook, .ref y_NoModes, .ref y_NoPlace, .ref y_NoTable, .ref y_Stopped, .ref y_TooMany, .ref y_Unlike]=some false)
  (z1:PySem.W.nsIn K mainGlobals "ValueError" = some none) (z2:PySem.W.nsIn K mainGlobals "abs" = some none) (z3:PySem.W.nsIn K mainGlobals "all" = some none) (z4:PySem.W.nsIn K mainGlobals "bool" = some none) (z5:PySem.W.nsIn K mainGlobals "enumerate" = some none) (z6:PySem.W.nsIn K mainGlobals "int" = some none) (z7:PySem.W.nsIn K mainGlobals "isinstance" = some none) (z8:PySem.W.nsIn K mainGlobals "len" = some none) (z9:PySem.W.nsIn K mainGlobals "list" = some none) (z10:PySem.W.nsIn K mainGlobals "max" = some none) (z11:PySem.W.nsIn K mainGlobals "min" = some none) (z12:PySem.W.nsIn K mainGlobals "range" = some none) (z13:PySem.W.nsIn K mainGlobals "str" = some none) (z14:PySem.W.nsIn K mainGlobals "tuple" = some none) (z15:PySem.W.nsIn K mainGlobals "zip" = some none)  :
  ∃ fd:FuncData,(∀ (s:Shared) (v:Value),BindsTo s fd ⟨[v],[]⟩ [("_law_script",v)])/\∀ base:Heap,K.In base->base.Ns mainGlobals mg->FnOk l.prog w K mg base CX0 6 fa fd ["_law_script"] (aiw K):=by
 obtain ⟨_,a1,F1⟩:=df d1;have b1:=F1.binds (ps:=["tongue", "thing"]) λ_ _ _ _ _ _ us hl=>match us,hl with | [_,_],_=>rfl
 obtain ⟨_,a2,F2⟩:=df d2;have b2:=F2.binds (ps:=["tongue", "thing"]) λ_ _ _ _ _ _ us hl=>match us,hl with | [_,_],_=>rfl
 obtain ⟨_,a3,F3⟩:=df d3;have b3:=F3.binds (ps:=["table", "room", "word"]) λ_ _ _ _ _ _ us hl=>match us,hl with | [_,_,_],_=>rfl
 obtain ⟨_,a4,F4⟩:=df d4;have b4:=F4.binds (ps:=["table", "text", "at"]) λ_ _ _ _ _ _ us hl=>match us,hl with | [_,_,_],_=>rfl
 obtain ⟨_,a5,F5⟩:=df d5;have b5:=F5.binds (ps:=["machine"]) λ_ _ _ _ _ _ us hl=>match us,hl with | [_],_=>rfl
 obtain ⟨_,a6,F6⟩:=df d6;have b6:=F6.binds (ps:=["machine", "mode", "kind"]) λ_ _ _ _ _ _ us hl=>match us,hl with | [_,_,_],_=>rfl
 obtain ⟨_,a7,F7⟩:=df d7;have b7:=F7.binds (ps:=["pile", "deed"]) λ_ _ _ _ _ _ us hl=>match us,hl with | [_,_],_=>rfl
 obtain ⟨_,a8,F8⟩:=df d8;have b8:=F8.binds (ps:=["machine", "start", "text"]) λ_ _ _ _ _ _ us hl=>match us,hl with | [_,_,_],_=>rfl
 obtain ⟨_,a9,F9⟩:=df d9;have b9:=F9.binds (ps:=["machine", "start", "text"]) λ_ _ _ _ _ _ us hl=>match us,hl with | [_,_,_],_=>rfl
 obtain ⟨_,a10,F10⟩:=df d10;have b10:=F10.binds (ps:=["_law_script"]) λ_ _ _ _ _ _ us hl=>match us,hl with | [_],_=>rfl
 obtain ⟨_,a11,F11⟩:=df d11;have b11:=F11.binds (ps:=["_law_pen_here", "_law_many"]) λ_ _ _ _ _ _ us hl=>match us,hl with | [_,_],_=>rfl
 obtain ⟨_,a12,F12⟩:=df d12;have b12:=F12.binds (ps:=[]) λ_ _ _ _ _ _ us hl=>match us,hl with | [],_=>rfl
 obtain ⟨_,a13,F13⟩:=df d13;have b13:=F13.binds (ps:=["_law_pen_here", "_law_rest", "_law_most"]) λ_ _ _ _ _ _ us hl=>match us,hl with | [_,_,_],_=>rfl
 obtain ⟨_,a14,F14⟩:=df d14;have b14:=F14.binds (ps:=["_law_tongue", "_law_goes", "_law_kinds", "_law_turn"]) λ_ _ _ _ _ _ us hl=>match us,hl with | [_,_,_,_],_=>rfl
 obtain ⟨_,a15,F15⟩:=df d15;have b15:=F15.binds (ps:=["_law_pen_here", "_law_tongue", "_law_most"]) λ_ _ _ _ _ _ us hl=>match us,hl with | [_,_,_],_=>rfl
 obtain ⟨_,a16,F16⟩:=df d16;have b16:=F16.binds (ps:=["_law_pen_here", "_law_size", "_law_many"]) λ_ _ _ _ _ _ us hl=>match us,hl with | [_,_,_],_=>rfl
 obtain ⟨_,a17,F17⟩:=df d17;have b17:=F17.binds (ps:=["_law_pen_here", "_law_tongue", "_law_most"]) λ_ _ _ _ _ _ us hl=>match us,hl with | [_,_,_],_=>rfl
 obtain ⟨_,a18,F18⟩:=df d18;have b18:=F18.binds (ps:=["_law_machine_here", "_law_mode", "_law_text", "_law_start"]) λ_ _ _ _ _ _ us hl=>match us,hl with | [_,_,_,_],_=>rfl
 obtain ⟨_,a19,F19⟩:=df d19;have b19:=F19.binds (ps:=["_law_modes", "_law_deed"]) λ_ _ _ _ _ _ us hl=>match us,hl with | [_,_],_=>rfl
 obtain ⟨_,a20,F20⟩:=df d20;have b20:=F20.binds (ps:=["_law_machine_here", "_law_start", "_law_text"]) λ_ _ _ _ _ _ us hl=>match us,hl with | [_,_,_],_=>rfl
 obtain ⟨_,a21,F21⟩:=df d21;have b21:=F21.binds (ps:=["_law_pen_here", "_law_tongue"]) λ_ _ _ _ _ _ us hl=>match us,hl with | [_,_],_=>rfl
 obtain ⟨_,a22,F22⟩:=df d22;have b22:=F22.binds (ps:=["_law_found", "_law_due_here"]) λ_ _ _ _ _ _ us hl=>match us,hl with | [_,_],_=>rfl
 obtain ⟨_,a23,F23⟩:=df d23;have b23:=F23.binds (ps:=["_law_machine_here", "_law_start", "_law_thing"]) λ_ _ _ _ _ _ us hl=>match us,hl with | [_,_,_],_=>rfl
 obtain ⟨_,a24,F24⟩:=df d24;have b24:=F24.binds (ps:=["_law_pen_here", "_law_tongue"]) λ_ _ _ _ _ _ us hl=>match us,hl with | [_,_],_=>rfl
 obtain ⟨_,a25,F25⟩:=df d25;have b25:=F25.binds (ps:=["_law_machine_here", "_law_pieces"]) λ_ _ _ _ _ _ us hl=>match us,hl with | [_,_],_=>rfl
 obtain ⟨_,a26,F26⟩:=df d26;have b26:=F26.binds (ps:=["_law_one", "_law_other"]) λ_ _ _ _ _ _ us hl=>match us,hl with | [_,_],_=>rfl
 obtain ⟨_,a27,F27⟩:=df d27;have e:=hfa.symm.trans (PySem.W.mg_of X G a27);cases e
 obtain ⟨oc,od,kV27,dc27,pm27,an27,cd27,ct27,sl,rfl,lk,hc⟩:=id F27.ex;have b27:=F27.binds (ps:=["_law_script"]) λ_ _ _ _ _ _ us hl=>match us,hl with | [_],_=>rfl
 have M:Nm mg:=⟨PySem.W.mg_none_of X G z1,PySem.W.mg_none_of X G z2,PySem.W.mg_none_of X G z3,PySem.W.mg_none_of X G z4,PySem.W.mg_none_of X G z5,PySem.W.mg_none_of X G z6,PySem.W.mg_none_of X G z7,PySem.W.mg_none_of X G z8,PySem.W.mg_none_of X G z9,PySem.W.mg_none_of X G z10,PySem.W.mg_none_of X G z11,PySem.W.mg_none_of X G z12,PySem.W.mg_none_of X G z13,PySem.W.mg_none_of X G z14,PySem.W.mg_none_of X G z15⟩;have Z:Xn K mg y_NoText y_ReachError y_Closed y_NoBook y_NoModes y_NoPlace y_NoTable y_Stopped y_TooMany y_Unlike:=⟨PySem.W.mg_of X G xg_NoText,PySem.W.mg_of X G xg_ReachError,PySem.W.mg_of X G xg_Closed,PySem.W.mg_of X G xg_NoBook,PySem.W.mg_of X G xg_NoModes,PySem.W.mg_of X G xg_NoPlace,PySem.W.mg_of X G xg_NoTable,PySem.W.mg_of X G xg_Stopped,PySem.W.mg_of X G xg_TooMany,PySem.W.mg_of X G xg_Unlike,xg_NoText,xc_NoText,xk_NoText,xe_NoText_ReachError,xi_NoText_ValueError,xi_NoText_NoText,xi_NoText_Closed_NoBook_NoModes_NoPlace_NoTable_Stopped_TooMany_Unlike⟩
 refine ⟨PySem.W.fnOf "law" "law" (a2q (top 43)) (jc (top 43)) (az (top 43)) .none kV27 dc27 pm27 an27 cd27 ct27,λs v=>.of_eq rfl,λbase _ _=>?_⟩;have D_0:Dn l.prog w K mg base 1 "is_text" ["tongue", "thing"] (uo K 2 (K69.my)) _ _:=⟨qg F1 av6 (m_0 M),PySem.W.mg_of X G a1,F1.kp,b1⟩;have D_1:DnX l.prog w K mg base 2 "looked_text" ["tongue", "thing"] (spX K mg 2 (K69.ig)) _ _:=⟨a9j F2 av7 (m_1 Z D_0 (by decide)),PySem.W.mg_of X G a2,F2.kp,b2⟩
 have D_2:Dn l.prog w K mg base 1 "rooms_along" ["table", "room", "word"] (uo K 3 (K69.iu)) _ _:=⟨qg F3 av8 (m_2 ),PySem.W.mg_of X G a3,F3.kp,b3⟩;have D_3:Dn l.prog w K mg base 2 "piece_at" ["table", "text", "at"] (uo K 3 (K69.ju)) _ _:=⟨qg F4 av9 (m_3 M D_2 (by decide)),PySem.W.mg_of X G a4,F4.kp,b4⟩
 have D_4:Dn l.prog w K mg base 1 "mode_tables" ["machine"] (uo K 1 (K69.jd)) _ _:=⟨qg F5 ava (m_4 ),PySem.W.mg_of X G a5,F5.kp,b5⟩;have D_5:Dn l.prog w K mg base 1 "deed_of" ["machine", "mode", "kind"] (uo K 3 (K69.jf)) _ _:=⟨qg F6 avb (m_5 ),PySem.W.mg_of X G a6,F6.kp,b6⟩;have D_6:Dn l.prog w K mg base 1 "pile_behind" ["pile", "deed"] (uo K 2 (K69.j8)) _ _:=⟨qg F7 avc (m_6 M),PySem.W.mg_of X G a7,F7.kp,b7⟩;have D_7:DnX l.prog w K mg base 3 "moded_cut" ["machine", "start", "text"] (spX K mg 3 (K69.jo)) _ _:=⟨a9j F8 avd (m_7 M D_5 (by decide) D_1 (by decide) D_4 (by decide) D_3 (by decide) D_6 (by decide)),PySem.W.mg_of X G a8,F8.kp,b8⟩
 have D_8:DnX l.prog w K mg base 4 "partners" ["machine", "start", "text"] (spX K mg 3 (K70.di)) _ _:=⟨a9j F9 ave (m_8 M D_5 (by decide) D_7 (by decide)),PySem.W.mg_of X G a9,F9.kp,b9⟩
 have D_9:Dn l.prog w K mg base 1 "_law_pen" ["_law_script"] (uo K 1 (PN.ie)) _ _:=⟨qg F10 avf (m_9 ),PySem.W.mg_of X G a10,F10.kp,b10⟩;have D_10:Dn l.prog w K mg base 1 "_law_take" ["_law_pen_here", "_law_many"] (uo K 2 (PN.ak)) _ _:=⟨qg F11 aq3 (awl M),PySem.W.mg_of X G a11,F11.kp,b11⟩;have D_11:Dn l.prog w K mg base 1 "_law_signs" [] (uo K 0 (PN.dh)) _ _:=⟨qg F12 aq4 (awm ),PySem.W.mg_of X G a12,F12.kp,b12⟩;have D_12:Dn l.prog w K mg base 2 "_law_some" ["_law_pen_here", "_law_rest", "_law_most"] (uo K 3 (PN.g8)) _ _:=⟨qg F13 aq5 (awn M D_10 (by decide)),PySem.W.mg_of X G a13,F13.kp,b13⟩
 have D_13:Dn l.prog w K mg base 1 "_law_cut_down" ["_law_tongue", "_law_goes", "_law_kinds", "_law_turn"] (uo K 4 (PN.j4)) _ _:=⟨qg F14 aq6 (awo M),PySem.W.mg_of X G a14,F14.kp,b14⟩;have D_14:Dn l.prog w K mg base 2 "_law_table" ["_law_pen_here", "_law_tongue", "_law_most"] (uo K 3 (PN.n6)) _ _:=⟨qg F15 aq7 (awp M D_13 (by decide) D_10 (by decide)),PySem.W.mg_of X G a15,F15.kp,b15⟩
 have D_15:Dn l.prog w K mg base 2 "_law_deeds" ["_law_pen_here", "_law_size", "_law_many"] (uo K 3 (PN.n8)) _ _:=⟨qg F16 aq8 (awq M D_10 (by decide)),PySem.W.mg_of X G a16,F16.kp,b16⟩
 have D_16:Dn l.prog w K mg base 3 "_law_machine" ["_law_pen_here", "_law_tongue", "_law_most"] (uo K 3 (PN.bx)) _ _:=⟨qg F17 aq9 (awr M D_15 (by decide) D_14 (by decide) D_10 (by decide)),PySem.W.mg_of X G a17,F17.kp,b17⟩
 have D_17:Dn l.prog w K mg base 1 "_law_first" ["_law_machine_here", "_law_mode", "_law_text", "_law_start"] (uo K 4 (K69.jz)) _ _:=⟨qg F18 aqa (aws M),PySem.W.mg_of X G a18,F18.kp,b18⟩;have D_18:Dn l.prog w K mg base 1 "_law_later" ["_law_modes", "_law_deed"] (uo K 2 (K69.kh)) _ _:=⟨qg F19 aqb (awt ),PySem.W.mg_of X G a19,F19.kp,b19⟩;have D_19:Dn l.prog w K mg base 2 "_law_cut" ["_law_machine_here", "_law_start", "_law_text"] (uo K 3 (K69.gw)) _ _:=⟨qg F20 aqc (awu M D_17 (by decide) D_18 (by decide)),PySem.W.mg_of X G a20,F20.kp,b20⟩
 have D_20:Dn l.prog w K mg base 2 "_law_signed" ["_law_pen_here", "_law_tongue"] (uo K 2 (PN.cu)) _ _:=⟨qg F21 aqd (awv M D_10 (by decide)),PySem.W.mg_of X G a21,F21.kp,b21⟩
 have D_21:=as4 (P:=l.prog) (w:=w) (base:=base) F22 (PySem.W.mg_of X G a22) F22.kp b22 M 4;have D_22:Dn l.prog w K mg base 5 "_law_refused" ["_law_machine_here", "_law_start", "_law_thing"] (uo K 3 (K70.cj)) _ _:=⟨qg F23 aqf (awx M Z D_8 (by decide)),PySem.W.mg_of X G a23,F23.kp,b23⟩
 have D_23:Dn l.prog w K mg base 2 "_law_brackets" ["_law_pen_here", "_law_tongue"] (uo K 2 (K70.bu)) _ _:=⟨qg F24 aqg (awy M D_10 (by decide)),PySem.W.mg_of X G a24,F24.kp,b24⟩
 have D_24:Dn l.prog w K mg base 1 "_law_due" ["_law_machine_here", "_law_pieces"] (uo K 2 (K70.ik)) _ _:=⟨qg F25 aqh (awz M),PySem.W.mg_of X G a25,F25.kp,b25⟩;have D_25:Dn l.prog w K mg base 1 "_law_apart" ["_law_one", "_law_other"] (uo K 2 (K70.dw)) _ _:=⟨qg F26 aqi (ax0 ),PySem.W.mg_of X G a26,F26.kp,b26⟩;have D_26:Dn l.prog w K mg base 6 "law" ["_law_script"] (uo K 1 (K70.aiu)) _ _:=⟨qg F27 aqj (ax1 M D_25 (by decide) D_23 (by decide) D_19 (by decide) D_24 (by decide) D_16 (by decide) D_9 (by decide) D_22 (by decide) D_21 (by decide) D_20 (by decide) D_11 (by decide) D_12 (by decide) D_10 (by decide) D_8 (by decide)),PySem.W.mg_of X G a27,F27.kp,b27⟩
 exact D_26.ok.imp as5
theorem walk{l:PySem.W.OpenLaw}{q:Program}{loose:List Str}{XP:(Str->Option Value)->Heap->Prop}{YP:World->Heap->Prop}{d:DefRec}{K:Params->PySem.W.Frag}(hn:l.most=some 63)(hdf:d.params.defaults=[])
  (hY:∀ (w:World) (h:Heap),YP w h->(K w.params).In h)
  (F:∀ (w:World) (mg:Str->Option Value) (fa:Addr) (h:Heap),(K w.params).In h->h.Ns mainGlobals mg->mg d.name=some (.ref fa)->
   ∃ fd:FuncData,(∀ (s:Shared) (u:Value),BindsTo s fd ⟨[u],[]⟩ [("_law_script",u)])/\∀ base:Heap,(K w.params).In base->base.Ns mainGlobals mg->FnOk l.prog w (K w.params) mg base CX0 6 fa fd ["_law_script"] (aiw (K w.params))) :
  PySem.W.WalkO q loose XP YP l.row.toRowW d [] (λf vs=>PySem.call f vs) :=
 L2.akr (n:=63) (k:=6) (x := "_law_script") (CX:=λ_=>CX0) (sp:=λw=>aiw (K w.params)) hn (by decide) hdf ⟨rfl,by decide,by decide,rfl⟩ hY F (λ_ _ a ns hl hO hS=>⟨a,ns,rfl,as6 hO hS,hl,λ_=>rfl⟩) λ_ _ _ _ _ z=>z
end K70
open PySem PySem.W PyProof.Rows
local macro_rules | `(tactic| o_head $H) => `(tactic| refine PySem.W.holds_open (q:=K70.hq) (loose:=K70.hl) (Xt:=fun _=>true) (XP:=fun _ _=>True) (Yf:=Hook.obs $H) (Ya:=Hook.val $H) (YP:=Hook.says $H) (N:=20000) ?hl (Hook.of $H) (Hook.keeps $H) (fun _ _=>trivial) (fun _ _ _ _ _=>trivial) (by rfl) (by rfl) (by rfl) (fun _ _=>recFacts_nil rfl) (by rfl) (by assumption) (by decide +kernel) ⟨rfl,rfl,rfl,rfl,rfl,by decide +kernel⟩ ?hw ?hc)
set_option maxRecDepth 100000 in
set_option maxHeartbeats 0 in
theorem PySem.Challenge.cw_nearreach_k70_partners_holds : PySem.Challenge.rw_nearreach_k70_partners.Holds := by
 w_on;refine holds_law K70.said fun said=>?_;o_head (kHook K70.A.heap_1 [2,3,15,22,23,24,25,28,35,36,37,40,47,48,49,52,59,60,61,64,71,72,73,76,83,84,85,88,95,96,97,100,107,108,109,112,119,120,121,124,131,132,133,136,139,140,141,143,144,146,147,148,150,151,153,154,155,157,158,160,161,162,165,166,167,169,170,172,173,174,176,177,179,180,181,183,184,186,187,188,190,191,193,194,195,197,198,200,201,202,204,205,207,208,209,211,212,214,215,216,218,219,221,222,223,226,227,228,231,232,233,235,236,238,239,240,242,243,245,246,247,249,250,252,253,254,256,257,259,260,261,263,264,266,267,268,271,272,273,275,276,278,279,280,282,283,285,286,287,290,291,292,294,295,297,298,299,301,302,304,305,306,309,310] (fun _=>by kernel_rfl))
 (case hw=>w_witness2)
 (case hl=>exact K70.hlok)
 k_fill
 refine K70.walk (l:=PySem.Challenge.rw_nearreach_k70_partners) rfl rfl (fun w h Y=>PySem.W.kIn_of Y) ?F
 case F =>
  intro w mg fa h KX G hmg
  refine' K70.as7 KX G hmg ?_ ?_ ?_ ?_ ?_ ?_ ?_ ?_ ?_ ?_ ?_ ?_ ?_ ?_ ?_ ?_ ?_ ?_ ?_ ?_ ?_ ?_ ?_ ?_ ?_ ?_ ?_ ?xg_NoText ?xg_ReachError ?xg_Closed ?xg_NoBook ?xg_NoModes ?xg_NoPlace ?xg_NoTable ?xg_Stopped ?xg_TooMany ?xg_Unlike ?xc_NoText ?xk_NoText ?xe_NoText_ReachError ?xi_NoText_ValueError ?xi_NoText_NoText ?xi_NoText_Closed_NoBook_NoModes_NoPlace_NoTable_Stopped_TooMany_Unlike ?_ ?_ ?_ ?_ ?_ ?_ ?_ ?_ ?_ ?_ ?_ ?_ ?_ ?_ ?_
  all_goals first | k_is | exact ⟨_,_,_,_,_,_,_,_,_,by k_is,by k_is,by k_is,by k_is⟩ | skip
  (case xc_NoText=>exact L2.ana (by kernel_rfl))
  (case xk_NoText=>constructor<;>first | k_is | kernel_rfl)
  (case xe_NoText_ReachError=>kernel_rfl)
  (case xi_NoText_ValueError=>kernel_rfl)
  (case xi_NoText_NoText=>kernel_rfl)
  (case xi_NoText_Closed_NoBook_NoModes_NoPlace_NoTable_Stopped_TooMany_Unlike=>kernel_rfl)
