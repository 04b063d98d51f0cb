import PyProof.Rows.All
import Wide.All
import OpenK.AllK
import Wide.FinOn
import Lean
import PyProof.EqAt
import PyProof.EqKinds
import PyProof.TupleCall
import PyProof.ListStr
import PyProof.TupleOfStr
import PyProof.ConsumeWalk
import PyProof.SliceStr2
import PyProof.CompUse
import PyProof.Rows.SetFrom
import PyProof.SetRoads
import PyProof.StrLawsIn
import PyProof.Rows.StrIndexOr
import PyProof.Rows.StrJoin2
import PyProof.Rows.SumAny
import PyProof.WalkInts
import PyProof.SeqI3
import PyProof.Draws
import PyProof.ZipIter
import PyProof.EnumMake
import Wide.Txt2
import PyProof.Rows.SortWalk
import PyProof.ListRange
import PyProof.Rows.Range3
import KE.KStateDown
import PyProof.ReprRoads
import PyProof.CallFns
import PyProof.WalksMore
import KE.KTryDeep
import PyProof.ExcBaseAll.ValueError
import KE.KTryMore
import KE.KIsNot
import PyProof.ExcAttrAll.ValueError
import PyProof.NsDelKeeps
import KE.IntBitsLaws
import PySem.Challenge.RW_nearreach_k03_numbers_of_words
set_option Elab.async false
set_option linter.all false
set_option maxRecDepth 100000
set_option maxHeartbeats 4000000
section
open PySem PySem.W PyProof.Rows
theorem K03.said:PySem.Challenge.rw_nearreach_k03_numbers_of_words.wellSaid=true:=by kernel_rfl
noncomputable def K03.hq:Program:=view PySem.Challenge.pw_nearreach_k03_numbers_of_words [PySem.Challenge.pw_nearreach_k03_numbers_of_words.main.body.length - 1]
noncomputable def K03.hl:List Str:=PySem.Challenge.pw_nearreach_k03_numbers_of_words.boundNames
local macro_rules | `(tactic| o_head $H) => `(tactic| refine PySem.W.holds_open (q:=K03.hq) (loose:=K03.hl) (Xt:=fun _=>true) (XP:=fun _ _=>True) (Yf:=Hook.obs $H) (Ya:=Hook.val $H) (YP:=Hook.says $H) (N:=20000) ?hl (Hook.of $H) (Hook.keeps $H) (fun _ _=>trivial) (fun _ _ _ _ _=>trivial) (by rfl) (by rfl) (by rfl) (fun _ _=>recFacts_nil rfl) (by rfl) (by assumption) (by decide +kernel) ⟨rfl,rfl,rfl,rfl,rfl,by decide +kernel⟩ ?hw ?hc)
set_option maxRecDepth 100000 in
set_option maxHeartbeats 0 in
theorem K03.A (hyp:∀ p:Prop,p):PySem.Challenge.rw_nearreach_k03_numbers_of_words.Holds:=by
 w_on;refine holds_law K03.said fun said=>?_;k_head
 all_goals exact hyp _
set_option maxRecDepth 100000 in
set_option maxHeartbeats 0 in
theorem K03.hlok:LeftO PySem.Challenge.rw_nearreach_k03_numbers_of_words.row.prog K03.hq K03.hl (fun _=>true) (Hook.obs (kHook K03.A.heap_1 [2,3,15,22,23,24,25,28,35,36,37,40,47,48,49,52,59,60,61,64,71,72,73,76,83,84,85,88,95,96,97,100,107,108,109,112,119,120,121,124,131,132,133,136,143,144,145,148,155,156,157,160,167,168,169,172,179,180,181,184,191,193,194,196,197,198,199,200,203,205,206,208,209,210,212,213,215,216,217,219,220,222,223,224,226,227,229,230,231,233,234,236,237,238,240,241,243,244,245,247,248,250,251,252,255,256,257,259,260,262,263,264,266,267,269,270,271,273,274,276,277,278,280,281,283,284,285,287,288,290,291,292,294,295,297,298,299,301,302,304,305] (fun _=>by kernel_rfl))) (Hook.val (kHook K03.A.heap_1 [2,3,15,22,23,24,25,28,35,36,37,40,47,48,49,52,59,60,61,64,71,72,73,76,83,84,85,88,95,96,97,100,107,108,109,112,119,120,121,124,131,132,133,136,143,144,145,148,155,156,157,160,167,168,169,172,179,180,181,184,191,193,194,196,197,198,199,200,203,205,206,208,209,210,212,213,215,216,217,219,220,222,223,224,226,227,229,230,231,233,234,236,237,238,240,241,243,244,245,247,248,250,251,252,255,256,257,259,260,262,263,264,266,267,269,270,271,273,274,276,277,278,280,281,283,284,285,287,288,290,291,292,294,295,297,298,299,301,302,304,305] (fun _=>by kernel_rfl))) 20000:=by
 intro w
 kernel_rfl
end
namespace L2
open PySem PySem.Spec PyProof.Rows
abbrev Key:=Sum Int Str
def a5o:Key→Value→Bool
 | .inl k,v=>Value.isInt k v
 | .inr x,v=>Value.isStrOf x v
def ake (w:World):Key→Int
 | .inl k=>hashInt k
 | .inr x=>hashStr w x
theorem iu:∀ {k:Key} {v:Value},a5o k v=true→(∃ i t,k=Sum.inl i∧v=Value.int i t)∨(∃ x t,k=Sum.inr x∧v=Value.str x t)
 | .inl i,v,h=>by
  obtain ⟨t,e⟩:=Value.isInt_shape (k:=i) (v:=v) h
  exact .inl ⟨i,t,rfl,e⟩
 | .inr x,v,h=>by
  obtain ⟨t,e⟩:=Value.isStrOf_shape (x:=x) (v:=v) h
  exact .inr ⟨x,t,rfl,e⟩
theorem a6v (i:Int) (t:Tok):a5o (.inl i) (.int i t)=true:=by simp [a5o,Value.isInt]
theorem a6w (x:Str) (t:Tok):a5o (.inr x) (.str x t)=true:=by simp [a5o,Value.isStrOf]
theorem aet (a b:Int):decide ((Sum.inl a:Key)=Sum.inl b)=(a == b):=by
 by_cases e:a=b
 ·subst e;simp
 ·have h:¬ (Sum.inl a:Key)=Sum.inl b:=fun q=>e (Sum.inl.inj q)
  rw [decide_eq_false h]
  exact (beq_eq_false_iff_ne.mpr e).symm
theorem aeu (a b:Str):decide ((Sum.inr a:Key)=Sum.inr b)=decide (a=b):=by
 by_cases e:a=b
 ·subst e;simp
 ·have h:¬ (Sum.inr a:Key)=Sum.inr b:=fun q=>e (Sum.inr.inj q)
  rw [decide_eq_false h,decide_eq_false e]
theorem aev (a:Int) (b:Str):decide ((Sum.inl a:Key)=Sum.inr b)=false:=decide_eq_false (fun q=>nomatch q)
theorem aew (a:Str) (b:Int):decide ((Sum.inr a:Key)=Sum.inl b)=false:=decide_eq_false (fun q=>nomatch q)
def nu (prog:Program) (w:World):PySem.KeyKind prog w Key where
 is:=a5o
 hash:=ake w
 inj:=fun v a b ha hb=>by
  rcases iu ha with ⟨i,t,rfl,rfl⟩ | ⟨x,t,rfl,rfl⟩
  ·rcases iu hb with ⟨j,u,rfl,e⟩ | ⟨y,u,rfl,e⟩
   ·injection e with e1 _;rw [e1]
   ·exact nomatch e
  ·rcases iu hb with ⟨j,u,rfl,e⟩ | ⟨y,u,rfl,e⟩
   ·exact nomatch e
   ·injection e with e1 _;rw [e1]
 byValue:=fun k v h=>by
  rcases iu h with ⟨i,t,rfl,rfl⟩ | ⟨x,t,rfl,rfl⟩<;>rfl
 pyHash:=fun hv h=>by
  rcases iu hv with ⟨i,t,rfl,rfl⟩ | ⟨x,t,rfl,rfl⟩
  ·exact wpAny_pyHash_int h
  ·exact wpAny_pyHash_str h
 eqBool:=fun hu hv h=>by
  rcases iu hu with ⟨i,t,rfl,rfl⟩ | ⟨x,t,rfl,rfl⟩
  ·rcases iu hv with ⟨j,u,rfl,rfl⟩ | ⟨y,u,rfl,rfl⟩
   ·rw [aet] at h;exact wpAny_eqBool_int h
   ·rw [aev] at h;exact SeqAt.EqAt.int_str i t y u _ _ _ _ h
  ·rcases iu hv with ⟨j,u,rfl,rfl⟩ | ⟨y,u,rfl,rfl⟩
   ·rw [aew] at h;exact SeqAt.EqAt.str_int x t j u _ _ _ _ h
   ·rw [aeu] at h;exact wpAny_eqBool_str h
 «strs»:=fun k x t v h=>by
  rcases iu h with ⟨i,u,rfl,e⟩ | ⟨y,u,rfl,e⟩
  ·exact nomatch e
  ·injection e with e1 _
   subst e1
   cases v<;>rfl
theorem a3f (prog:Program) (w:World) (i:Int) (t:Tok):(nu prog w).is (.inl i) (.int i t)=true:=a6v i t
theorem a3g (prog:Program) (w:World) (x:Str) (t:Tok):(nu prog w).is (.inr x) (.str x t)=true:=a6w x t
end L2
namespace L2
open PySem PySem.Spec PyProof.Rows
inductive V where
 | non | bl (b:Bool) | int (i:Int) | str (x:Str) | byt (b:Array UInt8) | flt (b:UInt64) | ref (a:Addr) | ty (n:String)
 deriving DecidableEq
def RelV:V→Value→Prop
 | .non,u=>u=Value.none
 | .bl b,u=>u=Value.bool b
 | .int i,u=>∃ t,u=Value.int i t
 | .str x,u=>∃ t,u=Value.str x t
 | .byt b,u=>∃ t,u=Value.bytes b t
 | .flt b,u=>∃ t,u=Value.float b t
 | .ref a,u=>u=Value.ref a
 | .ty n,u=>u=Value.type n
abbrev Vals:List V→List Value→Prop:=Paired RelV
theorem Vals.length {xs:List V} {us:List Value} (r:Vals xs us):xs.length=us.length:=Paired.length r
theorem Vals.get:∀ {xs:List V} {us:List Value} {i:Nat} {x:V},Vals xs us→xs[i]? = some x→∃ u,us[i]? = some u∧RelV x u
 | _,_,_,_, .nil,e=>by simp at e
 | _,_,0,_, .cons r _,e=>by simp at e;subst e;exact ⟨_,rfl,r⟩
 | _,_,i+1,x, .cons _ t,e=>by
  obtain ⟨u,h1,h2⟩:=Vals.get (i:=i) (x:=x) t (by simpa using e)
  exact ⟨u,by simpa using h1,h2⟩
theorem Vals.set {x:V} {u:Value} (r:RelV x u):∀ {xs:List V} {us:List Value} (i:Nat),Vals xs us→Vals (xs.set i x) (us.set i u)
 | _,_,_, .nil=>.nil
 | _,_,0, .cons _ t=>.cons r t
 | _,_,i+1, .cons q t=>.cons q (Vals.set r i t)
theorem Vals.append:∀ {xs ys:List V} {us ws:List Value},Vals xs us→Vals ys ws→Vals (xs++ys) (us++ws)
 | _,_,_,_, .nil,s=>s
 | _,_,_,_, .cons r t,s=>.cons r (Vals.append t s)
theorem Vals.take:∀ {xs:List V} {us:List Value} (n:Nat),Vals xs us→Vals (xs.take n) (us.take n)
 | _,_,0,_=>.nil
 | _,_,_+1, .nil=>.nil
 | _,_,n+1, .cons r t=>.cons r (Vals.take n t)
theorem Vals.drop:∀ {xs:List V} {us:List Value} (n:Nat),Vals xs us→Vals (xs.drop n) (us.drop n)
 | _,_,0,r=>r
 | _,_,_+1, .nil=>.nil
 | _,_,n+1, .cons _ t=>Vals.drop n t
def RelO:Option V→Option Value→Prop
 | some v,some u=>RelV v u
 | none,none=>True
 | _,_=>False
def KV {κ:Type}:List (κ × V)→List (κ × Value)→Prop:=Paired fun (p:κ × V) (q:κ × Value)=>p.1=q.1∧RelV p.2 q.2
def kV:Key→V
 | .inl i=>.int i
 | .inr x=>.str x
inductive HO where
 | lst (xs:List V)
 | tup (xs:List V)
 | dK (kvs:List (Key × V)) | dT (kvs:List (List Key × V))
 | set (S:Int→Bool) (n:Nat)
 | ins (C dx:Addr) (fs:List (Str × V))
 | own (x:Addr)
 | xd (fs:List (Str × V))
 | met (f x:Addr)
 | rng (lo hi:Int)
 | frz (o:Obj) (u:HO)
 | tbl (ps:Array Value)
 | ext (φ:Heap→Prop)
abbrev Hp:=Addr→Option HO
def upd (H:Hp) (a:Addr) (o:HO):Hp:=fun b=>if b=a then some o else H b
theorem jf {H:Hp} {a:Addr} {o:HO}:upd H a o a=some o:=by unfold upd;rw [if_pos rfl]
theorem dj {H:Hp} {a b:Addr} {o:HO} (h:b≠a):upd H a o b=H b:=by unfold upd;rw [if_neg h]
theorem di {H:Hp} {a b:Addr} {o:HO} (h:H a=some o) (h':H b=none):a≠b:=by
 intro e;subst e;rw [h] at h';cases h'
section
variable (P:Program) (w:World)
def ObjOk (H:Hp) (h:Heap) (a:Addr):HO→Prop
 | .lst xs=>xs.length≤sizeLine∧∃ (its:List Value) (n:Nat),Vals xs its∧h.get? a=some { cls:=.type "list",data:=.seq its.toArray n }
 | .tup xs=>xs.length≤sizeLine∧∃ its:List Value,Vals xs its∧IsTup h a its.toArray
 | .dK kvs=>kvs.length≤sizeLine∧(a == sysModules)=false∧∃ vs,KV kvs vs∧h.DictOf (nu P w) a vs
 | .dT kvs=>kvs.length≤sizeLine∧(a == sysModules)=false∧∃ xs:List (List Key × Addr × Value),
   Paired (fun (p:List Key × V) (q:List Key × Addr × Value)=>p.1=q.1∧H q.2.1=some (.tup (p.1.map kV))∧RelV p.2 q.2.2) kvs xs ∧
   ∃ o es ep,h.get? a=some o∧o.ExactDict∧o.data = .dict es ep∧es.toList=xs.map (entryOfKey (tupleKind (nu P w)))∧(xs.map (·.1)).Nodup
 | .set S n=>h.SetOf (intKind P w) a S n
 | .ins C dx fs=>H dx=some (.own a)∧fs.length≤1000∧dx≠a∧h.get? a=some (PySem.W.instObj C dx) ∧
   ∃ mA,h.Ns1 dx mA∧(∀ f,RelO (fs.lookup f) (mA f))∧PySem.Within mA (fs.map (·.1))
 | .own _=>∃ o,h.get? a=some o
 | .xd fs=>∃ mA,h.Ns1 a mA∧∀ f,RelO (fs.lookup f) (mA f)
 | .rng lo hi=>∃ t u v,h.get? a=some { cls:=.type "range",data:=.fields #[.int lo t, .int hi u, .int 1 v] }
 | .frz o u=>h.get? a=some o∧ObjOk H h a u
 | .tbl ps=>h.get? a=some { cls:=.none,data:=.fields ps }
 | .met f x=>h.get? a=some (PySem.W.methodObj (.ref f) (.ref x))
 | .ext φ=>φ h∧(∃ o,h.get? a=some o)∧∀ h1 h2:Heap,φ h1→(∀ o,h1.get? a=some o→h2.get? a=some o)→φ h2
def HOk (H:Hp) (h:Heap):Prop:=∀ a o,H a=some o→ObjOk P w H h a o
end
section
variable {P:Program} {w:World} {H H':Hp} {h h':Heap} {a:Addr} {o:HO}
theorem ObjOk.lt (x:ObjOk P w H h a o):a<h.objs.size:=by
 cases o with
 | lst xs=>obtain ⟨_,_,_,_,e⟩:=x;exact Heap.lt_size e
 | tup xs=>obtain ⟨_,_,_,p⟩:=x;exact p.lt
 | dK kvs=>obtain ⟨_,_,_,_,o,_,_,e,_⟩:=x;exact Heap.lt_size e
 | dT kvs=>obtain ⟨_,_,_,_,o,_,_,e,_⟩:=x;exact Heap.lt_size e
 | set S n=>obtain ⟨o,_,_,_,e,_⟩:=x;exact Heap.lt_size e
 | ins C dx fs=>obtain ⟨_,_,_,e,_⟩:=x;exact Heap.lt_size e
 | own y=>obtain ⟨_,e⟩:=x;exact Heap.lt_size e
 | xd fs=>obtain ⟨_,⟨_,_,_,e,_⟩,_⟩:=x;exact Heap.lt_size e
 | rng lo hi=>obtain ⟨_,_,_,e⟩:=x;exact Heap.lt_size e
 | frz ob u=>obtain ⟨e,_⟩:=x;exact Heap.lt_size e
 | tbl ps=>exact Heap.lt_size (show h.get? a=some _ from x)
 | met f y=>exact Heap.lt_size (show h.get? a=some _ from x)
 | ext φ=>obtain ⟨_,⟨_,e⟩,_⟩:=x;exact Heap.lt_size e
theorem Paired.mapP {α β:Type} {F G:α→β→Prop}:∀ {l₁:List α} {l₂:List β},Paired F l₁ l₂→(∀ a b,F a b→G a b)→Paired G l₁ l₂
 | _,_, .nil,_=>.nil
 | _,_, .cons r t,f=>.cons (f _ _ r) (Paired.mapP t f)
theorem ObjOk.stay (x:ObjOk P w H h a o) (k:∀ b u,(b=a∨H b=some (.own a))→h.get? b=some u→h'.get? b=some u)
  (ho:∀ b,H b=some (.own a)→H' b=some (.own a)) (ht:∀ b xs,H b=some (.tup xs)→H' b=some (.tup xs)):ObjOk P w H' h' a o:=by
 induction o with
 | lst xs=>obtain ⟨z,its,n,r,e⟩:=x;exact ⟨z,its,n,r,k _ _ (.inl rfl) e⟩
 | tup xs=>obtain ⟨z,its,r,ob,e,c⟩:=x;exact ⟨z,its,r,ob,k _ _ (.inl rfl) e,c⟩
 | dK kvs=>obtain ⟨z,y,vs,r,ob,es,ep,e,c⟩:=x;exact ⟨z,y,vs,r,ob,es,ep,k _ _ (.inl rfl) e,c⟩
 | dT kvs =>
  obtain ⟨z,y,xs,r,ob,es,ep,e,c⟩:=x
  exact ⟨z,y,xs,Paired.mapP r fun p q z=>⟨z.1,ht _ _ z.2.1,z.2.2⟩,ob,es,ep,k _ _ (.inl rfl) e,c⟩
 | set S n=>obtain ⟨ob,es,ep,t,e,c⟩:=x;exact ⟨ob,es,ep,t,k _ _ (.inl rfl) e,c⟩
 | ins C dx fs =>
  obtain ⟨d,z,ne,e,mA,⟨od,es,ep,e2,c⟩,r⟩:=x
  exact ⟨ho _ d,z,ne,k _ _ (.inl rfl) e,mA,⟨od,es,ep,k _ _ (.inr d) e2,c⟩,r⟩
 | own y=>obtain ⟨ob,e⟩:=x;exact ⟨ob,k _ _ (.inl rfl) e⟩
 | xd fs=>obtain ⟨mA,⟨od,es,ep,e,c⟩,r⟩:=x;exact ⟨mA,⟨od,es,ep,k _ _ (.inl rfl) e,c⟩,r⟩
 | rng lo hi=>obtain ⟨t,u,v,e⟩:=x;exact ⟨t,u,v,k _ _ (.inl rfl) e⟩
 | frz ob u ih=>obtain ⟨e,q⟩:=x;exact ⟨k _ _ (.inl rfl) e,ih q⟩
 | tbl ps =>
  have e:h.get? a=some { cls:=.none,data:=.fields ps }:=x
  show h'.get? a=some { cls:=.none,data:=.fields ps }
  exact k a _ (.inl rfl) e
 | met f y =>
  have e:h.get? a=some (PySem.W.methodObj (.ref f) (.ref y)):=x
  show h'.get? a=some (PySem.W.methodObj (.ref f) (.ref y))
  exact k a _ (.inl rfl) e
 | ext φ=>obtain ⟨p,⟨o,e⟩,st⟩:=x;exact ⟨st _ _ p fun o q=>k _ _ (.inl rfl) q,⟨o,k _ _ (.inl rfl) e⟩,st⟩
theorem HOk.lt (x:HOk P w H h) (e:H a=some o):a<h.objs.size:=(x a o e).lt
theorem HOk.fresh (x:HOk P w H h) (e:h.objs.size≤a):H a=none:=by
 cases q:H a with
 | none=>rfl
 | some u=>exact absurd (Nat.lt_of_lt_of_le (x.lt q) e) (Nat.lt_irrefl _)
theorem HOk.kept (x:HOk P w H h) (k:∀ b u,h.get? b=some u→h'.get? b=some u):HOk P w H h':=fun a o e =>
 (x a o e).stay (fun b u _ q=>k b u q) (fun _ q=>q) fun _ _ q=>q
theorem HOk.laid (x:HOk P w H h) (k:∀ b u,h.get? b=some u→h'.get? b=some u) (hp:h.objs.size≤a) (new:ObjOk P w (upd H a o) h' a o):HOk P w (upd H a o) h':=fun b u e=>by
 have hn:=x.fresh hp
 by_cases hb:b=a
 ·subst hb;rw [jf] at e;cases e;exact new
 ·rw [dj hb] at e
  exact (x b u e).stay (fun c v _ q=>k c v q) (fun c q=>by rw [dj (di q hn)];exact q) fun c xs q=>by rw [dj (di q hn)];exact q
end
def Rd (H:Hp) (a:Addr) (u:HO):Prop:=H a=some u∨∃ o,H a=some (.frz o u)
theorem Rd.of {H:Hp} {a:Addr} {u:HO} (h:H a=some u):Rd H a u:=.inl h
theorem Rd.ok {P:Program} {w:World} {H:Hp} {h:Heap} {a:Addr} {u:HO} (r:Rd H a u) (x:HOk P w H h):ObjOk P w H h a u:=by
 rcases r with r | ⟨o,r⟩
 ·exact x a u r
 ·obtain ⟨_,q⟩:=x a _ r
  exact q
def Mut:Option HO→Prop
 | some (.lst _)=>True
 | some (.dK _)=>True
 | some (.dT _)=>True
 | some (.set _ _)=>True
 | some (.ins _ _ _)=>True
 | some (.ext _)=>True
 | _=>False
section
variable {P:Program} {w:World} {H:Hp} {h h':Heap} {x e:Addr} {o':HO}
theorem HOk.write (ok:HOk P w H h) (mu:Mut (H x)) (he:e=x∨H e=some (.own x)) (k:∀ b u,b≠e→h.get? b=some u→h'.get? b=some u) (heo:∃ u,h'.get? e=some u)
  (new:ObjOk P w (upd H x o') h' x o'):HOk P w (upd H x o') h':=fun b u q=>by
 have nown:∀ c y,H c=some (.own y)→c≠x:=fun c y r z=>by subst z;rw [r] at mu;exact mu
 have ntup:∀ c xs,H c=some (.tup xs)→c≠x:=fun c xs r z=>by subst z;rw [r] at mu;exact mu
 by_cases hb:b=x
 ·subst hb;rw [jf] at q;cases q;exact new
 ·rw [dj hb] at q
  by_cases hbe:b=e
  ·have q':H b=some (.own x):=by
    rcases he with z | z
    ·exact absurd (hbe.trans z) hb
    ·rw [hbe];exact z
   rw [q] at q';cases q'
   obtain ⟨v,hv⟩:=heo
   exact ⟨v,by rw [hbe];exact hv⟩
  ·refine (ok b u q).stay (fun c v hc r=>k c v ?_ r) (fun c r=>by rw [dj (nown c b r)];exact r) fun c xs r=>by rw [dj (ntup c xs r)];exact r
   rcases hc with rfl | hc
   ·exact hbe
   ·rintro rfl
    rcases he with z | z
    ·exact nown c b hc z
    ·rw [hc] at z;cases z;exact hb rfl
end
structure Un (fs ex:List Addr) (H H':Hp) (h h':Heap):Prop where
 keep:∀ b o,h.get? b=some o→H b=none→b ∉ fs→b ∉ ex→h'.get? b=some o
 slot:∀ b o,h.get? b=some o→H b=none→b∈fs→b ∉ ex→∃ sl,h'.get? b=some { o with slots:=sl }
 free:∀ b o,h.get? b=some o→H b=none→b ∉ ex→H' b=none
 there:∀ b o,h.get? b=some o→b ∉ ex→∃ o',h'.get? b=some o'
 tups:∀ b xs,H b=some (.tup xs)→H' b=some (.tup xs)
 frzs:∀ b o u,H b=some (.frz o u)→H' b=some (.frz o u)
 tbls:∀ b ps,H b=some (.tbl ps)→∃ more,H' b=some (.tbl (ps++more))
section
variable {fs fs' ex ex':List Addr} {H H1 H2:Hp} {h h1 h2 h':Heap} {a x e:Addr} {o:HO}
theorem Un.any (u:Un fs ex H H1 h h1) {b:Addr} {ob:Obj} (q:h.get? b=some ob) (n:H b=none) (hx:b ∉ ex):∃ sl,h1.get? b=some { ob with slots:=sl }:=by
 by_cases hb:b∈fs
 ·exact u.slot b ob q n hb hx
 ·exact ⟨ob.slots,u.keep b ob q n hb hx⟩
theorem Un.kept (k:∀ b u,h.get? b=some u→h'.get? b=some u):Un fs ex H H h h' :=
 ⟨fun b ob q _ _ _=>k b ob q,fun b ob q _ _ _=>⟨ob.slots,k b ob q⟩,fun _ _ _ n _=>n,fun b ob q _=>⟨ob,k b ob q⟩,fun _ _ q=>q,fun _ _ _ q=>q,fun _ ps q=>⟨#[],by rw [q];simp⟩⟩
theorem Un.refl:Un fs ex H H h h:=Un.kept fun _ _ q=>q
theorem Un.laid (k:∀ b u,h.get? b=some u→h'.get? b=some u) (hp:h.objs.size≤a) (hn:H a=none):Un fs ex H (upd H a o) h h' where
 keep:=fun b u q _ _ _=>k b u q
 slot:=fun b u q _ _ _=>⟨u.slots,k b u q⟩
 free:=fun b u q n _=>by rw [dj (Nat.ne_of_lt (Nat.lt_of_lt_of_le (Heap.lt_size q) hp))];exact n
 there:=fun b u q _=>⟨u,k b u q⟩
 tups:=fun b xs q=>by rw [dj (di q hn)];exact q
 frzs:=fun b u xs q=>by rw [dj (di q hn)];exact q
 tbls:=fun b ps q=>⟨#[],by rw [dj (di q hn),q];simp⟩
theorem Un.write (mu:Mut (H x)) (he:e=x∨H e=some (.own x)) (k:∀ b u,b≠e→h.get? b=some u→h'.get? b=some u) (heo:∃ u,h'.get? e=some u):Un fs ex H (upd H x o) h h':=by
 have hx:∀ b,H b=none→b≠x:=fun b n z=>by subst z;rw [n] at mu;exact mu
 have hb:∀ b,H b=none→b≠e:=fun b n z=>by
  subst z
  rcases he with r | r
  ·exact hx b n r
  ·rw [n] at r;cases r
 have hm:∀ b u,H b=some u→¬ Mut (some u)→b≠x:=fun b u q nm z=>by subst z;rw [q] at mu;exact nm mu
 refine ⟨fun b u q n _ _=>k b u (hb b n) q,fun b u q n _ _=>⟨u.slots,k b u (hb b n) q⟩,fun b u q n _=>by rw [dj (hx b n)];exact n,fun b u q _=>?_,
  fun b xs q=>by rw [dj (hm b _ q fun z=>z)];exact q,fun b u xs q=>by rw [dj (hm b _ q fun z=>z)];exact q,fun b ps q=>⟨#[],by rw [dj (hm b _ q fun z=>z),q];simp⟩⟩
 by_cases hbe:b=e
 ·subst hbe;exact heo
 ·exact ⟨u,k b u hbe q⟩
end
def trk (h:Heap) (H:Hp):List Addr:=(List.range h.objs.size).filter fun a=>(H a).isSome
def a94 (h:Heap) (H:Hp):Heap:=PySem.W.hideAll h (trk h H)
theorem a6x (h:Heap) (H:Hp):(a94 h H).objs.size=h.objs.size:=PySem.W.hideAll_size _ _
theorem a95 {h:Heap} {H:Hp} {b:Addr} {o:Obj} (e:h.get? b=some o) (n:H b=none):(a94 h H).get? b=some o :=
 PySem.W.hideAll_get _ e fun hm=>by
  have q:(H b).isSome=true:=(List.mem_filter.mp hm).2
  rw [n] at q;simp at q
theorem abr {h:Heap} {H:Hp} {b:Addr} {o:Obj} (e:(a94 h H).get? b=some o):h.get? b=some o∧H b=none:=by
 have e':h.get? b=some o:=PySem.W.of_hideAll (trk h H) e
 refine ⟨e',?_⟩
 cases q:H b with
 | none=>rfl
 | some x =>
  have hm:b∈trk h H:=List.mem_filter.mpr ⟨List.mem_range.mpr (Heap.lt_size e'),by simp [q]⟩
  have z:(a94 h H).get? b=none:=PySem.W.hideAll_none (trk h H) hm
  rw [z] at e;cases e
def abt (g h:Heap) (L:Addr):List (Addr × Obj):=(List.range h.objs.size).filterMap fun a=>if a=L∨(g.get? a).isSome=true then none else (h.get? a).map fun o=>(a,o)
def rest (g h:Heap) (L d:Addr):List (Addr × Obj):=(abt g h L).filter fun p=>decide (p.1≠d)
end L2
namespace L2
open PySem PySem.Spec PyProof.Rows
structure Mod (K:PySem.W.Frag) (mg:Str→Option Value) (base:Heap):Prop where
 kin:K.In base
 glob:base.Ns mainGlobals mg
 blt:∃ mb,base.Ns builtinsNs mb∧∀ x:Str,x ≠ "__name__"→mb x=bootBuiltins x
 nolimit:base.NoLimit
structure Cx where
 prog:Program
 w:World
 K:PySem.W.Frag
 mg:Str→Option Value
 base:Heap
 A:Around
 N:List Str
 s₀:Shared
 H₀:Hp
 env:Env
 outer:List Env
 stack:List Env
 ex:List Addr
 fn:Str→Bool
 calm:Bool
 pn:List (Addr × Obj)
 xe:Value→Shared→Prop
def frs (l:List Env):List Addr:=l.filterMap (·.frame)
abbrev Cx.fs (X:Cx):List Addr:=frs X.outer
def Vis (sc:Scope) (x:Str):Prop:=sc.names.lookup x=some .local∨sc.names.lookup x=some .cell∨sc.names.lookup x=some .free
def Loc (sc:Scope) (x:Str):Prop:=sc.names.lookup x=some .local∨sc.names.lookup x=some .cell
def Look (env:Env) (h:Heap) (m:Str→Option Value) (x:Str) (u:Value):Prop :=
 (env.kindOf x=some .local∧m x=some u)∨((env.kindOf x=some .cell∨env.kindOf x=some .free)∧∃ c,env.cells.lookup x=some c∧h.IsCell c (some u))
structure Cx.Ok (X:Cx):Prop where
 mod:Mod X.K X.mg X.base
 kind:X.env.scope.kind = .function
 glob:X.env.globals=mainGlobals
 blt:X.env.builtins=builtinsNs
 above:X.s₀.heap.objs.size≤X.env.locals
 inj:∀ x y c,X.env.cells.lookup x=some c→X.env.cells.lookup y=some c→x=y
 has:∀ x,(X.env.kindOf x=some .cell∨X.env.kindOf x=some .free)→∃ c,X.env.cells.lookup x=some c
 cab:∀ x c,X.fn x=true→X.env.cells.lookup x=some c→X.s₀.heap.objs.size≤c
 hd:X.calm=true→X.A.handled=none
 frames:X.A.frames=some X.stack
 stk:X.stack=X.outer∨(X.stack=X.env::X.outer∧X.env.frame=some X.env.locals)
 exf:∀ b∈X.ex,b≠X.env.locals∧∀ x c,X.env.cells.lookup x=some c→c≠b
 bs:∀ b o,X.base.get? b=some o→X.s₀.heap.get? b=some o∧X.H₀ b=none
 bsz:X.base.objs.size≤X.s₀.heap.objs.size
 noex:∀ b o,X.base.get? b=some o→b ∉ X.ex
 exfs:∀ b∈X.ex,b ∉ X.fs
 funs:X.s₀.heap.FunFrames X.base X.outer
 frf:∀ b∈X.fs,X.H₀ b=none
structure Inv (X:Cx) (pins:List (Addr × Obj)) (σ:List (Option V)) (H:Hp) (s:Shared):Prop where
 ok:X.Ok
 os:s.os=X.s₀.os
 bare:AllBare s.gens
 base:Un X.fs X.ex X.H₀ H X.s₀.heap s.heap
 loc:∃ m,s.heap.Ns X.env.locals m∧∀ (i:Nat) (x:Str) (v:V),X.N[i]? = some x→σ[i]? = some (some v)→Vis X.env.scope x→∃ u,RelV v u∧Look X.env s.heap m x u
 cell:∀ x c,X.env.cells.lookup x=some c→∃ v,s.heap.IsCell c v
 free:H X.env.locals=none
 freeC:∀ x c,X.env.cells.lookup x=some c→H c=none
 pin:∀ p∈X.pn++pins,s.heap.get? p.1=some p.2∧H p.1=none∧p.1≠X.env.locals∧p.1 ∉ X.fs∧∀ v,p.2.data≠.cell v
 hok:HOk X.prog X.w H s.heap
 len:σ.length=X.N.length
section
variable {X:Cx} {pins:List (Addr × Obj)} {σ:List (Option V)} {H H':Hp} {s:Shared} {h':Heap}
theorem Cx.Ok.nofr (ok:X.Ok) {b:Addr} {o:Obj} (e:X.base.get? b=some o):b ∉ X.fs:=fun hb=>by
 have:=(ok.funs.mem hb).1
 rw [e] at this;cases this
theorem Inv.bs (I:Inv X pins σ H s):∀ b o,X.base.get? b=some o→s.heap.get? b=some o∧H b=none:=fun b o e =>
 ⟨I.base.keep b o (I.ok.bs b o e).1 (I.ok.bs b o e).2 (I.ok.nofr e) (I.ok.noex b o e),I.base.free b o (I.ok.bs b o e).1 (I.ok.bs b o e).2 (I.ok.noex b o e)⟩
theorem Inv.bk (I:Inv X pins σ H s):∀ b o,X.base.get? b=some o→s.heap.get? b=some o:=fun b o e=>(I.bs b o e).1
theorem Inv.mod (I:Inv X pins σ H s):Mod X.K X.mg X.base:=I.ok.mod
theorem Inv.kIn (I:Inv X pins σ H s):X.K.In s.heap:=I.ok.mod.kin.keeps I.bk
theorem Inv.fr (I:Inv X pins σ H s):∃ m,Fr X.base X.env.locals s.heap m :=
 let ⟨m,hn,_⟩:=I.loc
 ⟨m,hn,I.bk,Nat.le_trans I.ok.bsz I.ok.above⟩
theorem Inv.lt (I:Inv X pins σ H s):X.env.locals<s.heap.objs.size:=let ⟨_,hn,_⟩:=I.loc;hn.lt
theorem Inv.sz (I:Inv X pins σ H s):X.s₀.heap.objs.size≤s.heap.objs.size:=Nat.le_trans I.ok.above (Nat.le_of_lt I.lt)
theorem Inv.nofs (I:Inv X pins σ H s) {a:Addr} (h:s.heap.objs.size≤a):a ∉ X.fs:=fun hb=>by
 obtain ⟨_,o,ho,_⟩:=I.ok.funs.mem hb
 exact absurd (Nat.lt_of_lt_of_le (Heap.lt_size ho) (Nat.le_trans I.sz h)) (Nat.lt_irrefl _)
theorem Inv.cne (I:Inv X pins σ H s):∀ x c,X.env.cells.lookup x=some c→c≠X.env.locals:=fun x c e z=>by
 obtain ⟨v,o,ho,hd⟩:=I.cell x c e
 obtain ⟨m,⟨o',es,ep,ho',hd',_⟩,_⟩:=I.loc
 rw [z,ho'] at ho;cases ho;rw [hd'] at hd;cases hd
theorem Inv.funs (I:Inv X pins σ H s):s.heap.FunFrames X.base X.outer:=by
 have all:∀ (l:List Env),(∀ b∈frs l,b∈X.fs)→X.s₀.heap.FunFrames X.base l→s.heap.FunFrames X.base l:=by
  intro l
  induction l with
  | nil=>intro _ _;trivial
  | cons env r ih =>
   intro hs hl
   obtain ⟨hk,⟨L,o,hf,hn,ho,hd⟩,hr⟩:=hl
   have hL:L∈X.fs:=hs L (by unfold frs;rw [List.filterMap_cons,hf];exact List.mem_cons_self)
   obtain ⟨sl,e⟩:=I.base.slot L o ho (I.ok.frf L hL) hL fun z=>I.ok.exfs L z hL
   exact ⟨hk,⟨L,_,hf,hn,e,hd⟩,ih (fun b hb=>hs b (by unfold frs;rw [List.filterMap_cons,hf];exact List.mem_cons_of_mem _ hb)) hr⟩
 exact all X.outer (fun _ hb=>hb) I.ok.funs
theorem Inv.stack (I:Inv X pins σ H s):s.heap.FunFrames X.base X.stack:=by
 rcases I.ok.stk with e | ⟨e,hf⟩
 ·rw [e];exact I.funs
 ·rw [e]
  obtain ⟨m,hn,_⟩:=I.loc
  refine .cons (by rw [I.ok.kind];decide) hf hn ?_ I.funs
  exact Heap.get?_none_of_le (Nat.le_trans I.ok.bsz I.ok.above)
theorem Inv.stkSub (I:Inv X pins σ H s):∀ b∈frs X.stack,b∈X.env.locals::X.fs:=fun b hb=>by
 rcases I.ok.stk with e | ⟨e,hf⟩
 ·rw [e] at hb;exact List.mem_cons_of_mem _ hb
 ·rw [e] at hb
  unfold frs at hb
  rw [List.filterMap_cons,hf] at hb
  exact hb
theorem Inv.stkFree (I:Inv X pins σ H s):∀ b∈frs X.stack,H b=none:=fun b hb=>by
 rcases List.mem_cons.mp (I.stkSub b hb) with e | hb
 ·rw [e];exact I.free
 ·obtain ⟨_,o,ho,_⟩:=I.ok.funs.mem hb
  exact I.base.free b o ho (I.ok.frf b hb) fun z=>I.ok.exfs b z hb
theorem Inv.step {g':Array GenState} {t':Nat} {d':Drawn} {ch:List Addr} (I:Inv X pins σ H s)
  (hch:∀ b∈ch,(b∈X.ex∨X.s₀.heap.objs.size≤b)∧b≠X.env.locals∧(∀ x c,X.env.cells.lookup x=some c→c≠b)∧∀ p∈X.pn++pins,p.1≠b)
  (keep:∀ b o,b≠X.env.locals→b ∉ X.fs→b ∉ ch→s.heap.get? b=some o→H b=none→h'.get? b=some o)
  (slot:∀ b o,b≠X.env.locals→b∈X.fs→b ∉ ch→s.heap.get? b=some o→H b=none→∃ sl,h'.get? b=some { o with slots:=sl }) (free:∀ b o,b ∉ ch→s.heap.get? b=some o→H b=none→H' b=none)
  (there:∀ b o,b ∉ ch→s.heap.get? b=some o→∃ o',h'.get? b=some o')
  (tups:∀ b xs,H b=some (.tup xs)→H' b=some (.tup xs)) (frzs:∀ b o u,H b=some (.frz o u)→H' b=some (.frz o u)) (tbls:∀ b ps,H b=some (.tbl ps)→∃ more,H' b=some (.tbl (ps++more)))
  (ns:∀ m,s.heap.Ns X.env.locals m→h'.Ns X.env.locals m) (hok:HOk X.prog X.w H' h') (hg:AllBare g') :
  Inv X pins σ H' { s with heap:=h',gens:=g',drawn:=d',toks:=t' }:=by
 have neL:∀ b o,X.s₀.heap.get? b=some o→b≠X.env.locals:=fun b o e=>Nat.ne_of_lt (Nat.lt_of_lt_of_le (Heap.lt_size e) I.ok.above)
 have neC:∀ b o,X.s₀.heap.get? b=some o→b ∉ X.ex→b ∉ ch:=fun b o e hx hb=>by
  rcases (hch b hb).1 with z | z
  ·exact hx z
  ·exact absurd (Nat.lt_of_lt_of_le (Heap.lt_size e) z) (Nat.lt_irrefl _)
 have cellK:∀ x c,X.env.cells.lookup x=some c→∀ v,s.heap.IsCell c v→h'.IsCell c v:=fun x c e v ⟨o,ho,hd⟩=>by
  have nch:c ∉ ch:=fun z=>(hch c z).2.2.1 x c e rfl
  by_cases hc:c∈X.fs
  ·obtain ⟨sl,q⟩:=slot c o (I.cne x c e) hc nch ho (I.freeC x c e)
   exact ⟨_,q,hd⟩
  ·exact ⟨o,keep c o (I.cne x c e) hc nch ho (I.freeC x c e),hd⟩
 refine ⟨I.ok,I.os,hg,⟨fun b o e n hb hx=>?_,fun b o e n hb hx=>?_,fun b o e n hx=>?_,fun b o e hx=>?_,fun b xs e=>tups b xs (I.base.tups b xs e),fun b o xs e=>frzs b o xs (I.base.frzs b o xs e),fun b ps e=>?_⟩,?_,fun x c e=>?_,?_,fun x c e=>?_,fun p hp=>?_,hok,I.len⟩
 ·exact keep b o (neL b o e) hb (neC b o e hx) (I.base.keep b o e n hb hx) (I.base.free b o e n hx)
 ·obtain ⟨sl,e1⟩:=I.base.slot b o e n hb hx
  obtain ⟨sl',e2⟩:=slot b _ (neL b o e) hb (neC b o e hx) e1 (I.base.free b o e n hx)
  exact ⟨sl',e2⟩
 ·obtain ⟨o',e1⟩:=I.base.there b o e hx
  exact free b o' (neC b o e hx) e1 (I.base.free b o e n hx)
 ·obtain ⟨o',e1⟩:=I.base.there b o e hx
  exact there b o' (neC b o e hx) e1
 ·obtain ⟨m1,e1⟩:=I.base.tbls b ps e
  obtain ⟨m2,e2⟩:=tbls b _ e1
  exact ⟨m1++m2,by rw [e2,Array.append_assoc]⟩
 ·obtain ⟨m,hn,hl⟩:=I.loc
  refine ⟨m,ns m hn,fun i x v e1 e2 e3=>?_⟩
  obtain ⟨u,r,l⟩:=hl i x v e1 e2 e3
  refine ⟨u,r,?_⟩
  rcases l with l | ⟨k,c,e,z⟩
  ·exact .inl l
  ·exact .inr ⟨k,c,e,cellK x c e _ z⟩
 ·obtain ⟨v,z⟩:=I.cell x c e
  exact ⟨v,cellK x c e v z⟩
 ·obtain ⟨m,⟨o,_,_,ho,_⟩,_⟩:=I.loc
  exact free _ o (fun z=>(hch _ z).2.1 rfl) ho I.free
 ·obtain ⟨v,o,ho,hd⟩:=I.cell x c e
  exact free c o (fun z=>(hch c z).2.2.1 x c e rfl) ho (I.freeC x c e)
 ·obtain ⟨e,n,ne,nf,d⟩:=I.pin p hp
  have nch:p.1 ∉ ch:=fun z=>(hch p.1 z).2.2.2 p hp rfl
  exact ⟨keep p.1 p.2 ne nf nch e n,free p.1 p.2 nch e n,ne,nf,d⟩
theorem Inv.un {t':Nat} (I:Inv X pins σ H s) (u:Un X.fs [] H H' s.heap h') (hok:HOk X.prog X.w H' h'):Inv X pins σ H' { s with heap:=h',toks:=t' }:=by
 obtain ⟨m,⟨o,es,ep,ho,r⟩,_⟩:=id I.loc
 obtain ⟨sl,hL⟩:=u.any ho I.free (by simp)
 exact I.step (g':=s.gens) (d':=s.drawn) (ch:=[]) (fun _ z=>nomatch z) (fun b o _ hb _ e n=>u.keep b o e n hb (by simp)) (fun b o _ hb _ e n=>u.slot b o e n hb (by simp)) (fun b o _ e n=>u.free b o e n (by simp)) (fun b o _ e=>u.there b o e (by simp)) u.tups u.frzs u.tbls (fun m' hm=>by
  obtain ⟨o',es',ep',ho',r'⟩:=hm
  rw [ho] at ho';cases ho'
  exact ⟨_,es',ep',hL,r'⟩) hok I.bare
theorem Inv.call {g':Array GenState} {t':Nat} {d':Drawn} {ch:List Addr} (I:Inv X pins σ H s) (u:Un (frs X.stack) ch H H' s.heap h') (hok:HOk X.prog X.w H' h') (hg:AllBare g')
  (hch:∀ b∈ch,(b∈X.ex∨X.s₀.heap.objs.size≤b)∧b≠X.env.locals∧(∀ x c,X.env.cells.lookup x=some c→c≠b)∧∀ p∈X.pn++pins,p.1≠b) :
  Inv X pins σ H' { s with heap:=h',gens:=g',drawn:=d',toks:=t' }:=by
 obtain ⟨m,⟨o,es,ep,ho,r⟩,_⟩:=id I.loc
 obtain ⟨sl,hL⟩:=u.any ho I.free fun z=>(hch _ z).2.1 rfl
 exact I.step (ch:=ch) hch (fun b o hL hb hc e n=>u.keep b o e n (fun z=>(List.mem_cons.mp (I.stkSub b z)).elim hL hb) hc) (fun b o _ _ hc e n=>u.any e n hc) (fun b o hc e n=>u.free b o e n hc) (fun b o hc e=>u.there b o e hc) u.tups u.frzs u.tbls (fun m' hm=>by
  obtain ⟨o',es',ep',ho',r'⟩:=hm
  rw [ho] at ho';cases ho'
  exact ⟨_,es',ep',hL,r'⟩) hok hg
theorem Inv.turned {t':Nat} {it:Addr} (I:Inv X pins σ H s) (k:∀ b o,b≠it→s.heap.get? b=some o→h'.get? b=some o) (hn:H it=none) (hL:it≠X.env.locals)
  (h1:it∈X.ex∨X.s₀.heap.objs.size≤it) (h2:∀ x c,X.env.cells.lookup x=some c→c≠it) (h3:∀ p∈X.pn++pins,p.1≠it):Inv X pins σ H { s with heap:=h',toks:=t' }:=by
 have nit:∀ b u,H b=some u→b≠it:=fun b u e z=>by rw [z,hn] at e;cases e
 refine I.step (g':=s.gens) (d':=s.drawn) (ch:=[it]) (fun b hb=>?_) (fun b o _ _ hc e _=>k b o (fun z=>hc (by simp [z])) e) (fun b o _ _ hc e _=>⟨o.slots,k b o (fun z=>hc (by simp [z])) e⟩) (fun _ _ _ _ n=>n)
  (fun b o hc e=>⟨o,k b o (fun z=>hc (by simp [z])) e⟩) (fun _ _ e=>e) (fun _ _ _ e=>e) (fun b ps e=>⟨#[],by rw [e];simp⟩) (fun m hm=>?_) (fun b u e=>?_) I.bare
 ·have e:b=it:=by simpa using hb
  subst e
  exact ⟨h1,hL,h2,h3⟩
 ·obtain ⟨o,es,ep,ho,r⟩:=hm
  exact ⟨o,es,ep,k _ o (Ne.symm hL) ho,r⟩
 ·refine (I.hok b u e).stay (fun c v hc q=>k c v ?_ q) (fun _ q=>q) fun _ _ q=>q
  rcases hc with z | z
  ·rw [z];exact nit b u e
  ·exact nit c _ z
theorem Inv.tok (I:Inv X pins σ H s) (t:Nat):Inv X pins σ H { s with toks:=t }:=I.un (h':=s.heap) (t':=t) Un.refl I.hok
theorem Inv.kept {t':Nat} (I:Inv X pins σ H s) (k:∀ b u,s.heap.get? b=some u→h'.get? b=some u):Inv X pins σ H { s with heap:=h',toks:=t' }:=I.un (Un.kept k) (I.hok.kept k)
theorem Inv.laid {a:Addr} {o:HO} {t':Nat} (I:Inv X pins σ H s) (k:∀ b u,s.heap.get? b=some u→h'.get? b=some u) (hp:s.heap.objs.size≤a) (new:ObjOk X.prog X.w (upd H a o) h' a o) :
  Inv X pins σ (upd H a o) { s with heap:=h',toks:=t' }:=I.un (Un.laid k hp (I.hok.fresh hp)) (I.hok.laid k hp new)
theorem Inv.write {x e:Addr} {o:HO} {t':Nat} (I:Inv X pins σ H s) (mu:Mut (H x)) (he:e=x∨H e=some (.own x)) (k:∀ b u,b≠e→s.heap.get? b=some u→h'.get? b=some u) (heo:∃ u,h'.get? e=some u)
  (new:ObjOk X.prog X.w (upd H x o) h' x o):Inv X pins σ (upd H x o) { s with heap:=h',toks:=t' }:=I.un (Un.write mu he k heo) (I.hok.write mu he k heo new)
theorem Inv.weak {σ':List (Option V)} (I:Inv X pins σ H s) (hl:σ'.length=σ.length) (w:∀ (i:Nat) v,σ'[i]? = some (some v)→σ[i]? = some (some v)):Inv X pins σ' H s :=
 ⟨I.ok,I.os,I.bare,I.base,let ⟨m,hn,hl'⟩:=I.loc; ⟨m,hn,fun i x v e1 e2 e3=>hl' i x v e1 (w i v e2) e3⟩,I.cell,I.free,I.freeC,I.pin,I.hok,hl.trans I.len⟩
theorem Inv.pins_of {pins':List (Addr × Obj)} (I:Inv X pins σ H s) (h:∀ p∈pins',s.heap.get? p.1=some p.2∧H p.1=none∧p.1≠X.env.locals∧p.1 ∉ X.fs∧∀ v,p.2.data≠.cell v):Inv X pins' σ H s :=
 ⟨I.ok,I.os,I.bare,I.base,I.loc,I.cell,I.free,I.freeC,fun p hp=>(List.mem_append.mp hp).elim (fun z=>I.pin p (List.mem_append_left _ z)) (h p),I.hok,I.len⟩
theorem a0w {N:List Str} (hN:N.Nodup) {i j:Nat} {x:Str} (a:N[i]? = some x) (b:N[j]? = some x):i=j:=by
 obtain ⟨h1,e1⟩:=List.getElem?_eq_some_iff.mp a
 obtain ⟨h2,e2⟩:=List.getElem?_eq_some_iff.mp b
 exact (List.getElem_inj hN).mp (e1.trans e2.symm)
theorem a6y {M:Model} {A:Around} {E:Value→Shared→Prop} {i:Nat} {x:Str} {v:V} {u:Value} {Q:Unit→Shared→Prop} (I:Inv X pins σ H s) (hN:X.N.Nodup) (hi:X.N[i]? = some x) (hx:Loc X.env.scope x) (r:RelV v u)
  (h:∀ s',Inv X pins (σ.set i (some v)) H s'→(∃ a,Heap.SameBut a s.heap s'.heap∧(a=X.env.locals∨X.env.cells.lookup x=some a))→Q () s') (hf:X.fn x=true∨X.env.scope.names.lookup x=some .local:=by first | exact .inl rfl | exact .inr rfl | assumption):wpAny M A (storeName X.env x u) Q E s:=by
 obtain ⟨m,hn,hl⟩:=id I.loc
 have hcls:(X.env.scope.kind == .class || (X.env.scope.kind == .module && X.env.locals != X.env.globals))=false:=by rw [I.ok.kind];rfl
 have hiσ:i<σ.length:=by rw [I.len];exact (List.getElem?_eq_some_iff.mp hi).1
 have cne:=I.cne
 have tracked:∀ {a:Addr} {h':Heap},(∃ o,s.heap.get? a=some o∧H a=none)→Heap.SameBut a s.heap h'→HOk X.prog X.w H h':=fun {a h'} ha hs b ob e=>by
  obtain ⟨_,_,hfree⟩:=ha
  refine (I.hok b ob e).stay (fun c w' hc q=>(hs.2 c ?_).trans q) (fun _ q=>q) fun _ _ q=>q
  rintro rfl
  rcases hc with rfl | hc
  ·rw [hfree] at e;cases e
  ·rw [hfree] at hc;cases hc
 rcases hx with hk | hk
 ·refine wpAny_storeName_local hk hn (fun h' hn' hs=>?_) hcls
  obtain ⟨oL,_,_,hoL,_⟩:=id hn
  refine h _ ⟨I.ok,I.os,I.bare,⟨fun b o e n hb hx=>?_,fun b o e n hb hx=>?_,I.base.free,fun b o e hx=>?_,I.base.tups,I.base.frzs,I.base.tbls⟩,⟨_,hn',fun j y v' e1 e2 e3=>?_⟩,fun y c e=>?_,I.free,I.freeC,fun p hp=>?_,tracked ⟨oL,hoL,I.free⟩ hs,by simpa using I.len⟩ ⟨_,hs, .inl rfl⟩
  ·exact (hs.2 b (Nat.ne_of_lt (Nat.lt_of_lt_of_le (Heap.lt_size e) I.ok.above))).trans (I.base.keep b o e n hb hx)
  ·obtain ⟨sl,e1⟩:=I.base.slot b o e n hb hx
   exact ⟨sl,(hs.2 b (Nat.ne_of_lt (Nat.lt_of_lt_of_le (Heap.lt_size e) I.ok.above))).trans e1⟩
  ·obtain ⟨o',e1⟩:=I.base.there b o e hx
   exact ⟨o',(hs.2 b (Nat.ne_of_lt (Nat.lt_of_lt_of_le (Heap.lt_size e) I.ok.above))).trans e1⟩
  ·by_cases hj:j=i
   ·subst hj
    rw [hi] at e1;cases e1
    rw [List.getElem?_set_self hiσ] at e2
    cases e2
    exact ⟨u,r, .inl ⟨hk,by simp⟩⟩
   ·rw [List.getElem?_set_ne (Ne.symm hj)] at e2
    obtain ⟨u',r',q⟩:=hl j y v' e1 e2 e3
    refine ⟨u',r',?_⟩
    rcases q with ⟨k,e⟩ | ⟨k,c,e,z⟩
    ·refine .inl ⟨k,?_⟩
     have:y≠x:=fun e=>hj (a0w hN e1 (e ▸ hi))
     simp [this,e]
    ·exact .inr ⟨k,c,e,z.sameBut hs (cne y c e)⟩
  ·obtain ⟨w',z⟩:=I.cell y c e
   exact ⟨w',z.sameBut hs (cne y c e)⟩
  ·obtain ⟨e,n,ne,nf,d⟩:=I.pin p hp
   exact ⟨(hs.2 p.1 ne).trans e,n,ne,nf,d⟩
 ·have hfn:X.fn x=true:=by
   rcases hf with z | z
   ·exact z
   ·rw [z] at hk;cases hk
  obtain ⟨c,hc⟩:=I.ok.has x (.inl hk)
  obtain ⟨w',z⟩:=I.cell x c hc
  refine wpAny_storeName_cell I.ok.kind hk hc z (fun h' hc' hs=>?_)
  obtain ⟨oc,hoc,hocd⟩:=id z
  refine h { s with heap:=h' } ⟨I.ok,I.os,I.bare,⟨fun b o e n hb hx=>?_,fun b o e n hb hx=>?_,I.base.free,fun b o e hx=>?_,I.base.tups,I.base.frzs,I.base.tbls⟩,⟨m,hn.sameBut hs (Ne.symm (cne x c hc)),fun j y v' e1 e2 e3=>?_⟩,fun y c' e=>?_,I.free,I.freeC,fun p hp=>?_,tracked ⟨oc,hoc,I.freeC x c hc⟩ hs,by simpa using I.len⟩ ⟨c,hs, .inr hc⟩
  ·exact (hs.2 b (Nat.ne_of_lt (Nat.lt_of_lt_of_le (Heap.lt_size e) (I.ok.cab x c hfn hc)))).trans (I.base.keep b o e n hb hx)
  ·obtain ⟨sl,e1⟩:=I.base.slot b o e n hb hx
   exact ⟨sl,(hs.2 b (Nat.ne_of_lt (Nat.lt_of_lt_of_le (Heap.lt_size e) (I.ok.cab x c hfn hc)))).trans e1⟩
  ·obtain ⟨o',e1⟩:=I.base.there b o e hx
   exact ⟨o',(hs.2 b (Nat.ne_of_lt (Nat.lt_of_lt_of_le (Heap.lt_size e) (I.ok.cab x c hfn hc)))).trans e1⟩
  ·by_cases hj:j=i
   ·subst hj
    rw [hi] at e1;cases e1
    rw [List.getElem?_set_self hiσ] at e2
    cases e2
    exact ⟨u,r, .inr ⟨.inl hk,c,hc,hc'⟩⟩
   ·rw [List.getElem?_set_ne (Ne.symm hj)] at e2
    obtain ⟨u',r',q⟩:=hl j y v' e1 e2 e3
    refine ⟨u',r',?_⟩
    rcases q with q | ⟨k,c',e,z'⟩
    ·exact .inl q
    ·refine .inr ⟨k,c',e,z'.sameBut hs ?_⟩
     rintro rfl
     exact hj (a0w hN e1 (I.ok.inj _ _ _ e hc ▸ hi))
  ·by_cases hcc:c'=c
   ·subst hcc;exact ⟨_,hc'⟩
   ·obtain ⟨w2,z2⟩:=I.cell y c' e
    exact ⟨w2,z2.sameBut hs hcc⟩
  ·obtain ⟨e,n,ne,nf,d⟩:=I.pin p hp
   refine ⟨(hs.2 p.1 ?_).trans e,n,ne,nf,d⟩
   intro q
   rw [q,hoc] at e
   have q':oc=p.2:=Option.some.inj e
   exact d w' (by rw [← q'];exact hocd)
theorem yt {M:Model} {A:Around} {E:Value→Shared→Prop} {i:Nat} {x:Str} {v:V} {u:Value} {Q:Unit→Shared→Prop} (I:Inv X pins σ H s) (hN:X.N.Nodup) (hi:X.N[i]? = some x) (hx:Loc X.env.scope x) (r:RelV v u)
  (h:∀ s',Inv X pins (σ.set i (some v)) H s'→Q () s') (hf:X.fn x=true∨X.env.scope.names.lookup x=some .local:=by first | exact .inl rfl | exact .inr rfl | assumption):wpAny M A (storeName X.env x u) Q E s :=
 a6y I hN hi hx r (fun s' I' _=>h s' I') hf
theorem Inv.call' {s':Shared} {ch:List Addr} (I:Inv X pins σ H s) (ho:s'.os=s.os) (u:Un (frs X.stack) ch H H' s.heap s'.heap) (hok:HOk X.prog X.w H' s'.heap) (hg:AllBare s'.gens)
  (hch:∀ b∈ch,(b∈X.ex∨X.s₀.heap.objs.size≤b)∧b≠X.env.locals∧(∀ x c,X.env.cells.lookup x=some c→c≠b)∧∀ p∈X.pn++pins,p.1≠b):Inv X pins σ H' s':=by
 obtain ⟨h',g',d',t',o'⟩:=s'
 have e:o'=s.os:=ho
 subst e
 exact I.call (g':=g') (t':=t') (d':=d') u hok hg hch
end
abbrev XK:=Value→Option Addr→Hp→Prop
abbrev St:=List (Option V)
abbrev VK:=V→Hp→Prop
abbrev TE:=St→Hp→VK→Prop
abbrev TT:=St→Hp→(Bool→Hp→Prop)→Prop
abbrev TA:=St→Hp→(List V→Hp→Prop)→Prop
structure Ends where
 nx:St→Hp→Prop
 rt:VK
 bk:St→Hp→Prop:=fun _ _=>False
 ct:St→Hp→Prop:=fun _ _=>False
abbrev TS:=Ends→St→Hp→Prop
def EP (X:Cx) (pins:List (Addr × Obj)) (σ:St) (Q:VK) (u:Value) (s':Shared):Prop:=∃ v H',Inv X pins σ H' s'∧RelV v u∧Q v H'
def TP (X:Cx) (pins:List (Addr × Obj)) (σ:St) (Q:Bool→Hp→Prop) (b:Bool) (s':Shared):Prop:=∃ H',Inv X pins σ H' s'∧Q b H'
def AP (X:Cx) (pins:List (Addr × Obj)) (σ:St) (Q:List V→Hp→Prop) (us:List Value) (s':Shared):Prop:=∃ vs H',Inv X pins σ H' s'∧Vals vs us∧Q vs H'
def SP (X:Cx) (pins:List (Addr × Obj)) (D:Ends) (f:Flow) (s':Shared):Prop :=
 match f with
 | .next=>∃ σ' H',Inv X pins σ' H' s'∧D.nx σ' H'
 | .brk=>∃ σ' H',Inv X pins σ' H' s'∧D.bk σ' H'
 | .cont=>∃ σ' H',Inv X pins σ' H' s'∧D.ct σ' H'
 | .ret u=>∃ v σ' H',Inv X pins σ' H' s'∧RelV v u∧D.rt v H'
def PE (X:Cx) (e:Expr) (t:TE):Prop :=
 ∀ (pins:List (Addr × Obj)) (s:Shared) (σ:St) (H:Hp) (Q:VK),Inv X pins σ H s→t σ H Q→wpAny (model X.prog X.w) X.A (eval e X.env) (EP X pins σ Q) X.xe s
def PT (X:Cx) (e:Expr) (t:TT):Prop :=
 ∀ (pins:List (Addr × Obj)) (s:Shared) (σ:St) (H:Hp) (Q:Bool→Hp→Prop),Inv X pins σ H s→t σ H Q→wpAny (model X.prog X.w) X.A (isTrue e X.env (eval e X.env)) (TP X pins σ Q) X.xe s
def PW (X:Cx) (e:Expr) (t:TT):Prop :=
 ∀ (whole:Sem Value) (pins:List (Addr × Obj)) (s:Shared) (σ:St) (H:Hp) (Q:Bool→Hp→Prop),Inv X pins σ H s→t σ H Q→wpAny (model X.prog X.w) X.A (isTrue e X.env whole) (TP X pins σ Q) X.xe s
theorem PW.pt {X:Cx} {e:Expr} {t:TT} (h:PW X e t):PT X e t:=h _
def PA (X:Cx) (es:List Expr) (t:TA):Prop :=
 ∀ (pos:Pos) (pins:List (Addr × Obj)) (s:Shared) (σ:St) (H:Hp) (Q:List V→Hp→Prop),Inv X pins σ H s→t σ H Q→wpAny (model X.prog X.w) X.A (spliced (backTo pos (starEach es X.env))) (AP X pins σ Q) X.xe s
def PS (X:Cx) (st:Stmt) (t:TS):Prop :=
 ∀ (pins:List (Addr × Obj)) (s:Shared) (σ:St) (H:Hp) (D:Ends),Inv X pins σ H s→t D σ H→wpAny (model X.prog X.w) X.A (exec st X.env) (SP X pins D) X.xe s
def PSs (X:Cx) (st:List Stmt) (t:TS):Prop :=
 ∀ (pins:List (Addr × Obj)) (s:Shared) (σ:St) (H:Hp) (D:Ends),Inv X pins σ H s→t D σ H→wpAny (model X.prog X.w) X.A (execs st X.env) (SP X pins D) X.xe s
theorem thn {α:Type} {t:Sem α} {Q Q':α→Shared→Prop} {M:Model} {A:Around} {E:Value→Shared→Prop} {s:Shared} (h:wpAny M A t Q E s) (hQ:∀ a s,Q a s→Q' a s):wpAny M A t Q' E s:=wpAny_mono h hQ fun _ _ x=>x
end L2
namespace L2
open PySem PySem.Spec PyProof.Rows
section
variable {X:Cx}
def akf (i:Nat):TE:=fun σ H Q=>∃ v,σ[i]? = some (some v)∧Q v H
def tC (v:V):TE:=fun _ H Q=>Q v H
theorem a6z {i:Nat} {x:Str} {pos:Pos} (hN:X.N[i]? = some x) (hv:Vis X.env.scope x) (hd:(x == ("__debug__" : Str))=false:=by decide) (hcd:(x == ("__classdict__" : Str))=false:=by decide):PE X (.Name x pos) (akf i):=by
 intro pins s σ H Q I h
 obtain ⟨v,e,h⟩:=h
 obtain ⟨m,hn,hl⟩:=I.loc
 obtain ⟨u,r,l⟩:=hl i x v hN e hv
 have fin:EP X pins σ Q u s:=⟨v,H,I,r,h⟩
 rcases l with ⟨hk,hm⟩ | ⟨hk,c,hc,hcell⟩
 ·exact wpAny_Name (wpAny_loadName_local I.ok.kind hk hn hm fin) hd
 ·rcases hk with hk | hk
  ·exact wpAny_Name (wpAny_loadName_cell I.ok.kind hk hc hcell fin) hd
  ·exact wpAny_Name (wpAny_loadName_free I.ok.kind hk hc hcell fin hcd) hd
theorem aex {i j pos}:PE X (.Constant (.int i) j pos) (tC (.int i)):=fun _ _ _ H _ I h=>wpAny_Constant_int ⟨.int i,H,I.tok _,⟨_,rfl⟩,h⟩
theorem ai2 {b j pos}:PE X (.Constant (.bool b) j pos) (tC (.bl b)):=fun _ _ _ H _ I h=>Constant_bool ⟨.bl b,H,I,rfl,h⟩
theorem aey {j pos}:PE X (.Constant .none j pos) (tC .non):=fun _ _ _ H _ I h=>Constant_none ⟨.non,H,I,rfl,h⟩
theorem aez {x j pos}:PE X (.Constant (.str x) j pos) (tC (.str x)):=fun _ _ _ H _ I h=>Calls.Constant_str ⟨.str x,H,I.tok _,⟨_,rfl⟩,h⟩
def Gl (X:Cx) (x:Str):Prop:=X.env.kindOf x=some .globalImplicit
theorem ux {E:Value→Shared→Prop} {pins:List (Addr × Obj)} {s:Shared} {σ:St} {H:Hp} {x:Str} {u:Value} {pos:Pos} {Q:Value→Shared→Prop} (I:Inv X pins σ H s) (hg:Gl X x) (hm:X.mg x=some u) (h:Q u s)
  (hd:(x == ("__debug__" : Str))=false:=by decide):wpAny (model X.prog X.w) X.A (eval (.Name x pos) X.env) Q E s :=
 Calls.Name_function_global I.ok.kind hg (Calls.loadGlobal_global (by rw [I.ok.glob];exact I.mod.glob.keeps I.bk) hm h) hd
theorem a4b {E:Value→Shared→Prop} {pins:List (Addr × Obj)} {s:Shared} {σ:St} {H:Hp} {x:Str} {u:Value} {pos:Pos} {Q:Value→Shared→Prop} (I:Inv X pins σ H s) (hg:Gl X x) (hm:X.mg x=none) (hv:bootBuiltins x=some u) (h:Q u s)
  (hn:x ≠ "__name__":=by decide) (hd:(x == ("__debug__" : Str))=false:=by decide):wpAny (model X.prog X.w) X.A (eval (.Name x pos) X.env) Q E s:=by
 obtain ⟨mb,h1,h2⟩:=I.mod.blt
 exact Calls.Name_function_global I.ok.kind hg (Calls.loadGlobal_builtin (by rw [I.ok.glob];exact I.mod.glob.keeps I.bk) hm (by rw [I.ok.blt];exact h1.keeps I.bk) ((h2 x hn).trans hv) h) hd
theorem jm {x:Str} {v:V} {u:Value} {pos:Pos} (hg:Gl X x) (hm:X.mg x=some u) (r:RelV v u) (hd:(x == ("__debug__" : Str))=false:=by decide):PE X (.Name x pos) (tC v) :=
 fun _ _ _ H _ I h=>ux I hg hm ⟨v,H,I,r,h⟩ hd
theorem a70 {x:Str} {v:V} {u:Value} {pos:Pos} (hg:Gl X x) (hm:X.mg x=none) (hv:bootBuiltins x=some u) (r:RelV v u) (hn:x ≠ "__name__":=by decide) (hd:(x == ("__debug__" : Str))=false:=by decide):PE X (.Name x pos) (tC v) :=
 fun _ _ _ H _ I h=>a4b I hg hm hv ⟨v,H,I,r,h⟩ hn hd
variable {a b:Expr} {ta tb:TE} {pos:Pos}
variable {tA tB':TT} {rest:List Expr}
def akg (t u:TT):TT:=fun σ H Q=>t σ H fun c H1=>if c=true then u σ H1 Q else Q false H1
def tOr (t u:TT):TT:=fun σ H Q=>t σ H fun c H1=>if c=true then Q true H1 else u σ H1 Q
def akh (t:TT):TT:=fun σ H Q=>t σ H fun c H1=>Q (!c) H1
theorem abu (ha:PT X a tA):PW X (.BoolOp .And [a] pos) tA:=by
 intro wh pins s σ H Q I h
 refine isTrue_and (thn (ha pins s σ H Q I h) fun c s1 e=>?_)
 cases c with
 | true=>exact isTrue_and_nil e
 | false=>exact e
theorem af0 (ha:PT X a tA):PW X (.BoolOp .Or [a] pos) tA:=by
 intro wh pins s σ H Q I h
 refine isTrue_or (thn (ha pins s σ H Q I h) fun c s1 e=>?_)
 cases c with
 | false=>exact isTrue_or_nil e
 | true=>exact e
theorem af1 (ha:PT X a tA) (hb:PW X (.BoolOp .And (b::rest) pos) tB'):PW X (.BoolOp .And (a::b::rest) pos) (akg tA tB'):=by
 intro wh pins s σ H Q I h
 refine isTrue_and (thn (ha pins s σ H _ I h) fun c s1 ⟨H1,I1,q1⟩=>?_)
 cases c with
 | true=>exact hb wh pins s1 σ H1 Q I1 q1
 | false=>exact ⟨H1,I1,q1⟩
theorem ai3 (ha:PT X a tA) (hb:PW X (.BoolOp .Or (b::rest) pos) tB'):PW X (.BoolOp .Or (a::b::rest) pos) (tOr tA tB'):=by
 intro wh pins s σ H Q I h
 refine isTrue_or (thn (ha pins s σ H _ I h) fun c s1 ⟨H1,I1,q1⟩=>?_)
 cases c with
 | true=>exact ⟨H1,I1,q1⟩
 | false=>exact hb wh pins s1 σ H1 Q I1 q1
theorem af2 (ha:PT X a tA):PT X (.UnaryOp .Not a pos) (akh tA):=by
 intro pins s σ H Q I h
 exact isTrue_not (ha pins s σ H (fun c H1=>Q (!c) H1) I h)
def ai4 (ta tb:TE):TE:=fun σ H Q=>ta σ H fun x H1=>∃ c,x = .bl c∧if c=true then tb σ H1 Q else Q (.bl false) H1
def aki (ta tb:TE):TE:=fun σ H Q=>ta σ H fun x H1=>∃ c,x = .bl c∧if c=true then Q (.bl true) H1 else tb σ H1 Q
def ai5 (ta:TE):TE:=fun σ H Q=>ta σ H fun x H1=>∃ c,x = .bl c∧Q (.bl (!c)) H1
theorem af3 {op} {t:TE} (h:PE X a t):PE X (.BoolOp op [a] pos) t:=fun pins s σ H Q I hw=>BoolOp_one (h pins s σ H Q I hw)
theorem af4 (ha:PE X a ta) (hb:PE X (.BoolOp .And (b::rest) pos) tb):PE X (.BoolOp .And (a::b::rest) pos) (ai4 ta tb):=by
 intro pins s σ H Q I h
 refine BoolOp_and (thn (ha pins s σ H _ I h) fun v s1 ⟨x,H1,I1,r1,q1⟩=>?_)
 obtain ⟨c,rfl,q1⟩:=q1
 cases r1
 refine wpAny_truthy_bool ?_
 cases c with
 | true=>exact hb pins s1 σ H1 Q I1 q1
 | false=>exact ⟨.bl false,H1,I1,rfl,q1⟩
theorem ai6 (ha:PE X a ta) (hb:PE X (.BoolOp .Or (b::rest) pos) tb):PE X (.BoolOp .Or (a::b::rest) pos) (aki ta tb):=by
 intro pins s σ H Q I h
 refine BoolOp_or (thn (ha pins s σ H _ I h) fun v s1 ⟨x,H1,I1,r1,q1⟩=>?_)
 obtain ⟨c,rfl,q1⟩:=q1
 cases r1
 refine wpAny_truthy_bool ?_
 cases c with
 | false=>exact hb pins s1 σ H1 Q I1 q1
 | true=>exact ⟨.bl true,H1,I1,rfl,q1⟩
theorem af5 (ha:PE X a ta):PE X (.UnaryOp .Not a pos) (ai5 ta):=by
 intro pins s σ H Q I h
 refine UnaryOp_ (thn (ha pins s σ H _ I h) fun v s1 ⟨x,H1,I1,r1,q1⟩=>?_)
 obtain ⟨c,rfl,q1⟩:=q1
 cases r1
 exact not_of (wpAny_truthy_bool ⟨.bl (!c),H1,I1,rfl,q1⟩)
end
end L2
namespace L2
open PySem PySem.Spec PyProof.Rows
def SqL (K:PySem.W.Frag) (H:Hp) (a:Addr) (xs:List V):Prop :=
 Rd H a (.lst xs) ∨
  ∃ (o:Obj) (its:Array Value) (n:Nat),K.lookup a=some o∧o.cls = .type "list"∧o.dict=none∧o.data = .seq its n∧its.size≤sizeLine∧Vals xs its.toList
def SqT (K:PySem.W.Frag) (H:Hp) (a:Addr) (xs:List V):Prop :=
 Rd H a (.tup xs) ∨
  ∃ (o:Obj) (its:Array Value) (n:Nat),K.lookup a=some o∧o.cls = .type "tuple"∧o.data = .seq its n∧its.size≤sizeLine∧Vals xs its.toList
def akj:Value→Option V
 | .none=>some .non
 | .bool b=>some (.bl b)
 | .int i _=>some (.int i)
 | .str x _=>some (.str x)
 | .bytes b _=>some (.byt b)
 | .float b _=>some (.flt b)
 | .ref a=>some (.ref a)
 | .type n=>some (.ty n)
 | _=>none
theorem RelV.abs {x:V} {u:Value} (r:RelV x u):akj u=some x:=by
 cases x with
 | non=>cases r;rfl
 | bl _=>cases r;rfl
 | int _=>obtain ⟨t,rfl⟩:=r;rfl
 | str _=>obtain ⟨t,rfl⟩:=r;rfl
 | byt _=>obtain ⟨t,rfl⟩:=r;rfl
 | flt _=>obtain ⟨t,rfl⟩:=r;rfl
 | ref _=>cases r;rfl
 | ty _=>cases r;rfl
theorem RelV.inj {x y:V} {u:Value} (r:RelV x u) (q:RelV y u):x=y:=Option.some.inj (r.abs.symm.trans q.abs)
theorem Vals.inj:∀ {xs ys:List V} {us:List Value},Vals xs us→Vals ys us→xs=ys
 | _,_,_, .nil, .nil=>rfl
 | _,_,_, .cons r t, .cons r' t'=>by rw [r.inj r',Vals.inj t t']
section
variable {X:Cx} {pins:List (Addr × Obj)} {σ:St} {H:Hp} {s:Shared} {a:Addr} {xs ys:List V}
theorem SqL.of {K:PySem.W.Frag} (h:H a=some (.lst xs)):SqL K H a xs:=.inl (.inl h)
theorem SqT.of {K:PySem.W.Frag} (h:H a=some (.tup xs)):SqT K H a xs:=.inl (.inl h)
theorem Inv.list (I:Inv X pins σ H s) (h:SqL X.K H a xs):∃ its:List Value,Vals xs its∧PlainL s.heap a its.toArray∧xs.length≤sizeLine:=by
 rcases h with h | ⟨o,its,n,hk,hc,hd,hs,hz,r⟩
 ·obtain ⟨z,its,n,r,e⟩:=h.ok I.hok
  exact ⟨its,r,⟨_,n,e,rfl,rfl,rfl⟩,z⟩
 ·refine ⟨its.toList,r,⟨o,n,I.kIn a o hk,hc,hd,by simpa using hs⟩,?_⟩
  have e:=r.length
  simp only [Array.length_toList] at e
  omega
theorem Inv.tuple (I:Inv X pins σ H s) (h:SqT X.K H a xs):∃ its:List Value,Vals xs its∧IsTup s.heap a its.toArray∧xs.length≤sizeLine:=by
 rcases h with h | ⟨o,its,n,hk,hc,hs,hz,r⟩
 ·obtain ⟨z,its,r,p⟩:=h.ok I.hok
  exact ⟨its,r,p,z⟩
 ·refine ⟨its.toList,r,⟨o,I.kIn a o hk,hc,n,by simpa using hs⟩,?_⟩
  have e:=r.length
  simp only [Array.length_toList] at e
  omega
theorem Inv.list_inj (I:Inv X pins σ H s) (h:SqL X.K H a xs) (h':SqL X.K H a ys):xs=ys:=by
 obtain ⟨its,r,⟨o,n,e,_,_,d⟩,_⟩:=I.list h
 obtain ⟨its',r',⟨o',n',e',_,_,d'⟩,_⟩:=I.list h'
 rw [e] at e';cases e'
 rw [d] at d'
 injection d' with d1 _
 have:its=its':=by simpa using congrArg Array.toList d1
 subst this
 exact r.inj r'
theorem Inv.tuple_inj (I:Inv X pins σ H s) (h:SqT X.K H a xs) (h':SqT X.K H a ys):xs=ys:=by
 obtain ⟨its,r,⟨o,e,_,n,d⟩,_⟩:=I.tuple h
 obtain ⟨its',r',⟨o',e',_,n',d'⟩,_⟩:=I.tuple h'
 rw [e] at e';cases e'
 rw [d] at d'
 injection d' with d1 _
 have:its=its':=by simpa using congrArg Array.toList d1
 subst this
 exact r.inj r'
end
abbrev Cx.wish (X:Cx) (E:Value→Shared→Prop):Cx:={ X with xe:=E }
abbrev Cx.nox (X:Cx):Cx:=X.wish fun _ _=>False
theorem Cx.Ok.wish {X:Cx} (ok:X.Ok) (E:Value→Shared→Prop):(X.wish E).Ok :=
 ⟨ok.mod,ok.kind,ok.glob,ok.blt,ok.above,ok.inj,ok.has,ok.cab,ok.hd,ok.frames,ok.stk,ok.exf,ok.bs,ok.bsz,ok.noex,ok.exfs,ok.funs,ok.frf⟩
theorem Cx.Ok.unwish {X:Cx} {E:Value→Shared→Prop} (ok:(X.wish E).Ok):X.Ok :=
 ⟨ok.mod,ok.kind,ok.glob,ok.blt,ok.above,ok.inj,ok.has,ok.cab,ok.hd,ok.frames,ok.stk,ok.exf,ok.bs,ok.bsz,ok.noex,ok.exfs,ok.funs,ok.frf⟩
section
variable {X:Cx} {pins:List (Addr × Obj)} {σ:St} {H:Hp} {s:Shared} {E:Value→Shared→Prop}
theorem Inv.wish (I:Inv X pins σ H s) (E:Value→Shared→Prop):Inv (X.wish E) pins σ H s:=⟨I.ok.wish E,I.os,I.bare,I.base,I.loc,I.cell,I.free,I.freeC,I.pin,I.hok,I.len⟩
theorem Inv.unwish (I:Inv (X.wish E) pins σ H s):Inv X pins σ H s:=⟨I.ok.unwish,I.os,I.bare,I.base,I.loc,I.cell,I.free,I.freeC,I.pin,I.hok,I.len⟩
theorem SP.unwish {D:Ends} {f:Flow} {s':Shared} (h:SP (X.wish E) pins D f s'):SP X pins D f s':=by
 cases f with
 | next=>obtain ⟨σ',H',I,q⟩:=h;exact ⟨σ',H',I.unwish,q⟩
 | brk=>obtain ⟨σ',H',I,q⟩:=h;exact ⟨σ',H',I.unwish,q⟩
 | cont=>obtain ⟨σ',H',I,q⟩:=h;exact ⟨σ',H',I.unwish,q⟩
 | ret u=>obtain ⟨v,σ',H',I,r,q⟩:=h;exact ⟨v,σ',H',I.unwish,r,q⟩
theorem PSs.nox {st:List Stmt} {t:TS} (h:PSs X.nox st t):PSs X st t:=fun pins s σ H D I hw =>
 wpAny_mono (h pins s σ H D (I.wish _) hw) (fun _ _ q=>q.unwish) fun _ _ z=>False.elim z
end
section
variable {X:Cx} {st:Stmt} {rest:List Stmt} {t u:TS} {e:Expr} {te:TE} {pos:Pos}
def ai7:TS:=fun D σ H=>D.nx σ H
def akk (t u:TS):TS:=fun D σ H=>t { D with nx:=u D } σ H
theorem abv:PSs X [] ai7:=fun _ _ σ H _ I h=>wpAny_execs_nil ⟨σ,H,I,h⟩
theorem a96 (h1:PS X st t) (h2:PSs X rest u):PSs X (st::rest) (akk t u):=by
 intro pins s σ H D I h
 refine wpAny_execs_cons (thn (h1 pins s σ H { D with nx:=u D } I h) fun f s1 q=>?_)
 cases f with
 | next =>
  obtain ⟨σ',H',I',q⟩:=q
  exact h2 pins s1 σ' H' D I' q
 | ret v=>exact q
 | brk=>exact q
 | cont=>exact q
theorem abw (h1:PS X st t):PSs X [st] t:=by
 intro pins s σ H D I h
 refine wpAny_execs_cons (thn (h1 pins s σ H D I h) fun f s1 q=>?_)
 cases f with
 | next=>exact wpAny_execs_nil q
 | ret v=>exact q
 | brk=>exact q
 | cont=>exact q
theorem Inv.quiet {pins:List (Addr × Obj)} {σ:St} {H:Hp} {s:Shared} (I:Inv X pins σ H s):interactive X.env=false:=by simp [interactive,I.ok.kind]
def akl (te:TE):TS:=fun D σ H=>te σ H D.rt
theorem af6 (he:PE X e te):PS X (.Return (some e) pos) (akl te):=by
 intro pins s σ H D I h
 exact wpAny_Return_some (thn (he pins s σ H _ I h) fun v s1 ⟨x,H1,I1,r1,q1⟩=>⟨x,σ,H1,I1,r1,q1⟩)
def akm (c:TT) (t u:TS):TS:=fun D σ H=>c σ H fun b H1=>if b=true then t D σ H1 else u D σ H1
theorem ai8 {c:Expr} {a b:List Stmt} {tc:TT} (hc:PT X c tc) (ha:PSs X a t) (hb:PSs X b u):PS X (.If c a b pos) (akm tc t u):=by
 intro pins s σ H D I h
 refine wpAny_If (thn (hc pins s σ H _ I h) fun d s1 ⟨H1,I1,q1⟩=>?_)
 cases d with
 | true=>exact ha pins s1 σ H1 D I1 q1
 | false=>exact hb pins s1 σ H1 D I1 q1
end
abbrev TG:=V→St→Hp→(St→Hp→Prop)→Prop
def PG (X:Cx) (target:Expr) (t:TG):Prop :=
 ∀ (pins:List (Addr × Obj)) (s:Shared) (σ:St) (H:Hp) (v:V) (u:Value) (Q:St→Hp→Prop),Inv X pins σ H s→RelV v u→t v σ H Q →
  wpAny (model X.prog X.w) X.A (assign target X.env u) (fun _ s'=>∃ σ' H',Inv X pins σ' H' s'∧Q σ' H') X.xe s
abbrev ai9:=V→V→V→Hp→(Hp→Prop)→Prop
def ajh (X:Cx) (t:ai9):Prop :=
 ∀ (pins:List (Addr × Obj)) (s:Shared) (σ:St) (H:Hp) (o i v:V) (ov iv u:Value) (Q:Hp→Prop),Inv X pins σ H s→RelV o ov→RelV i iv→RelV v u→t o i v H Q →
  wpAny (model X.prog X.w) X.A (setItem ov iv u) (fun _ s'=>∃ H',Inv X pins σ H' s'∧Q H') X.xe s
abbrev TIp:=V→V→Hp→VK→Prop
def PIp (X:Cx) (op:Operator) (t:TIp):Prop :=
 ∀ (pins:List (Addr × Obj)) (s:Shared) (σ:St) (H:Hp) (x y:V) (v u:Value) (Q:VK),Inv X pins σ H s→RelV x v→RelV y u→t x y H Q →
  wpAny (model X.prog X.w) X.A (inplaceOp op v u) (EP X pins σ Q) X.xe s
section
variable {X:Cx} {pos:Pos}
def abx (i:Nat):TG:=fun v σ H Q=>Q (σ.set i (some v)) H
theorem a71 {i:Nat} {x:Str} (hN:X.N.Nodup) (hi:X.N[i]? = some x) (hx:Loc X.env.scope x) (hf:X.fn x=true∨X.env.scope.names.lookup x=some .local:=by first | exact .inl rfl | exact .inr rfl | assumption):PG X (.Name x pos) (abx i):=by
 intro pins s σ H v u Q I r h
 exact wpAny_assign_Name (yt I hN hi hx r (fun s' I'=>⟨_,H,I',h⟩) hf)
def uy (to ti:TE) (t:ai9):TG:=fun v σ H Q=>to σ H fun o H1=>ti σ H1 fun i H2=>t o i v H2 fun H3=>Q σ H3
theorem af7 {o i:Expr} {to ti:TE} {t:ai9} (ho:PE X o to) (hi:PE X i ti) (hs:ajh X t)
  (ha:∀ v,assign (.Subscript o i pos) X.env v=(do
   let ov ← holding [v] (eval o X.env)
   let iv ← holding [v,ov] (eval i X.env)
   standAt pos
   holding [v,ov,iv] (setItem ov iv v)
   release [v,ov,iv] []):=by intro _;rfl):PG X (.Subscript o i pos) (uy to ti t):=by
 intro pins s σ H v u Q I r h
 rw [ha]
 refine wpAny_bind (wpAny_holding (thn (ho pins s σ H _ I h) fun ov s1 ⟨x,H1,I1,r1,q1⟩=>?_))
 refine wpAny_bind (wpAny_holding (thn (hi pins s1 σ H1 _ I1 q1) fun iv s2 ⟨y,H2,I2,r2,q2⟩=>?_))
 refine wpAny_bind (wpAny_standAt (wpAny_bind (wpAny_holding (thn (hs pins s2 σ H2 x y v ov iv u _ I2 r1 r2 r q2) fun _ s3 ⟨H3,I3,q3⟩=>?_))))
 exact wpAny_release ⟨σ,H3,I3,q3⟩
def aji (te:TE) (g:TG):TS:=fun D σ H=>te σ H fun x H1=>g x σ H1 D.nx
theorem af8 {tg e:Expr} {te:TE} {g:TG} (he:PE X e te) (hg:PG X tg g) (hs:swapsWithSole [tg] e pos.line X.env=pure false:=by rfl) (hw:swappedStores [tg] e X.env=pure none:=by rfl)
  (h1:(assignEach [tg] X.env).map (·.2)=[assign tg X.env]:=by rfl):PS X (.Assign [tg] e pos) (aji te g):=by
 intro pins s σ H D I h
 refine wpAny_Assign_stores (thn (he pins s σ H _ I h) fun v s1 ⟨x,H1,I1,r1,q1⟩=>?_) hs hw
 rw [h1]
 exact thn (hg pins s1 σ H1 x v _ I1 r1 q1) fun _ s2 q=>q
theorem af9 {i:Nat} {x:Str} {e:Expr} {te:TE} {pos':Pos} (hN:X.N.Nodup) (hi:X.N[i]? = some x) (hx:Loc X.env.scope x) (he:PE X e te) (hs:swapsWith e (some (.Name x pos')) pos.line X.env=pure false:=by rfl) (hf:X.fn x=true∨X.env.scope.names.lookup x=some .local:=by first | exact .inl rfl | exact .inr rfl | assumption) :
  PS X (.Assign [.Name x pos'] e pos) (aji te (abx i)):=by
 intro pins s σ H D I h
 refine wpAny_Assign_Name (thn (he pins s σ H _ I h) fun v s1 ⟨y,H1,I1,r1,q1⟩=>?_) hs
 exact yt I1 hN hi hx r1 (fun s2 I2=>⟨_,H1,I2,q1⟩) hf
def akn (i:Nat) (te:TE) (ti:TIp):TS:=fun D σ H=>∃ x,σ[i]? = some (some x)∧te σ H fun y H1=>ti x y H1 fun z H2=>D.nx (σ.set i (some z)) H2
theorem afa {i:Nat} {x:Str} {e:Expr} {te:TE} {op:Operator} {ti:TIp} {pos':Pos} (hN:X.N.Nodup) (hi:X.N[i]? = some x) (hx:Loc X.env.scope x) (he:PE X e te) (ho:PIp X op ti) (hf:X.fn x=true∨X.env.scope.names.lookup x=some .local:=by first | exact .inl rfl | exact .inr rfl | assumption) :
  PS X (.AugAssign (.Name x pos') op e pos) (akn i te ti):=by
 intro pins s σ H D I h
 obtain ⟨v,e1,h⟩:=h
 obtain ⟨m,hn,hl⟩:=I.loc
 have vis:Vis X.env.scope x:=by rcases hx with k | k;exact .inl k;exact .inr (.inl k)
 obtain ⟨u,r,l⟩:=hl i x v hi e1 vis
 refine wpAny_AugAssign_Name ?_
 have go:wpAny (model X.prog X.w) X.A (eval e X.env) (fun w s₂=>wpAny (model X.prog X.w) X.A (inplaceOp op u w) (fun r s₃=>wpAny (model X.prog X.w) X.A (storeName X.env x r) (fun _=>SP X pins D .next) X.xe s₃) X.xe s₂) X.xe s:=by
  refine thn (he pins s σ H _ I h) fun w s1 ⟨y,H1,I1,r1,q1⟩=>?_
  refine thn (ho pins s1 σ H1 v y u w _ I1 r r1 q1) fun z s2 ⟨zv,H2,I2,r2,q2⟩=>?_
  exact yt I2 hN hi hx r2 (fun s3 I3=>⟨_,H2,I3,q2⟩) hf
 rcases l with ⟨hk,hm⟩ | ⟨hk,c,hc,hcell⟩
 ·exact wpAny_loadName_local I.ok.kind hk hn hm go
 ·rcases hk with hk | hk
  ·exact wpAny_loadName_cell I.ok.kind hk hc hcell go
  ·rcases hx with k | k
   ·have:X.env.scope.names.lookup x=some .free:=hk
    rw [k] at this;cases this
   ·have:X.env.scope.names.lookup x=some .free:=hk
    rw [k] at this;cases this
end
section
variable {X:Cx} {pos:Pos}
def afb (c:TT) (tb:TS):TS:=fun D σ H=>∃ W:Nat→St→Hp→Prop,(∃ m,W m σ H)∧∀ m σ H,W m σ H →
 c σ H fun b H1=>if b=true then ∃ N:St→Hp→Prop,(∀ σ' H',N σ' H'→∃ m',m'<m∧W m' σ' H')∧tb { D with nx:=N,ct:=N,bk:=D.nx } σ H1 else D.nx σ H1
theorem a97 {c:Expr} {body:List Stmt} {tc:TT} {tb:TS} (hp:PassesOwn (model X.prog X.w) X.A X.env X.xe) (hc:PT X c tc) (hb:PSs X body tb):PS X (.While c body [] pos) (afb tc tb):=by
 intro pins s σ H D I h
 obtain ⟨W,⟨m0,w0⟩,turn⟩:=h
 refine wpAny_While (codeAny_whileLoop (fun n s'=>∃ σ' H',Inv X pins σ' H' s'∧W n σ' H') ?_ m0 ⟨σ,H,I,w0⟩)
 rintro n s1 ⟨σ1,H1,I1,w1⟩
 refine wpAny_passesOwn hp (thn (hc pins s1 σ1 H1 _ I1 (turn n σ1 H1 w1)) fun b s2 ⟨H2,I2,q2⟩=>?_)
 cases b with
 | true =>
  obtain ⟨N,hN,q2⟩:=q2
  rw [if_pos rfl]
  refine wpAny_passesOwn hp (thn (hb pins s2 σ1 H2 _ I2 q2) fun f s3 q3=>?_)
  cases f with
  | next =>
   obtain ⟨σ3,H3,I3,n3⟩:=q3
   obtain ⟨m',hm,w3⟩:=hN σ3 H3 n3
   exact ⟨m',hm,σ3,H3,I3,w3⟩
  | cont =>
   obtain ⟨σ3,H3,I3,n3⟩:=q3
   obtain ⟨m',hm,w3⟩:=hN σ3 H3 n3
   exact ⟨m',hm,σ3,H3,I3,w3⟩
  | brk=>exact q3
  | ret v=>exact q3
 | false =>
  rw [if_neg Bool.false_ne_true]
  exact wpAny_execs_nil ⟨σ1,H2,I2,q2⟩
end
structure It where
 go:Nat→Hp→Prop
 yld:Nat→Hp→V→Hp→Prop
 stop:Nat→Hp→Prop
def a5p (X:Cx) (pins:List (Addr × Obj)) (H:Hp) (b:Addr):Prop :=
 H b=none∧b≠X.env.locals∧b ∉ X.fs∧(b∈X.ex∨X.s₀.heap.objs.size≤b)∧(∀ x c,X.env.cells.lookup x=some c→c≠b)∧∀ p∈X.pn++pins,p.1≠b
theorem Inv.fpOk {X:Cx} {pins:List (Addr × Obj)} {σ:St} {H H':Hp} {s:Shared} {b:Addr} (I:Inv X pins σ H s) (hb:s.heap.objs.size≤b) (hn:H' b=none):a5p X pins H' b:=by
 refine ⟨hn,Nat.ne_of_gt (Nat.lt_of_lt_of_le I.lt hb),I.nofs hb, .inr (Nat.le_trans I.sz hb),fun x c e z=>?_,fun p hp z=>?_⟩
 ·obtain ⟨v,q⟩:=I.cell x c e
  exact absurd (Nat.lt_of_lt_of_le q.lt (by rw [z];exact hb)) (Nat.lt_irrefl _)
 ·exact absurd (Nat.lt_of_lt_of_le (Heap.lt_size (I.pin p hp).1) (by rw [z];exact hb)) (Nat.lt_irrefl _)
structure Turn (P:Program) (w:World) (K:PySem.W.Frag) (tg:Expr) (J:It) (fp:List Addr) (it:Addr) (tn:Nat→Heap→Prop):Prop where
 mem:it∈fp
 obj:∀ i h,tn i h→∀ b∈fp,∃ o,h.get? b=some o∧∀ v,o.data≠.cell v
 keep:∀ i h h',tn i h→(∀ b∈fp,∀ o,h.get? b=some o→h'.get? b=some o)→tn i h'
 item:∀ (X:Cx),X.prog=P→X.w=w→X.K=K→X.calm=true→∀ (i:Nat) (pins:List (Addr × Obj)) (s:Shared) (σ:St) (H:Hp) (E:Value→Shared→Prop),Inv X pins σ H s→(∀ b∈fp,a5p X pins H b)→tn i s.heap→J.go i H →
  wpAny (model P w) X.A (pyNext (.ref it)) (fun r s1=>∃ u,r=some u ∧
   wpAny (model P w) X.A (letOwnedTupleGo tg (.ref it) u) (fun _ s2=>∃ x H',Inv X pins σ H' s2∧RelV x u∧J.yld i H x H'∧tn (i+1) s2.heap∧∀ b∈fp,H' b=none) E s1) E s
 done:∀ (X:Cx),X.prog=P→X.w=w→X.K=K→X.calm=true→∀ (i:Nat) (pins:List (Addr × Obj)) (s:Shared) (σ:St) (H:Hp) (E:Value→Shared→Prop),Inv X pins σ H s→(∀ b∈fp,a5p X pins H b)→tn i s.heap→J.stop i H →
  wpAny (model P w) X.A (pyNext (.ref it)) (fun r s1=>r=none∧Inv X pins σ H s1) E s
 self:∀ (A:Around) (i:Nat) (s:Shared) (Q:Value→Shared→Prop) (E:Value→Shared→Prop),tn i s.heap→Q (.ref it) s→wpAny (model P w) A (pyIter (.ref it)) Q E s
abbrev TI:=St→Hp→(It→Hp→Prop)→Prop
def PIE (X:Cx) (pins:List (Addr × Obj)) (σ:St) (tg:Expr) (R:It→Hp→Prop) (itv:Value) (s2:Shared):Prop :=
 ∃ (it:Addr) (fp:List Addr) (tn:Nat→Heap→Prop) (J:It) (H':Hp),itv = .ref it∧Inv X pins σ H' s2∧Turn X.prog X.w X.K tg J fp it tn∧tn 0 s2.heap∧(∀ b∈fp,a5p X pins H' b)∧R J H'
def PI (X:Cx) (tg iter:Expr) (wi:TI):Prop :=
 ∀ (pins:List (Addr × Obj)) (s:Shared) (σ:St) (H:Hp) (R:It→Hp→Prop),Inv X pins σ H s→wi σ H R →
  wpAny (model X.prog X.w) X.A (eval iter X.env) (fun v s1=>wpAny (model X.prog X.w) X.A (pyIter v) (PIE X pins σ tg R) X.xe s1) X.xe s
theorem a98 {M:Model} {A:Around} {E:Value→Shared→Prop} {s:Shared} {tg:Expr} {it:Addr} {u:Value} {o:Obj} {n:String} {vs:Array Value} {Q:Unit→Shared→Prop} (ho:s.heap.get? it=some o) (hc:o.cls = .type n) (hd:o.data = .fields vs)
  (hn:["enumerate", "zip", "dict_itemiterator", "dict_reverseitemiterator", "odict_iterator", "itertools.zip_longest", "itertools.pairwise"].contains n=false) (hQ:Q () s):wpAny M A (letOwnedTupleGo tg (.ref it) u) Q E s:=by
 unfold letOwnedTupleGo
 cases tg<;>first
  | exact wpAny_pure hQ
  | (cases u<;>first
    | exact wpAny_pure hQ
    | (refine wpAny_bind (wpAny_load ho ?_)
       rw [hc,hd]
       show wpAny M A (if (["enumerate", "zip", "dict_itemiterator", "dict_reverseitemiterator", "odict_iterator", "itertools.zip_longest", "itertools.pairwise"].contains n && vs[0]? == some (rawInt _))=true then _ else _) Q E s
       rw [if_neg (by intro h;rw [hn,Bool.false_and] at h;cases h)]
       exact wpAny_pure hQ))
def Itl (K:PySem.W.Frag) (a:Addr):It :=
 ⟨fun i H=>∃ xs x,SqL K H a xs∧xs[i]? = some x,fun i H x H'=>H'=H∧∀ xs,SqL K H a xs→xs[i]? = some x,fun i H=>∃ xs,SqL K H a xs∧xs.length≤i⟩
def Itt (K:PySem.W.Frag) (a:Addr):It :=
 ⟨fun i H=>∃ xs x,SqT K H a xs∧xs[i]? = some x,fun i H x H'=>H'=H∧∀ xs,SqT K H a xs→xs[i]? = some x,fun i H=>∃ xs,SqT K H a xs∧xs.length≤i⟩
def Itr (lo:Int) (n:Nat):It:=⟨fun i _=>i<n,fun i H x H'=>H'=H∧x = .int (lo+i),fun i _=>n≤i⟩
theorem a72 {P:Program} {w:World} {K:PySem.W.Frag} {tg:Expr} (a it:Addr):Turn P w K tg (Itl K a) [it] it (fun i h=>h.IsListIter it a i) where
 mem:=by simp
 obj:=fun i h st b hb=>by
  have e:b=it:=by simpa using hb
  subst e
  obtain ⟨o,e,c,d⟩:=st
  exact ⟨o,e,fun v z=>by rw [d] at z;cases z⟩
 keep:=fun i h h' st k=>st.at fun o e=>k it (by simp) o e
 item:=by
  intro X hP hw hK hc i pins s σ H E I hf st hg
  subst hP hw hK
  obtain ⟨xs,x,hq,hx⟩:=hg
  obtain ⟨its,rv,p,hz⟩:=I.list hq
  obtain ⟨u,hu,ru⟩:=rv.get hx
  obtain ⟨f0,f1,f2,f3,f4,f5⟩:=hf it (by simp)
  refine wpAny_pyNext_list_item st p.isList (x:=u) (by simpa using hu) fun h' st' sb=>?_
  have I1:Inv X pins σ H { s with heap:=h' }:=I.turned (t':=s.toks) (fun b o hb e=>(sb.2 b hb).trans e) f0 f1 f3 f4 f5
  obtain ⟨o,e,c,d⟩:=id st'
  exact ⟨u,rfl,a98 (s:={ s with heap:=h' }) e c d (by decide) ⟨x,H,I1,ru,⟨rfl,fun ys hy=>by rw [I.list_inj hy hq];exact hx⟩,st',fun b hb=>(hf b hb).1⟩⟩
 done:=by
  intro X hP hw hK hc i pins s σ H E I hf st hg
  subst hP hw hK
  obtain ⟨xs,hq,hx⟩:=hg
  obtain ⟨its,rv,p,hz⟩:=I.list hq
  obtain ⟨f0,f1,f2,f3,f4,f5⟩:=hf it (by simp)
  have hl:=rv.length
  exact wpAny_pyNext_list_end (I.ok.hd hc) st p.isList (by simp;omega) fun h' eb=>⟨rfl,I.turned (t':=s.toks) (fun b o hb e=>eb b o hb e) f0 f1 f3 f4 f5⟩
 self:=fun _ _ _ _ _ st h=>wpAny_pyIter_listiter st h
theorem a5q {P:Program} {w:World} {K:PySem.W.Frag} {tg:Expr} (a it:Addr):Turn P w K tg (Itt K a) [it] it (fun i h=>h.IsTupleIter it a i) where
 mem:=by simp
 obj:=fun i h st b hb=>by
  have e:b=it:=by simpa using hb
  subst e
  obtain ⟨o,e,c,d⟩:=st
  exact ⟨o,e,fun v z=>by rw [d] at z;cases z⟩
 keep:=fun i h h' st k=>st.at fun o e=>k it (by simp) o e
 item:=by
  intro X hP hw hK hc i pins s σ H E I hf st hg
  subst hP hw hK
  obtain ⟨xs,x,hq,hx⟩:=hg
  obtain ⟨its,rv,p,hz⟩:=I.tuple hq
  obtain ⟨u,hu,ru⟩:=rv.get hx
  obtain ⟨f0,f1,f2,f3,f4,f5⟩:=hf it (by simp)
  refine wpAny_pyNext_tuple_item st (show s.heap.IsTuple a its.toArray from p) (x:=u) (by simpa using hu) fun h' st' sb=>?_
  have I1:Inv X pins σ H { s with heap:=h' }:=I.turned (t':=s.toks) (fun b o hb e=>(sb.2 b hb).trans e) f0 f1 f3 f4 f5
  obtain ⟨o,e,c,d⟩:=id st'
  exact ⟨u,rfl,a98 (s:={ s with heap:=h' }) e c d (by decide) ⟨x,H,I1,ru,⟨rfl,fun ys hy=>by rw [I.tuple_inj hy hq];exact hx⟩,st',fun b hb=>(hf b hb).1⟩⟩
 done:=by
  intro X hP hw hK hc i pins s σ H E I hf st hg
  subst hP hw hK
  obtain ⟨xs,hq,hx⟩:=hg
  obtain ⟨its,rv,p,hz⟩:=I.tuple hq
  obtain ⟨f0,f1,f2,f3,f4,f5⟩:=hf it (by simp)
  have hl:=rv.length
  exact wpAny_pyNext_tuple_end (I.ok.hd hc) st (show s.heap.IsTuple a its.toArray from p) (by simp;omega) fun h' eb=>⟨rfl,I.turned (t':=s.toks) (fun b o hb e=>eb b o hb e) f0 f1 f3 f4 f5⟩
 self:=fun _ _ _ _ _ st h=>wpAny_pyIter_tupleiter st h
theorem a5r {P:Program} {w:World} {K:PySem.W.Frag} {tg:Expr} (it:Addr) (lo:Int) (n:Nat):Turn P w K tg (Itr lo n) [it] it (fun i h=>IsRangeIter h it (lo+(i:Nat)*1) ((n:Int) - (i:Nat)) 1) where
 mem:=by simp
 obj:=fun i h st b hb=>by
  have e:b=it:=by simpa using hb
  subst e
  exact ⟨_,st,fun v z=>by
   have z':Data.fields _=Data.cell v:=z
   cases z'⟩
 keep:=fun i h h' st k=>k it (by simp) _ st
 item:=by
  intro X hP hw hK hc i pins s σ H E I hf st hg
  subst hP hw hK
  obtain ⟨f0,f1,f2,f3,f4,f5⟩:=hf it (by simp)
  have W:=Walks.range (prog:=X.prog) (w:=X.w) (I.ok.hd hc) it lo 1 n
  refine W.item i s _ _ hg st fun v h' tk hv st' kk=>?_
  obtain ⟨t,rfl⟩:=hv
  have I1:Inv X pins σ H { s with heap:=h',toks:=tk }:=I.turned (fun b o hb e=>kk b o (by simpa using hb) e) f0 f1 f3 f4 f5
  refine ⟨_,rfl,a98 (s:={ s with heap:=h',toks:=tk }) (n := "range_iterator") st' rfl rfl (by decide) ⟨.int (lo+i),H,I1,⟨t,?_⟩,⟨rfl,rfl⟩,st',fun b hb=>(hf b hb).1⟩⟩
  rw [Int.mul_one]
 done:=by
  intro X hP hw hK hc i pins s σ H E I hf st hg
  subst hP hw hK
  obtain ⟨f0,f1,f2,f3,f4,f5⟩:=hf it (by simp)
  exact wpAny_pyNext_range_end (I.ok.hd hc) st (by have:n≤i:=hg;omega) fun h' eb=>⟨rfl,I.turned (t':=s.toks) (fun b o hb e=>eb b o hb e) f0 f1 f3 f4 f5⟩
 self:=fun _ _ _ _ _ st h=>wpAny_pyIter_rangeiter st h
end L2
namespace L2
open PySem PySem.Spec PyProof.Rows
section
variable {X:Cx} {tg:Expr}
def aia (K:PySem.W.Frag) (tl:TE):TI:=fun σ H R=>tl σ H fun x H1=>∃ a,x = .ref a∧(∃ xs,SqL K H1 a xs)∧R (Itl K a) H1
def ako (K:PySem.W.Frag) (tl:TE):TI:=fun σ H R=>tl σ H fun x H1=>∃ a,x = .ref a∧(∃ xs,SqT K H1 a xs)∧R (Itt K a) H1
theorem a73 {l:Expr} {tl:TE} (hl:PE X l tl):PI X tg l (aia X.K tl):=by
 intro pins s σ H R I h
 refine thn (hl pins s σ H _ I h) fun v s1 ⟨x,H1,I1,r1,q1⟩=>?_
 obtain ⟨a,e,⟨xs,hq⟩,q⟩:=q1
 subst e
 cases r1
 obtain ⟨its,rv,p,hz⟩:=I1.list hq
 refine wpAny_pyIter_list p.isList ?_
 refine ⟨s1.heap.objs.size,[s1.heap.objs.size],_,_,H1,rfl,I1.kept (t':=s1.toks) fun b o e=>Heap.get?_push_of_some _ e,a72 a _,⟨_,Heap.get?_push_size _ rfl,rfl,rfl⟩,fun b hb=>?_,q⟩
 have e:b=s1.heap.objs.size:=by simpa using hb
 subst e
 exact I1.fpOk (Nat.le_refl _) (I1.hok.fresh (Nat.le_refl _))
theorem afc {l:Expr} {tl:TE} (hl:PE X l tl):PI X tg l (ako X.K tl):=by
 intro pins s σ H R I h
 refine thn (hl pins s σ H _ I h) fun v s1 ⟨x,H1,I1,r1,q1⟩=>?_
 obtain ⟨a,e,⟨xs,hq⟩,q⟩:=q1
 subst e
 cases r1
 obtain ⟨its,rv,p,hz⟩:=I1.tuple hq
 refine wpAny_pyIter_tuple (show s1.heap.IsTuple a its.toArray from p) ?_
 refine ⟨s1.heap.objs.size,[s1.heap.objs.size],_,_,H1,rfl,I1.kept (t':=s1.toks) fun b o e=>Heap.get?_push_of_some _ e,a5q a _,⟨_,Heap.get?_push_size _ rfl,rfl,rfl⟩,fun b hb=>?_,q⟩
 have e:b=s1.heap.objs.size:=by simpa using hb
 subst e
 exact I1.fpOk (Nat.le_refl _) (I1.hok.fresh (Nat.le_refl _))
theorem a99 {pins:List (Addr × Obj)} {σ:St} {H:Hp} {s:Shared} {R:It→Hp→Prop} {E:Value→Shared→Prop} {lo hi:Int} {t u v:Tok} {tk:Nat} (I:Inv X pins σ H s) (h1 : -(2 ^ 62)≤lo) (h2:lo<2 ^ 62) (h3 : -(2 ^ 62)≤hi) (h4:hi<2 ^ 62)
  (q:R (Itr lo (hi - lo).toNat) H):wpAny (model X.prog X.w) X.A (pyIter (.ref s.heap.objs.size)) (PIE X pins σ tg R) E { s with heap:=s.heap.push { cls:=.type "range",data:=.fields #[.int lo t, .int hi u, .int 1 v] },toks:=tk }:=by
 refine wpAny_pyIter_range (IsRange.new ..) (small_one h1 h2 h3 h4) ?_
 have I1:Inv X pins σ H { s with heap:=s.heap.push { cls:=.type "range",data:=.fields #[.int lo t, .int hi u, .int 1 v] },toks:=tk }:=I.kept fun b o e=>Heap.get?_push_of_some _ e
 refine ⟨(s.heap.push { cls:=.type "range",data:=.fields #[.int lo t, .int hi u, .int 1 v] }).objs.size,[(s.heap.push { cls:=.type "range",data:=.fields #[.int lo t, .int hi u, .int 1 v] }).objs.size],_,_,H,rfl,
  I1.kept (t':=tk) fun b o e=>Heap.get?_push_of_some _ e,a5r _ lo (hi - lo).toNat,?_,fun b hb=>?_,q⟩
 ·have e1:lo+((0:Nat):Int)*1=lo:=by simp
  have e2:(((hi - lo).toNat:Nat):Int) - ((0:Nat):Int)=Builtin.Range.rangeSize lo hi 1:=by rw [rangeSize_one];split<;>omega
  show IsRangeIter _ _ (lo+((0:Nat):Int)*1) ((((hi - lo).toNat:Nat):Int) - ((0:Nat):Int)) 1
  rw [e1,e2]
  exact Heap.get?_push_size _ rfl
 ·have e:b=(s.heap.push { cls:=.type "range",data:=.fields #[.int lo t, .int hi u, .int 1 v] }).objs.size:=by simpa using hb
  subst e
  exact I1.fpOk (Nat.le_refl _) (I1.hok.fresh (Nat.le_refl _))
def aib (ta:TA):TI:=fun σ H R=>ta σ H fun vs H1=>∃ j:Int,vs=[.int j] ∧ -(2 ^ 62)≤j∧j<2 ^ 62∧R (Itr 0 j.toNat) H1
theorem a74 {a:Expr} {ta:TA} {p pos:Pos} (hg:Gl X "range") (hm:X.mg "range" = none) (ha:PA X [a] ta) (hs:starEach [a] X.env=[(false,eval a X.env)]:=by rfl):PI X tg (.Call (.Name "range" p) [a] [] pos) (aib ta):=by
 intro pins s σ H R I h
 refine Call_ (a4b I hg hm boot_range (PyProof.Rows.callWith_type1 (thn (ha pos pins s σ H _ I h) fun us s1 ⟨vs,H1,I1,r1,q1⟩=>?_) hs rfl))
 obtain ⟨j,e,q1,q2,q⟩:=q1
 subst e
 cases r1 with
 | cons r rr =>
  cases rr
  obtain ⟨t,rfl⟩:=r
  exact call_range_1 (a99 I1 (by omega) (by omega) q1 q2 (by simpa using q))
def akp (wi:TI) (g:TG) (tb:TS):TS:=fun D σ H=>wi σ H fun J H1=>∃ W:Nat→Nat→St→Hp→Prop,(∃ m,W 0 m σ H1)∧∀ i m σ H,W i m σ H →
 (J.stop i H∧D.nx σ H)∨(J.go i H∧∃ N:St→Hp→Prop,(∀ σ' H',N σ' H'→∃ m',m'<m∧W (i+1) m' σ' H')∧∀ x H',J.yld i H x H'→g x σ H' fun σ2 H2=>tb { D with nx:=N,ct:=N,bk:=D.nx } σ2 H2)
def a1z (fp:List Addr) (h:Heap):List (Addr × Obj):=fp.filterMap fun b=>(h.get? b).map fun o=>(b,o)
theorem uh {fp:List Addr} {h:Heap} {b:Addr} {o:Obj} (hb:b∈fp) (e:h.get? b=some o):(b,o)∈a1z fp h:=List.mem_filterMap.mpr ⟨b,hb,by rw [e];rfl⟩
theorem a75 {fp:List Addr} {h:Heap} {p:Addr × Obj} (hp:p∈a1z fp h):p.1∈fp∧h.get? p.1=some p.2:=by
 obtain ⟨b,hb,e⟩:=List.mem_filterMap.mp hp
 cases q:h.get? b with
 | none=>rw [q] at e;cases e
 | some o =>
  rw [q] at e
  have e':(b,o)=p:=Option.some.inj e
  subst e'
  exact ⟨hb,q⟩
theorem Inv.pinned {pins:List (Addr × Obj)} {σ:St} {H:Hp} {s:Shared} {fp:List Addr} (I:Inv X pins σ H s) (hf:∀ b∈fp,a5p X pins H b) (ho:∀ b∈fp,∃ o,s.heap.get? b=some o∧∀ v,o.data≠.cell v):Inv X (pins++a1z fp s.heap) σ H s :=
 I.pins_of fun p hp=>(List.mem_append.mp hp).elim (fun z=>I.pin p (List.mem_append_right _ z)) fun z=>by
  obtain ⟨hb,e⟩:=a75 z
  obtain ⟨f0,f1,f2,_⟩:=hf p.1 hb
  obtain ⟨o,e',d⟩:=ho p.1 hb
  rw [e] at e';cases e'
  exact ⟨e,f0,f1,f2,d⟩
theorem Inv.unpinned {pins pl:List (Addr × Obj)} {σ:St} {H:Hp} {s:Shared} (I:Inv X (pins++pl) σ H s):Inv X pins σ H s:=I.pins_of fun p hp=>I.pin p (List.mem_append_right _ (List.mem_append_left _ hp))
theorem afd {iter:Expr} {body:List Stmt} {wi:TI} {g:TG} {tb:TS} {pos:Pos} (hp:PassesOwn (model X.prog X.w) X.A X.env X.xe) (hc:X.calm=true) (hi:PI X tg iter wi) (hg:PG X tg g) (hb:PSs X body tb)
  (hs:∀ x,foldedSetIterable iter X.env x=pure x:=by intro _;rfl):PS X (.For tg iter body [] pos) (akp wi g tb):=by
 intro pins s σ H D I h
 refine wpAny_For (thn (hi pins s σ H _ I h) fun v s1 h1=>thn h1 fun itv s2 h2=>?_) hs
 obtain ⟨it,fp,tn,J,H2,e,I2,T,st2,f2,W,⟨m0,w0⟩,turn⟩:=h2
 subst e
 have stat:∀ {H':Hp},(∀ b∈fp,H' b=none)→∀ b∈fp,a5p X pins H' b:=fun hn b hb=>⟨hn b hb,(f2 b hb).2⟩
 refine codeAny_forLoop_any (fun n s'=>∃ i σ' H',Inv X pins σ' H' s'∧tn i s'.heap∧(∀ b∈fp,H' b=none)∧W i n σ' H') ?_ m0 ⟨0,σ,H2,I2,st2,fun b hb=>(f2 b hb).1,w0⟩
 rintro n s3 ⟨i,σ3,H3,I3,st3,fr3,w3⟩
 rcases turn i n σ3 H3 w3 with ⟨stop,qn⟩ | ⟨go,N,hN,step⟩
 ·refine wpAny_passesOwn hp (thn (T.done X rfl rfl rfl hc i pins s3 σ3 H3 X.xe I3 (stat fr3) st3 stop) fun r s4 ⟨hr,I4⟩=>?_)
  subst hr
  exact wpAny_execs_nil ⟨σ3,H3,I4,qn⟩
 ·refine wpAny_passesOwn hp (thn (T.item X rfl rfl rfl hc i pins s3 σ3 H3 X.xe I3 (stat fr3) st3 go) fun r s4 ⟨u,hr,h4⟩=>?_)
  subst hr
  refine wpAny_passesOwn hp (thn h4 fun _ s5 ⟨x,H5,I5,r5,y5,st5,fr5⟩=>?_)
  have I5':=I5.pinned (stat fr5) (T.obj _ _ st5)
  refine wpAny_passesOwn hp (thn (hg _ s5 σ3 H5 x u _ I5' r5 (step x H5 y5)) fun _ s6 ⟨σ6,H6,I6,q6⟩=>?_)
  refine wpAny_passesOwn hp (thn (hb _ s6 σ6 H6 _ I6 q6) fun f s7 q7=>?_)
  have again:∀ {σ7:St} {H7:Hp},Inv X (pins++a1z fp s5.heap) σ7 H7 s7→N σ7 H7→∃ m,m<n∧∃ i σ' H',Inv X pins σ' H' s7∧tn i s7.heap∧(∀ b∈fp,H' b=none)∧W i m σ' H':=fun {σ7 H7} I7 n7=>by
   obtain ⟨m',hm,w7⟩:=hN σ7 H7 n7
   refine ⟨m',hm,i+1,σ7,H7,I7.unpinned,T.keep _ _ _ st5 fun b hb o e=>(I7.pin (b,o) (List.mem_append_right _ (List.mem_append_right _ (uh hb e)))).1,fun b hb=>?_,w7⟩
   obtain ⟨o,e,d⟩:=T.obj _ _ st5 b hb
   exact (I7.pin (b,o) (List.mem_append_right _ (List.mem_append_right _ (uh hb e)))).2.1
  cases f with
  | next=>obtain ⟨σ7,H7,I7,n7⟩:=q7;exact again I7 n7
  | cont=>obtain ⟨σ7,H7,I7,n7⟩:=q7;exact again I7 n7
  | brk=>obtain ⟨σ7,H7,I7,q7⟩:=q7;exact ⟨σ7,H7,I7.unpinned,q7⟩
  | ret v=>obtain ⟨x7,σ7,H7,I7,r7,q7⟩:=q7;exact ⟨x7,σ7,H7,I7.unpinned,r7,q7⟩
end
end L2
namespace L2
open PySem PySem.Spec PyProof.Rows
abbrev R2:=V→V→Hp→VK→Prop
def OpR (X:Cx) (f:Value→Value→Sem Value) (r:R2):Prop :=
 ∀ (pins:List (Addr × Obj)) (s:Shared) (σ:St) (H:Hp) (x y:V) (v u:Value) (Q:VK),Inv X pins σ H s→RelV x v→RelV y u→r x y H Q →
  wpAny (model X.prog X.w) X.A (f v u) (EP X pins σ Q) X.xe s
def UnR (X:Cx) (f:Value→Sem Value) (r:V→Hp→VK→Prop):Prop :=
 ∀ (pins:List (Addr × Obj)) (s:Shared) (σ:St) (H:Hp) (x:V) (v:Value) (Q:VK),Inv X pins σ H s→RelV x v→r x H Q →
  wpAny (model X.prog X.w) X.A (f v) (EP X pins σ Q) X.xe s
def CallR (X:Cx) (f:Value) (r:List V→Hp→VK→Prop):Prop :=
 ∀ (pins:List (Addr × Obj)) (s:Shared) (σ:St) (H:Hp) (xs:List V) (us:List Value) (Q:VK),Inv X pins σ H s→Vals xs us→r xs H Q →
  wpAny (model X.prog X.w) X.A (call f us) (EP X pins σ Q) X.xe s
def akq (X:Cx) (r:V→Hp→(Bool→Hp→Prop)→Prop):Prop :=
 ∀ (pins:List (Addr × Obj)) (s:Shared) (σ:St) (H:Hp) (x:V) (v:Value) (Q:Bool→Hp→Prop),Inv X pins σ H s→RelV x v→r x H Q →
  wpAny (model X.prog X.w) X.A (truthy v) (TP X pins σ Q) X.xe s
def tOp (r:R2) (ta tb:TE):TE:=fun σ H Q=>ta σ H fun x H1=>tb σ H1 fun y H2=>r x y H2 Q
def tUn (r:V→Hp→VK→Prop) (ta:TE):TE:=fun σ H Q=>ta σ H fun x H1=>r x H1 Q
def rI (C:Int→Int→Prop) (g:Int→Int→V):R2:=fun x y H Q=>∃ i j,x = .int i∧y = .int j∧C i j∧Q (g i j) H
def rI0 (g:Int→Int→V):R2:=fun x y H Q=>∃ i j,x = .int i∧y = .int j∧Q (g i j) H
def rU (g:Int→V):V→Hp→VK→Prop:=fun x H Q=>∃ i,x = .int i∧Q (g i) H
section
variable {X:Cx} {a b c:Expr} {ta tb tc:TE} {pos:Pos}
theorem aic (ha:PE X a ta) (hb:PE X b tb) {pins:List (Addr × Obj)} {s:Shared} {σ:St} {H:Hp} {R:V→V→Hp→Prop} (I:Inv X pins σ H s)
  (h:ta σ H fun x H1=>tb σ H1 fun y H2=>R x y H2) {Q:Value→Shared→Prop} {f:Value→Value→Sem Value}
  (hf:∀ v u s2 x y H2,Inv X pins σ H2 s2→RelV x v→RelV y u→R x y H2→wpAny (model X.prog X.w) X.A (f v u) Q X.xe s2) :
  wpAny (model X.prog X.w) X.A (eval a X.env) (fun v s₁=>wpAny (model X.prog X.w) X.A (eval b X.env) (fun u s₂=>wpAny (model X.prog X.w) X.A (f v u) Q X.xe s₂) X.xe s₁) X.xe s:=by
 refine thn (ha pins s σ H _ I h) fun v s1 ⟨x,H1,I1,r1,q1⟩=>?_
 refine thn (hb pins s1 σ H1 _ I1 q1) fun u s2 ⟨y,H2,I2,r2,q2⟩=>?_
 exact hf v u s2 x y H2 I2 r1 r2 q2
theorem aid {op:Operator} {r:R2} (ho:OpR X (binaryOp op) r) (ha:PE X a ta) (hb:PE X b tb):PE X (.BinOp a op b pos) (tOp r ta tb):=by
 intro pins s σ H Q I h
 exact wpAny_BinOp (aic ha hb I h fun v u s2 x y H2 I2 rx ry q=>ho pins s2 σ H2 x y v u Q I2 rx ry q)
theorem aie {op:UnaryOp} {r:V→Hp→VK→Prop} (ho:UnR X (unaryOp op) r) (ha:PE X a ta):PE X (.UnaryOp op a pos) (tUn r ta):=by
 intro pins s σ H Q I h
 exact UnaryOp_ (thn (ha pins s σ H _ I h) fun v s1 ⟨x,H1,I1,r1,q1⟩=>ho pins s1 σ H1 x v Q I1 r1 q1)
theorem opI {f:Value→Value→Sem Value} {C:Int→Int→Prop} {g:Int→Int→Int}
  (rule:∀ (i j:Int) (t u:Tok) (s:Shared) (Q:Value→Shared→Prop) (E:Value→Shared→Prop),C i j→Q (.int (g i j) s.toks) { s with toks:=s.toks+1 }→wpAny (model X.prog X.w) X.A (f (.int i t) (.int j u)) Q E s) :
  OpR X f (rI C fun i j=>.int (g i j)):=by
 intro pins s σ H x y v u Q I rx ry h
 obtain ⟨i,j,rfl,rfl,hc,q⟩:=h
 obtain ⟨t,rfl⟩:=rx
 obtain ⟨t',rfl⟩:=ry
 exact rule i j t t' s _ _ hc ⟨.int (g i j),H,I.tok _,⟨_,rfl⟩,q⟩
theorem aif {f:Value→Value→Sem Value} {g:Int→Int→Int}
  (rule:∀ (i j:Int) (t u:Tok) (s:Shared) (Q:Value→Shared→Prop) (E:Value→Shared→Prop),Q (.int (g i j) s.toks) { s with toks:=s.toks+1 }→wpAny (model X.prog X.w) X.A (f (.int i t) (.int j u)) Q E s) :
  OpR X f (rI0 fun i j=>.int (g i j)):=by
 intro pins s σ H x y v u Q I rx ry h
 obtain ⟨i,j,rfl,rfl,q⟩:=h
 obtain ⟨t,rfl⟩:=rx
 obtain ⟨t',rfl⟩:=ry
 exact rule i j t t' s _ _ ⟨.int (g i j),H,I.tok _,⟨_,rfl⟩,q⟩
theorem aig {f:Value→Value→Sem Value} {g:Int→Int→Bool}
  (rule:∀ (i j:Int) (t u:Tok) (s:Shared) (Q:Value→Shared→Prop) (E:Value→Shared→Prop),Q (.bool (g i j)) s→wpAny (model X.prog X.w) X.A (f (.int i t) (.int j u)) Q E s) :
  OpR X f (rI0 fun i j=>.bl (g i j)):=by
 intro pins s σ H x y v u Q I rx ry h
 obtain ⟨i,j,rfl,rfl,q⟩:=h
 obtain ⟨t,rfl⟩:=rx
 obtain ⟨t',rfl⟩:=ry
 exact rule i j t t' s _ _ ⟨.bl (g i j),H,I,rfl,q⟩
def aih (i j:Int):Prop:=0<j∧j<1073741824
def ajj (i j:Int):Prop:=0≤j∧j≤1000000∧i.natAbs<2 ^ 64
def CMul (i j:Int):Prop:=(-(2 ^ 64)<i∧i<2 ^ 64)∨(-(2 ^ 64)<j∧j<2 ^ 64)
theorem CMul.ok {i j:Int} (h:CMul i j):IntMulOk i j:=by
 rcases h with ⟨h1,h2⟩ | ⟨h1,h2⟩
 ·exact .of_left (intBits_le_64 h1 h2)
 ·exact .of_right (intBits_le_64 h1 h2)
theorem afe:OpR X (binaryOp .Add) (rI0 fun i j=>.int (i+j)):=aif fun _ _ _ _ _ _ _ q=>add_int q
theorem afg:OpR X (binaryOp .Sub) (rI0 fun i j=>.int (i - j)):=aif fun _ _ _ _ _ _ _ q=>sub_int q
theorem aax:OpR X (binaryOp .Mult) (rI CMul fun i j=>.int (i*j)):=opI fun _ _ _ _ _ _ _ hc q=>mul_int q hc.ok
theorem aby:OpR X (binaryOp .FloorDiv) (rI aih fun i j=>.int (i / j)):=opI fun i j _ _ _ _ _ hc q=>by
 have h1:(0:Int)<j:=hc.1
 have h2:j<1073741824:=hc.2
 exact floordiv_int (by omega) (by rw [Int.fdiv_eq_ediv_of_nonneg i (by omega)];exact q) (.inl (PyProof.noPylong_small (by omega)))
theorem afh:OpR X (binaryOp .Mod) (rI (fun _ j=>0<j) fun i j=>.int (i % j)):=opI fun i j _ _ _ _ _ hc q=>by
 have h1:(0:Int)<j:=hc
 exact mod_int' (by omega) (by rw [Int.fmod_eq_emod_of_nonneg i (by omega)];exact q)
theorem afi:OpR X (binaryOp .Pow) (rI ajj fun i j=>.int (i ^ j.toNat)):=opI fun _ _ _ _ _ _ _ hc q=>pow_int_small hc.1 hc.2.1 hc.2.2 q
theorem abz:OpR X (inplaceOp .Sub) (rI0 fun i j=>.int (i - j)):=aif fun _ _ _ _ _ _ _ q=>isub_int q
theorem a9a:OpR X (inplaceOp .FloorDiv) (rI aih fun i j=>.int (i / j)):=opI fun i j _ _ _ _ _ hc q=>by
 have h1:(0:Int)<j:=hc.1
 have h2:j<1073741824:=hc.2
 exact ifloordiv_int (by omega) (by rw [Int.fdiv_eq_ediv_of_nonneg i (by omega)];exact q) (.inl (PyProof.noPylong_small (by omega)))
theorem unI {f:Value→Sem Value} {g:Int→Int}
  (rule:∀ (i:Int) (t:Tok) (s:Shared) (Q:Value→Shared→Prop) (E:Value→Shared→Prop),Q (.int (g i) s.toks) { s with toks:=s.toks+1 }→wpAny (model X.prog X.w) X.A (f (.int i t)) Q E s) :
  UnR X f (rU fun i=>.int (g i)):=by
 intro pins s σ H x v Q I rx h
 obtain ⟨i,rfl,q⟩:=h
 obtain ⟨t,rfl⟩:=rx
 exact rule i t s _ _ ⟨.int (g i),H,I.tok _,⟨_,rfl⟩,q⟩
theorem afj:UnR X (unaryOp .USub) (rU fun i=>.int (-i)):=unI fun _ _ _ _ _ q=>neg_int q
end
section
variable {X:Cx} {a b c:Expr} {ta tb tc:TE} {pos:Pos}
theorem afk {pins:List (Addr × Obj)} {σ:St} {H:Hp} {s:Shared} {Q:VK} {k k':Bool} (I:Inv X pins σ H s) (q:Q (.bl k) H) (e:k=k'):EP X pins σ Q (.bool k') s:=by
 subst e
 exact ⟨.bl k,H,I,rfl,q⟩
theorem a9b:OpR X (compareOp .Lt) (rI0 fun i j=>.bl (decide (i<j))):=aig fun _ _ _ _ _ _ _ q=>lt_int q
theorem a9c:OpR X (compareOp .Gt) (rI0 fun i j=>.bl (decide (j<i))):=aig fun _ _ _ _ _ _ _ q=>gt_int q
theorem aii:OpR X (compareOp .GtE) (rI0 fun i j=>.bl (decide (j≤i))):=aig fun _ _ _ _ _ _ _ q=>ge_int q
theorem v7:OpR X (compareOp .Lt) (fun x y H Q=>∃ i j,x = .str i∧y = .str j∧Q (.bl (decide (i.cps.toList<j.cps.toList))) H):=by
 intro pins s σ H x y v u Q I rx ry h
 obtain ⟨i,j,rfl,rfl,q⟩:=h
 obtain ⟨t,rfl⟩:=rx
 obtain ⟨t',rfl⟩:=ry
 exact lt_str (afk I q rfl)
theorem OpR.or {f:Value→Value→Sem Value} {r r':R2} (h:OpR X f r) (h':OpR X f r'):OpR X f (fun x y H Q=>r x y H Q∨r' x y H Q):=by
 intro pins s σ H x y v u Q I rx ry q
 rcases q with q | q
 ·exact h pins s σ H x y v u Q I rx ry q
 ·exact h' pins s σ H x y v u Q I rx ry q
theorem o7 (b:Expr) {op:CmpOp} (h:op≠.In:=by decide) (h2:op≠.NotIn:=by decide):behindInMarks op b=false:=by
 have e1:(op == CmpOp.In)=false:=by cases op<;>first | rfl | exact absurd rfl h
 have e2:(op == CmpOp.NotIn)=false:=by cases op<;>first | rfl | exact absurd rfl h2
 cases b<;>simp [behindInMarks,e1,e2]
theorem ac0 {op:CmpOp} {r:R2} (ho:OpR X (compareOp op) r) (ha:PE X a ta) (hb:PE X b tb) (hm:behindInMarks op b=false):PE X (.Compare a [op] [b] pos) (tOp r ta tb):=by
 intro pins s σ H Q I h
 exact wpAny_Compare1 (aic ha hb I h fun v u s2 x y H2 I2 rx ry q=>ho pins s2 σ H2 x y v u Q I2 rx ry q) hm
def afl (t:TE):TT:=fun σ H Q=>t σ H fun x H'=>∃ k,x = .bl k∧Q k H'
theorem ac1 {op:CmpOp} {r:R2} (ho:OpR X (compareOp op) r) (ha:PE X a ta) (hb:PE X b tb) (hm:behindInMarks op b=false):PT X (.Compare a [op] [b] pos) (afl (tOp r ta tb)):=by
 intro pins s σ H Q I h
 refine wpAny_isTrue_Compare1 (thn (ha pins s σ H _ I h) fun v s1 ⟨x,H1,I1,r1,q1⟩=>thn (hb pins s1 σ H1 _ I1 q1) fun u s2 ⟨y,H2,I2,r2,q2⟩ =>
  thn (ho pins s2 σ H2 x y v u _ I2 r1 r2 q2) fun c s3 ⟨z,H3,I3,r3,k,e,q3⟩=>?_) hm
 subst e
 cases r3
 exact wpAny_truthy_bool ⟨H3,I3,q3⟩
def aij (K:PySem.W.Frag) (x:V) (H:Hp) (k:Bool):Prop :=
 match x with
 | .non=>k=false
 | .bl b=>k=b
 | .int i=>k=(i != 0)
 | .str y=>y.length≤sizeLine∧k=((y.length:Int) != 0)
 | .byt y=>y.size≤sizeLine∧k=((y.size:Int) != 0)
 | .ref p=>(∃ xs,SqL K H p xs∧k = !xs.isEmpty)∨(∃ xs,SqT K H p xs∧k = !xs.isEmpty)∨∃ kvs,H p=some (.dK kvs)∧k = !kvs.isEmpty
 | _=>False
theorem a5s {κ:Type} {kvs:List (κ × V)} {vs:List (κ × Value)} (r:KV kvs vs):(!vs.isEmpty) = !kvs.isEmpty:=by
 cases r<;>rfl
theorem a0c {xs:List V} {its:List Value} (r:Vals xs its):(!its.toArray.isEmpty) = !xs.isEmpty:=by
 cases r<;>simp
theorem zf:(sizeLine:Nat)<2 ^ 63:=by rw [sizeLine_eq];decide
theorem afm:akq X (fun x H Q=>∃ k,aij X.K x H k∧Q k H):=by
 intro pins s σ H x v Q I rx h
 obtain ⟨k,e,q⟩:=h
 have hl:=zf
 have hs:sizeLine=16777216:=sizeLine_eq
 cases x with
 | non =>
  cases rx
  have e':k=false:=e
  subst e'
  exact truthy_none ⟨H,I,q⟩
 | bl b =>
  cases rx
  have e':k=b:=e
  subst e'
  exact wpAny_truthy_bool ⟨H,I,q⟩
 | int i =>
  obtain ⟨t,rfl⟩:=rx
  have e':k=(i != 0):=e
  subst e'
  exact PySem.P.truthy_int ⟨H,I,q⟩
 | str y =>
  obtain ⟨t,rfl⟩:=rx
  obtain ⟨hy,e'⟩:y.length≤sizeLine∧k=((y.length:Int) != 0):=e
  subst e'
  exact PySem.P.truthy_str (by omega) ⟨H,I.tok _,q⟩
 | byt y =>
  obtain ⟨t,rfl⟩:=rx
  obtain ⟨hy,e'⟩:y.size≤sizeLine∧k=((y.size:Int) != 0):=e
  subst e'
  exact PySem.W.truthy_bytes (by omega) ⟨H,I.tok _,q⟩
 | ref p =>
  cases rx
  have e':(∃ xs,SqL X.K H p xs∧k = !xs.isEmpty)∨(∃ xs,SqT X.K H p xs∧k = !xs.isEmpty)∨∃ kvs,H p=some (.dK kvs)∧k = !kvs.isEmpty:=e
  rcases e' with ⟨xs,hx,e'⟩ | ⟨xs,hx,e'⟩ | ⟨kvs,hx,e'⟩
  ·subst e'
   obtain ⟨its,r,pl,hz⟩:=I.list hx
   have hlen:=r.length
   exact wpAny_truthy_list pl.isList (by simp only [List.size_toArray];omega) ⟨H,I.tok _,by rw [a0c r];exact q⟩
  ·subst e'
   obtain ⟨its,r,pl,hz⟩:=I.tuple hx
   have hlen:=r.length
   exact truthy_tuple pl (by simp only [List.size_toArray];omega) ⟨H,I.tok _,by rw [a0c r];exact q⟩
  ·subst e'
   obtain ⟨hz,hS,vs,r,m⟩:kvs.length≤sizeLine∧(p == sysModules)=false∧∃ vs,KV kvs vs∧s.heap.DictOf (nu X.prog X.w) p vs:=I.hok p _ hx
   have hlen:kvs.length=vs.length:=Paired.length r
   exact wpAny_truthy_dict hS m (by omega) ⟨H,I.tok _,by rw [a5s r];exact q⟩
 | _=>exact (show False from e).elim
theorem a9d (ha:PE X a ta) (he:∀ whole,isTrue a X.env whole=(do let v ← whole;standAt a.pos;holding [v] (truthy v))) :
  PT X a (fun σ H Q=>ta σ H fun x H'=>∃ k,aij X.K x H' k∧Q k H'):=by
 intro pins s σ H Q I h
 exact isTrue_plain (thn (ha pins s σ H _ I h) fun v s1 ⟨x,H1,I1,r1,q1⟩=>afm pins s1 σ H1 x v Q I1 r1 q1) (he _)
theorem a5t:OpR X (binaryOp .Add) (fun x y H Q=>∃ i j,x = .str i∧y = .str j∧i.length+j.length≤sizeLine∧Q (.str (i++j)) H):=by
 intro pins s σ H x y v u Q I rx ry h
 obtain ⟨i,j,rfl,rfl,hz,q⟩:=h
 obtain ⟨t,rfl⟩:=rx
 obtain ⟨t',rfl⟩:=ry
 exact add_str (fun t' tk=>⟨.str (i++j),H,I.tok _,⟨_,rfl⟩,q⟩) hz
theorem vals1 {x:V} {us:List Value} (r:Vals [x] us):∃ u,us=[u]∧RelV x u:=by
 cases r with
 | cons r1 r2=>cases r2;exact ⟨_,rfl,r1⟩
theorem vals2 {x y:V} {us:List Value} (r:Vals [x,y] us):∃ u w',us=[u,w']∧RelV x u∧RelV y w':=by
 cases r with
 | cons r1 r2 =>
  cases r2 with
  | cons r3 r4=>cases r4;exact ⟨_,_,rfl,r1,r3⟩
theorem a4c:CallR X (.builtin "abs") (fun xs H Q=>∃ i,xs=[.int i]∧Q (.int (if i<0 then -i else i)) H):=by
 intro pins s σ H xs us Q I r h
 obtain ⟨i,rfl,q⟩:=h
 obtain ⟨u,rfl,t,rfl⟩:=vals1 r
 exact call_abs_int fun u tk=>⟨.int (if i<0 then -i else i),H,I.tok _,⟨_,rfl⟩,q⟩
theorem a76:CallR X (.type "int") (fun xs H Q=>(∃ i,xs=[.int i]∧Q (.int i) H)∨∃ k,xs=[.bl k]∧Q (.int (if k then 1 else 0)) H):=by
 intro pins s σ H xs us Q I r h
 rcases h with ⟨i,rfl,q⟩ | ⟨k,rfl,q⟩
 ·obtain ⟨u,rfl,t,rfl⟩:=vals1 r
  exact call_int_int ⟨.int i,H,I,⟨_,rfl⟩,q⟩
 ·obtain ⟨u,rfl,r1⟩:=vals1 r
  cases r1
  exact call_int_bool ⟨.int (if k then 1 else 0),H,I.tok _,⟨_,rfl⟩,q⟩
theorem a2a:CallR X (.type "str") (fun xs H Q=>∃ i,xs=[.int i]∧i.natAbs.log2<1920∧Q (.str (toString i)) H):=by
 intro pins s σ H xs us Q I r h
 obtain ⟨i,rfl,hz,q⟩:=h
 obtain ⟨u,rfl,t,rfl⟩:=vals1 r
 exact PySem.P.str_of_int hz ⟨.str _,H,I.tok _,⟨_,rfl⟩,q⟩
end
end L2
namespace L2
open PySem PySem.Spec PyProof.Rows
structure ObjM (h:Heap) (x dx C:Addr) (mA:Str→Option Value):Prop where
 obj:h.get? x=some (PySem.W.instObj C dx)
 ns:h.Ns1 dx mA
 ne:dx≠x
theorem a77 {h:Heap} {dx:Addr} {mA:Str→Option Value} (n:h.Ns1 dx mA):∃ od,h.get? dx=some od∧∀ name,PySem.W.lookIn name od=some (mA name):=by
 obtain ⟨o,es,ep,ho,hd,hk,_,hm⟩:=n
 refine ⟨o,ho,fun name=>?_⟩
 have e:=hm name
 unfold nsFind findBy at e
 rw [← Array.find?_toList] at e
 unfold PySem.W.lookIn
 rw [hd]
 dsimp only
 split
 ·rename_i y q
  rw [q] at e
  exact congrArg some e
 ·rename_i q
  rw [q] at e
  have a:es.toList.any (·.refKey)=false:=by
   rw [List.any_eq_false]
   intro y hy
   obtain ⟨z,t,hkey⟩:=hk y (Array.mem_toList_iff.mp hy)
   simp [DictEntry.refKey,hkey]
  have a':¬ es.toList.any (·.refKey)=true:=by rw [a];exact Bool.false_ne_true
  rw [if_neg a']
  exact congrArg some e
theorem ObjM.look {h:Heap} {x dx C:Addr} {mA:Str→Option Value} (I:ObjM h x dx C mA):∃ od,PySem.W.InstAt h x (PySem.W.instObj C dx) C (some od)∧∀ name,PySem.W.lookIn name od=some (mA name) :=
 let ⟨od,ho,hl⟩:=a77 I.ns
 ⟨od,⟨I.obj,rfl,rfl,ho⟩,hl⟩
section
variable {P:Program} {w:World} {H H':Hp} {h h':Heap} {a C dx:Addr} {fs fs':List (Str × V)}
theorem ac2 (hok:HOk P w H h) (e:H a=some (.ins C dx fs)):∃ mA,ObjM h a dx C mA∧(∀ f,RelO (fs.lookup f) (mA f))∧PySem.Within mA (fs.map (·.1))∧fs.length≤1000∧H dx=some (.own a):=by
 obtain ⟨d,z,ne,ob,mA,n,r,q⟩:=(show ObjOk P w H h a (.ins C dx fs) from hok a _ e)
 exact ⟨mA,⟨ob,n,ne⟩,r,q,z,d⟩
end
structure Cls (K:PySem.W.Frag) (C:Addr):Prop where
 pg:PySem.W.plainGet K C Str.empty=true
 hd:PySem.W.hasDictIn K C=true
 po:PySem.W.plainOver K C=true
 sa:PySem.W.findIn K (.ref C) "__setattr__" = some (some (.builtin "object.__setattr__"))
theorem Cls.get {K:PySem.W.Frag} {C:Addr} (c:Cls K C) (f:Str):PySem.W.plainGet K C f=true:=c.pg
section
variable {X:Cx} {pins:List (Addr × Obj)} {σ:St} {H:Hp} {s:Shared} {A:Around} {E:Value→Shared→Prop} {Q:Value→Shared→Prop} {c:Value} {b:Bool}
inductive TyOf (K:PySem.W.Frag) (H:Hp):V→Value→Prop where
 | non:TyOf K H .non (.type "NoneType")
 | bl (x:Bool):TyOf K H (.bl x) (.type "bool")
 | int (i:Int):TyOf K H (.int i) (.type "int")
 | str (x:Str):TyOf K H (.str x) (.type "str")
 | flt (x:UInt64):TyOf K H (.flt x) (.type "float")
 | lst {a:Addr} {xs:List V} (e:H a=some (.lst xs)):TyOf K H (.ref a) (.type "list")
 | frz {a:Addr} {o:Obj} {xs:List V} (e:H a=some (.frz o (.lst xs))):TyOf K H (.ref a) (.type "list")
 | tup {a:Addr} {xs:List V} (e:H a=some (.tup xs)):TyOf K H (.ref a) (.type "tuple")
 | dK {a:Addr} {kvs:List (Key × V)} (e:H a=some (.dK kvs)):TyOf K H (.ref a) (.type "dict")
 | dT {a:Addr} {kvs:List (List Key × V)} (e:H a=some (.dT kvs)):TyOf K H (.ref a) (.type "dict")
 | ins {a C dx:Addr} {fs:List (Str × V)} (e:H a=some (.ins C dx fs)) (cl:Cls K C) (ha:PySem.W.findIn K (.ref C) "__class__" = some (some (.builtin "object.__class__")))
   (hn:PySem.W.specialIn K (.builtin "object.__class__") "__get__" = some (some (.builtin "getset_descriptor.__get__"))) (htk:PySem.W.takesIn K (.builtin "object.__class__")=some true)
   (hm:PySem.W.mroIn K C (.type "object")=some true):TyOf K H (.ref a) (.ref C)
theorem a78 {x:V} {u t:Value} (I:Inv X pins σ H s) (rx:RelV x u) (ty:TyOf X.K H x t) (e:PySem.W.kitOne X.K t c=some b) (h:∀ tk,Q (.bool b) { s with toks:=tk }) :
  wpAny (model X.prog X.w) A (call (.builtin "isinstance") [u,c]) Q E s:=by
 cases ty with
 | non=>cases (show u=Value.none from rx);exact PySem.W.kia_one PySem.W.kitx_none I.kIn True.intro e (fun z=>nomatch z) h
 | bl y=>cases (show u=Value.bool y from rx);exact PySem.W.kia_one PySem.W.kitx_bool I.kIn True.intro e (fun z=>nomatch z) h
 | int i=>obtain ⟨t,q⟩:=(show ∃ t,u=Value.int i t from rx);cases q;exact PySem.W.kia_one PySem.W.kitx_int I.kIn True.intro e (fun z=>nomatch z) h
 | str y=>obtain ⟨t,q⟩:=(show ∃ t,u=Value.str y t from rx);cases q;exact PySem.W.kia_one PySem.W.kitx_str I.kIn True.intro e (fun z=>nomatch z) h
 | flt y=>obtain ⟨t,q⟩:=(show ∃ t,u=Value.float y t from rx);cases q;exact PySem.W.kia_one PySem.W.kitx_float I.kIn True.intro e (fun z=>nomatch z) h
 | @lst a xs ea =>
  cases (show u=Value.ref a from rx)
  obtain ⟨_,_,n,_,h1⟩:=(show ObjOk X.prog X.w H s.heap a (.lst xs) from I.hok a _ ea)
  exact PySem.W.kia_one PySem.W.kitx_list I.kIn ⟨_,h1,rfl⟩ e (fun z=>nomatch z) h
 | @frz a ob xs ea =>
  cases (show u=Value.ref a from rx)
  obtain ⟨_,_,_,n,_,h1⟩:=(show ObjOk X.prog X.w H s.heap a (.frz ob (.lst xs)) from I.hok a _ ea)
  exact PySem.W.kia_one PySem.W.kitx_list I.kIn ⟨_,h1,rfl⟩ e (fun z=>nomatch z) h
 | @tup a xs ea =>
  cases (show u=Value.ref a from rx)
  obtain ⟨_,_,_,p⟩:=(show ObjOk X.prog X.w H s.heap a (.tup xs) from I.hok a _ ea)
  obtain ⟨o,h1,h2,_⟩:=p
  exact PySem.W.kia_one PySem.W.kitx_tuple I.kIn ⟨o,h1,h2⟩ e (fun z=>nomatch z) h
 | @dK a kvs ea =>
  cases (show u=Value.ref a from rx)
  obtain ⟨_,_,vs,_,p⟩:=(show ObjOk X.prog X.w H s.heap a (.dK kvs) from I.hok a _ ea)
  obtain ⟨o,es,ep,h1,h2,_⟩:=p
  exact PySem.W.kia_one PySem.W.kitx_dict I.kIn ⟨o,h1,h2.1⟩ e (fun z=>nomatch z) h
 | @dT a kvs ea =>
  cases (show u=Value.ref a from rx)
  obtain ⟨_,_,xs,_,o,es,ep,h1,h2,_⟩:=(show ObjOk X.prog X.w H s.heap a (.dT kvs) from I.hok a _ ea)
  exact PySem.W.kia_one PySem.W.kitx_dict I.kIn ⟨o,h1,h2.1⟩ e (fun z=>nomatch z) h
 | @ins a C dx fs ea cl ha hn htk hm =>
  cases (show u=Value.ref a from rx)
  obtain ⟨mA,O,_⟩:=ac2 I.hok ea
  obtain ⟨od,J,_⟩:=O.look
  exact PySem.W.kia_one (PySem.W.kitx_own (cl.get _) cl.hd ha hn htk hm) I.kIn J e (fun z=>nomatch z) h
end
end L2
namespace L2
open PySem PySem.Spec PyProof.Rows
structure Room (k:Nat) (A:Around):Prop where
 hd:A.handled=none
 dp:A.depth+3*k+5<recursionLimit
 un:A.units+16*k+200<cLine
 gd:A.guards=some []
theorem Room.mono {j k:Nat} {A:Around} (r:Room k A) (h:j≤k):Room j A:=⟨r.hd,by have:=r.dp;omega,by have:=r.un;omega,r.gd⟩
theorem Room.deeper {k:Nat} {A:Around} (r:Room (k+1) A) (env:Env):Room k (A.deeper env) :=
 ⟨r.hd,by have:=r.dp;show A.depth+1+3*k+5<_;omega,by have:=r.un;show A.units+3+16*k+200<_;omega,r.gd⟩
theorem Room.depth {k:Nat} {A:Around} (r:Room k A):A.depth<recursionLimit:=by have:=r.dp;omega
theorem Room.units {k:Nat} {A:Around} (r:Room k A):A.units+64<cLine:=by have:=r.un;omega
def ajk:TA:=fun _ H Q=>Q [] H
def aik (ta:TE) (tr:TA):TA:=fun σ H Q=>ta σ H fun x H1=>tr σ H1 fun xs H2=>Q (x::xs) H2
section
variable {X:Cx} {e:Expr} {es:List Expr} {te:TE} {t:TA} {pos:Pos}
theorem a2b:PA X [] ajk:=fun _ _ _ _ H Q I h=>Calls.spliced_nil ⟨[],H,I, .nil,h⟩
theorem j4 (ha:PE X e te) (hr:PA X es t) (hs:starEach (e::es) X.env=(false,eval e X.env)::starEach es X.env:=by rfl):PA X (e::es) (aik te t):=by
 intro pos pins s σ H Q I h
 rw [hs]
 show wpAny _ _ (spliced ((false,eval e X.env)::backTo pos (starEach es X.env))) _ _ s
 refine Calls.spliced_cons (thn (ha pins s σ H _ I h) fun u s1 ⟨x,H1,I1,r1,q1⟩=>?_)
 exact thn (hr pos pins s1 σ H1 _ I1 q1) fun us s2 ⟨xs,H2,I2,r2,q2⟩=>⟨x::xs,H2,I2, .cons r1 r2,q2⟩
def akr (t:TA):TE:=fun σ H Q=>t σ H fun xs H1=>xs.length≤sizeLine∧∀ p,H1 p=none→Q (.ref p) (upd H1 p (.tup xs))
def aks (t:TA):TE:=fun σ H Q=>t σ H fun xs H1=>xs.length≤sizeLine∧∀ p,H1 p=none→Q (.ref p) (upd H1 p (.lst xs))
theorem aay {x1} (h:PA X es t):PE X (.Tuple es x1 pos) (akr t):=by
 intro pins s σ H Q I hq
 refine wpAny_Tuple_spliced (thn (h pos pins s σ H _ I hq) fun us s1 ⟨xs,H1,I1,r,z,q⟩=>⟨by rw [← r.length];exact z,?_⟩)
 have hf:H1 s1.heap.objs.size=none:=I1.hok.fresh (Nat.le_refl _)
 refine ⟨.ref s1.heap.objs.size,upd H1 s1.heap.objs.size (.tup xs),I1.laid (t':=s1.toks) (fun b u e=>Heap.get?_push_of_some _ e) (Nat.le_refl _) ?_,rfl,q _ hf⟩
 exact ⟨z,us,r,⟨_,Heap.get?_push_size _ rfl,rfl,_,rfl⟩⟩
theorem afn (h:PA X es t):PE X (.List es pos) (aks t):=by
 intro pins s σ H Q I hq
 refine wpAny_List_spliced (thn (h pos pins s σ H _ I hq) fun us s1 ⟨xs,H1,I1,r,z,q⟩=>⟨by rw [← r.length];exact z,?_⟩)
 have hf:H1 s1.heap.objs.size=none:=I1.hok.fresh (Nat.le_refl _)
 refine ⟨.ref s1.heap.objs.size,upd H1 s1.heap.objs.size (.lst xs),I1.laid (t':=s1.toks) (fun b u e=>Heap.get?_push_of_some _ e) (Nat.le_refl _) ?_,rfl,q _ hf⟩
 exact ⟨z,us,0,r,Heap.get?_push_size _ rfl⟩
end
abbrev Sp:=List V→Hp→VK→XK→Prop
abbrev CXT:=List Env→Hp→Shared→XK→Value→Shared→Prop
structure Env0 (P:Program) (w:World) (K:PySem.W.Frag) (mg:Str→Option Value) (base:Heap) (A:Around) (outer:List Env) (s:Shared) (H:Hp):Prop where
 frames:A.frames=some outer
 mod:Mod K mg base
 bs:∀ b o,base.get? b=some o→s.heap.get? b=some o∧H b=none
 bsz:base.objs.size≤s.heap.objs.size
 funs:s.heap.FunFrames base outer
 frf:∀ b∈frs outer,H b=none
 hok:HOk P w H s.heap
 bare:AllBare s.gens
def CE (outer:List Env) (P:Program) (w:World) (H:Hp) (s:Shared) (Q:VK) (u:Value) (s':Shared):Prop :=
 ∃ v H',s'.os=s.os∧AllBare s'.gens∧Un (frs outer) [] H H' s.heap s'.heap∧HOk P w H' s'.heap∧RelV v u∧Q v H'
def CR (CX:CXT) (outer:List Env) (P:Program) (w:World) (H:Hp) (s:Shared) (Q:VK) (E:XK) (r:Result) (s':Shared):Prop :=
 match r with
 | .ok (.ret u)=>CE outer P w H s Q u s'
 | .ok _=>False
 | .error e=>CX outer H s E e s'
structure FnOk (P:Program) (w:World) (K:PySem.W.Frag) (mg:Str→Option Value) (base:Heap) (CX:CXT) (k:Nat) (f:Addr) (fd:FuncData) (ps:List Str) (sp:Sp):Prop where
 len:∀ vs H Q E,sp vs H Q E→vs.length=ps.length
 run:∀ (A:Around) (outer:List Env) (s:Shared) (H:Hp) (args:Args) (us:List Value) (vs:List V) (Q:VK) (E:XK),Room k A→Env0 P w K mg base A outer s H→BindsTo s fd args (ps.zip us)→Vals vs us→sp vs H Q E →
  codeAny (model P w) A (.call (.ref f) args) (CR CX outer P w H s Q E) s
theorem FnOk.imp {P:Program} {w:World} {K:PySem.W.Frag} {mg:Str→Option Value} {base:Heap} {CX:CXT} {k:Nat} {f:Addr} {fd:FuncData} {ps:List Str} {sp sp':Sp} (F:FnOk P w K mg base CX k f fd ps sp)
  (h:∀ vs H Q E,sp' vs H Q E→sp vs H Q E):FnOk P w K mg base CX k f fd ps sp' :=
 ⟨fun vs H Q E q=>F.len vs H Q E (h _ _ _ _ q),fun A outer s H args us vs Q E hr he hb hv hs=>F.run A outer s H args us vs Q E hr he hb hv (h _ _ _ _ hs)⟩
section
variable {X:Cx} {pins:List (Addr × Obj)} {σ:St} {H:Hp} {s s':Shared}
theorem Inv.env0 (I:Inv X pins σ H s):Env0 X.prog X.w X.K X.mg X.base X.A X.stack s H :=
 ⟨I.ok.frames,I.ok.mod,I.bs,Nat.le_trans I.ok.bsz I.sz,I.stack,I.stkFree,I.hok,I.bare⟩
theorem Inv.after {Q:VK} {u:Value} (I:Inv X pins σ H s) (h:CE X.stack X.prog X.w H s Q u s'):EP X pins σ Q u s':=by
 obtain ⟨v,H',os,bare,un,hok,r,q⟩:=h
 obtain ⟨hh,g,d,t,os'⟩:=s'
 obtain rfl:os'=s.os:=os
 exact ⟨v,H',I.call (h':=hh) (g':=g) (d':=d) (t':=t) (ch:=[]) un hok bare (fun b z=>absurd z (by simp)),r,q⟩
end
def ac3 (sp:Sp) (dvs:List V) (E:XK) (t:TA):TE:=fun σ H Q=>t σ H fun vs H1=>sp (vs++dvs) H1 Q E
def Binds (K:PySem.W.Frag) (fd:FuncData) (ps:List Str) (ds:List Value):Prop :=
 ∀ (s:Shared) (us:List Value),K.In s.heap→(us++ds).length=ps.length→BindsTo s fd ⟨us,[]⟩ (ps.zip (us++ds))
theorem Binds.all {K:PySem.W.Frag} {fd:FuncData} {ps:List Str} (h:∀ us:List Value,us.length=ps.length→bindArgs fd ⟨us,[]⟩=pure (ps.zip us)):Binds K fd ps []:=fun s us _ hl=>by
 rw [List.append_nil] at hl ⊢
 exact .of_eq (h us hl)
def a2c (CX:CXT) (X:Cx) (E:XK):Prop:=∀ (pins:List (Addr × Obj)) (σ:St) (H:Hp) (s:Shared) (e:Value) (s':Shared),Inv X pins σ H s→CX X.stack H s E e s'→X.xe e s'
section
variable {X:Cx} {CX:CXT} {k:Nat} {f C:Addr} {fd:FuncData} {ps:List Str} {sp:Sp} {dvs:List V} {ds:List Value} {E:XK} {x m:Str} {p pos apos:Pos} {e o:Expr} {es:List Expr} {ta:TE} {t:TA}
theorem aaz {pins:List (Addr × Obj)} {σ:St} {H:Hp} {s:Shared} {Q:VK} {us:List Value} {vs:List V} (F:FnOk X.prog X.w X.K X.mg X.base CX k f fd ps sp) (hr:Room k X.A) (hb:Binds X.K fd ps ds) (hd:Vals dvs ds) (hx:a2c CX X E)
  (I:Inv X pins σ H s) (r:Vals vs us) (h:sp (vs++dvs) H Q E):wpAny (model X.prog X.w) X.A (call (.ref f) us) (EP X pins σ Q) X.xe s:=by
 have r2:Vals (vs++dvs) (us++ds):=r.append hd
 have hl:(us++ds).length=ps.length:=by rw [← r2.length];exact F.len _ _ _ _ h
 refine wpAny_call (codeAny_mono (F.run X.A X.stack s H ⟨us,[]⟩ (us++ds) (vs++dvs) Q E hr I.env0 (hb s us I.kIn hl) r2 h) fun r s' hq=>?_)
 cases r with
 | error e=>exact hx pins σ H s e s' I hq
 | ok fl =>
  cases fl with
  | ret u=>exact I.after hq
  | next=>exact False.elim hq
  | brk=>exact False.elim hq
  | cont=>exact False.elim hq
theorem a3h (F:FnOk X.prog X.w X.K X.mg X.base CX k f fd ps sp) (hr:Room k X.A) (hg:Gl X x) (hm:X.mg x=some (.ref f)) (hk:PySem.W.keepIn X.K (.ref f)=true) (hb:Binds X.K fd ps ds) (hd:Vals dvs ds) (hx:a2c CX X E)
  (ha:PA X (e::es) t) (hdb:(x == ("__debug__" : Str))=false:=by decide) (he:starEach (e::es) X.env=(false,eval e X.env)::starEach es X.env:=by rfl) (hpl:(backTo pos (starEach es X.env)).any (·.1)=false:=by rfl) :
  PE X (.Call (.Name x p) (e::es) [] pos) (ac3 sp dvs E t):=by
 intro pins s σ H Q I h
 refine wpAny_Call_Name_kw (ux I hg hm ?_ hdb)
 refine PySem.W.callWith_K (h₀:=X.base) I.ok.mod.kin hk (thn (ha pos pins s σ H _ I h) fun us s1 ⟨vs,H1,I1,r,q⟩=>⟨I1.kIn,?_⟩) he hpl
 exact aaz F hr hb hd hx I1 r q
theorem a9e (F:FnOk X.prog X.w X.K X.mg X.base CX k f fd ps sp) (hr:Room k X.A) (hg:Gl X x) (hm:X.mg x=some (.ref f)) (hk:PySem.W.keepIn X.K (.ref f)=true) (hb:Binds X.K fd ps ds) (hd:Vals dvs ds) (hx:a2c CX X E)
  (hdb:(x == ("__debug__" : Str))=false:=by decide):PE X (.Call (.Name x p) [] [] pos) (ac3 sp dvs E ajk):=by
 intro pins s σ H Q I h
 refine wpAny_Call_Name_kw (ux I hg hm ?_ hdb)
 exact PySem.W.callWith_K0 I.kIn hk (aaz (us:=[]) F hr hb hd hx I .nil h)
end
structure FnScope (N P:List Str) (sc:Scope):Prop where
 kind:sc.kind = .function
 co:sc.isCoroutine=false
 gen:sc.isGenerator=false
 nd:N.Nodup
 pre:N.take P.length=P
 par:∀ x∈P,sc.names.lookup x=some .local∨sc.names.lookup x=some .cell
 nofree:∀ y∈sc.names,y.2≠.free
theorem a2d {kindOf:Str→Option NameKind} {x:Str}:∀ {binds:List (Str × Value)} {m:Str→Option Value},(∀ v,(x,v) ∉ binds)→bindL kindOf binds m x=m x
 | [],_,_=>rfl
 | (n,v)::r,m,h=>by
  unfold bindL
  rw [a2d fun w hw=>h w (List.mem_cons_of_mem _ hw)]
  split
  ·have:x≠n:=by rintro rfl;exact h v List.mem_cons_self
   simp [this]
  ·rfl
theorem a2e {kindOf:Str→Option NameKind} {x:Str}:∀ {binds:List (Str × Value)} {m:Str→Option Value},(∀ v,(x,v) ∉ binds)→bindC kindOf binds m x=m x
 | [],_,_=>rfl
 | (n,v)::r,m,h=>by
  unfold bindC
  rw [a2e fun w hw=>h w (List.mem_cons_of_mem _ hw)]
  split
  ·rfl
  ·have:x≠n:=by rintro rfl;exact h v List.mem_cons_self
   simp [this]
theorem a2f {kindOf:Str→Option NameKind} {x:Str} {v:Value}:∀ {P:List Str} {vs:List Value} {i:Nat} {m:Str→Option Value},P.Nodup→P[i]? = some x→vs[i]? = some v→kindOf x=some .local →
  bindL kindOf (P.zip vs) m x=some v
 | [],_,_,_,_,h,_,_=>by simp at h
 | _::_,[],_,_,_,_,h,_=>by simp at h
 | p::P,w::vs,0,m,nd,h1,h2,hk=>by
  simp at h1 h2;subst h1;subst h2
  show bindL kindOf ((p,w)::P.zip vs) m p=_
  unfold bindL
  rw [a2d fun v hv=>(List.nodup_cons.mp nd).1 (List.of_mem_zip hv).1,if_pos hk]
  simp
 | p::P,w::vs,i+1,m,nd,h1,h2,hk=>by
  show bindL kindOf ((p,w)::P.zip vs) m x=_
  unfold bindL
  exact a2f (i:=i) (List.nodup_cons.mp nd).2 (by simpa using h1) (by simpa using h2) hk
theorem a2g {kindOf:Str→Option NameKind} {x:Str} {v:Value}:∀ {P:List Str} {vs:List Value} {i:Nat} {m:Str→Option Value},P.Nodup→P[i]? = some x→vs[i]? = some v→kindOf x≠some .local →
  bindC kindOf (P.zip vs) m x=some v
 | [],_,_,_,_,h,_,_=>by simp at h
 | _::_,[],_,_,_,_,h,_=>by simp at h
 | p::P,w::vs,0,m,nd,h1,h2,hk=>by
  simp at h1 h2;subst h1;subst h2
  show bindC kindOf ((p,w)::P.zip vs) m p=_
  unfold bindC
  rw [a2e fun v hv=>(List.nodup_cons.mp nd).1 (List.of_mem_zip hv).1,if_neg hk]
  simp
 | p::P,w::vs,i+1,m,nd,h1,h2,hk=>by
  show bindC kindOf ((p,w)::P.zip vs) m x=_
  unfold bindC
  exact a2g (i:=i) (List.nodup_cons.mp nd).2 (by simpa using h1) (by simpa using h2) hk
def start (N:List Str) (vs:List V):St:=vs.map some++List.replicate (N.length - vs.length) none
def zg (CX:CXT) (P:Program) (w:World) (K:PySem.W.Frag) (mg:Str→Option Value) (base:Heap) (N:List Str) (qual:Str) (scope:Scope) (f:Addr) (cd:Value) (A:Around) (outer:List Env) (s:Shared) (H:Hp) (E:XK):Cx where
 prog:=P
 w:=w
 K:=K
 mg:=mg
 base:=base
 A:=A.deeper (envOfC qual scope s.heap.objs.size f cd)
 N:=N
 s₀:=s
 H₀:=H
 env:=envOfC qual scope s.heap.objs.size f cd
 outer:=outer
 stack:=envOfC qual scope s.heap.objs.size f cd::outer
 ex:=[]
 calm:=true
 fn:=fun _=>true
 pn:=[]
 xe:=fun e s'=>wpAny (model P w) (A.deeper (envOfC qual scope s.heap.objs.size f cd)) (leaving (envOfC qual scope s.heap.objs.size f cd) e) (fun _ s''=>CX outer H s E e s'') (fun e' s''=>CX outer H s E e' s'') s'
theorem a4d {sc:Scope} {n:Nat} {x:Str} (h:sc.names.lookup x=some .cell):∃ c,(cellsFrom n sc.names []).lookup x=some c:=by
 have q:=PySem.W.cellsFrom_some sc.names n [] (.inl h)
 exact Option.isSome_iff_exists.mp q
theorem a2h {CX:CXT} {P:Program} {w:World} {K:PySem.W.Frag} {mg:Str→Option Value} {base:Heap} {N ps:List Str} {qual:Str} {scope:Scope} {f:Addr} {cd:Value} {A:Around} {outer:List Env} {s s1:Shared} {H:Hp} {E:XK} {us:List Value} {vs:List V}
  (S:FnScope N ps scope) (hd:A.handled=none) (e0:Env0 P w K mg base A outer s H) (hl:vs.length=ps.length) (r:Vals vs us)
  (x:InCallC s s.heap.objs.size (bindL (envOfC qual scope s.heap.objs.size f cd).kindOf (ps.zip us) fun _=>none) (cellsFrom (s.heap.objs.size+1) scope.names []) (bindC (envOfC qual scope s.heap.objs.size f cd).kindOf (ps.zip us) fun _=>none) s1) :
  Inv (zg CX P w K mg base N qual scope f cd A outer s H E) [] (start N vs) H s1:=by
 have hpl:ps.length≤N.length:=by have:=congrArg List.length S.pre;rw [List.length_take] at this;omega
 obtain ⟨h1,tk,rfl,hk⟩:=x.done
 have noA:∀ b:Addr,b ∉ (zg CX P w K mg base N qual scope f cd A outer s H E).ex:=fun b z=>absurd (show b∈([]:List Addr) from z) (by simp)
 refine ⟨⟨e0.mod,S.kind,rfl,rfl,Nat.le_refl _,fun y z c h1 h2=>?_,fun y hy=>?_,fun y c _ h=>?_,fun _=>hd,Around.frames_deeper e0.frames, .inr ⟨rfl,rfl⟩,fun b z=>absurd z (noA b),e0.bs,e0.bsz,fun b _ _=>noA b,fun b z=>absurd z (noA b),e0.funs,e0.frf⟩,
  rfl,e0.bare,Un.kept hk,⟨_,x.toInCall.ns,fun i y v h1 h2 h3=>?_⟩,fun y c h=>⟨_,x.cell y c h⟩,e0.hok.fresh (Nat.le_refl _),fun y c h=>?_,fun p hp=>absurd (show p∈([]:List (Addr × Obj)) from hp) (by simp),e0.hok.kept hk,?_⟩
 ·exact name_of_addr x.apart (PySem.mem_of_lookup h1) (PySem.mem_of_lookup h2)
 ·have hy:scope.names.lookup y=some .cell∨scope.names.lookup y=some .free:=hy
  rcases hy with hy | hy
  ·exact a4d hy
  ·exact absurd rfl (S.nofree _ (PySem.mem_of_lookup hy))
 ·exact Nat.le_of_lt (x.above y c (PySem.mem_of_lookup h))
 ·have hi:i<vs.length:=by
   unfold start at h2
   by_cases hi:i<vs.length
   ·exact hi
   ·rw [List.getElem?_append_right (by simpa using hi)] at h2
    rw [List.getElem?_replicate] at h2
    split at h2<;>cases h2
  have ha:vs[i]? = some v:=by
   unfold start at h2
   rw [List.getElem?_append_left (by simpa using hi),List.getElem?_map] at h2
   cases e:vs[i]? with
   | none=>rw [e] at h2;cases h2
   | some a=>rw [e] at h2;cases h2;rfl
  obtain ⟨u,hu,rv⟩:=r.get ha
  have hp:ps[i]? = some y:=by
   rw [← S.pre,List.getElem?_take_of_lt (by omega)];exact h1
  have ndP:ps.Nodup:=by rw [← S.pre];exact S.nd.sublist (List.take_sublist _ _)
  refine ⟨u,rv,?_⟩
  rcases S.par y (List.mem_of_getElem? hp) with k | k
  ·exact .inl ⟨k,a2f ndP hp hu k⟩
  ·obtain ⟨c,e⟩:=a4d (n:=s.heap.objs.size+1) k
   refine .inr ⟨.inl k,c,e,?_⟩
   have q:=x.cell y c e
   rw [a2g ndP hp hu (by show scope.names.lookup y≠_;rw [k];decide)] at q
   exact q
 ·exact e0.hok.fresh (Nat.le_of_lt (x.above y c (PySem.mem_of_lookup h)))
 ·unfold start
  show _=N.length
  rw [List.length_append,List.length_map,List.length_replicate]
  omega
theorem afo {CX:CXT} {P:Program} {w:World} {K:PySem.W.Frag} {mg:Str→Option Value} {base:Heap} {k:Nat} {f:Addr} {name qual:Str} {params:Arguments} {body:List Stmt} {scope:Scope} {dV kV doc pm cdv ct oc:Value} {an od:Option Addr}
  {osl:Array (Option Value)} {N ps:List Str} {sp:Sp} (lk:K.lookup f=some ⟨oc,od, .func (PySem.W.fnOf name qual params body scope dV kV doc pm an cdv ct),osl⟩) (hcd:PySem.W.codeIn K cdv qual=true) (S:FnScope N ps scope)
  (len:∀ vs H Q E,sp vs H Q E→vs.length=ps.length)
  (hbody:∀ (A:Around) (outer:List Env) (s:Shared) (H:Hp) (vs:List V) (Q:VK) (E:XK),Room k (A.deeper (envOfC qual scope s.heap.objs.size f cdv))→sp vs H Q E →
   ∃ t,PSs (zg CX P w K mg base N qual scope f cdv A outer s H E) body t∧t { nx:=fun _ H'=>Q .non H',rt:=Q } (start N vs) H) :
  FnOk P w K mg base CX (k+1) f (PySem.W.fnOf name qual params body scope dV kV doc pm an cdv ct) ps sp:=by
 refine ⟨len,fun A outer s H args us vs Q E hr e0 hb r hsp=>?_⟩
 have hl:=len _ _ _ _ hsp
 have KX:K.In s.heap:=e0.mod.kin.keeps fun b o e=>(e0.bs b o e).1
 have lim:s.heap.NoLimit:=e0.mod.nolimit.keeps fun b o e=>(e0.bs b o e).1
 have hkind:∀ y∈ps.zip us,scope.names.lookup y.1=some .local∨(scope.names.lookup y.1=some .cell∧((cellsFrom (s.heap.objs.size+1) scope.names []).lookup y.1).isSome=true):=fun ⟨n,v⟩ hy=>by
  rcases S.par n (List.of_mem_zip hy).1 with q | q
  ·exact .inl q
  ·exact .inr ⟨q,PySem.W.cellsFrom_some _ _ _ (.inl q)⟩
 refine codeAny_call_function hr.depth (KX _ _ lk) rfl S.co S.gen rfl (PySem.W.codeRec_of KX hcd) (hb _ _ _ _ ?_)
 refine wpAny_newFunctionEnv_cells S.kind hkind fun env he s1 x=>?_
 subst he
 refine ⟨lim.keeps x.toInCall.keep,codeAny_func ?_⟩
 obtain ⟨t,ht,hq⟩:=hbody A outer s H vs Q E (hr.deeper _) hsp
 have I:Inv (zg CX P w K mg base N qual scope f cdv A outer s H E) [] (start N vs) H s1:=a2h S hr.hd e0 hl r x
 refine wpAny_mono (ht [] s1 (start N vs) H _ I hq) (fun fl s' hs=>?_) fun e s' hs=>hs
 have fin:∀ {σ':St} {H':Hp} {v:V} {u:Value},Inv (zg CX P w K mg base N qual scope f cdv A outer s H E) [] σ' H' s'→RelV v u→Q v H'→CE outer P w H s Q u s' :=
  fun {σ' H' v u} J rv q=>⟨v,H',J.os,J.bare,J.base,J.hok,rv,q⟩
 cases fl with
 | ret u =>
  obtain ⟨v,σ',H',J,rv,q⟩:=hs
  exact fin J rv q
 | next =>
  obtain ⟨σ',H',J,q⟩:=hs
  exact fin (v:=V.non) (u:=Value.none) J rfl q
 | brk =>
  obtain ⟨_,_,_,q⟩:=hs
  exact False.elim q
 | cont =>
  obtain ⟨_,_,_,q⟩:=hs
  exact False.elim q
end L2
namespace L2
open PySem PySem.Spec PyProof.Rows
section
variable {X:Cx} {x:Str} {p pos:Pos} {e:Expr} {es:List Expr} {t:TA} {id T:String} {r:List V→Hp→VK→Prop}
def tCB (r:List V→Hp→VK→Prop) (t:TA):TE:=fun σ H Q=>t σ H fun vs H1=>r vs H1 Q
theorem a0x (hc:CallR X (.builtin id) r) (hg:Gl X x) (hm:X.mg x=none) (hv:bootBuiltins x=some (.builtin id)) (ha:PA X (e::es) t) (hn:x ≠ "__name__":=by decide) (hdb:(x == ("__debug__" : Str))=false:=by decide)
  (he:starEach (e::es) X.env=(false,eval e X.env)::starEach es X.env:=by rfl) (hpl:(backTo pos (starEach es X.env)).any (·.1)=false:=by rfl):PE X (.Call (.Name x p) (e::es) [] pos) (tCB r t):=by
 intro pins s σ H Q I h
 refine wpAny_Call_Name_kw (a4b I hg hm hv ?_ hn hdb)
 exact PyProof.Rows.callWith_builtin1 (thn (ha pos pins s σ H _ I h) fun us s1 ⟨vs,H1,I1,r1,q1⟩=>hc pins s1 σ H1 vs us Q I1 r1 q1) he hpl
theorem a79 (hc:CallR X (.type T) r) (hg:Gl X x) (hm:X.mg x=none) (hv:bootBuiltins x=some (.type T)) (ha:PA X (e::es) t) (hn:x ≠ "__name__":=by decide) (hdb:(x == ("__debug__" : Str))=false:=by decide)
  (he:starEach (e::es) X.env=(false,eval e X.env)::starEach es X.env:=by rfl) (hpl:(backTo pos (starEach es X.env)).any (·.1)=false:=by rfl):PE X (.Call (.Name x p) (e::es) [] pos) (tCB r t):=by
 intro pins s σ H Q I h
 refine wpAny_Call_Name_kw (a4b I hg hm hv ?_ hn hdb)
 exact PyProof.Rows.callWith_type1 (thn (ha pos pins s σ H _ I h) fun us s1 ⟨vs,H1,I1,r1,q1⟩=>hc pins s1 σ H1 vs us Q I1 r1 q1) he hpl
end
end L2
namespace HT
open PySem PyProof.Rows
section
variable {prog:Program} {w:World} {A:Around} {E:Value→Shared→Prop} {s:Shared}
theorem ac4 {t b:Addr} {vs ws:List Value} {Q:Value→Shared→Prop} (ht:IsTup s.heap t vs.toArray) (hb:IsTup s.heap b ws.toArray) (hv:vs≠[])
  (h1:ws=[]→Q (.ref t) s) (h2:ws≠[]→Q (.ref s.heap.objs.size) { s with heap:=s.heap.push { cls:=.type "tuple",data:=.seq (vs++ws).toArray } })
  (hsz:vs.length+ws.length≤sizeLine):wpAny (model prog w) A (binaryOp .Add (.ref t) (.ref b)) Q E s:=by
 obtain ⟨⟨cls,dd,data,sl⟩,ho,hc,n,hd⟩:=id ht
 obtain ⟨⟨cls2,dd2,data2,sl2⟩,ho2,hc2,n2,hd2⟩:=id hb
 simp only at hc hd hc2 hd2
 subst hc hd hc2 hd2
 have e:vs.toArray++ws.toArray=(vs++ws).toArray:=by simp
 by_cases hw:ws=[]
 ·exact concat_meets ⟨_,ho,rfl⟩ ⟨_,ho2,rfl⟩ noFill_tuple_add seq_tuple_add PySem.F.slot_tuple_add PySem.F.entry_tuple_add (PySem.F.args_tuple_add_2 _ _)
   (tuple_addW1 t b vs.toArray ws.toArray n n2 dd dd2 sl sl2 (by simpa using hv) (by simp [hw])) ⟨ho,ho2,h1 hw⟩
 ·refine concat_meets ⟨_,ho,rfl⟩ ⟨_,ho2,rfl⟩ noFill_tuple_add seq_tuple_add PySem.F.slot_tuple_add PySem.F.entry_tuple_add (PySem.F.args_tuple_add_2 _ _)
   (tuple_addW2 t b vs.toArray ws.toArray n n2 dd dd2 sl sl2 (by simpa using hv) (by simpa using hw) (by rw [List.size_toArray,List.size_toArray];exact hsz)) ⟨ho,ho2,?_⟩
  rw [e]
  exact h2 hw
def sIx (n d:Nat):Option Int→Nat
 | none=>d
 | some v=>if v<0 then (v+(n:Int)).toNat else min v.toNat n
theorem a4e (n d:Nat):sIx n d none=d:=rfl
theorem a7a (n d k:Nat):sIx n d (some (k:Int))=min k n:=by
 show (if (k:Int)<0 then ((k:Int)+(n:Int)).toNat else min (k:Int).toNat n)=min k n
 rw [if_neg (by omega),Int.toNat_natCast]
theorem a7b (n d:Nat) (hd:d≤n) (o:Option Int):sIx n d o≤n:=by
 cases o with
 | none=>exact hd
 | some v =>
  show (if v<0 then (v+(n:Int)).toNat else min v.toNat n)≤n
  by_cases hv:v<0
  ·rw [if_pos hv];omega
  ·rw [if_neg hv];exact Nat.min_le_right _ _
theorem a7c (v:Int) (n d:Nat):(if v<0 then max (v+(n:Int)) 0 else min v (n:Int))=((sIx n d (some v):Nat):Int):=by
 show (if v<0 then max (v+(n:Int)) 0 else min v (n:Int))=(((if v<0 then (v+(n:Int)).toNat else min v.toNat n):Nat):Int)
 by_cases hv:v<0
 ·simp only [if_pos hv];omega
 ·simp only [if_neg hv];omega
theorem a5u (lo hi:Option Int) (n:Nat):Builtin.Slice.sliceAdjust lo hi 1 (n:Int)=(((sIx n 0 lo:Nat):Int),((sIx n n hi:Nat):Int)):=by
 have h1:¬ ((1:Int)<0):=by omega
 unfold Builtin.Slice.sliceAdjust
 simp only [h1,if_false]
 refine Prod.ext ?_ ?_
 ·cases lo with
  | none=>rfl
  | some v=>exact a7c v n 0
 ·cases hi with
  | none=>rfl
  | some v=>exact a7c v n n
theorem a5v (i j:Nat):Builtin.Slice.slicePlaces (i:Int) (j:Int) 1=j - i:=by
 unfold Builtin.Slice.slicePlaces
 have h1:(1:Int) > 0:=by omega
 simp only [h1,if_true,Int.ediv_one]
 split<;>omega
theorem a0d {v:Value} {o:Option Int} {Q:Option Int→Shared→Prop} (p:IsPart v o) (h:Q o s):wpAny (model prog w) A (Builtin.Slice.slicePartIndex v) Q E s:=by
 cases p with
 | none=>exact slicePart_none h
 | int i t=>exact slicePart_int h
theorem rn {sl:Addr} {vl vu:Value} {lo hi:Option Int} {n:Nat} {Q:Int × Int × Nat→Shared→Prop} (hs:s.heap.IsSliceOf sl vl vu .none) (pl:IsPart vl lo) (pu:IsPart vu hi)
  (h:Q (((sIx n 0 lo:Nat):Int),1,sIx n n hi - sIx n 0 lo) s):wpAny (model prog w) A (Builtin.Slice.sliceApplied (.ref sl) (pure (n:Int))) Q E s:=by
 obtain ⟨os,hos,hcs,hds⟩:=id hs
 unfold Builtin.Slice.sliceApplied Builtin.Slice.sliceFields
 refine wpAny_bind (wpAny_bind (wpAny_field hos hds (x:=vl) rfl (wpAny_bind (wpAny_field hos hds (x:=vu) rfl (wpAny_bind (wpAny_field hos hds (x:=.none) rfl (wpAny_pure ?_)))))))
 refine wpAny_bind (slicePart_none ?_)
 show wpAny _ _ (if ((1:Int) == 0)=true then _ else _) _ _ s
 rw [if_neg (by decide)]
 refine wpAny_bind (a0d pl (wpAny_bind (a0d pu (wpAny_bind (wpAny_pure ?_)))))
 show wpAny _ _ (match Builtin.Slice.sliceAdjust lo hi 1 (n:Int) with | (lo,hi)=>pure (lo,(1:Int),Builtin.Slice.slicePlaces lo hi 1)) _ _ s
 rw [a5u lo hi n]
 show wpAny _ _ (pure (((sIx n 0 lo:Nat):Int),(1:Int),Builtin.Slice.slicePlaces ((sIx n 0 lo:Nat):Int) ((sIx n n hi:Nat):Int) 1)) _ _ s
 rw [a5v]
 exact wpAny_pure h
theorem a9f (xs:Array Value) (i k:Nat):((List.range k).filterMap fun (m:Nat)=>xs[((i:Int)+(m:Int)*1).toNat]?).toArray=((xs.toList.drop i).take k).toArray:=by
 have e:(fun (m:Nat)=>xs[((i:Int)+(m:Int)*1).toNat]?)=fun m=>xs[i+m]?:=by
  funext m
  have:((i:Int)+(m:Int)*1).toNat=i+m:=by omega
  rw [this]
 rw [e]
 have:=pick_run xs i k
 rw [List.filterMap_map] at this
 have e2:((fun x=>xs[x]?) ∘ fun x=>i+x)=fun m=>xs[i+m]?:=rfl
 rw [e2] at this
 rw [this]
theorem vp {t sl:Addr} {items:Array Value} {vl vu:Value} {lo hi:Option Int} {Q:Value→Shared→Prop} (ht:IsTup s.heap t items) (hs:s.heap.IsSliceOf sl vl vu .none) (pl:IsPart vl lo) (pu:IsPart vu hi)
  (hw:¬ (sIx items.size 0 lo=0∧sIx items.size items.size hi=items.size))
  (h:Q (.ref s.heap.objs.size) { s with heap:=s.heap.push { cls:=.type "tuple",data:=.seq ((items.toList.drop (sIx items.size 0 lo)).take (sIx items.size items.size hi - sIx items.size 0 lo)).toArray } })
  (hsz:items.size≤sizeLine):wpAny (model prog w) A (getItem (.ref t) (.ref sl)) Q E s:=by
 have htake:sizeOk (.seq ((items.toList.drop (sIx items.size 0 lo)).take (sIx items.size items.size hi - sIx items.size 0 lo)).toArray):=by
  show ((items.toList.drop (sIx items.size 0 lo)).take (sIx items.size items.size hi - sIx items.size 0 lo)).toArray.size≤sizeLine
  rw [List.size_toArray,List.length_take,List.length_drop,Array.length_toList]
  omega
 have hj:sIx items.size items.size hi≤items.size:=a7b _ _ (Nat.le_refl _) hi
 obtain ⟨os,hos,hcs,hds⟩:=id hs
 have hTs:s.TypeIs (.ref sl) "slice":=⟨os,hos,hcs⟩
 unfold getItem
 try with_reducible refine wpAny_holding ?_
 first | refine wpAny_bind (wpAny_pure ?_) | skip
 refine wpAny_bind (wpAny_sequenceKey ht.typeIs (by decide) ?_)
 refine wpAny_bind (wpAny_callSpecial?_slot (name:=Str.ofString "__getitem__") ht.typeIs PyProof.Rows.slot_tuple_getitem
  (wpAny_call_entry PyProof.Rows.slot_tuple_getitem ht.typeIs entry_tuple_getitem ?_ (args_tuple_getitem _ _)))
 show wpAny _ _ (Builtin.Tuple.tupleItemsOf (.ref t)>>=_) _ _ s
 refine wpAny_bind (tupleItemsOf_ ht ?_)
 refine wpAny_bind (wpAny_typeOf hTs ?_)
 rw [if_pos (by decide)]
 refine wpAny_bind (rn hs pl pu ?_)
 have hno:¬ ((((sIx items.size 0 lo:Nat):Int) == 0 && (1:Int) == 1 && (sIx items.size items.size hi - sIx items.size 0 lo) == items.size)=true):=by
  intro q
  rw [Bool.and_eq_true,Bool.and_eq_true] at q
  have q1:((sIx items.size 0 lo:Nat):Int)=0:=eq_of_beq q.1.1
  have q2:sIx items.size items.size hi - sIx items.size 0 lo=items.size:=eq_of_beq q.2
  exact hw ⟨by omega,by omega⟩
 show wpAny _ _ (if (((sIx items.size 0 lo:Nat):Int) == 0 && (1:Int) == 1 && (sIx items.size items.size hi - sIx items.size 0 lo) == items.size)=true then _ else _) _ _ s
 rw [if_neg hno,a9f]
 first
  | exact wpAny_bind (m:=Builtin.Tuple.tupleExact _) (wpAny_newObj_type (wpAny_pure ⟨_,rfl,wpAny_pure h⟩) htake)
  | exact wpAny_bind (m:=Builtin.Tuple.tupleExact _) (wpAny_newObj_type (wpAny_bind (wpAny_pure (wpAny_pure ⟨_,rfl,wpAny_pure h⟩))) htake)
  | exact wpAny_bind (wpAny_bind (m:=Builtin.Tuple.tupleExact _) (wpAny_newObj_type (wpAny_pure (wpAny_pure ⟨_,rfl,wpAny_pure h⟩)) htake))
  | exact wpAny_bind (wpAny_bind (m:=Builtin.Tuple.tupleExact _) (wpAny_newObj_type (wpAny_pure ⟨_,rfl,wpAny_pure h⟩) htake))
end
end HT
namespace L2
open PySem PySem.Spec PyProof.Rows
abbrev TO:=St→Hp→(Option Int→Hp→Prop)→Prop
def PO (X:Cx) (e:Option Expr) (t:TO):Prop :=
 ∀ (pins:List (Addr × Obj)) (s:Shared) (σ:St) (H:Hp) (Q:Option Int→Hp→Prop),Inv X pins σ H s→t σ H Q →
  wpAny (model X.prog X.w) X.A (evalPart e X.env) (fun u s'=>∃ o H',Inv X pins σ H' s'∧IsPart u o∧Q o H') X.xe s
def ac6:TO:=fun _ H Q=>Q none H
def ail (t:TE):TO:=fun σ H Q=>t σ H fun x H1=>∃ i,x = .int i∧Q (some i) H1
section
variable {X:Cx} {e:Expr} {te:TE} {lo hi:Option Expr} {tl th:TO} {pos p2:Pos}
theorem ac8:PO X none ac6:=by
 intro pins s σ H Q I h
 rw [evalPart_none]
 exact wpAny_pure ⟨none,H,I, .none,h⟩
theorem aca (h:PE X e te):PO X (some e) (ail te):=by
 intro pins s σ H Q I hw
 rw [evalPart_some]
 refine thn (h pins s σ H _ I hw) fun u s1 ⟨x,H1,I1,r1,q1⟩=>?_
 obtain ⟨i,rfl,q⟩:=q1
 obtain ⟨t,rfl⟩:=r1
 exact ⟨some i,H1,I1, .int i t,q⟩
def SlR (X:Cx) (r:V→Option Int→Option Int→Hp→VK→Prop):Prop :=
 ∀ (pins:List (Addr × Obj)) (s:Shared) (σ:St) (H:Hp) (x:V) (v vl vu:Value) (lo hi:Option Int) (sl:Addr) (Q:VK),Inv X pins σ H s→RelV x v→s.heap.IsSliceOf sl vl vu .none→IsPart vl lo→IsPart vu hi→r x lo hi H Q →
  ∃ T id,typeLookup (.type T) "__getitem__" = pure (some (.builtin id))∧s.TypeIs v T∧wpAny (model X.prog X.w) X.A (getItem v (.ref sl)) (EP X pins σ Q) X.xe s
theorem SlR.or {r r':V→Option Int→Option Int→Hp→VK→Prop} (h:SlR X r) (h':SlR X r'):SlR X (fun x lo hi H Q=>r x lo hi H Q∨r' x lo hi H Q):=by
 intro pins s σ H x v vl vu lo hi sl Q I rx hs pl pu q
 rcases q with q | q
 ·exact h pins s σ H x v vl vu lo hi sl Q I rx hs pl pu q
 ·exact h' pins s σ H x v vl vu lo hi sl Q I rx hs pl pu q
def tSl (r:V→Option Int→Option Int→Hp→VK→Prop) (te:TE) (tl th:TO):TE:=fun σ H Q=>te σ H fun x H1=>tl σ H1 fun l H2=>th σ H2 fun u H3=>r x l u H3 Q
theorem a9g {r:V→Option Int→Option Int→Hp→VK→Prop} (hr:SlR X r) (he:PE X e te) (hl:PO X lo tl) (hu:PO X hi th):PE X (.Subscript e (.Slice lo hi none p2) pos) (tSl r te tl th):=by
 intro pins s σ H Q I h
 refine Subscript_ (thn (he pins s σ H _ I h) fun v s1 ⟨x,H1,I1,r1,q1⟩=>?_)
 refine wpAny_Slice (thn (hl pins s1 σ H1 _ I1 q1) fun vl s2 ⟨l,H2,I2,pl,q2⟩=>thn (hu pins s2 σ H2 _ I2 q2) fun vu s3 ⟨u,H3,I3,pu,q3⟩=>?_)
 rw [evalPart_none]
 refine wpAny_pure ?_
 have I4:Inv X pins σ H3 { s3 with heap:=s3.heap.push { cls:=.type "slice",data:=.fields #[vl,vu, .none] } }:=I3.kept (t':=s3.toks) fun b ob q=>Heap.get?_push_of_some _ q
 obtain ⟨T,id,hT,ht,hg⟩:=hr pins { s3 with heap:=s3.heap.push { cls:=.type "slice",data:=.fields #[vl,vu, .none] } } σ H3 x v vl vu l u s3.heap.objs.size Q I4 r1 (Heap.IsSliceOf.new ..) pl pu q3
 show wpAny (model X.prog X.w) X.A (subscriptTail e (.Slice lo hi none p2) v (.ref s3.heap.objs.size)) (EP X pins σ Q) X.xe { s3 with heap:=s3.heap.push { cls:=.type "slice",data:=.fields #[vl,vu, .none] } }
 exact tail_any (ops:=[.ref s3.heap.objs.size,v]) ht hT hg (by with_unfolding_all rfl)
def ab0 (xs:List V) (lo hi:Option Int):List V:=(xs.drop (HT.sIx xs.length 0 lo)).take (HT.sIx xs.length xs.length hi - HT.sIx xs.length 0 lo)
theorem zj (xs:List V) (lo hi:Option Int):(ab0 xs lo hi).length≤xs.length:=by
 unfold ab0
 rw [List.length_take,List.length_drop]
 omega
def aim (K:PySem.W.Frag):V→Option Int→Option Int→Hp→VK→Prop:=fun x lo hi H Q=>∃ a xs,x = .ref a∧SqT K H a xs ∧
 ¬ (HT.sIx xs.length 0 lo=0∧HT.sIx xs.length xs.length hi=xs.length)∧∀ p,H p=none→Q (.ref p) (upd H p (.tup (ab0 xs lo hi)))
theorem afp:SlR X (aim X.K):=by
 intro pins s σ H x v vl vu lo hi sl Q I rx hs pl pu h
 obtain ⟨a,xs,rfl,hx,hw,q⟩:=h
 cases rx
 obtain ⟨its,r,ht,hz⟩:=I.tuple hx
 have hlen:its.toArray.size=xs.length:=by rw [List.size_toArray];exact r.length.symm
 refine ⟨"tuple",_,PyProof.Rows.slot_tuple_getitem.lookup,ht.typeIs,?_⟩
 refine HT.vp ht hs pl pu (by rw [hlen];exact hw) ?_ (by rw [hlen];exact hz)
 rw [hlen]
 refine ⟨.ref s.heap.objs.size,_,I.laid (t':=s.toks) (o:=.tup (ab0 xs lo hi)) (fun b ob q=>Heap.get?_push_of_some _ q) (Nat.le_refl _) ?_,rfl,q _ (I.hok.fresh (Nat.le_refl _))⟩
 exact ⟨Nat.le_trans (zj xs lo hi) hz,_,(r.drop (HT.sIx xs.length 0 lo)).take (HT.sIx xs.length xs.length hi - HT.sIx xs.length 0 lo),IsTup.new _ _⟩
def afq (K:PySem.W.Frag):R2:=fun x y H Q=>∃ a b xs ys,x = .ref a∧y = .ref b∧SqT K H a xs∧SqT K H b ys∧xs≠[]∧xs.length+ys.length≤sizeLine ∧
 (ys=[]→Q (.ref a) H)∧(ys≠[]→∀ p,H p=none→Q (.ref p) (upd H p (.tup (xs++ys))))
theorem Vals.nil_iff {xs:List V} {us:List Value} (r:Vals xs us):us=[]↔xs=[]:=by
 cases r with
 | nil=>simp
 | cons _ _=>simp
theorem acb:OpR X (binaryOp .Add) (afq X.K):=by
 intro pins s σ H x y v u Q I rx ry h
 obtain ⟨a,b,xs,ys,rfl,rfl,ha,hb,hx,hz,q1,q2⟩:=h
 cases rx
 cases ry
 obtain ⟨its,r1,p1,_⟩:=I.tuple ha
 obtain ⟨its2,r2,p2,_⟩:=I.tuple hb
 refine HT.ac4 p1 p2 (fun z=>hx (r1.nil_iff.mp z)) (fun z=>⟨.ref a,H,I,rfl,q1 (r2.nil_iff.mp z)⟩) (fun z=>?_) (by rw [← r1.length,← r2.length];exact hz)
 refine ⟨.ref s.heap.objs.size,_,I.laid (t':=s.toks) (o:=.tup (xs++ys)) (fun b ob q=>Heap.get?_push_of_some _ q) (Nat.le_refl _) ?_,rfl,q2 (fun w=>z (r2.nil_iff.mpr w)) _ (I.hok.fresh (Nat.le_refl _))⟩
 exact ⟨by rw [List.length_append];exact hz,_,r1.append r2,IsTup.new _ _⟩
end
end L2
namespace L2
open PySem PySem.Spec PyProof.Rows
def ixN (n:Nat) (i:Int):Option Nat:=if 0≤i then (if i<n then some i.toNat else none) else if -(n:Int)≤i then some (i+n).toNat else none
def atI {α:Type} (xs:List α) (i:Int):Option α:=(ixN xs.length i).bind fun j=>xs[j]?
theorem a7d {n:Nat} {i:Int} {j:Nat} (h:ixN n i=some j):seqIndex? i n=some j∧j<n ∧ -(n:Int)≤i∧i<n:=by
 unfold ixN at h
 by_cases h0:0≤i
 ·rw [if_pos h0] at h
  by_cases h1:i<n
  ·rw [if_pos h1] at h
   have e:i.toNat=j:=Option.some.inj h
   exact ⟨by rw [seqIndex_of h0 h1,e],by omega,by omega,h1⟩
  ·rw [if_neg h1] at h;cases h
 ·rw [if_neg h0] at h
  by_cases h1 : -(n:Int)≤i
  ·rw [if_pos h1] at h
   have e:(i+n).toNat=j:=Option.some.inj h
   exact ⟨by rw [seqIndex_neg (by omega) h1,e],by omega,h1,by omega⟩
  ·rw [if_neg h1] at h;cases h
theorem a3i {α:Type} {xs:List α} {i:Int} {v:α} (h:atI xs i=some v):∃ j,seqIndex? i xs.length=some j∧xs[j]? = some v∧j<xs.length ∧ -(xs.length:Int)≤i∧i<xs.length:=by
 unfold atI at h
 cases e:ixN xs.length i with
 | none=>rw [e] at h;cases h
 | some j =>
  rw [e] at h
  obtain ⟨h1,h2,h3,h4⟩:=a7d e
  exact ⟨j,h1,h,h2,h3,h4⟩
theorem m8 {α:Type} {xs:List α} {j:Nat} {v:α} (h:xs[j]? = some v):atI xs (j:Int)=some v:=by
 have hj:j<xs.length:=(List.getElem?_eq_some_iff.mp h).1
 have e:ixN xs.length (j:Int)=some j:=by
  unfold ixN
  rw [if_pos (by omega),if_pos (by omega)];simp
 unfold atI;rw [e];exact h
def a3j (b:Expr):Prop:=∀ o i,subscripted b false o i=operate [o,i] (getItem o i)
def IxR (X:Cx) (r:R2):Prop :=
 ∀ (value slice:Expr) (pins:List (Addr × Obj)) (s:Shared) (σ:St) (H:Hp) (x y:V) (v u:Value) (Q:VK),Inv X pins σ H s→RelV x v→RelV y u→r x y H Q →
  subscripted slice false v u=operate [v,u] (getItem v u)→wpAny (model X.prog X.w) X.A (subscriptTail value slice v u) (EP X pins σ Q) X.xe s
def MtR (X:Cx) (id:String) (r:V→List V→Hp→VK→Prop):Prop :=
 ∀ (pins:List (Addr × Obj)) (s:Shared) (σ:St) (H:Hp) (x:V) (xs:List V) (v:Value) (us:List Value) (Q:VK),Inv X pins σ H s→RelV x v→Vals xs us→r x xs H Q →
  wpAny (model X.prog X.w) X.A (call (.builtin id) (v::us)) (EP X pins σ Q) X.xe s
section
variable {X:Cx} {a b:Expr} {ta tb:TE} {pos:Pos}
theorem IxR.or {r r':R2} (h:IxR X r) (h':IxR X r'):IxR X (fun x y H Q=>r x y H Q∨r' x y H Q):=by
 intro value slice pins s σ H x y v u Q I rx ry q hs
 rcases q with q | q
 ·exact h value slice pins s σ H x y v u Q I rx ry q hs
 ·exact h' value slice pins s σ H x y v u Q I rx ry q hs
theorem ain {r:R2} (hr:IxR X r) (ha:PE X a ta) (hb:PE X b tb) (hs:a3j b):PE X (.Subscript a b pos) (tOp r ta tb):=by
 intro pins s σ H Q I h
 exact Subscript_ (aic ha hb I h fun v u s2 x y H2 I2 rx ry q=>hr a b pins s2 σ H2 x y v u Q I2 rx ry q (hs _ _))
def ajl (K:PySem.W.Frag):R2:=fun x y H Q=>∃ p xs i v,x = .ref p∧y = .int i∧SqL K H p xs∧atI xs i=some v∧Q v H
def ajm (K:PySem.W.Frag):R2:=fun x y H Q=>∃ p xs i v,x = .ref p∧y = .int i∧SqT K H p xs∧atI xs i=some v∧Q v H
def ajn:R2:=fun x y H Q=>∃ z i c,x = .str z∧y = .int i∧z.length≤sizeLine∧atI z.cps.toList i=some c∧Q (.str ⟨#[c]⟩) H
theorem acd:IxR X (ajl X.K):=by
 intro value slice pins s σ H x y v u Q I rx ry h hs
 obtain ⟨p,xs,i,z,rfl,rfl,hq,he,q⟩:=h
 cases rx
 obtain ⟨t,rfl⟩:=ry
 obtain ⟨its,r,pl,hz⟩:=I.list hq
 obtain ⟨j,h1,h2,h3,h4,h5⟩:=a3i he
 obtain ⟨w,ew,rw'⟩:=r.get h2
 have hl:=r.length
 have hn:=zf
 have fin:EP X pins σ Q w s:=⟨z,H,I,rw',q⟩
 by_cases h0:0≤i
 ·have hj:i.toNat=j:=by
   rw [seqIndex_of h0 h5] at h1
   exact Option.some.inj h1
  exact item_listR pl.isList h0 (by omega) (by rw [hj];simpa using ew) fin hs
 ·have hj:(i+(its.toArray.size:Int)).toNat=j:=by
   rw [seqIndex_neg (by omega) h4] at h1
   rw [List.size_toArray,← hl]
   exact Option.some.inj h1
  exact subscriptTail_builtinR (x:=w) pl.isList.typeIs slot_list_getitem.lookup
   (wpAny_getItem_list_neg (Q:=fun r s'=>r=w∧EP X pins σ Q r s') pl.isList (by omega) (by rw [List.size_toArray]<;>omega) (by omega) (by rw [hj];simpa using ew) ⟨rfl,fin⟩) hs
theorem v8:IxR X (ajm X.K):=by
 intro value slice pins s σ H x y v u Q I rx ry h hs
 obtain ⟨p,xs,i,z,rfl,rfl,hq,he,q⟩:=h
 cases rx
 obtain ⟨t,rfl⟩:=ry
 obtain ⟨its,r,pl,hz⟩:=I.tuple hq
 obtain ⟨j,h1,h2,h3,h4,h5⟩:=a3i he
 obtain ⟨w,ew,rw'⟩:=r.get h2
 have hl:=r.length
 have hn:=zf
 have fin:EP X pins σ Q w s:=⟨z,H,I,rw',q⟩
 exact subscriptTail_builtinR (x:=w) pl.typeIs slot_tuple_getitem.lookup
  (getItem_tuple (j:=j) (Q:=fun r s'=>r=w∧EP X pins σ Q r s') pl (by omega) (by omega) (by rw [List.size_toArray,← hl];exact h1) (by simpa using ew) ⟨rfl,fin⟩) hs
theorem afr:IxR X ajn:=by
 intro value slice pins s σ H x y v u Q I rx ry h hs
 obtain ⟨z,i,c,rfl,rfl,hz,he,q⟩:=h
 obtain ⟨t,rfl⟩:=rx
 obtain ⟨t',rfl⟩:=ry
 obtain ⟨j,h1,h2,h3,h4,h5⟩:=a3i he
 have hl:z.cps.toList.length=z.length:=by simp [Str.length]
 rw [hl] at h1 h4 h5
 have hn:=zf
 exact tail_any (typeIs_str s z t) slot_str_getitem.lookup (getItem_str (c:=c) (by
  have e1:decide (i < -(2 ^ 63:Int))=false:=decide_eq_false (by omega)
  have e2:decide (i≥2 ^ 63)=false:=decide_eq_false (by omega)
  rw [e1,e2,Bool.or_false]) (by rw [h1];simpa using h2) ⟨.str ⟨#[c]⟩,H,I.tok _,⟨_,rfl⟩,q⟩) hs
def rIx (K:PySem.W.Frag):R2:=fun x y H Q=>ajl K x y H Q∨ajm K x y H Q∨ajn x y H Q
theorem afs:IxR X (rIx X.K):=acd.or (v8.or afr)
theorem a5w (its:List Value) (n j:Nat) (u:Value):Obj.mapSeq (·.setIfInBounds j u) { cls:=.type "list",data:=.seq its.toArray n }={ cls:=.type "list",data:=.seq (its.set j u).toArray n }:=by
 simp [Obj.mapSeq]
theorem Inv.lst {pins:List (Addr × Obj)} {σ:St} {H:Hp} {s:Shared} {p:Addr} {xs:List V} (I:Inv X pins σ H s) (h:H p=some (.lst xs)) :
  ∃ (its:List Value) (n:Nat),Vals xs its∧s.heap.get? p=some { cls:=.type "list",data:=.seq its.toArray n }∧xs.length≤sizeLine:=by
 obtain ⟨z,its,n,r,e⟩:=I.hok p _ h
 exact ⟨its,n,r,e,z⟩
theorem Inv.lstUpd {pins:List (Addr × Obj)} {σ:St} {H:Hp} {s:Shared} {p:Addr} {xs ys:List V} {its its':List Value} {n n':Nat} {f:Obj→Obj} (I:Inv X pins σ H s) (h:H p=some (.lst xs))
  (ho:s.heap.get? p=some { cls:=.type "list",data:=.seq its.toArray n }) (hf:f { cls:=.type "list",data:=.seq its.toArray n }={ cls:=.type "list",data:=.seq its'.toArray n' }) (r:Vals ys its') (hz:ys.length≤sizeLine) (t:Nat) :
  Inv X pins σ (upd H p (.lst ys)) { s with heap:=s.heap.update p f,toks:=t }:=by
 have e:(s.heap.update p f).get? p=some { cls:=.type "list",data:=.seq its'.toArray n' }:=by
  rw [Heap.get?_update_self f ho (by rw [hf]<;>rfl),hf]
 refine I.write (x:=p) (e:=p) (by rw [h];trivial) (.inl rfl) (fun b u hb q=>(Heap.get?_update_other _ _ (Ne.symm hb)).trans q) ⟨_,e⟩ ?_
 exact ⟨hz,its',n',r,e⟩
def aft:V→V→V→Hp→(Hp→Prop)→Prop:=fun o i v H Q=>∃ p xs k j,o = .ref p∧i = .int k∧H p=some (.lst xs)∧ixN xs.length k=some j∧Q (upd H p (.lst (xs.set j v)))
theorem set_list:ajh X aft:=by
 intro pins s σ H o i v ov iv u Q I ro ri rv h
 obtain ⟨p,xs,k,j,rfl,rfl,hp,hj,q⟩:=h
 cases ro
 obtain ⟨t,rfl⟩:=ri
 obtain ⟨its,n,r,ho,hz⟩:=I.lst hp
 obtain ⟨h1,h2,h3,h4⟩:=a7d hj
 have hl:=r.length
 have hn:=zf
 have I':Inv X pins σ (upd H p (.lst (xs.set j v))) { s with heap:=s.heap.update p (Obj.mapSeq (·.setIfInBounds j u)) } :=
  I.lstUpd hp ho (a5w its n j u) (r.set rv j) (by rw [List.length_set];exact hz) s.toks
 by_cases h0:0≤k
 ·have hk:k.toNat=j:=by
   rw [seqIndex_of h0 h4] at h1
   exact Option.some.inj h1
  exact PySem.W.ki_setAt ho h0 (by omega) (by rw [List.size_toArray,← hl];exact h4) (by rw [hk];exact ⟨_,I',q⟩)
 ·have hk:(k+(its.toArray.size:Int)).toNat=j:=by
   rw [seqIndex_neg (by omega) h3] at h1
   rw [List.size_toArray,← hl]
   exact Option.some.inj h1
  exact PySem.W.ki_setBack ho (by omega) (by rw [List.size_toArray,← hl];exact h3) (by omega) (by rw [hk];exact ⟨_,I',q⟩)
theorem a2i (lo hi:Option Int) (n:Nat):(sliceBounds lo hi none n).1=((HT.sIx n 0 lo:Nat):Int)∧(sliceBounds lo hi none n).2.1=((HT.sIx n n hi:Nat):Int)∧(sliceBounds lo hi none n).2.2=1:=by
 refine ⟨?_,?_,rfl⟩
 ·cases lo with
  | none=>simp [sliceBounds,HT.sIx]
  | some i =>
   simp only [sliceBounds,HT.sIx,Option.getD_none,show (1:Int) > 0 by decide,if_true]
   by_cases h:i<0
   ·simp only [h,if_true]<;>omega
   ·simp only [h,if_false]<;>omega
 ·cases hi with
  | none=>simp [sliceBounds,HT.sIx]
  | some i =>
   simp only [sliceBounds,HT.sIx,Option.getD_none,show (1:Int) > 0 by decide,if_true]
   by_cases h:i<0
   ·simp only [h,if_true]<;>omega
   ·simp only [h,if_false]<;>omega
theorem a0y (its:List Value) (lo hi:Option Int):slicePick its.toArray lo hi none=((its.drop (HT.sIx its.length 0 lo)).take (HT.sIx its.length its.length hi - HT.sIx its.length 0 lo)).toArray:=by
 obtain ⟨h1,h2,h3⟩:=a2i lo hi its.toArray.size
 unfold slicePick
 rw [h1,h2,h3]
 simp only [sliceRange_one,pick_run,List.size_toArray]<;>rfl
def aio (K:PySem.W.Frag):V→Option Int→Option Int→Hp→VK→Prop:=fun x lo hi H Q=>∃ a xs,x = .ref a∧SqL K H a xs∧∀ p,H p=none→Q (.ref p) (upd H p (.lst (ab0 xs lo hi)))
theorem ace:SlR X (aio X.K):=by
 intro pins s σ H x v vl vu lo hi sl Q I rx hs pl pu h
 obtain ⟨a,xs,rfl,hx,q⟩:=h
 cases rx
 obtain ⟨its,r,ht,hz⟩:=I.list hx
 have hlen:=r.length
 refine ⟨"list",_,slot_list_getitem.lookup,ht.isList.typeIs,?_⟩
 refine wpAny_getItem_list_slice ht.isList hs pl pu .none (by simp) ?_ (by rw [List.size_toArray]<;>omega)
 rw [a0y,← hlen]
 refine ⟨.ref s.heap.objs.size,_,I.laid (t':=s.toks) (o:=.lst (ab0 xs lo hi)) (fun b ob q=>Heap.get?_push_of_some _ q) (Nat.le_refl _) ?_,rfl,q _ (I.hok.fresh (Nat.le_refl _))⟩
 exact ⟨Nat.le_trans (zj xs lo hi) hz,_,0,(r.drop (HT.sIx xs.length 0 lo)).take (HT.sIx xs.length xs.length hi - HT.sIx xs.length 0 lo),Heap.get?_push_size _ rfl⟩
def a3k:V→Bool
 | .non=>true
 | .bl _=>true
 | .int _=>true
 | .str _=>true
 | _=>false
def eqV:V→V→Bool
 | .non, .non=>true
 | .bl a, .bl b=>a == b
 | .bl a, .int b=>(if a then 1 else 0) == b
 | .int a, .bl b=>a == (if b then 1 else 0)
 | .int a, .int b=>a == b
 | .str a, .str b=>a == b
 | _,_=>false
theorem ab1 {A:Around} {s:Shared} {y x:V} {u v:Value} (ry:RelV y u) (rx:RelV x v) (fy:a3k y=true) (fx:a3k x=true):SeqAt.EqAt A s u v (eqV y x):=by
 cases y with
 | non =>
  cases ry
  cases x with
  | non=>cases rx;exact SeqAt.EqAt.same _
  | bl b=>cases rx;exact SeqAt.EqAt.none_bool b
  | int b=>obtain ⟨t,rfl⟩:=rx;exact SeqAt.EqAt.none_int b t
  | str b=>obtain ⟨t,rfl⟩:=rx;exact SeqAt.EqAt.none_str b t
  | _=>exact absurd (show false=true from fx) Bool.false_ne_true
 | bl a =>
  cases ry
  cases x with
  | non=>cases rx;exact SeqAt.EqAt.bool_none a
  | bl b=>cases rx;exact SeqAt.EqAt.bool_bool a b
  | int b=>obtain ⟨t,rfl⟩:=rx;exact SeqAt.EqAt.bool_int a b t
  | str b=>obtain ⟨t,rfl⟩:=rx;exact SeqAt.EqAt.bool_str a b t
  | _=>exact absurd (show false=true from fx) Bool.false_ne_true
 | int a =>
  obtain ⟨t',rfl⟩:=ry
  cases x with
  | non=>cases rx;exact SeqAt.EqAt.int_none a t'
  | bl b=>cases rx;exact SeqAt.EqAt.int_bool a t' b
  | int b=>obtain ⟨t,rfl⟩:=rx;exact SeqAt.EqAt.int_int a t' b t
  | str b=>obtain ⟨t,rfl⟩:=rx;exact SeqAt.EqAt.int_str a t' b t
  | _=>exact absurd (show false=true from fx) Bool.false_ne_true
 | str a =>
  obtain ⟨t',rfl⟩:=ry
  cases x with
  | non=>cases rx;exact SeqAt.EqAt.str_none a t'
  | bl b=>cases rx;exact SeqAt.EqAt.str_bool a t' b
  | int b=>obtain ⟨t,rfl⟩:=rx;exact SeqAt.EqAt.str_int a t' b t
  | str b=>obtain ⟨t,rfl⟩:=rx;exact SeqAt.EqAt.str_str a t' b t
  | _=>exact absurd (show false=true from fx) Bool.false_ne_true
 | _=>exact absurd (show false=true from fy) Bool.false_ne_true
theorem bz:CallR X (.builtin "len") (fun xs H Q=>∃ p ys,xs=[.ref p]∧(SqL X.K H p ys∨SqT X.K H p ys)∧Q (.int ys.length) H):=by
 intro pins s σ H xs us Q I r h
 obtain ⟨p,ys,rfl,hq,q⟩:=h
 obtain ⟨u,rfl,rx⟩:=vals1 r
 cases rx
 have hn:=zf
 rcases hq with hq | hq
 ·obtain ⟨its,r',pl,hz⟩:=I.list hq
  have hlen:=r'.length
  exact Calls.call_len_list pl.isList (by simp only [List.size_toArray]<;>omega) ⟨.int ys.length,H,I.tok _,⟨s.toks+1,by rw [List.size_toArray,hlen]⟩,q⟩
 ·obtain ⟨its,r',pl,hz⟩:=I.tuple hq
  have hlen:=r'.length
  exact len_tuple pl (by simp only [List.size_toArray]<;>omega) ⟨.int ys.length,H,I.tok _,⟨s.toks+1,by rw [List.size_toArray,hlen]⟩,q⟩
theorem cj:CallR X (.builtin "len") (fun xs H Q=>∃ z,xs=[.str z]∧z.length≤sizeLine∧Q (.int z.length) H):=by
 intro pins s σ H xs us Q I r h
 obtain ⟨z,rfl,hz,q⟩:=h
 obtain ⟨u,rfl,t,rfl⟩:=vals1 r
 have hn:=zf
 exact len_str (by omega) ⟨.int z.length,H,I.tok _,⟨_,rfl⟩,q⟩
theorem CallR.or {f:Value} {r r':List V→Hp→VK→Prop} (h:CallR X f r) (h':CallR X f r'):CallR X f (fun xs H Q=>r xs H Q∨r' xs H Q):=by
 intro pins s σ H xs us Q I rs q
 rcases q with q | q
 ·exact h pins s σ H xs us Q I rs q
 ·exact h' pins s σ H xs us Q I rs q
def tyV (K:PySem.W.Frag) (T:String) (x:V) (H:Hp):Prop:=match x with
 | .str _=>T = "str"
 | .int _=>T = "int"
 | .ref p=>(T = "list"∧∃ xs,SqL K H p xs)∨(T = "tuple"∧∃ o,K.lookup p=some o∧o.cls = .type "tuple"∧o.dict=none) ∨
   (T = "dict"∧((∃ kvs,H p=some (.dK kvs))∨∃ kvs,H p=some (.dT kvs)))∨(T = "set"∧∃ S n,H p=some (.set S n))
 | _=>False
theorem afu {pins:List (Addr × Obj)} {σ:St} {H:Hp} {s:Shared} {T:String} {x:V} {v:Value} (I:Inv X pins σ H s) (r:RelV x v) (ty:tyV X.K T x H) :
  s.TypeIs v T∧∀ a,v = .ref a→∃ ob,s.heap.get? a=some ob∧ob.dict=none:=by
 cases x with
 | str z =>
  obtain ⟨t,rfl⟩:=r
  cases (show T = "str" from ty)
  exact ⟨typeIs_str s z t,fun _ e=>nomatch e⟩
 | int i =>
  obtain ⟨t,rfl⟩:=r
  cases (show T = "int" from ty)
  exact ⟨typeIs_int s i t,fun _ e=>nomatch e⟩
 | ref p =>
  cases r
  rcases ty with ⟨rfl,xs,hq⟩ | ⟨rfl,o,hk,hc,hd⟩ | ⟨rfl,hk⟩ | ⟨rfl,S,n,hk⟩
  ·obtain ⟨its,_,pl,_⟩:=I.list hq
   refine ⟨pl.isList.typeIs,fun a e=>?_⟩
   cases e
   obtain ⟨o,n,e,c,hd,_⟩:=pl
   exact ⟨o,e,hd⟩
  ·refine ⟨⟨o,I.kIn p o hk,hc⟩,fun a e=>?_⟩
   cases e
   exact ⟨o,I.kIn _ o hk,hd⟩
  ·have z:∃ o,s.heap.get? p=some o∧o.ExactDict:=by
    rcases hk with ⟨kvs,hk⟩ | ⟨kvs,hk⟩
    ·obtain ⟨_,_,_,_,o,_,_,e,ex,_⟩:=I.hok p _ hk
     exact ⟨o,e,ex⟩
    ·obtain ⟨_,_,_,_,o,_,_,e,ex,_⟩:=I.hok p _ hk
     exact ⟨o,e,ex⟩
   obtain ⟨o,e,ex⟩:=z
   refine ⟨⟨o,e,ex.1⟩,fun a e2=>?_⟩
   cases e2
   exact ⟨o,e,ex.2.1⟩
  ·obtain ⟨o,_,_,_,e,ex,_⟩:=I.hok p _ hk
   refine ⟨⟨o,e,ex.1⟩,fun a e2=>?_⟩
   cases e2
   exact ⟨o,e,ex.2.1⟩
 | _=>exact False.elim ty
variable {o e:Expr} {es:List Expr} {to:TE} {t:TA} {name:Str} {apos cpos:Pos} {T id:String} {r:V→List V→Hp→VK→Prop}
end
end L2
namespace L2
open PySem PySem.Spec PyProof.Rows
theorem Vals.rep {xs:List V} {us:List Value} (h:Vals xs us):∀ k:Nat,Vals (List.replicate k xs).flatten (List.replicate k us).flatten
 | 0=>.nil
 | k+1=>by
  rw [List.replicate_succ,List.replicate_succ,List.flatten_cons,List.flatten_cons]
  exact Vals.append h (Vals.rep h k)
theorem foldl_rep (its:List Value):∀ (k:Nat) (acc:List Value),
  List.foldl (fun x1 x2=>x1++x2) acc.toArray (List.replicate k its.toArray)=(acc++(List.replicate k its).flatten).toArray
 | 0,acc=>by simp
 | k+1,acc=>by
  have e:acc.toArray++its.toArray=(acc++its).toArray:=by simp
  have e2:(acc++its)++(List.replicate k its).flatten=acc++(List.replicate (k+1) its).flatten:=by
   rw [List.replicate_succ,List.flatten_cons,List.append_assoc]
  rw [← e2,← foldl_rep its k (acc++its),← e,List.replicate_succ,List.foldl_cons]
section
variable {X:Cx} {pins:List (Addr × Obj)} {σ:St} {H:Hp} {s:Shared} {l b:Addr} {xs ys zs:List V}
theorem Inv.lnew {its:List Value} {t':Nat} (I:Inv X pins σ H s) (hv:Vals ys its) (hz:ys.length≤sizeLine) :
  Inv X pins σ (upd H s.heap.objs.size (.lst ys)) { s with heap:=s.heap.push { cls:=.type "list",data:=.seq its.toArray },toks:=t' } :=
 I.laid (fun _ _ q=>Heap.get?_push_of_some _ q) (Nat.le_refl _) ⟨hz,its,0,hv,Heap.get?_push_size _ rfl⟩
theorem Inv.fresh (I:Inv X pins σ H s):H s.heap.objs.size=none:=I.hok.fresh (Nat.le_refl _)
theorem Inv.lstM (I:Inv X pins σ H s) (hH:H l=some (.lst xs)):xs.length≤sizeLine∧∃ (its:List Value) (n:Nat),Vals xs its∧xs.length=its.length∧s.heap.get? l=some { cls:=.type "list",data:=.seq its.toArray n }:=by
 obtain ⟨z,its,n,r,e⟩:=I.hok l _ hH
 exact ⟨z,its,n,r,r.length,e⟩
theorem a4f {n:Nat} (h:n≤sizeLine):Builtin.List.listTooLong n=false:=by
 unfold Builtin.List.listTooLong
 exact decide_eq_false (by omega)
end
section
variable {X:Cx}
def afv:R2:=fun x y H Q=>∃ l k xs,x = .ref l∧y = .int k∧H l=some (.lst xs) ∧ -(2 ^ 63)≤k∧k<2 ^ 63∧xs.length*k.toNat≤sizeLine ∧
 ∀ p,H p=none→Q (.ref p) (upd H p (.lst (List.replicate k.toNat xs).flatten))
theorem len_rep {α:Type} (xs:List α) (k:Nat):(List.replicate k xs).flatten.length=k*xs.length:=by
 induction k with
 | zero=>simp
 | succ k ih=>rw [List.replicate_succ,List.flatten_cons,List.length_append,ih,Nat.succ_mul,Nat.add_comm]
theorem afw:OpR X (binaryOp .Mult) afv:=by
 intro pins s σ H x y v u Q I rx ry h
 obtain ⟨l,k,xs,rfl,rfl,hH,h1,h2,hz,q⟩:=h
 cases rx
 obtain ⟨t,rfl⟩:=ry
 obtain ⟨z,its,n,r,hl,e⟩:=I.lstM hH
 have hlen:its.toArray.size*k.toNat≤sizeLine:=by rw [List.size_toArray,← hl];exact hz
 have hcap:¬ its.toArray.size*k.toNat > (2 ^ 63 - 1) / 8:=by
  have:(sizeLine:Nat)≤(2 ^ 63 - 1) / 8:=by decide
  omega
 have hfit:¬ (!Builtin.List.listFitsIndex k)=true:=by
  rw [fitsIndex_both h1 h2]
  exact Bool.false_ne_true
 have hlong:¬ Builtin.List.listTooLong (its.toArray.size*k.toNat)=true:=by
  rw [a4f hlen]
  exact Bool.false_ne_true
 have hnew:List.foldl (fun x1 x2=>x1++x2) #[] (List.replicate (if its.toArray.isEmpty=true then 0 else k.toNat) its.toArray)=(List.replicate k.toNat its).flatten.toArray:=by
  have f0:∀ m:Nat,List.foldl (fun x1 x2=>x1++x2) #[] (List.replicate m its.toArray)=(List.replicate m its).flatten.toArray:=fun m=>by
   have:=foldl_rep its m []
   rw [List.nil_append] at this
   exact this
  rw [f0]
  cases its with
  | nil=>simp
  | cons a r'=>rw [if_neg (by simp)]
 refine wpAny_binaryOp_repeat_ref (T := "list") (U := "int") (by decide) ⟨_,e,rfl⟩ (fun s'=>typeIs_int s' k t) noFill_list_mul F.fills_int_mul F.slot_int_rmul repeat_list F.slot_int_index.lookup
  (call_meets F.slot_int_rmul (typeIs_int s k t) F.entry_int_rmul (F.args_int_rmul_2 _ _) (int___rmul___int_list k t l its.toArray n)
   ⟨e,rfl,⟨_,e,rfl⟩,call_meets F.slot_list_mul ⟨_,e,rfl⟩ F.entry_list_mul (F.args_list_mul_2 _ _) (AutoListH.list___mul___list_int_3 l its.toArray n k t hfit hcap hlong) ⟨e,?_⟩⟩)
 rw [hnew]
 exact ⟨.ref _,_,I.lnew (t':=s.toks) (r.rep k.toNat) (by rw [len_rep,Nat.mul_comm];exact hz),rfl,q _ I.fresh⟩
end
end L2
namespace Att
open PySem PySem.W PySem.Calls PyProof.Rows
theorem zm {P:Params} {h:Heap}:∀ (ns:List Int) (vs:List Value),WellAll P h vs (ns.map WData.int)→IntsAre vs ns:=by
 intro ns
 induction ns with
 | nil =>
  intro vs w
  rw [List.map_nil] at w
  cases w
  exact .nil
 | cons n ns ih =>
  intro vs w
  rw [List.map_cons] at w
  cases w with
  | cons a b =>
   cases a
   exact .cons _ _ (ih _ b)
theorem a7e {l:OpenLaw} {n:Nat} (hn:l.most=some n) {P:Params} {h:Heap} {args:List WData} {vals:List Value}
  (hpre:l.row.toRowW.claim.pre args=true) (hwl:WellAll P h vals args) :
  ∃ a vs ns,vals=[Value.ref a]∧args=[WData.list (ns.map WData.int)]∧h.get? a=some { cls:=.type "list",data:=.seq vs.toArray }∧IntsAre vs ns∧ns.length≤n:=by
 have hsh:WShape.hasAll [] args [.list .int]=true:=(pre_splitW hpre).1
 have hc:l.pre.holds [] { args:=args }=true:=(pre_splitW hpre).2
 obtain ⟨d,r,rfl,h1,h2⟩:=hasAllW_cons hsh
 obtain rfl:=hasAllW_nil h2
 obtain ⟨xs,rfl,h3⟩:=hasW_list h1
 obtain ⟨ns,rfl⟩:=items_int h3
 have hlen:ns.length≤n:=by
  unfold OpenLaw.pre at hc
  have h4:(WTm.not (.lt (.lit (.int (n:Int))) (.len (.arg 0)))).holds [] { args:=[.list (ns.map .int)] }=true:=by
   have h4:=(holds_andW hc).1
   rw [hn] at h4
   exact h4
  have h5:=condW_of h4 (w_not (w_lt w_lit (w_len_list (w_arg rfl))))
  rw [List.length_map] at h5
  refine Nat.le_of_not_lt fun q=>?_
  have q':(n:Int)<((ns.length:Nat):Int):=by omega
  first
   | (rw [decide_eq_true q'] at h5;exact absurd h5 (by decide))
   | (simp at h5;omega)
 cases hwl with
 | cons w1 w2 =>
  cases w2
  cases w1 with
  | list ho hall=>exact ⟨_,_,ns,rfl,rfl,ho,zm ns _ hall,hlen⟩
theorem a7f (l:OpenLaw) (args:List WData):l.row.toRowW.claim.post args (.bool true) args=true :=
 postW_of (r:=l.row.toRowW) (X:=(true == true))
  (show WShape.has [] (.bool true) .bool=true by first | rfl | decide | simp [WShape.has,WShape.arms,WShape.armsAll])
  (show (WTm.eq .res (.lit (.bool true))).value [] { args:=args,res:=some (.bool true),after:=args }=some (.bool (true == true)) from w_eq_bool (w_res rfl) w_lit) rfl
theorem a3l {l:OpenLaw} {n:Nat} {q:Program} {loose:List Str} {XP:(Str→Option Value)→Heap→Prop} {YP:World→Heap→Prop} {d:DefRec}
  (hn:l.most=some n) (hdf:d.params.defaults=[])
  (call:∀ (w:World) (s₀ s₁:Shared) (mg mb:Str→Option Value) (fa:Addr) (o:Obj) (pm cd doc:Value) (a:Addr) (vs:List Value) (ns:List Int),
   Ground q loose [] XP w s₀ mg mb s₁.heap→YP w s₁.heap →
   s₁.heap.get? fa=some o→o.data = .func (docDef d.name d.params d.body d.scope pm cd doc)→s₁.heap.CodeRec cd d.name→mg d.name=some (.ref fa) →
   s₁.heap.get? a=some { cls:=.type "list",data:=.seq vs.toArray }→IntsAre vs ns→ns.length≤n→s₁.gens = #[] →
   codeAny (model l.prog w) callerA (.call (.ref fa) ⟨[.ref a],[]⟩) (fun r s'=>r = .ok (.ret (.bool true))∧OldK s₁.heap s'.heap∧s'.os=s₁.os∧AllBare s'.gens) s₁) :
  WalkO q loose XP YP l.row.toRowW d [] (fun f vs=>PySem.call f vs):=by
 intro w s₀ s₁ mg mb G Y fa o pm cd doc dV kV ho hd hcd hD hmg hg args vals as hpre hlay hrd hwl hlo
 obtain rfl:dV = .none:=Dflts.none hD hdf
 obtain rfl:kV = .none:=Dflts.noKw hD
 obtain ⟨a,vs,ns,rfl,rfl,hobj,hints,hlen⟩:=a7e hn hpre hwl
 refine enter_call (codeAny_mono (call w s₀ s₁ mg mb fa o pm cd doc a vs ns G Y ho (fd_plain hd) hcd hmg hobj hints hlen hg) fun r s' hq=>?_)
 obtain ⟨rfl,h2,h3,h4⟩:=hq
 exact ⟨.inl ⟨.bool true, .bool true,[],rfl,fun _=>rfl, .bool true,a7f l _,fun _=>⟨List.Pairwise.nil,fun _ hm=>(nomatch hm)⟩⟩,h2,h3,h4⟩
end Att
namespace L2
open PySem PySem.Spec PyProof.Rows
theorem a2j:∀ {vs:List Value} {ns:List Int},IntsAre vs ns→Vals (ns.map V.int) vs
 | _,_, .nil=>.nil
 | _,_, .cons n t h=>.cons ⟨t,rfl⟩ (a2j h)
def Only (H:Hp):Prop:=∀ b,H b=none∨∃ o xs,H b=some (.frz o (.lst xs))
theorem a9h {P:Program} {w:World} {K:PySem.W.Frag} {mg mb:Str→Option Value} {CX:CXT} {k:Nat} {fa a:Addr} {fd:FuncData} {x:Str} {sp:Sp} {s₁:Shared} {vs:List Value} {ns:List Int}
  (KX:K.In s₁.heap) (hns:s₁.heap.Ns mainGlobals mg) (hb:s₁.heap.Ns builtinsNs mb) (hbb:∀ x:Str,x ≠ "__name__"→mb x=bootBuiltins x) (hlim:s₁.heap.NoLimit) (hg:s₁.gens = #[])
  (ha:s₁.heap.get? a=some { cls:=.type "list",data:=.seq vs.toArray }) (hi:IntsAre vs ns) (hl:ns.length≤sizeLine) (hr:Room k callerA)
  (F:∀ base:Heap,K.In base→base.Ns mainGlobals mg→FnOk P w K mg base CX k fa fd [x] sp) (hbind:∀ (s:Shared) (u:Value),BindsTo s fd ⟨[u],[]⟩ [(x,u)])
  (hsp:∀ H:Hp,Only H→SqL K H a (ns.map V.int)→sp [.ref a] H (fun v _=>v = .bl true) fun _ _ _=>False)
  (hCX:∀ H e s',CX [] H s₁ (fun _ _ _=>False) e s'→False) :
  codeAny (model P w) callerA (.call (.ref fa) ⟨[.ref a],[]⟩) (fun r s'=>r = .ok (.ret (.bool true))∧OldK s₁.heap s'.heap∧s'.os=s₁.os∧AllBare s'.gens) s₁:=by
 have rv:=a2j hi
 have lenV:=hi.length
 have core:∀ H:Hp,Only H→SqL K H a (ns.map V.int)→HOk P w H s₁.heap→(∀ b,H b≠none→b=a)→(H a≠none→K.lookup a=none) →
   codeAny (model P w) callerA (.call (.ref fa) ⟨[.ref a],[]⟩) (fun r s'=>r = .ok (.ret (.bool true))∧OldK s₁.heap s'.heap∧s'.os=s₁.os∧AllBare s'.gens) s₁:=by
  intro H hO hS hok hA hK
  have base_of:∀ {b:Addr} {o:Obj},s₁.heap.get? b=some o→H b=none→(a94 s₁.heap H).get? b=some o:=fun e n=>a95 e n
  have noA:∀ {b:Addr} {o:Obj} {es:Array DictEntry} {ep:Nat},s₁.heap.get? b=some o→o.data = .dict es ep→H b=none:=fun {b o es ep} e d=>by
   cases q:H b with
   | none=>rfl
   | some u =>
    have e':b=a:=hA b (by rw [q];simp)
    subst e'
    rw [ha] at e;cases e
    have d':Data.seq vs.toArray _=Data.dict es ep:=d
    cases d'
  have nsK:∀ {b:Addr} {m:Str→Option Value},s₁.heap.Ns b m→(a94 s₁.heap H).Ns b m:=fun {b m} ⟨o,es,ep,e,d,r⟩=>⟨o,es,ep,base_of e (noA e d),d,r⟩
  have hKb:K.In (a94 s₁.heap H):=fun b o e=>base_of (KX b o e) (by
   cases q:H b with
   | none=>rfl
   | some u =>
    have e':b=a:=hA b (by rw [q];simp)
    subst e'
    rw [hK (by rw [q];simp)] at e;cases e)
  have hM:Mod K mg (a94 s₁.heap H):=⟨hKb,nsK hns,⟨mb,nsK hb,hbb⟩,let ⟨mc,h1,h2⟩:=hlim; ⟨mc,nsK h1,h2⟩⟩
  have e0:Env0 P w K mg (a94 s₁.heap H) callerA [] s₁ H:=⟨rfl,hM,fun b o e=>abr e,Nat.le_of_eq (a6x _ _),trivial,fun b hb=>absurd (show b∈([]:List Addr) from hb) (by simp),hok, .of_eq hg⟩
  refine codeAny_mono ((F _ hKb (nsK hns)).run callerA [] s₁ H ⟨[.ref a],[]⟩ [.ref a] [.ref a] _ _ hr e0 (hbind s₁ (.ref a)) (.cons rfl .nil) (hsp H hO hS)) fun r s' h=>?_
  cases r with
  | error e=>exact (hCX H e s' h).elim
  | ok fl =>
   cases fl with
   | next=>exact False.elim h
   | brk=>exact False.elim h
   | cont=>exact False.elim h
   | ret u =>
    obtain ⟨v,H',os,bare,un,hok',r',q⟩:=h
    have q':v = .bl true:=q
    subst q'
    obtain rfl:u=Value.bool true:=r'
    refine ⟨rfl,OldK.of_keep fun b o e=>?_,os,bare⟩
    cases q:H b with
    | none=>exact un.keep b o e q (by intro z;exact absurd (show b∈([]:List Addr) from z) (by simp)) (by simp)
    | some u =>
     rcases hO b with z | ⟨ob,xs,z⟩
     ·rw [q] at z;cases z
     ·have z2:=un.frzs b ob _ z
      obtain ⟨e1,_⟩:=hok b _ z
      obtain ⟨e2,_⟩:=hok' b _ z2
      rw [e] at e1;cases e1
      exact e2
 cases hk:K.lookup a with
 | some o =>
  have e:=KX a o hk
  rw [ha] at e
  cases e
  refine core (fun _=>none) (fun _=>.inl rfl) (.inr ⟨_,vs.toArray,_,hk,rfl,rfl,rfl,by rw [List.size_toArray,lenV];exact hl,by simpa using rv⟩) (fun b u z=>by have z':(none:Option HO)=some u:=z;cases z') (fun b z=>absurd rfl z) fun z=>absurd rfl z
 | none =>
  refine core (fun b=>if b=a then some (.frz { cls:=.type "list",data:=.seq vs.toArray } (.lst (ns.map V.int))) else none) (fun b=>?_) (.inl (.inr ⟨{ cls:=.type "list",data:=.seq vs.toArray },if_pos rfl⟩)) (fun b u z=>?_) (fun b z=>?_) fun _=>hk
  ·by_cases hb:b=a
   ·exact .inr ⟨_,_,if_pos hb⟩
   ·exact .inl (if_neg hb)
  ·by_cases hb:b=a
   ·have z':=(if_pos hb).symm.trans z
    cases z'
    subst hb
    exact ⟨ha,by rw [List.length_map];exact hl,vs,_,rv,ha⟩
   ·have z':=(if_neg hb).symm.trans z
    cases z'
  ·by_cases hb:b=a
   ·exact hb
   ·exact absurd (if_neg hb) z
end L2
namespace L2
open PySem PySem.Spec PyProof.Rows
theorem acf {l:PySem.W.OpenLaw} {n k:Nat} {q:Program} {loose:List Str} {XP:(Str→Option Value)→Heap→Prop} {YP:World→Heap→Prop} {d:DefRec} {K:Params→PySem.W.Frag} {CX:World→CXT} {sp:World→Sp} {x:Str}
  (hn:l.most=some n) (hn2:n≤sizeLine) (hdf:d.params.defaults=[]) (hr:Room k callerA)
  (hY:∀ (w:World) (h:Heap),YP w h→(K w.params).In h)
  (F:∀ (w:World) (mg:Str→Option Value) (fa:Addr) (h:Heap),(K w.params).In h→h.Ns mainGlobals mg→mg d.name=some (.ref fa) →
   ∃ fd:FuncData,(∀ (s:Shared) (u:Value),BindsTo s fd ⟨[u],[]⟩ [(x,u)]) ∧
    ∀ base:Heap,(K w.params).In base→base.Ns mainGlobals mg→FnOk l.prog w (K w.params) mg base (CX w) k fa fd [x] (sp w))
  (hsp:∀ (w:World) (H:Hp) (a:Addr) (ns:List Int),ns.length≤n→Only H→SqL (K w.params) H a (ns.map V.int)→sp w [.ref a] H (fun v _=>v = .bl true) fun _ _ _=>False)
  (hCX:∀ (w:World) (H:Hp) (s:Shared) (e:Value) (s':Shared),CX w [] H s (fun _ _ _=>False) e s'→False) :
  PySem.W.WalkO q loose XP YP l.row.toRowW d [] (fun f vs=>PySem.call f vs):=by
 refine Att.a3l hn hdf fun w s₀ s₁ mg mb fa o pm cd doc a vs ns G Y ho hd hcd hmg hobj hints hlen hg=>?_
 have KX:=hY w _ Y
 obtain ⟨fd,hb,hF⟩:=F w mg fa _ KX G.T.g hmg
 exact a9h KX G.T.g G.T.b G.T.builtins G.T.nolimit hg hobj hints (Nat.le_trans hlen hn2) hr hF hb (fun H hO hS=>hsp w H a ns hlen hO hS) fun H e s'=>hCX w H s₁ e s'
end L2
namespace L2
open PySem PySem.Spec PyProof.Rows
def vq (s:Stmt):Arguments:=match s with
 | .FunctionDef _ a _ _ _ _ _ _ _ _=>a
 | _=>{ posonlyargs:=[],args:=[],vararg:=none,kwonlyargs:=[],kw_defaults:=[],kwarg:=none,defaults:=[] }
def gj (s:Stmt):List Stmt:=match s with
 | .FunctionDef _ _ b _ _ _ _ _ _ _=>b
 | _=>[]
def ao (s:Stmt):Scope:=match s with
 | .FunctionDef _ _ _ _ _ _ sc _ _ _=>sc
 | _=>{ kind:=.function,names:=[],isGenerator:=false,isCoroutine:=false }
abbrev CX0:CXT:=fun _ _ _ _ _ _=>False
abbrev E0:XK:=fun _ _ _=>False
theorem acg {X:Cx}:a2c CX0 X E0:=fun _ _ _ _ _ _ _ h=>h.elim
structure Fun (K:PySem.W.Frag) (x qual:Str) (st:Stmt) (f:Addr) (fd:FuncData):Prop where
 ex:∃ (oc:Value) (od:Option Addr) (kV doc pm:Value) (an:Option Addr) (cdv ct:Value) (osl:Array (Option Value)),
  fd=PySem.W.fnOf x qual (vq st) (gj st) (ao st) .none kV doc pm an cdv ct∧K.lookup f=some ⟨oc,od, .func fd,osl⟩∧PySem.W.codeIn K cdv qual=true
 kp:PySem.W.keepIn K (.ref f)=true
section
variable {P:Program} {w:World} {K:PySem.W.Frag} {mg:Str→Option Value} {base:Heap}
theorem Fun.ok {x qual:Str} {st:Stmt} {f:Addr} {fd:FuncData} {N ps:List Str} {k:Nat} {sp:Sp} (F:Fun K x qual st f fd) (S:FnScope N ps (ao st)) (len:∀ vs H Q E,sp vs H Q E→vs.length=ps.length)
  (hbody:∀ (cdv:Value) (A:Around) (outer:List Env) (s:Shared) (H:Hp) (vs:List V) (Q:VK) (E:XK),Room k (A.deeper (envOfC qual (ao st) s.heap.objs.size f cdv))→sp vs H Q E →
   ∃ t,PSs (zg CX0 P w K mg base N qual (ao st) f cdv A outer s H E).nox (gj st) t∧t { nx:=fun _ H'=>Q .non H',rt:=Q } (start N vs) H):FnOk P w K mg base CX0 (k+1) f fd ps sp:=by
 obtain ⟨oc,od,kV,doc,pm,an,cdv,ct,osl,rfl,lk,hcd⟩:=F.ex
 refine afo lk hcd S len fun A outer s H vs Q E hr hsp=>?_
 obtain ⟨t,h,q⟩:=hbody cdv A outer s H vs Q E hr hsp
 exact ⟨t,h.nox,q⟩
theorem Fun.binds {x qual:Str} {st:Stmt} {f:Addr} {fd:FuncData} {ps:List Str} (F:Fun K x qual st f fd)
  (h:∀ (kV doc pm:Value) (an:Option Addr) (cdv ct:Value) (us:List Value),us.length=ps.length→bindArgs (PySem.W.fnOf x qual (vq st) (gj st) (ao st) .none kV doc pm an cdv ct) ⟨us,[]⟩=pure (ps.zip us)):Binds K fd ps []:=by
 obtain ⟨oc,od,kV,doc,pm,an,cdv,ct,osl,rfl,lk,hcd⟩:=F.ex
 exact .all (h kV doc pm an cdv ct)
theorem o8 {x qual:Str} {st:Stmt} {f:Addr} {oc:Value} {od an:Option Addr} {osl:Array (Option Value)} {kV doc pm cdv ct:Value} (l:K.lookup f=some ⟨oc,od, .func (PySem.W.fnOf x qual (vq st) (gj st) (ao st) .none kV doc pm an cdv ct),osl⟩)
  (c:PySem.W.codeIn K cdv qual=true) (k:PySem.W.keepIn K (.ref f)=true):Fun K x qual st f (PySem.W.fnOf x qual (vq st) (gj st) (ao st) .none kV doc pm an cdv ct):=⟨⟨oc,od,kV,doc,pm,an,cdv,ct,osl,rfl,l,c⟩,k⟩
end
end L2
namespace L2
open PySem PySem.Spec PyProof.Rows
section
variable {κ:Type} [DecidableEq κ]
def putK (kvs:List (κ × V)) (k:κ) (v:V):List (κ × V) :=
 if (kvs.any fun kv=>decide (kv.1=k))=true then kvs.map (fun kv=>if kv.1=k then (kv.1,v) else kv) else kvs++[(k,v)]
theorem a3m (kvs:List (κ × V)) (k:κ) (v:V):(putK kvs k v).length≤kvs.length+1:=by
 unfold putK
 split
 ·rw [List.length_map];omega
 ·rw [List.length_append,List.length_cons,List.length_nil];omega
theorem RelO.getD {o:Option V} {u:Option Value} {d:V} {d':Value} (r:RelO o u) (rd:RelV d d'):RelV (o.getD d) (u.getD d'):=by
 cases o with
 | none=>cases u with
  | none=>exact rd
  | some _=>exact (show False from r).elim
 | some _=>cases u with
  | none=>exact (show False from r).elim
  | some _=>exact r
theorem KV.any {kvs:List (κ × V)} {vs:List (κ × Value)} (r:KV kvs vs) (k:κ):(kvs.any fun kv=>decide (kv.1=k))=vs.any fun kv=>decide (kv.1=k):=by
 unfold KV at r
 induction r with
 | nil=>rfl
 | cons h t ih=>rw [List.any_cons,List.any_cons,ih,h.1]
theorem KV.repl {kvs:List (κ × V)} {vs:List (κ × Value)} (r:KV kvs vs) (k:κ) {y:V} {u:Value} (ry:RelV y u) :
  KV (kvs.map fun kv=>if kv.1=k then (kv.1,y) else kv) (vs.map fun kv=>if kv.1=k then (kv.1,u) else kv):=by
 unfold KV at r ⊢
 induction r with
 | nil=>exact .nil
 | @cons p q ps qs h t ih =>
  rw [List.map_cons,List.map_cons]
  refine .cons ?_ ih
  obtain ⟨h1,h2⟩:=h
  by_cases e:p.1=k
  ·rw [if_pos e,if_pos (h1.symm.trans e)];exact ⟨h1,ry⟩
  ·rw [if_neg e,if_neg (fun z=>e (h1.trans z))];exact ⟨h1,h2⟩
theorem KV.put {kvs:List (κ × V)} {vs:List (κ × Value)} (r:KV kvs vs) (k:κ) {y:V} {u:Value} (ry:RelV y u):KV (putK kvs k y) (stored vs k u):=by
 unfold putK stored
 rw [r.any k]
 by_cases e:(vs.any fun kv=>decide (kv.1=k))=true
 ·rw [if_pos e,if_pos e];exact r.repl k ry
 ·rw [if_neg e,if_neg e];exact Paired.snoc r ⟨rfl,ry⟩
end
theorem aip {P:Program} {w:World} {k:Key} {u:Value} (r:RelV (kV k) u):(nu P w).is k u=true:=by
 cases k with
 | inl i=>obtain ⟨t,e⟩:=(show ∃ t,u=Value.int i t from r);subst e;exact a3f P w i t
 | inr x=>obtain ⟨t,e⟩:=(show ∃ t,u=Value.str x t from r);subst e;exact a3g P w x t
section
variable {P:Program} {w:World} {H:Hp} {h:Heap} {a:Addr}
theorem aiq {u:HO} (ok:HOk P w H h) (e:Rd H a u):ObjOk P w H h a u:=e.ok ok
theorem ais {kvs:List (Key × V)} (ok:HOk P w H h) (e:Rd H a (.dK kvs)):kvs.length≤sizeLine∧(a == sysModules)=false∧∃ vs,KV kvs vs∧h.DictOf (nu P w) a vs :=
 show ObjOk P w H h a (.dK kvs) from aiq ok e
theorem ait {kvs:List (Key × V)} (ok:HOk P w H h) (e:H a=some (.dK kvs)):kvs.length≤sizeLine∧(a == sysModules)=false∧∃ vs,KV kvs vs∧h.DictOf (nu P w) a vs:=ais ok (.inl e)
end
section
variable {X:Cx} {pins:List (Addr × Obj)} {σ:St} {H:Hp} {s:Shared} {a:Addr} {y v:V} {u r:Value} {o:Option V} {A:Around} {E:Value→Shared→Prop}
theorem Inv.big (I:Inv X pins σ H s):sysModules<s.heap.objs.size:=by
 have h:mainGlobals<s.heap.objs.size:=(I.mod.glob.keeps I.bk).lt
 exact Nat.lt_trans (by decide) h
theorem ach {h':Heap} {t':Nat} {ob:HO} (I:Inv X pins σ H s) (mu:Mut (H a)) (hs:Heap.SameBut a s.heap h') (he:∃ q,h'.get? a=some q) (new:ObjOk X.prog X.w (upd H a ob) h' a ob) :
  Inv X pins σ (upd H a ob) { s with heap:=h',toks:=t' } :=
 I.write (x:=a) (e:=a) mu (.inl rfl) (fun b q hb z=>(hs.2 b hb).trans z) he new
theorem afx {P:Program} {w:World} {H':Hp} {h':Heap} {kvs:List (Key × V)} {vs:List (Key × Value)} (z:kvs.length≤sizeLine) (hd:(a == sysModules)=false) (rel:KV kvs vs) (dd:h'.DictOf (nu P w) a vs) :
  ObjOk P w H' h' a (.dK kvs):=⟨z,hd,vs,rel,dd⟩
end
theorem a9i {P:Program} {w:World} {H:Hp} (h:Heap) (hb:sysModules<h.objs.size):ObjOk P w H (h.push { cls:=.type "dict",data:=.dict #[] }) h.objs.size (.dK []) :=
 ⟨Nat.zero_le _,beq_eq_false_iff_ne.mpr (Ne.symm (Nat.ne_of_lt hb)),[], .nil,Heap.DictOf.new h⟩
def a7g:List (TE × TE)→St→Hp→(List (V × V)→Hp→Prop)→Prop
 | [],_,H,Q=>Q [] H
 | (tk,tv)::r,σ,H,Q=>tk σ H fun x H1=>tv σ H1 fun y H2=>a7g r σ H2 fun ps H3=>Q ((x,y)::ps) H3
abbrev VV:List (V × V)→List (Value × Value)→Prop:=Paired fun p q=>RelV p.1 q.1∧RelV p.2 q.2
def PPs (X:Cx) (pos:Pos) (keys:List (Option Expr)) (values:List Expr) (trs:List (TE × TE)):Prop :=
 ∀ (pins:List (Addr × Obj)) (s:Shared) (σ:St) (H:Hp) (Q:List (V × V)→Hp→Prop),Inv X pins σ H s→a7g trs σ H Q →
  wpAny (model X.prog X.w) X.A (evalPairs (pairTrees keys values X.env pos)) (fun vs s'=>∃ ps H',Inv X pins σ H' s'∧VV ps vs∧Q ps H') X.xe s
theorem aci {X:Cx} {pos:Pos}:PPs X pos [] [] []:=fun pins s σ H Q I h=>pairTrees_nil_walk ⟨[],H,I, .nil,h⟩
theorem a9j {X:Cx} {pos:Pos} {k v:Expr} {ks:List (Option Expr)} {vs:List Expr} {tk tv:TE} {trs:List (TE × TE)} (hk:PE X k tk) (hv:PE X v tv) (hr:PPs X pos ks vs trs) :
  PPs X pos (some k::ks) (v::vs) ((tk,tv)::trs):=fun pins s σ H Q I h =>
 pairTrees_cons_walk (thn (hk pins s σ H _ I h) fun u s1 ⟨x,H1,I1,rx,q1⟩=>thn (hv pins s1 σ H1 _ I1 q1) fun w2 s2 ⟨y,H2,I2,ry,q2⟩ =>
  thn (hr pins s2 σ H2 _ I2 q2) fun ws s3 ⟨ps,H3,I3,rel,q3⟩=>⟨(x,y)::ps,H3,I3, .cons ⟨rx,ry⟩ rel,q3⟩)
def a2k (kvs more:List (Key × V)):List (Key × V):=more.foldl (fun acc kv=>putK acc kv.1 kv.2) kvs
theorem KV.merge:∀ {more:List (Key × V)} {rs:List (Key × Value)} {kvs:List (Key × V)} {vs:List (Key × Value)},KV more rs→KV kvs vs→KV (a2k kvs more) (merged vs rs):=by
 intro more rs kvs vs r
 unfold KV at r
 induction r generalizing kvs vs with
 | nil=>intro q;exact q
 | @cons p q ps qs h t ih =>
  intro r0
  have e:KV (putK kvs p.1 p.2) (stored vs q.1 q.2):=by
   have:=r0.put p.1 h.2
   rw [← h.1];exact this
  exact ih e
theorem v9:∀ (more kvs:List (Key × V)),(a2k kvs more).length≤kvs.length+more.length
 | [],kvs=>by show kvs.length≤kvs.length+0;omega
 | p::r,kvs=>by
  have h1:=v9 r (putK kvs p.1 p.2)
  have h2:=a3m kvs p.1 p.2
  show (a2k (putK kvs p.1 p.2) r).length≤_
  rw [List.length_cons];omega
theorem a0e {P:Program} {w:World}:∀ {kvs:List (Key × V)} {ws:List (Value × Value)},VV (kvs.map fun kv=>(kV kv.1,kv.2)) ws→∃ rs,Carries (nu P w) ws rs∧KV kvs rs
 | [],_,r=>by rw [List.map_nil] at r;cases r;exact ⟨[],True.intro, .nil⟩
 | p::kvs,_,r=>by
  rw [List.map_cons] at r
  cases r with
  | @cons a b as bs h t =>
   obtain ⟨rs,c,q⟩:=a0e (P:=P) (w:=w) t
   obtain ⟨b1,b2⟩:=b
   exact ⟨(p.1,b2)::rs,⟨aip h.1,rfl,c⟩, .cons ⟨rfl,h.2⟩ q⟩
def aiu (trs:List (TE × TE)):TE:=fun σ H Q=>∀ p,H p=none→a7g trs σ (upd H p (.dK [])) fun ps H2=>H2 p=some (.dK [])∧∃ kvs:List (Key × V),ps=kvs.map (fun kv=>(kV kv.1,kv.2))∧kvs.length≤15∧Q (.ref p) (upd H2 p (.dK (a2k [] kvs)))
theorem acj {X:Cx} {pos:Pos} {keys:List (Option Expr)} {values:List Expr} {trs:List (TE × TE)} (h:PPs X pos keys values trs) (hall:keys.all (·.isSome)=true) (hl:keys.length=values.length) (h0:keys≠[])
  (h15:keys.length≤15):PE X (.Dict keys values pos) (aiu trs):=by
 intro pins s σ H Q I q
 have hn:=I.hok.fresh (Nat.le_refl s.heap.objs.size)
 have I1:=I.laid (a:=s.heap.objs.size) (o:=.dK []) (h':=s.heap.push { cls:=.type "dict",data:=.dict #[] }) (t':=s.toks) (fun _ _ q=>Heap.get?_push_of_some _ q) (Nat.le_refl _) (a9i s.heap I.big)
 refine wpAny_Dict_walk (knd:=nu X.prog X.w) hall hl h0 h15 (thn (h pins _ σ _ _ I1 (q _ hn)) fun ws s2 ⟨ps,H2,I2,rel,e,kvs,ep,lk,q2⟩=>?_)
 subst ep
 obtain ⟨rs,c,rk⟩:=a0e (P:=X.prog) (w:=X.w) rel
 obtain ⟨z,hd,vs0,r0,dd⟩:=ait I2.hok e
 cases r0
 refine ⟨rs,c,dd,fun h' dd' hs=>⟨.ref s.heap.objs.size,_,?_,rfl,q2⟩⟩
 have hz:(a2k [] kvs).length≤sizeLine:=by
  have h1:=v9 kvs []
  rw [List.length_nil] at h1
  rw [sizeLine_eq];omega
 have he:∃ q,h'.get? s.heap.objs.size=some q:=let ⟨q,_,_,hq,_⟩:=dd'; ⟨q,hq⟩
 exact ach I2 (by rw [e];exact True.intro) hs he (afx hz hd (rk.merge .nil) dd')
end L2
namespace L2
open PySem PySem.Spec PyProof.Rows
section
variable {X:Cx}
def a0z {α:Type} (xs:List α) (lo hi:Option Int):List α:=(xs.drop (HT.sIx xs.length 0 lo)).take (HT.sIx xs.length xs.length hi - HT.sIx xs.length 0 lo)
def aiv:V→Option Int→Option Int→Hp→VK→Prop:=fun x lo hi H Q=>∃ z,x = .str z∧z.length≤sizeLine∧Q (.str ⟨(a0z z.cps.toList lo hi).toArray⟩) H
theorem afy (lo hi:Option Int) (n:Nat):Builtin.Str.strSliceIndices lo hi 1 n=(List.range (HT.sIx n n hi - HT.sIx n 0 lo)).map fun k=>HT.sIx n 0 lo+k:=by
 have e1:Builtin.Str.strSliceIndices lo hi 1 n=sliceRange ((HT.sIx n 0 lo:Nat):Int) ((HT.sIx n n hi:Nat):Int) 1:=by
  unfold Builtin.Str.strSliceIndices
  dsimp only
  congr 1
  ·cases lo with
   | none=>simp [HT.sIx]
   | some i=>simp only [HT.sIx,show (1:Int) > 0 by decide,if_true];split<;>omega
  ·cases hi with
   | none=>simp [HT.sIx]
   | some i=>simp only [HT.sIx,show (1:Int) > 0 by decide,if_true];split<;>omega
 rw [e1]
 exact sliceRange_one _ _
theorem afz {α:Type} (xs:List α) (a:Nat):∀ k,a+k≤xs.length→((List.range k).map fun j=>a+j).filterMap (xs[·]?)=(xs.drop a).take k
 | 0,_=>by simp
 | k+1,h=>by
  rw [List.range_succ,List.map_append,List.filterMap_append,afz xs a k (by omega)]
  have hk:a+k<xs.length:=by omega
  rw [List.take_succ]
  congr 1
  simp [List.getElem?_drop,hk]
theorem ag0:SlR X aiv:=by
 intro pins s σ H x v vl vu lo hi sl Q I rx hs pl pu h
 obtain ⟨z,rfl,hz,q⟩:=h
 obtain ⟨t,rfl⟩:=rx
 refine ⟨"str",_,PyProof.Rows.slot_str_getitem.lookup,typeIs_str s z t,?_⟩
 have hl:z.cps.toList.length=z.length:=by simp [Str.length]
 have fin:∀ (l u:Option (Int × Tok)),vl=partValue l→vu=partValue u→l.map (·.1)=lo→u.map (·.1)=hi→wpAny (model X.prog X.w) X.A (getItem (.str z t) (.ref sl)) (EP X pins σ Q) X.xe s:=by
  intro l u e1 e2 e3 e4
  subst e1 e2
  refine wpAny_getItem_str_slice (l:=l) (u:=u) (st:=none) hs rfl ?_
  have hp:slicePicked z l u none=(List.range (HT.sIx z.length z.length hi - HT.sIx z.length 0 lo)).map fun k=>HT.sIx z.length 0 lo+k:=by
   unfold slicePicked
   rw [e3,e4]
   exact afy lo hi z.length
  have hb1:HT.sIx z.length z.length hi≤z.length:=HT.a7b _ _ (Nat.le_refl _) _
  have hb2:HT.sIx z.length 0 lo≤z.length:=HT.a7b _ _ (Nat.zero_le _) _
  unfold sliceMade
  split
  ·rename_i c
   simp only [Bool.and_eq_true,beq_iff_eq] at c
   obtain ⟨_,c⟩:=c
   rw [hp,List.length_map,List.length_range] at c
   have e:(⟨(a0z z.cps.toList lo hi).toArray⟩:Str)=z:=by
    unfold a0z
    rw [hl]
    have z1:HT.sIx z.length 0 lo=0:=by omega
    have z2:HT.sIx z.length z.length hi=z.length:=by omega
    rw [z1,z2,List.drop_zero,Nat.sub_zero,List.take_of_length_le (by omega)]
   rw [e] at q
   exact ⟨.str z,H,I,⟨_,rfl⟩,q⟩
  ·have e:(⟨(a0z z.cps.toList lo hi).toArray⟩:Str)=⟨((slicePicked z l u none).filterMap (z.cps[·]?)).toArray⟩:=by
    rw [hp]
    unfold a0z
    rw [hl]
    by_cases hc:HT.sIx z.length 0 lo≤HT.sIx z.length z.length hi
    ·rw [← afz z.cps.toList _ _ (by omega)]
     simp only [Array.getElem?_toList]
    ·rw [show HT.sIx z.length z.length hi - HT.sIx z.length 0 lo=0 by omega]
     simp
   rw [e] at q
   refine ⟨?_, .str _,H,I.tok _,⟨_,rfl⟩,q⟩
   rw [← e]
   show (a0z z.cps.toList lo hi).toArray.size≤sizeLine
   rw [List.size_toArray]
   unfold a0z
   rw [List.length_take,List.length_drop,hl]
   omega
 cases pl with
 | none=>cases pu with
  | none=>exact fin none none rfl rfl rfl rfl
  | int j t'=>exact fin none (some (j,t')) rfl rfl rfl rfl
 | int i t'=>cases pu with
  | none=>exact fin (some (i,t')) none rfl rfl rfl rfl
  | int j t''=>exact fin (some (i,t')) (some (j,t'')) rfl rfl rfl rfl
theorem jn:CallR X (.builtin "isinstance") (fun xs H Q=>∃ x T t b,xs=[x, .ty T]∧TyOf X.K H x t∧PySem.W.kitOne X.K t (.type T)=some b∧Q (.bl b) H):=by
 intro pins s σ H xs us Q I r h
 obtain ⟨x,T,t,b,rfl,ty,e,q⟩:=h
 obtain ⟨u,w',rfl,rx,rt⟩:=vals2 r
 cases rt
 exact a78 I rx ty e fun tk=>⟨.bl b,H,I.tok tk,rfl,q⟩
end
def Its (x:Str):It:=⟨fun i _=>i<x.cps.size,fun i H v H'=>H'=H∧∃ c,x.cps.toList[i]? = some c∧v = .str ⟨#[c]⟩,fun i _=>i=x.cps.size⟩
theorem a4g {P:Program} {w:World} {K:PySem.W.Frag} {tg:Expr} (it:Addr) (x:Str) (t:Tok) (ty:String)
  (hty:["enumerate", "zip", "dict_itemiterator", "dict_reverseitemiterator", "odict_iterator", "itertools.zip_longest", "itertools.pairwise"].contains ty=false)
  (W:∀ A':Around,A'.handled=none→Walks P w A' it [it] [it] x.cps.size (SignAt x) (fun i h=>h.IsStrIter it ty x t i))
  (slf:∀ (A:Around) (i:Nat) (s:Shared) (Q:Value→Shared→Prop) (E:Value→Shared→Prop),s.heap.IsStrIter it ty x t i→Q (.ref it) s→wpAny (model P w) A (pyIter (.ref it)) Q E s) :
  Turn P w K tg (Its x) [it] it (fun i h=>h.IsStrIter it ty x t i) where
 mem:=by simp
 obj:=fun i h st b hb=>by
  have e:b=it:=by simpa using hb
  subst e
  obtain ⟨o,e,c,d⟩:=st
  exact ⟨o,e,fun v z=>by rw [d] at z;cases z⟩
 keep:=fun i h h' st k=>by
  obtain ⟨o,e,c,d⟩:=st
  exact ⟨o,k it (by simp) o e,c,d⟩
 item:=by
  intro X hP hw hK hc i pins s σ H E I hf st hg
  subst hP hw hK
  obtain ⟨f0,f1,f2,f3,f4,f5⟩:=hf it (by simp)
  refine (W X.A (I.ok.hd hc)).item i s _ _ hg st fun v h' tk hv st' kk=>?_
  obtain ⟨c,u,hx,rfl⟩:=hv
  have I1:Inv X pins σ H { s with heap:=h',toks:=tk }:=I.turned (fun b o hb e=>kk b o (by simpa using hb) e) f0 f1 f3 f4 f5
  obtain ⟨o,e,oc,d⟩:=id st'
  exact ⟨_,rfl,a98 (s:={ s with heap:=h',toks:=tk }) e oc d hty ⟨.str ⟨#[c]⟩,H,I1,⟨_,rfl⟩,⟨rfl,c,by simpa using hx,rfl⟩,st',fun b hb=>(hf b hb).1⟩⟩
 done:=by
  intro X hP hw hK hc i pins s σ H E I hf st hg
  subst hP hw hK
  obtain ⟨f0,f1,f2,f3,f4,f5⟩:=hf it (by simp)
  have hg':i=x.cps.size:=hg
  subst hg'
  exact (W X.A (I.ok.hd hc)).done s _ _ st fun h' tk eb=>⟨rfl,I.turned (fun b o hb e=>eb b o (by simpa using hb) e) f0 f1 f3 f4 f5⟩
 self:=slf
section
variable {X:Cx} {tg:Expr}
def akt (tl:TE):TI:=fun σ H R=>tl σ H fun x H1=>∃ z,x = .str z∧R (Its z) H1
theorem ab2 {l:Expr} {tl:TE} (hl:PE X l tl):PI X tg l (akt tl):=by
 intro pins s σ H R I h
 refine thn (hl pins s σ H _ I h) fun v s1 ⟨x,H1,I1,r1,q1⟩=>?_
 obtain ⟨z,e,q⟩:=q1
 subst e
 obtain ⟨t,rfl⟩:=r1
 have fp:∀ b∈[s1.heap.objs.size],a5p X pins H1 b:=fun b hb=>by
  have e:b=s1.heap.objs.size:=by simpa using hb
  subst e
  exact I1.fpOk (Nat.le_refl _) (I1.hok.fresh (Nat.le_refl _))
 cases ha:z.cps.all (· < 128)
 ·exact wpAny_pyIter_wide ha ⟨s1.heap.objs.size,[s1.heap.objs.size],_,_,H1,rfl,I1.kept (t':=s1.toks) fun b o e=>Heap.get?_push_of_some _ e,
   a4g _ z t "str_iterator" (by decide) (fun A' hA=>Walks.strWide hA _ z t) (fun _ _ _ _ _ st h=>wpAny_pyIter_striter_wide st h),⟨_,Heap.get?_push_size _ rfl,rfl,rfl⟩,fp,q⟩
 ·exact wpAny_pyIter_ascii ha ⟨s1.heap.objs.size,[s1.heap.objs.size],_,_,H1,rfl,I1.kept (t':=s1.toks) fun b o e=>Heap.get?_push_of_some _ e,
   a4g _ z t "str_ascii_iterator" (by decide) (fun A' hA=>Walks.strAscii hA _ z t) (fun _ _ _ _ _ st h=>wpAny_pyIter_striter_ascii st h),⟨_,Heap.get?_push_size _ rfl,rfl,rfl⟩,fp,q⟩
end
end L2
namespace L2
open PySem PySem.Spec PyProof.Rows
def cxC (X:Cx) (N:List Str) (scope:Scope) (cl:List (Str × Addr)) (C:Addr) (fp:List Addr) (s:Shared) (H:Hp):Cx where
 prog:=X.prog
 w:=X.w
 K:=X.K
 mg:=X.mg
 base:=X.base
 A:=X.A
 N:=N
 s₀:=s
 H₀:=H
 env:=compEnvC scope cl C X.env
 outer:=X.stack
 stack:=X.stack
 ex:=fp
 fn:=fun _=>false
 calm:=X.calm
 pn:=[]
 xe:=fun _ _=>False
structure CSc (X:Cx) (scope:Scope) (cl:List (Str × Addr)) (ts fr:List Str) (ix:List Nat):Prop where
 clos:closureFor scope X.env=pure cl
 kind:scope.kind = .function
 nocell:∀ y∈scope.names,y.2≠.cell
 names:∀ y∈scope.names,y.2 = .local→scope.names.lookup y.1=some .local
 sub:∀ y c,cl.lookup y=some c→X.env.cells.lookup y=some c
 has:∀ y,((relabel scope X.env).names.lookup y=some .cell∨(relabel scope X.env).names.lookup y=some .free)→∃ c,cl.lookup y=some c
 nofn:∀ y∈ts,(relabel scope X.env).names.lookup y=some .local
 len:ix.length=fr.length
 vis:∀ (j:Nat) (y:Str),fr[j]? = some y→∃ i:Nat,ix[j]? = some i∧X.N[i]? = some y∧(X.env.kindOf y=some .cell∨X.env.kindOf y=some .free)∧((relabel scope X.env).names.lookup y=some .cell∨(relabel scope X.env).names.lookup y=some .free)
def Ext (a b:St):Prop:=b.length=a.length∧∀ (i:Nat) v,a[i]? = some (some v)→b[i]? = some (some v)
def u5 (nt:Nat) (ix:List Nat) (σ:St):St:=List.replicate nt none++ix.map fun i=>(σ[i]?).join
def ag1 (J:It) (s0:St) (g:TG) (te:TE) (Q:VK) (H1:Hp):Prop:=∃ W:Nat→Nat→List V→Hp→Prop,(∃ m,W 0 m [] H1)∧∀ i m ys H,W i m ys H →
 (J.stop i H∧∀ p,H p=none→Q (.ref p) (upd H p (.lst ys))) ∨
 (J.go i H∧ys.length<sizeLine∧∀ x H',J.yld i H x H'→g x s0 H' fun σ2 H2=>Ext s0 σ2∧te σ2 H2 fun y H3=>∃ m',m'<m∧W (i+1) m' (ys++[y]) H3)
def ag2 (wi:TI) (s0:St→St) (g:TG) (te:TE):TE:=fun σ H Q=>wi σ H fun J H1=>ag1 J (s0 σ) g te Q H1
theorem a7h {prog:Program} {w:World} {A:Around} {R:Result→Shared→Prop} {s:Shared} {elt target iter:Expr} {scope:Scope} {pos:Pos} {it acc:Value} {env:Env} (J:Nat→Shared→Prop)
  (step:∀ m z,J m z→wpAny (model prog w) A (pyNext it) (fun got z1=>match got with
   | none=>R (.ok .next) z1
   | some v=>wpAny (model prog w) A (letOwnedTupleGo target it v) (fun _ z2=>wpAny (model prog w) A (assign target env v) (fun _ z3=>wpAny (model prog w) A (eval elt env) (fun x z4 =>
     wpAny (model prog w) A (call (.builtin "list.append") [acc,x]) (fun _ z5=>∃ m',m'<m∧J m' z5) (fun _ _=>False) z4)
     (fun _ _=>False) z3) (fun _ _=>False) z2) (fun _ _=>False) z1) (fun _ _=>False) z)
  (m:Nat) (j0:J m s):codeAny (model prog w) A (.compLoop (.ListComp elt [⟨target,iter,[],0⟩] scope pos) 0 it acc env) R s:=by
 refine codeAny_loop rfl J (fun m z hj=>(wpAny_noted ?_:wpAny _ _ ((compTurn (.ListComp elt [⟨target,iter,[],0⟩] scope pos) 0 it acc env).onRaise _) _ _ z)) m j0
 rw [compTurn_list1]
 refine wpAny_bind (wpAny_standAt (wpAny_bind (wpAny_mono (step m z hj) (fun got z1 h1=>?_) fun _ _ no=>no.elim)))
 match got,h1 with
 | none,h1=>exact wpAny_pure h1
 | some v,h1 =>
  refine wpAny_bind (wpAny_mono h1 (fun _ z2 h2=>wpAny_bind (wpAny_mono h2 (fun _ z3 h3=>?_) fun _ _ no=>no.elim)) fun _ _ no=>no.elim)
  refine wpAny_bind (wpAny_bind (wpAny_mono h3 (fun x z4 h4=>?_) fun _ _ no=>no.elim))
  exact wpAny_bind (wpAny_mono h4 (fun _ z5 h5=>wpAny_pure (wpAny_pure ⟨rfl,h5⟩)) fun _ _ no=>no.elim)
section
variable {X:Cx}
theorem a7i {pins:List (Addr × Obj)} {σ:St} {H:Hp} {s:Shared} {scope:Scope} {cl:List (Str × Addr)} {ts fr:List Str} {ix:List Nat} {C:Addr} {fp:List Addr} (S:CSc X scope cl ts fr ix) (I:Inv X pins σ H s)
  (hf:∀ b∈fp,a5p X pins H b) (hb:∀ b∈fp,b<s.heap.objs.size) (hC:s.heap.objs.size≤C):(cxC X (ts++fr) scope cl C fp s H).Ok where
 mod:=I.ok.mod
 kind:=S.kind
 glob:=I.ok.glob
 blt:=I.ok.blt
 above:=hC
 inj:=fun x y c h1 h2=>I.ok.inj x y c (S.sub x c h1) (S.sub y c h2)
 has:=S.has
 cab:=fun _ _ z=>nomatch z
 hd:=I.ok.hd
 frames:=I.ok.frames
 stk:=.inl rfl
 exf:=fun b hb'=>⟨Nat.ne_of_lt (Nat.lt_of_lt_of_le (hb b hb') hC),fun x c e=>(hf b hb').2.2.2.2.1 x c (S.sub x c e)⟩
 bs:=fun b o e=>I.bs b o e
 bsz:=Nat.le_trans I.ok.bsz I.sz
 noex:=fun b o e hb'=>by
  rcases (hf b hb').2.2.2.1 with z | z
  ·exact I.ok.noex b o e z
  ·exact absurd (Nat.lt_of_lt_of_le (Heap.lt_size e) (Nat.le_trans I.ok.bsz z)) (Nat.lt_irrefl _)
 exfs:=fun b hb' z=>by
  rcases List.mem_cons.mp (I.stkSub b z) with e | e
  ·exact (hf b hb').2.1 e
  ·exact (hf b hb').2.2.1 e
 funs:=I.stack
 frf:=fun b hb'=>I.stkFree b hb'
theorem a5x {nt:Nat} {ix:List Nat} {σ:St}:(u5 nt ix σ).length=nt+ix.length:=by
 unfold u5;rw [List.length_append,List.length_replicate,List.length_map]
theorem ack {pins:List (Addr × Obj)} {σ:St} {H:Hp} {s s4:Shared} {scope:Scope} {cl:List (Str × Addr)} {ts fr:List Str} {ix:List Nat} {C:Addr} {fp:List Addr} {m:Str→Option Value} (S:CSc X scope cl ts fr ix) (I:Inv X pins σ H s)
  (hf:∀ b∈fp,a5p X pins H b) (hb:∀ b∈fp,b<s.heap.objs.size) (hC:s.heap.objs.size≤C)
  (k:∀ b o,s.heap.get? b=some o→s4.heap.get? b=some o) (hn:s4.heap.Ns C m) (ho:s4.os=s.os) (hg:s4.gens=s.gens) :
  Inv (cxC X (ts++fr) scope cl C fp s H) [] (u5 ts.length ix σ) H s4 where
 ok:=a7i S I hf hb hC
 os:=ho
 bare:=by rw [hg];exact I.bare
 base:=Un.kept k
 loc:=by
  refine ⟨m,hn,fun i x v e1 e2 e3=>?_⟩
  have e1:(ts++fr)[i]? = some x:=e1
  by_cases hi:i<ts.length
  ·unfold u5 at e2
   rw [List.getElem?_append_left (by simpa using hi),List.getElem?_replicate,if_pos hi] at e2
   cases e2
  ·rw [List.getElem?_append_right (by omega)] at e1
   unfold u5 at e2
   rw [List.getElem?_append_right (by simpa using hi),List.length_replicate,List.getElem?_map] at e2
   obtain ⟨j,h1,h2,h3,h4⟩:=S.vis _ x e1
   rw [h1] at e2
   have e2':(σ[j]?).join=some v:=Option.some.inj e2
   have e5:σ[j]? = some (some v):=by
    cases q:σ[j]? with
    | none=>rw [q] at e2';cases e2'
    | some o=>rw [q] at e2';simp at e2';rw [e2']
   obtain ⟨m0,_,hl⟩:=I.loc
   have vis:Vis X.env.scope x:=h3.elim (fun z=>.inr (.inl z)) fun z=>.inr (.inr z)
   obtain ⟨u,ru,l⟩:=hl j x v h2 e5 vis
   refine ⟨u,ru,?_⟩
   rcases l with ⟨z,_⟩ | ⟨_,c,hc,hcell⟩
   ·rcases h3 with h3 | h3<;>rw [h3] at z<;>cases z
   ·obtain ⟨c',hc'⟩:=S.has x h4
    have e6:c'=c:=Option.some.inj ((S.sub x c' hc').symm.trans hc)
    subst e6
    obtain ⟨o,ho,hd⟩:=hcell
    exact .inr ⟨h4,c',hc',o,k _ _ ho,hd⟩
 cell:=fun x c e=>by
  obtain ⟨v,o,ho,hd⟩:=I.cell x c (S.sub x c e)
  exact ⟨v,o,k _ _ ho,hd⟩
 free:=I.hok.fresh hC
 freeC:=fun x c e=>I.freeC x c (S.sub x c e)
 pin:=fun p hp=>absurd (show p∈([]:List (Addr × Obj)) from hp) (by simp)
 hok:=I.hok.kept k
 len:=by
  rw [a5x]
  show _=(ts++fr).length
  rw [List.length_append,S.len]
theorem Inv.unpinned' {pins:List (Addr × Obj)} {σ:St} {H:Hp} {s:Shared} (I:Inv X pins σ H s):Inv X [] σ H s:=I.pins_of fun _ hp=>nomatch hp
theorem comp_back {pins:List (Addr × Obj)} {σ σ':St} {H H':Hp} {s s':Shared} {scope:Scope} {cl:List (Str × Addr)} {N:List Str} {C acc:Addr} {fp:List Addr} {h':Heap} {ys:List V} {its:List Value} {n:Nat} (I:Inv X pins σ H s)
  (hf:∀ b∈fp,a5p X pins H b) (hC:s.heap.objs.size≤C) (hacc:s.heap.objs.size≤acc) (hCa:C≠acc)
  (J:Inv (cxC X N scope cl C fp s H) [] σ' H' s') (hn:H' acc=none) (ha:s'.heap.get? acc=some { cls:=.type "list",data:=.seq its.toArray n }) (rv:Vals ys its) (hz:ys.length≤sizeLine) (sb:Heap.SameBut C s'.heap h') :
  Inv X pins σ (upd H' acc (.lst ys)) { s' with heap:=h' }:=by
 have k:∀ b o,b≠C→s'.heap.get? b=some o→h'.get? b=some o:=fun b o hb e=>sb.extBut b o hb e
 have old:∀ b o,s.heap.get? b=some o→b≠C∧b≠acc:=fun b o e=>⟨Nat.ne_of_lt (Nat.lt_of_lt_of_le (Heap.lt_size e) hC),Nat.ne_of_lt (Nat.lt_of_lt_of_le (Heap.lt_size e) hacc)⟩
 have u0:Un (frs X.stack) fp H H' s.heap s'.heap:=J.base
 have fC:H' C=none:=J.free
 have u:Un (frs X.stack) fp H (upd H' acc (.lst ys)) s.heap h':=by
  refine ⟨fun b o e n' hb hx=>k b o (old b o e).1 (u0.keep b o e n' hb hx),fun b o e n' hb hx=>?_,fun b o e n' hx=>?_,fun b o e hx=>?_,fun b xs e=>?_,fun b o v e=>?_,fun b ps e=>?_⟩
  ·obtain ⟨sl,e1⟩:=u0.slot b o e n' hb hx
   exact ⟨sl,k b _ (old b o e).1 e1⟩
  ·rw [dj (old b o e).2];exact u0.free b o e n' hx
  ·obtain ⟨o',e1⟩:=u0.there b o e hx
   exact ⟨o',k b _ (old b o e).1 e1⟩
  ·rw [dj (di (u0.tups b xs e) hn)];exact u0.tups b xs e
  ·rw [dj (di (u0.frzs b o v e) hn)];exact u0.frzs b o v e
  ·obtain ⟨more,e1⟩:=u0.tbls b ps e
   exact ⟨more,by rw [dj (di e1 hn)];exact e1⟩
 have hok:HOk X.prog X.w (upd H' acc (.lst ys)) h':=fun b o e=>by
  by_cases hb:b=acc
  ·subst hb;rw [jf] at e;cases e
   exact ⟨hz,its,n,rv,k _ _ (Ne.symm hCa) ha⟩
  ·rw [dj hb] at e
   refine (J.hok b o e).stay (fun c v hc q=>k c v ?_ q) (fun c q=>by rw [dj (di q hn)];exact q) fun c xs q=>by rw [dj (di q hn)];exact q
   rcases hc with z | z
   ·rw [z];exact di e fC
   ·exact di z fC
 have J':=I.call (g':=s'.gens) (t':=s'.toks) (d':=s'.drawn) (ch:=fp) u hok J.bare fun b hb=>⟨(hf b hb).2.2.2.1,(hf b hb).2.1,(hf b hb).2.2.2.2.1,(hf b hb).2.2.2.2.2⟩
 have eo:s'.os=s.os:=J.os
 obtain ⟨hp,g,d,t,o⟩:=s'
 have eo':o=s.os:=eo
 subst eo'
 exact J'
def a7j (X:Cx) (pins:List (Addr × Obj)) (σ:St) (use:Option (Value→Sem Unit)) (Q:VK) (Qf:Value→Shared→Prop):Prop :=
 ∀ (acc C:Addr) (s6:Shared) (H6:Hp) (m6:Str→Option Value),s6.heap.Ns C m6→a5p X pins H6 C→(∀ h',Heap.SameBut C s6.heap h'→Inv X pins σ H6 { s6 with heap:=h' })→Q (.ref acc) H6 →
  compPost (model X.prog X.w) X.A X.xe use Qf (.ref acc) C (.ok .next) s6
theorem a9k {pins:List (Addr × Obj)} {σ:St} {Q:VK}:a7j X pins σ none Q (EP X pins σ Q):=fun acc C s6 H6 m6 hn _ k q=>⟨m6,hn,fun h' sb=>⟨.ref acc,H6,k h' sb,rfl,q⟩⟩
theorem a7k {elt tg iter:Expr} {scope:Scope} {pos ppos:Pos} {cl:List (Str × Addr)} {ts fr:List Str} {ix:List Nat} {wi:TI} {g:TG} {te:TE} (hc:X.calm=true) (S:CSc X scope cl ts fr ix) (hi:PI X tg iter wi)
  (hg:∀ C fp s H,PG (cxC X (ts++fr) scope cl C fp s H) tg g) (he:∀ C fp s H,PE (cxC X (ts++fr) scope cl C fp s H) elt te) (hs:∀ x,foldedSetIterable iter X.env x=pure x)
  (use:Option (Value→Sem Unit)) {pins:List (Addr × Obj)} {s:Shared} {σ:St} {H:Hp} {Q:VK} {Qf:Value→Shared→Prop} (I:Inv X pins σ H s) (h:ag2 wi (u5 ts.length ix) g te σ H Q) (fin:a7j X pins σ use Q Qf) :
  wpAny (model X.prog X.w) X.A (comprehension (.ListComp elt [⟨tg,iter,[],0⟩] scope pos) scope X.env ppos (newList []) false (eval iter X.env) use) Qf X.xe s:=by
 refine wpAny_comprehension_free (use:=use) rfl hs S.clos S.kind S.names (thn (hi pins s σ H _ I h) fun v s1 h1=>thn h1 fun itv s2 h2=>?_)
 obtain ⟨it,fp,tn,J,H2,e,I2,T,st2,f2,W,⟨m0,w0⟩,turn⟩:=h2
 subst e
 have hob:∀ b∈fp,b<s2.heap.objs.size:=fun b hb=>let ⟨o,e,_⟩:=T.obj _ _ st2 b hb;Heap.lt_size e
 refine wpAny_newObj_type (wpAny_newFunctionEnv S.nocell (by intro y hy;simp at hy) (fun h4 hns4 hsb4=>?_) S.kind)
 dsimp only at hns4 hsb4 ⊢
 generalize hH2:s2.heap.push { cls:=.type "list",dict:=none,data:=.seq ([]:List Value).toArray }=G at hns4 hsb4 ⊢
 have hCs:G.objs.size=s2.heap.objs.size+1:=by rw [← hH2,Heap.size_push]
 have hCle:s2.heap.objs.size≤G.objs.size:=by omega
 have hne:G.objs.size≠s2.heap.objs.size:=by omega
 have old:∀ b o,s2.heap.get? b=some o→h4.get? b=some o:=fun b o e=>by
  have hlt:=Heap.lt_size e
  exact hsb4.extBut b o (Nat.ne_of_lt (Nat.lt_of_lt_of_le hlt hCle)) (Heap.get?_push_of_some _ (hH2 ▸ Heap.get?_push_of_some _ e))
 have hacc:h4.get? s2.heap.objs.size=some { cls:=.type "list",data:=.seq ([]:List Value).toArray 0 } :=
  hsb4.extBut _ _ (Ne.symm hne) (Heap.get?_push_of_some _ (hH2 ▸ Heap.get?_push_size _ rfl))
 have K0:Inv (cxC X (ts++fr) scope cl G.objs.size fp s2 H2) [] (u5 ts.length ix σ) H2 { s2 with heap:=h4,toks:=s2.toks+([]:List (Str × Value)).length } :=
  ack S I2 f2 hob hCle old hns4 rfl rfl
 have st4:tn 0 h4:=T.keep _ _ _ st2 fun b _ o e=>old b o e
 have accF:s2.heap.objs.size ∉ fp:=fun z=>Nat.lt_irrefl _ (hob _ z)
 have stat:∀ {H':Hp},(∀ b∈fp,H' b=none)→∀ b∈fp,a5p (cxC X (ts++fr) scope cl G.objs.size fp s2 H2) [] H' b:=fun hn b hb =>
  ⟨hn b hb,fun z=>by have h1:=hob b hb;have z':b=G.objs.size:=z;exact Nat.ne_of_lt (Nat.lt_of_lt_of_le h1 hCle) z',fun z=>(a7i S I2 f2 hob hCle).exfs b hb z, .inl hb,fun x c e=>(f2 b hb).2.2.2.2.1 x c (S.sub x c e),fun p hp=>absurd (show p∈([]:List (Addr × Obj)) from hp) (by simp)⟩
 have statA:∀ {H':Hp},H' s2.heap.objs.size=none→a5p (cxC X (ts++fr) scope cl G.objs.size fp s2 H2) [] H' s2.heap.objs.size:=fun hn =>
  ⟨hn,fun z=>hne (show G.objs.size=s2.heap.objs.size from z.symm),fun z=>by
   obtain ⟨_,o,ho,_⟩:=(a7i S I2 f2 hob hCle).funs.mem z
   exact Nat.lt_irrefl _ (Heap.lt_size ho), .inr (Nat.le_refl _),fun x c e z=>by
   obtain ⟨v,o,ho,_⟩:=I2.cell x c (S.sub x c e)
   rw [z] at ho
   exact Nat.lt_irrefl _ (Heap.lt_size ho),fun p hp=>absurd (show p∈([]:List (Addr × Obj)) from hp) (by simp)⟩
 have loop:∀ s4:Shared,s4={ s2 with heap:=h4,toks:=s2.toks+([]:List (Str × Value)).length } →
   codeAny (model X.prog X.w) X.A (.compLoop (.ListComp elt [⟨tg,iter,[],0⟩] scope pos) 0 (.ref it) (.ref s2.heap.objs.size) (compEnvC scope cl G.objs.size X.env))
    (compPost (model X.prog X.w) X.A X.xe use Qf (.ref s2.heap.objs.size) G.objs.size) s4:=by
  rintro s4 rfl
  refine a7h (fun n s'=>∃ i σ' H' ys its k,Inv (cxC X (ts++fr) scope cl G.objs.size fp s2 H2) [] σ' H' s'∧Ext (u5 ts.length ix σ) σ'∧tn i s'.heap∧(∀ b∈fp,H' b=none)∧H' s2.heap.objs.size=none ∧
   s'.heap.get? s2.heap.objs.size=some { cls:=.type "list",data:=.seq its.toArray k }∧Vals ys its∧ys.length≤sizeLine∧W i n ys H') ?_ m0
   ⟨0,_,H2,[],[],0,K0,⟨rfl,fun _ _ z=>z⟩,st4,fun b hb=>(f2 b hb).1,I2.hok.fresh (Nat.le_refl _),hacc, .nil,Nat.zero_le _,w0⟩
  rintro n s5 ⟨i,σ5,H5,ys,its,k5,I5,x5,st5,fr5,fa5,ac5,rv5,hz5,w5⟩
  have I5':Inv (cxC X (ts++fr) scope cl G.objs.size fp s2 H2) [] (u5 ts.length ix σ) H5 s5:=I5.weak x5.1.symm x5.2
  rcases turn i n ys H5 w5 with ⟨stop,qn⟩ | ⟨go,hlt,step⟩
  ·refine thn (T.done (cxC X (ts++fr) scope cl G.objs.size fp s2 H2) rfl rfl rfl hc i [(s2.heap.objs.size,{ cls:=.type "list",data:=.seq its.toArray k5 })] s5 _ H5 _ (I5'.pins_of fun p hp=>?_) (fun b hb=>?_) st5 stop) fun r s6 ⟨hr,I6⟩=>?_
   ·have e:p=(s2.heap.objs.size,{ cls:=.type "list",data:=.seq its.toArray k5 }):=by simpa using hp
    subst e
    obtain ⟨a0,a1,a2,_⟩:=statA fa5
    exact ⟨ac5,a0,a1,a2,fun v z=>by cases z⟩
   ·obtain ⟨b0,b1,b2,b3,b4,b5⟩:=stat fr5 b hb
    refine ⟨b0,b1,b2,b3,b4,fun p hp=>?_⟩
    have e:p=(s2.heap.objs.size,{ cls:=.type "list",data:=.seq its.toArray k5 }):=by
     have hp':p∈[(s2.heap.objs.size,_)]:=hp
     simpa using hp'
    subst e
    exact fun z=>accF (by have z':s2.heap.objs.size=b:=z;rw [z'];exact hb)
   ·subst hr
    have e6:=(I6.pin (s2.heap.objs.size,{ cls:=.type "list",data:=.seq its.toArray k5 }) (by show _∈[]++[_];simp)).1
    obtain ⟨m6,hn6,_⟩:=I6.loc
    exact fin _ _ s6 _ m6 hn6 (I2.fpOk hCle (by rw [dj hne];exact I6.free)) (fun h' sb=>comp_back I2 f2 hCle (Nat.le_refl _) hne I6.unpinned' fa5 e6 rv5 hz5 sb) (qn _ fa5)
  ·refine thn (T.item (cxC X (ts++fr) scope cl G.objs.size fp s2 H2) rfl rfl rfl hc i [(s2.heap.objs.size,{ cls:=.type "list",data:=.seq its.toArray k5 })] s5 _ H5 _ (I5'.pins_of fun p hp=>?_) (fun b hb=>?_) st5 go) fun r s6 ⟨u,hr,h6⟩=>?_
   ·have e:p=(s2.heap.objs.size,{ cls:=.type "list",data:=.seq its.toArray k5 }):=by simpa using hp
    subst e
    obtain ⟨a0,a1,a2,_⟩:=statA fa5
    exact ⟨ac5,a0,a1,a2,fun v z=>by cases z⟩
   ·obtain ⟨b0,b1,b2,b3,b4,b5⟩:=stat fr5 b hb
    refine ⟨b0,b1,b2,b3,b4,fun p hp=>?_⟩
    have e:p=(s2.heap.objs.size,{ cls:=.type "list",data:=.seq its.toArray k5 }):=by
     have hp':p∈[(s2.heap.objs.size,_)]:=hp
     simpa using hp'
    subst e
    exact fun z=>accF (by have z':s2.heap.objs.size=b:=z;rw [z'];exact hb)
   ·subst hr
    refine thn h6 fun _ s7 ⟨x,H7,I7,r7,y7,st7,fr7⟩=>?_
    have fa7:H7 s2.heap.objs.size=none:=(I7.pin (s2.heap.objs.size,{ cls:=.type "list",data:=.seq its.toArray k5 }) (by show _∈[]++[_];simp)).2.1
    have ac7:=(I7.pin (s2.heap.objs.size,{ cls:=.type "list",data:=.seq its.toArray k5 }) (by show _∈[]++[_];simp)).1
    have I7':Inv (cxC X (ts++fr) scope cl G.objs.size fp s2 H2) ([]++a1z (s2.heap.objs.size::fp) s7.heap) (u5 ts.length ix σ) H7 s7:=by
     refine Inv.pinned I7.unpinned' (fun b hb=>?_) fun b hb=>?_
     ·rcases List.mem_cons.mp hb with e | e
      ·subst e;exact statA fa7
      ·exact stat fr7 b e
     ·rcases List.mem_cons.mp hb with e | e
      ·subst e;exact ⟨_,ac7,fun v z=>by cases z⟩
      ·exact T.obj _ _ st7 b e
    refine thn (hg G.objs.size fp s2 H2 _ s7 _ H7 x u _ I7' r7 (step x H7 y7)) fun _ s8 ⟨σ8,H8,I8,x8,q8⟩=>?_
    refine thn (he G.objs.size fp s2 H2 _ s8 _ H8 _ I8 q8) fun yv s9 ⟨y,H9,I9,r9,m',hm',w9⟩=>?_
    obtain ⟨ac9,fa9,_⟩:=I9.pin (s2.heap.objs.size,{ cls:=.type "list",data:=.seq its.toArray k5 }) (by show _∈[]++([]++_);simp;exact uh List.mem_cons_self ac7)
    have keep9:∀ b∈fp,∀ o,s7.heap.get? b=some o→s9.heap.get? b=some o∧H9 b=none:=fun b hb o e=>by
     obtain ⟨z1,z2,_⟩:=I9.pin (b,o) (by show _∈[]++([]++_);simp;exact uh (List.mem_cons_of_mem _ hb) e)
     exact ⟨z1,z2⟩
    have hl:=rv5.length
    refine call_meets F.slot_list_append ⟨_,ac9,rfl⟩ F.entry_list_append (F.args_list_append_2 _ _) (PySem.list_append s2.heap.objs.size its.toArray k5 yv (by rw [List.size_toArray];omega)) ⟨ac9,?_⟩
    have q:=PySem.IsL.update ac9 (fun a=>a.push yv)
    have qo:∀ b o,b≠s2.heap.objs.size→s9.heap.get? b=some o→(s9.heap.update s2.heap.objs.size (Obj.mapSeq (fun a=>a.push yv))).get? b=some o:=fun b o hb e=>(Heap.get?_update_other s9.heap _ (Ne.symm hb)).trans e
    have q':∃ k,(s9.heap.update s2.heap.objs.size (Obj.mapSeq (fun a=>a.push yv))).get? s2.heap.objs.size=some { cls:=.type "list",data:=.seq (its++[yv]).toArray k }:=⟨_,by rw [q];simp;rfl⟩
    obtain ⟨k9,q9⟩:=q'
    obtain ⟨a0,a1,a2,a3,a4,a5⟩:=statA (show H9 s2.heap.objs.size=none from fa9)
    refine ⟨m',hm',i+1,σ8,H9,ys++[y],its++[yv],k9,(I9.unpinned').turned qo a0 a1 a3 a4 a5,x8,?_,?_,fa9,q9,rv5.append (.cons r9 .nil),?_,w9⟩
    ·refine T.keep _ _ _ st7 fun b hb o e=>qo b o (fun z=>accF (z ▸ hb)) (keep9 b hb o e).1
    ·intro b hb
     obtain ⟨o,e,_⟩:=T.obj _ _ st7 b hb
     exact (keep9 b hb o e).2
    ·rw [List.length_append,List.length_singleton];omega
 exact codeAny_compStart_list (loop _ rfl) (T.self _ 0 _ _ _ st4 (loop _ rfl))
theorem a9l {elt tg iter:Expr} {scope:Scope} {pos:Pos} {cl:List (Str × Addr)} {ts fr:List Str} {ix:List Nat} {wi:TI} {g:TG} {te:TE} (hc:X.calm=true) (S:CSc X scope cl ts fr ix) (hi:PI X tg iter wi)
  (hg:∀ C fp s H,PG (cxC X (ts++fr) scope cl C fp s H) tg g) (he:∀ C fp s H,PE (cxC X (ts++fr) scope cl C fp s H) elt te)
  (hs:∀ x,foldedSetIterable iter X.env x=pure x:=by intro _;rfl) :
  PE X (.ListComp elt [⟨tg,iter,[],0⟩] scope pos) (ag2 wi (u5 ts.length ix) g te):=by
 intro pins s σ H Q I h
 rw [eval_ListComp]
 exact a7k hc S hi hg he hs none I h a9k
end
end L2
namespace L2
open PySem PySem.Spec PyProof.Rows
end L2
namespace L2
open PySem PySem.Spec
theorem lr:bootBuiltins "len" = some (.builtin "len"):=PySem.boot_len
theorem fu:bootBuiltins "isinstance" = some (.builtin "isinstance"):=by first | exact PySem.boot_isinstance | exact PyProof.Rows.boot_isinstance
theorem a7l:bootBuiltins "str" = some (.type "str"):=by first | exact PySem.boot_str | exact PyProof.Rows.boot_str
theorem ab3:bootBuiltins "abs" = some (.builtin "abs"):=by first | exact PySem.boot_abs | exact PyProof.Rows.boot_abs
theorem a7m:bootBuiltins "int" = some (.type "int"):=by first | exact PySem.boot_int | exact PyProof.Rows.boot_int
theorem a9m:bootBuiltins "tuple" = some (.type "tuple"):=by first | exact PySem.boot_tuple | exact PyProof.Rows.boot_tuple
structure Dn (P:Program) (w:World) (K:PySem.W.Frag) (mg:Str→Option Value) (base:Heap) (k:Nat) (x:Str) (ps:List Str) (sp:Sp) (f:Addr) (fd:FuncData):Prop where
 ok:FnOk P w K mg base CX0 k f fd ps sp
 m:mg x=some (.ref f)
 kp:PySem.W.keepIn K (.ref f)=true
 b:Binds K fd ps []
theorem a1a {n:Nat} (h:n≤16777216):n≤sizeLine:=by rw [sizeLine_eq];exact h
end L2
namespace L2
open PySem PySem.Spec
theorem aiw (x y:Str):(x++y).cps.toList=x.cps.toList++y.cps.toList:=by
 show (x.cps++y.cps).toList=_
 simp
theorem a7n {α:Type} (xs:List α) (k:Nat):a0z xs none (some (k:Int))=xs.take k:=by
 unfold a0z
 rw [HT.a4e,HT.a7a,List.drop_zero,Nat.sub_zero]
 by_cases h:k≤xs.length
 ·rw [Nat.min_eq_left h]
 ·rw [Nat.min_eq_right (by omega),List.take_of_length_le (Nat.le_refl _),List.take_of_length_le (by omega)]
theorem a7o {α:Type} (xs:List α) (k:Nat):a0z xs (some (k:Int)) none=xs.drop k:=by
 unfold a0z
 rw [HT.a4e,HT.a7a]
 by_cases h:k≤xs.length
 ·rw [Nat.min_eq_left h,List.take_of_length_le (by rw [List.length_drop];omega)]
 ·rw [Nat.min_eq_right (by omega),List.drop_eq_nil_of_le (Nat.le_refl _),List.drop_eq_nil_of_le (by omega),List.take_nil]
end L2
namespace L2
open PySem PySem.Spec PyProof.Rows
end L2
namespace L2
open PySem PySem.Spec PyProof.Rows
section
variable {X:Cx}
def vy (T:Str) (c:Nat):Int:=Txt.find T ⟨#[c]⟩
theorem a3n (s sub:Str) (hi limit:Nat):∀ (l:List Nat) (st:Array Nat × Nat) (k:Nat),k∈(forIn l st (StrLaws.occBody s sub hi limit)).run.fst.toList→k∈st.fst.toList∨(k+sub.length≤hi∧Builtin.Str.subAt s sub k=true)
 | [],st,k,h=>.inl h
 | a::l,st,k,h=>by
  rw [List.forIn_cons] at h
  unfold StrLaws.occBody at h
  split at h
  ·rename_i c
   rcases a3n s sub hi limit l _ k h with z | z
   ·simp at z
    rcases z with z | z
    ·exact .inl (by simpa using z)
    ·subst z;exact .inr ⟨c.1.2,c.2⟩
   ·exact .inr z
  ·rcases a3n s sub hi limit l _ k h with z | z
   ·exact .inl z
   ·exact .inr z
theorem a4h {T:Str} {c:Nat} (h:c∈T.cps.toList):∃ i:Nat,vy T c=(i:Int)∧T.cps.toList[i]? = some c∧∃ rest,Builtin.Str.occurrences T ⟨#[c]⟩ 0 T.length 1=i::rest:=by
 have h1:=StrLaws.found_one T c
 rw [decide_eq_true h] at h1
 cases ho:Builtin.Str.occurrences T ⟨#[c]⟩ 0 T.length 1 with
 | nil=>rw [ho] at h1;cases h1
 | cons i rest =>
  refine ⟨i,by simp [vy,Txt.find,ho],?_,rest,rfl⟩
  rw [StrLaws.occ_eq] at ho
  have hm:=a3n T ⟨#[c]⟩ T.length 1 (List.range' 0 (T.length+1 - 0)) (#[],0) i (by rw [ho];exact List.mem_cons_self)
  rcases hm with z | z
  ·simp at z
  ·exact (StrLaws.subAt_one T c i).mp z
theorem a7p:MtR X "str.find" (fun x xs H Q=>∃ T c,x = .str T∧xs=[.str ⟨#[c]⟩]∧Q (.int (vy T c)) H):=by
 intro pins s σ H x xs v us Q I rx rs h
 obtain ⟨T,c,rfl,rfl,q⟩:=h
 obtain ⟨t,rfl⟩:=rx
 obtain ⟨u,rfl,t',rfl⟩:=vals1 rs
 exact call_meets F.slot_str_find (typeIs_str _ _ _) F.entry_str_find (F.args_str_find_2 _ _) (gives_str_find _ _ _ _).meets ⟨.int (vy T c),H,I.tok _,⟨_,rfl⟩,q⟩
theorem a9n:MtR X "str.index" (fun x xs H Q=>∃ T c,x = .str T∧xs=[.str ⟨#[c]⟩]∧c∈T.cps.toList∧Q (.int (vy T c)) H):=by
 intro pins s σ H x xs v us Q I rx rs h
 obtain ⟨T,c,rfl,rfl,hc,q⟩:=h
 obtain ⟨t,rfl⟩:=rx
 obtain ⟨u,rfl,t',rfl⟩:=vals1 rs
 obtain ⟨i,e1,e2,rest,ho⟩:=a4h hc
 refine call_meets F.slot_str_index (typeIs_str _ _ _) F.entry_str_index (F.args_str_index_2 _ _) (gives_str_index _ _ _ _ i rest ho).meets ⟨.int (vy T c),H,I.tok _,⟨_,by rw [e1]⟩,q⟩
theorem acl {zs:List Str}:∀ {us:List Value},Vals (zs.map V.str) us→StrsAre us zs:=by
 induction zs with
 | nil=>intro us r;rw [List.map_nil] at r;cases r;exact .nil
 | cons z zs ih =>
  intro us r
  rw [List.map_cons] at r
  cases r with
  | cons r1 r2 =>
   obtain ⟨t,e⟩:=r1
   subst e
   exact .cons z t (ih r2)
theorem acn:MtR X "str.join" (fun x xs H Q=>∃ sep p zs,x = .str sep∧xs=[.ref p]∧SqL X.K H p (zs.map V.str)∧(zs.map (·.length)).sum+zs.length*sep.length≤16777216∧Q (.str (Txt.join sep zs)) H):=by
 intro pins s σ H x xs v us Q I rx rs h
 obtain ⟨sep,p,zs,rfl,rfl,hp,hz,q⟩:=h
 obtain ⟨t,rfl⟩:=rx
 obtain ⟨u,rfl,ru⟩:=vals1 rs
 cases ru
 obtain ⟨its,r,pl,_⟩:=I.list hp
 exact join_list pl.isList (by simpa using acl r) hz fun t' k=>⟨.str _,H,I.tok _,⟨_,rfl⟩,q⟩
end
theorem CSc.of {X:Cx} {scope:Scope} {cl:List (Str × Addr)} {ts fr:List Str} {ix:List Nat} (clos:closureFor scope X.env=pure cl) (kind:scope.kind = .function)
  (nocell:(scope.names.all fun p=>p.2 != .cell)=true) (names:(scope.names.all fun p=>p.2 != .local || scope.names.lookup p.1 == some .local)=true) (sub:∀ p∈cl,X.env.cells.lookup p.1=some p.2)
  (has:((relabel scope X.env).names.all fun p => !(p.2 == .cell || p.2 == .free) || (cl.lookup p.1).isSome)=true) (nofn:(ts.all fun y=>(relabel scope X.env).names.lookup y == some .local)=true)
  (len:ix.length=fr.length) (vis:((fr.zip ix).all fun p=>X.N[p.2]? == some p.1 && (X.env.kindOf p.1 == some .cell || X.env.kindOf p.1 == some .free) && ((relabel scope X.env).names.lookup p.1 == some .cell || (relabel scope X.env).names.lookup p.1 == some .free))=true) :
  CSc X scope cl ts fr ix:=by
 refine ⟨clos,kind,fun y hy=>?_,fun y hy e=>?_,fun y c e=>sub _ (PySem.mem_of_lookup e),fun y z=>?_,fun y hy=>?_,len,fun j y e=>?_⟩
 ·have:=List.all_eq_true.mp nocell y hy
  simpa using this
 ·have:=List.all_eq_true.mp names y hy
  rw [e] at this
  simpa using this
 ·have key:∀ k,(relabel scope X.env).names.lookup y=some k→(k == .cell || k == .free)=true→∃ c,cl.lookup y=some c:=fun k e hk=>by
   have:=List.all_eq_true.mp has _ (PySem.mem_of_lookup e)
   rw [hk] at this
   exact Option.isSome_iff_exists.mp (by simpa using this)
  rcases z with z | z
  ·exact key _ z rfl
  ·exact key _ z rfl
 ·have:=List.all_eq_true.mp nofn y hy
  simpa using this
 ·obtain ⟨hj,_⟩:=List.getElem?_eq_some_iff.mp e
  have hj2:j<ix.length:=by omega
  have hm:(y,ix[j])∈fr.zip ix:=by
   rw [List.mem_iff_getElem?]
   exact ⟨j,by rw [List.getElem?_zip_eq_some];exact ⟨e,List.getElem?_eq_getElem hj2⟩⟩
  have:=List.all_eq_true.mp vis _ hm
  simp only [Bool.and_eq_true,Bool.or_eq_true,beq_iff_eq] at this
  exact ⟨ix[j],List.getElem?_eq_getElem hj2,this.1.1,this.1.2,this.2⟩
end L2
namespace HT
open PySem PySem.Spec PyProof.Rows
end HT
namespace L2
open PySem PySem.Spec PyProof.Rows
end L2
namespace L2
open PySem PySem.Spec PyProof.Rows
def tSM (r:V→List V→Hp→VK→Prop) (to:TE) (t:TA):TE:=fun σ H Q=>to σ H fun x H1=>(∃ z,x = .str z)∧t σ H1 fun xs H2=>r x xs H2 Q
theorem aix {X:Cx} {o e:Expr} {es:List Expr} {to:TE} {t:TA} {name:Str} {apos cpos:Pos} {id:String} {r:V→List V→Hp→VK→Prop} (slot:Slot "str" name id) (hty:typeOf (.builtin id)=pure (.type "method_descriptor")) (hm:MtR X id r) (ho:PE X o to) (ha:PA X (e::es) t)
  (hbase:attributeBase o name X.env (eval o X.env)=eval o X.env:=by rfl)
  (hfew:((backTo cpos (starEach (e::es) X.env)).all (fun x => !x.1) && (backToKw cpos (keywordEach [] X.env)).all (fun x=>x.1.isSome)
   && decide ((e::es).length+([]:List Keyword).length+(if ([]:List Keyword).isEmpty then 0 else 1)<30))=true:=by rfl)
  (hline:(apos.endLine == cpos.line)=true:=by rfl) (hs:starEach (e::es) X.env=(false,eval e X.env)::starEach es X.env:=by rfl) (hplain:(backTo cpos (starEach es X.env)).any (·.1)=false:=by rfl) :
  PE X (.Call (.Attribute o name apos) (e::es) [] cpos) (tSM r to t):=by
 intro pins s σ H Q I h
 refine wpAny_Call_method_late hbase hfew hline rfl (thn (ho pins s σ H _ I h) fun v s1 ⟨x,H1,I1,r1,⟨z,hz⟩,q1⟩=>?_)
 subst hz
 obtain ⟨h1,h2⟩:=afu (T := "str") I1 r1 rfl
 refine ⟨"str",id,PySem.F.plainAttrs_str,slot,hty,h1,h2,?_⟩
 have hA:=ha cpos pins s1 σ H1 _ I1 q1
 rw [hs] at hA ⊢
 refine Calls.callWith_builtin (by show (false || (backTo cpos (starEach es X.env)).any (·.1))=false;rw [hplain]<;>rfl) (Calls.evalArgs_plain ?_)
 exact thn hA fun us s2 ⟨vs,H2,I2,r2,q2⟩=>hm pins s2 σ H2 _ vs v us Q I2 r1 r2 q2
end L2
namespace L2
open PySem PySem.Spec PyProof.Rows
end L2
namespace SHP
open PySem L2
end SHP
namespace L2
open PySem PySem.Spec PyProof.Rows
end L2
namespace L2
open PySem PySem.Spec PyProof.Rows
end L2
namespace SHP
open PySem L2
end SHP
namespace MI
open PySem L2
inductive D where
 | non | bl (b:Bool) | int (i:Int) | str (x:Str) | ty (n:String) | tup (xs:List D) | rol (xs:List D) | ref (i:Nat) | scr (xs:List D) | rod (ks:List Key) (xs:List D) | rdT (ks:List (List Key)) (xs:List D) | exc (c:Str)
inductive O where
 | lst (xs:List D) | dK (kvs:List (Key × D)) | dT (kvs:List (List Key × D))
abbrev Hd:=List O
abbrev Sd:=List (Option D)
inductive R (α:Type) where
 | ok (a:α) (h:Hd) | ex (c:Str) (h:Hd) | no
def R.bind {α β:Type}:R α→(α→Hd→R β)→R β
 | .ok a h,k=>k a h
 | .ex c h,_=>.ex c h
 | .no,_=>.no
inductive Fl where
 | nx (σ:Sd) (h:Hd) | rt (d:D) (h:Hd) | bk (σ:Sd) (h:Hd) | ct (σ:Sd) (h:Hd) | ex (c:Str) (h:Hd) | no
def R.fl {α:Type}:R α→(α→Hd→Fl)→Fl
 | .ok a h,k=>k a h
 | .ex c h,_=>.ex c h
 | .no,_=>.no
abbrev SE:=Sd→Hd→R D
abbrev ST:=Sd→Hd→R Bool
abbrev SA:=Sd→Hd→R (List D)
abbrev SS:=Sd→Hd→Fl
def SqF (K:PySem.W.Frag) (H:Hp) (a:Addr) (vs:List V):Prop:=(∃ o,H a=some (.frz o (.lst vs)))∨SqL K (fun _=>none) a vs
theorem SqF.l {K:PySem.W.Frag} {H:Hp} {a:Addr} {vs:List V} (h:SqF K H a vs):SqL K H a vs:=by
 rcases h with ⟨o,h⟩ | h
 ·exact .inl (.inr ⟨o,h⟩)
 ·rcases h with (h | ⟨o,h⟩) | h
  ·cases h
  ·cases h
  ·exact .inr h
def SqZ (H:Hp) (a:Addr) (vs:List V):Prop:=∃ o,H a=some (.frz o (.lst vs))
theorem SqZ.l {K:PySem.W.Frag} {H:Hp} {a:Addr} {vs:List V} (h:SqZ H a vs):SqL K H a vs:=let ⟨o,e⟩:=h; .inl (.inr ⟨o,e⟩)
def exO (a:Addr):HO:=.ext fun h=>∃ o,h.get? a=some o
mutual
inductive Rep (K:PySem.W.Frag) (ι:List Addr) (H:Hp):V→D→Prop
 | non:Rep K ι H .non .non
 | bl (b:Bool):Rep K ι H (.bl b) (.bl b)
 | int (i:Int):Rep K ι H (.int i) (.int i)
 | str (x:Str):Rep K ι H (.str x) (.str x)
 | ty (n:String):Rep K ι H (.ty n) (.ty n)
 | tup {a:Addr} {vs:List V} {xs:List D} (h:H a=some (.tup vs)) (r:Reps K ι H vs xs):Rep K ι H (.ref a) (.tup xs)
 | rol {a:Addr} {vs:List V} {xs:List D} (h:SqZ H a vs) (r:Reps K ι H vs xs):Rep K ι H (.ref a) (.rol xs)
 | scr {a:Addr} {vs:List V} {xs:List D} (h:SqF K H a vs) (r:Reps K ι H vs xs):Rep K ι H (.ref a) (.scr xs)
 | ref {a:Addr} {i:Nat} (h:ι[i]? = some a):Rep K ι H (.ref a) (.ref i)
 | rod {a:Addr} {o:Obj} {us:List (Key × V)} {ks:List Key} {xs:List D} (h:H a=some (.frz o (.dK us))) (e:us.map (·.1)=ks) (r:Reps K ι H (us.map (·.2)) xs):Rep K ι H (.ref a) (.rod ks xs)
 | rdT {a:Addr} {o:Obj} {us:List (List Key × V)} {ks:List (List Key)} {xs:List D} (h:H a=some (.frz o (.dT us))) (e:us.map (·.1)=ks) (r:Reps K ι H (us.map (·.2)) xs):Rep K ι H (.ref a) (.rdT ks xs)
 | exc {a C:Addr} {o:Obj} {c:Str} (h:H a=some (.frz o (exO a))) (hc:o.cls = .ref C) (hn:PySem.W.nsIn K mainGlobals c=some (some (.ref C))):Rep K ι H (.ref a) (.exc c)
inductive Reps (K:PySem.W.Frag) (ι:List Addr) (H:Hp):List V→List D→Prop
 | nil:Reps K ι H [] []
 | cons {v:V} {d:D} {vs:List V} {ds:List D} (r:Rep K ι H v d) (rs:Reps K ι H vs ds):Reps K ι H (v::vs) (d::ds)
end
structure Gw (ι:List Addr) (H:Hp) (ι':List Addr) (H':Hp):Prop where
 pre:∃ m,ι'=ι++m
 tup:∀ a vs,H a=some (.tup vs)→H' a=some (.tup vs)
 frz:∀ a o u,H a=some (.frz o u)→H' a=some (.frz o u)
structure Gr (ι:List Addr) (H:Hp) (ι':List Addr) (H':Hp):Prop where
 pre:∃ m,ι'=ι++m∧∀ a∈m,H a=none
 tup:∀ a vs,H a=some (.tup vs)→H' a=some (.tup vs)
 frz:∀ a o u,H a=some (.frz o u)→H' a=some (.frz o u)
 oth:∀ a u,H a=some u→a ∉ ι→H' a=some u
 kp:∀ a u,H a=some u→∃ u',H' a=some u'
theorem Gr.w {ι ι':List Addr} {H H':Hp} (g:Gr ι H ι' H'):Gw ι H ι' H':=⟨let ⟨m,e,_⟩:=g.pre; ⟨m,e⟩,g.tup,g.frz⟩
theorem Gr.refl (ι:List Addr) (H:Hp):Gr ι H ι H:=⟨⟨[],by simp,by simp⟩,fun _ _ h=>h,fun _ _ _ h=>h,fun _ _ h _=>h,fun _ u h=>⟨u,h⟩⟩
theorem Gr.trans {ι ι1 ι2:List Addr} {H H1 H2:Hp} (a:Gr ι H ι1 H1) (b:Gr ι1 H1 ι2 H2):Gr ι H ι2 H2:=by
 obtain ⟨m,rfl,hm⟩:=a.pre
 obtain ⟨n,rfl,hn⟩:=b.pre
 refine ⟨⟨m++n,by simp,fun x hx=>?_⟩,fun x vs h=>b.tup x vs (a.tup x vs h),fun x o u h=>b.frz x o u (a.frz x o u h),fun x u h hx=>?_,fun x u h=>?_⟩
 ·rcases List.mem_append.mp hx with hx | hx
  ·exact hm x hx
  ·cases e:H x with
   | none=>rfl
   | some u =>
    obtain ⟨u',e'⟩:=a.kp x u e
    rw [hn x hx] at e';cases e'
 ·refine b.oth x u (a.oth x u h hx) fun z=>?_
  rcases List.mem_append.mp z with z | z
  ·exact hx z
  ·rw [hm x z] at h;cases h
 ·obtain ⟨u',e⟩:=a.kp x u h
  exact b.kp x u' e
theorem Gw.at {ι ι':List Addr} {H H':Hp} (g:Gw ι H ι' H') {i:Nat} {a:Addr} (h:ι[i]? = some a):ι'[i]? = some a:=by
 obtain ⟨m,rfl⟩:=g.pre
 rw [List.getElem?_append_left (List.getElem?_eq_some_iff.mp h).1]
 exact h
theorem Gr.at {ι ι':List Addr} {H H':Hp} (g:Gr ι H ι' H') {i:Nat} {a:Addr} (h:ι[i]? = some a):ι'[i]? = some a:=g.w.at h
theorem SqF.monoW {K:PySem.W.Frag} {ι ι':List Addr} {H H':Hp} (g:Gw ι H ι' H') {a:Addr} {vs:List V} (h:SqF K H a vs):SqF K H' a vs:=by
 rcases h with ⟨o,h⟩ | h
 ·exact .inl ⟨o,g.frz _ _ _ h⟩
 ·exact .inr h
theorem SqZ.monoW {ι ι':List Addr} {H H':Hp} (g:Gw ι H ι' H') {a:Addr} {vs:List V} (h:SqZ H a vs):SqZ H' a vs:=let ⟨o,e⟩:=h; ⟨o,g.frz _ _ _ e⟩
theorem SqZ.mono {ι ι':List Addr} {H H':Hp} (g:Gr ι H ι' H') {a:Addr} {vs:List V} (h:SqZ H a vs):SqZ H' a vs:=h.monoW g.w
mutual
theorem Rep.monoW {K:PySem.W.Frag} {ι ι':List Addr} {H H':Hp} (g:Gw ι H ι' H'):∀ {v:V} {d:D},Rep K ι H v d→Rep K ι' H' v d
 | _,_, .non=>.non
 | _,_, .bl b=>.bl b
 | _,_, .int i=>.int i
 | _,_, .str x=>.str x
 | _,_, .ty n=>.ty n
 | _,_, .tup h r=>.tup (g.tup _ _ h) (Reps.monoW g r)
 | _,_, .rol h r=>.rol (h.monoW g) (Reps.monoW g r)
 | _,_, .scr h r=>.scr (h.monoW g) (Reps.monoW g r)
 | _,_, .ref h=>.ref (g.at h)
 | _,_, .rod h e r=>.rod (g.frz _ _ _ h) e (Reps.monoW g r)
 | _,_, .rdT h e r=>.rdT (g.frz _ _ _ h) e (Reps.monoW g r)
 | _,_, .exc h hc hn=>.exc (g.frz _ _ _ h) hc hn
theorem Reps.monoW {K:PySem.W.Frag} {ι ι':List Addr} {H H':Hp} (g:Gw ι H ι' H'):∀ {vs:List V} {ds:List D},Reps K ι H vs ds→Reps K ι' H' vs ds
 | _,_, .nil=>.nil
 | _,_, .cons r rs=>.cons (Rep.monoW g r) (Reps.monoW g rs)
end
theorem Rep.mono {K:PySem.W.Frag} {ι ι':List Addr} {H H':Hp} (g:Gr ι H ι' H') {v:V} {d:D} (r:Rep K ι H v d):Rep K ι' H' v d:=r.monoW g.w
theorem Reps.mono {K:PySem.W.Frag} {ι ι':List Addr} {H H':Hp} (g:Gr ι H ι' H') {vs:List V} {ds:List D} (r:Reps K ι H vs ds):Reps K ι' H' vs ds:=r.monoW g.w
section
variable {K:PySem.W.Frag} {ι:List Addr} {H:Hp}
theorem Reps.len {vs:List V} {ds:List D}:Reps K ι H vs ds→vs.length=ds.length
 | .nil=>rfl
 | .cons _ rs=>by rw [List.length_cons,List.length_cons,rs.len]
theorem Reps.get:∀ {vs:List V} {ds:List D} {i:Nat} {d:D},Reps K ι H vs ds→ds[i]? = some d→∃ v,vs[i]? = some v∧Rep K ι H v d
 | _,_,_,_, .nil,e=>by simp at e
 | _,_,0,_, .cons r _,e=>by simp at e;subst e;exact ⟨_,rfl,r⟩
 | _,_,i+1,d, .cons _ rs,e=>by
  obtain ⟨u,h1,h2⟩:=Reps.get (i:=i) (d:=d) rs (by simpa using e)
  exact ⟨u,by simpa using h1,h2⟩
theorem Reps.app:∀ {vs us:List V} {ds es:List D},Reps K ι H vs ds→Reps K ι H us es→Reps K ι H (vs++us) (ds++es)
 | _,_,_,_, .nil,s=>s
 | _,_,_,_, .cons r rs,s=>.cons r (Reps.app rs s)
theorem Reps.set {v:V} {d:D} (q:Rep K ι H v d):∀ {vs:List V} {ds:List D} (i:Nat),Reps K ι H vs ds→Reps K ι H (vs.set i v) (ds.set i d)
 | _,_,_, .nil=>.nil
 | _,_,0, .cons _ rs=>.cons q rs
 | _,_,i+1, .cons r rs=>.cons r (Reps.set q i rs)
theorem Reps.take:∀ {vs:List V} {ds:List D} (n:Nat),Reps K ι H vs ds→Reps K ι H (vs.take n) (ds.take n)
 | _,_,0,_=>.nil
 | _,_,_+1, .nil=>.nil
 | _,_,n+1, .cons r rs=>.cons r (Reps.take n rs)
theorem Reps.drop:∀ {vs:List V} {ds:List D} (n:Nat),Reps K ι H vs ds→Reps K ι H (vs.drop n) (ds.drop n)
 | _,_,0,r=>r
 | _,_,_+1, .nil=>.nil
 | _,_,n+1, .cons _ rs=>Reps.drop n rs
theorem Reps.snoc {vs:List V} {ds:List D} {v:V} {d:D} (r:Reps K ι H vs ds) (q:Rep K ι H v d):Reps K ι H (vs++[v]) (ds++[d]):=r.app (.cons q .nil)
theorem Reps.flat:∀ {vs:List V} {ds:List D} (k:Nat),Reps K ι H vs ds→Reps K ι H (List.replicate k vs).flatten (List.replicate k ds).flatten
 | _,_,0,_=>.nil
 | vs,ds,k+1,r=>by
  rw [List.replicate_succ,List.replicate_succ,List.flatten_cons,List.flatten_cons]
  exact r.app (Reps.flat k r)
end
def KRep {κ:Type} (K:PySem.W.Frag) (ι:List Addr) (H:Hp) (us:List (κ × V)) (kvs:List (κ × D)):Prop:=us.map (·.1)=kvs.map (·.1)∧Reps K ι H (us.map (·.2)) (kvs.map (·.2))
def ORep (K:PySem.W.Frag) (ι:List Addr) (H:Hp) (a:Addr):O→Prop
 | .lst xs=>∃ vs,H a=some (.lst vs)∧Reps K ι H vs xs
 | .dK kvs=>∃ us,H a=some (.dK us)∧KRep K ι H us kvs
 | .dT kvs=>∃ us,H a=some (.dT us)∧KRep K ι H us kvs
structure HRep (K:PySem.W.Frag) (ι:List Addr) (H:Hp) (h:Hd):Prop where
 nd:ι.Nodup
 len:ι.length=h.length
 obj:∀ (i:Nat) (a:Addr) (o:O),ι[i]? = some a→h[i]? = some o→ORep K ι H a o
section
variable {K:PySem.W.Frag} {ι:List Addr} {H:Hp} {h:Hd}
theorem ORep.some {a:Addr} {o:O} (r:ORep K ι H a o):∃ u,H a=some u∧(∀ vs,u≠.tup vs)∧(∀ o' u',u≠.frz o' u'):=by
 cases o with
 | lst xs=>obtain ⟨vs,e,_⟩:=r;exact ⟨_,e,fun _ z=>(by cases z),fun _ _ z=>(by cases z)⟩
 | dK kvs=>obtain ⟨us,e,_⟩:=r;exact ⟨_,e,fun _ z=>(by cases z),fun _ _ z=>(by cases z)⟩
 | dT kvs=>obtain ⟨us,e,_⟩:=r;exact ⟨_,e,fun _ z=>(by cases z),fun _ _ z=>(by cases z)⟩
theorem HRep.at (r:HRep K ι H h) {i:Nat} {a:Addr} (e:ι[i]? = some a):∃ o,h[i]? = some o∧ORep K ι H a o:=by
 have hi:i<h.length:=by rw [← r.len];exact (List.getElem?_eq_some_iff.mp e).1
 exact ⟨h[i],List.getElem?_eq_getElem hi,r.obj i a _ e (List.getElem?_eq_getElem hi)⟩
theorem HRep.addr (r:HRep K ι H h) {i:Nat} {o:O} (e:h[i]? = some o):∃ a,ι[i]? = some a∧ORep K ι H a o:=by
 have hi:i<ι.length:=by rw [r.len];exact (List.getElem?_eq_some_iff.mp e).1
 exact ⟨ι[i],List.getElem?_eq_getElem hi,r.obj i _ o (List.getElem?_eq_getElem hi) e⟩
theorem HRep.notin (r:HRep K ι H h) {p:Addr} (e:H p=none):p ∉ ι:=fun z=>by
 obtain ⟨i,hi⟩:=List.getElem?_of_mem z
 obtain ⟨o,_,q⟩:=r.at hi
 obtain ⟨u,q,_⟩:=q.some
 rw [e] at q;cases q
theorem ORep.monoW {ι':List Addr} {H':Hp} {a:Addr} {o:O} (g:Gw ι H ι' H') (e:H' a=H a) (r:ORep K ι H a o):ORep K ι' H' a o:=by
 cases o with
 | lst xs=>obtain ⟨vs,h1,h2⟩:=r;exact ⟨vs,by rw [e];exact h1,h2.monoW g⟩
 | dK kvs=>obtain ⟨us,h1,h2,h3⟩:=r;exact ⟨us,by rw [e];exact h1,h2,h3.monoW g⟩
 | dT kvs=>obtain ⟨us,h1,h2,h3⟩:=r;exact ⟨us,by rw [e];exact h1,h2,h3.monoW g⟩
theorem ORep.mono {ι':List Addr} {H':Hp} {a:Addr} {o:O} (g:Gr ι H ι' H') (e:H' a=H a) (r:ORep K ι H a o):ORep K ι' H' a o:=r.monoW g.w e
theorem uv {p:Addr} (e:H p=none) (o:HO):Gr ι H ι (upd H p o) :=
 ⟨⟨[],by simp,by simp⟩,fun a vs h=>by rw [dj (di h e)];exact h,fun a o u h=>by rw [dj (di h e)];exact h,fun a u h _=>by rw [dj (di h e)];exact h,fun a u h=>⟨u,by rw [dj (di h e)];exact h⟩⟩
theorem HRep.aside (r:HRep K ι H h) {p:Addr} (e:H p=none) (o:HO):HRep K ι (upd H p o) h:=by
 refine ⟨r.nd,r.len,fun i a o' e1 e2=>?_⟩
 have q:=r.obj i a o' e1 e2
 obtain ⟨u,hu,_⟩:=q.some
 exact q.mono (uv e o) (dj (di hu e))
theorem a7q {p:Addr} (e:H p=none) (o:HO):Gr ι H (ι++[p]) (upd H p o) :=
 ⟨⟨[p],rfl,by simpa using e⟩,(uv (ι:=ι) e o).tup,(uv (ι:=ι) e o).frz,(uv (ι:=ι) e o).oth,(uv (ι:=ι) e o).kp⟩
theorem HRep.add (r:HRep K ι H h) {p:Addr} (e:H p=none) {o:HO} {ob:O} (q:ORep K (ι++[p]) (upd H p o) p ob):HRep K (ι++[p]) (upd H p o) (h++[ob]):=by
 refine ⟨?_,by simp [r.len],fun i a o' e1 e2=>?_⟩
 ·rw [List.nodup_append]
  exact ⟨r.nd,by simp,fun a ha b hb z=>r.notin e (by rw [List.mem_singleton.mp hb] at z;rw [← z];exact ha)⟩
 ·by_cases hi:i<ι.length
  ·rw [List.getElem?_append_left hi] at e1
   rw [List.getElem?_append_left (by rw [← r.len];exact hi)] at e2
   have q:=r.obj i a o' e1 e2
   obtain ⟨u,hu,_⟩:=q.some
   exact q.mono (a7q e o) (dj (di hu e))
  ·have hi2:i<(ι++[p]).length:=(List.getElem?_eq_some_iff.mp e1).1
   have:i=ι.length:=by simp at hi2;omega
   subst this
   rw [List.getElem?_append_right (Nat.le_refl _)] at e1
   rw [r.len,List.getElem?_append_right (Nat.le_refl _)] at e2
   simp at e1 e2
   subst e1 e2
   exact q
theorem a7r {a:Addr} {i:Nat} (r:HRep K ι H h) (e:ι[i]? = some a) (o:HO):Gr ι H ι (upd H a o):=by
 obtain ⟨_,_,q⟩:=r.at e
 obtain ⟨u,hu,n1,n2⟩:=q.some
 refine ⟨⟨[],by simp,by simp⟩,fun b vs hb=>?_,fun b o' u' hb=>?_,fun b u' hb hn=>?_,fun b u' hb=>?_⟩
 ·rw [dj (fun z=>by subst z;rw [hu] at hb;exact n1 _ (Option.some.inj hb))];exact hb
 ·rw [dj (fun z=>by subst z;rw [hu] at hb;exact n2 _ _ (Option.some.inj hb))];exact hb
 ·rw [dj (fun z=>hn (by subst z;exact List.mem_of_getElem? e))];exact hb
 ·by_cases z:b=a
  ·subst z;exact ⟨o,jf⟩
  ·exact ⟨u',by rw [dj z];exact hb⟩
theorem HRep.put (r:HRep K ι H h) {a:Addr} {i:Nat} (e:ι[i]? = some a) {o:HO} {ob:O} (q:ORep K ι (upd H a o) a ob):HRep K ι (upd H a o) (h.set i ob):=by
 refine ⟨r.nd,by rw [List.length_set];exact r.len,fun j b o' e1 e2=>?_⟩
 by_cases hj:i=j
 ·subst hj
  rw [e] at e1;cases e1
  have hi:i<h.length:=by rw [← r.len];exact (List.getElem?_eq_some_iff.mp e).1
  rw [List.getElem?_set_self hi] at e2;cases e2
  exact q
 ·rw [List.getElem?_set_ne hj] at e2
  have hne:b≠a:=fun z=>by
   subst z
   obtain ⟨h1,g1⟩:=List.getElem?_eq_some_iff.mp e
   obtain ⟨h2,g2⟩:=List.getElem?_eq_some_iff.mp e1
   have np:=List.pairwise_iff_getElem.mp r.nd
   rcases Nat.lt_or_gt_of_ne hj with l | l
   ·exact np i j h1 h2 l (g1.trans g2.symm)
   ·exact np j i h2 h1 l (g2.trans g1.symm)
  exact (r.obj j b o' e1 e2).mono (a7r r e o) (dj hne)
end
structure SRep (K:PySem.W.Frag) (ι:List Addr) (H:Hp) (σ:St) (τ:Sd):Prop where
 len:σ.length=τ.length
 val:∀ (i:Nat) (d:D),τ[i]? = some (some d)→∃ v,σ[i]? = some (some v)∧Rep K ι H v d
theorem SRep.mono {K:PySem.W.Frag} {ι ι':List Addr} {H H':Hp} {σ:St} {τ:Sd} (g:Gr ι H ι' H') (s:SRep K ι H σ τ):SRep K ι' H' σ τ :=
 ⟨s.len,fun i d e=>let ⟨v,h1,h2⟩:=s.val i d e; ⟨v,h1,h2.mono g⟩⟩
theorem SRep.set {K:PySem.W.Frag} {ι:List Addr} {H:Hp} {σ:St} {τ:Sd} (s:SRep K ι H σ τ) {v:V} {d:D} (r:Rep K ι H v d) (i:Nat):SRep K ι H (σ.set i (some v)) (τ.set i (some d)):=by
 refine ⟨by simp [s.len],fun j d' e=>?_⟩
 by_cases hj:i=j
 ·subst hj
  have hi:i<τ.length:=by
   have:=(List.getElem?_eq_some_iff.mp e).1
   simpa using this
  rw [List.getElem?_set_self hi] at e
  cases e
  exact ⟨v,by rw [List.getElem?_set_self (by rw [s.len];exact hi)],r⟩
 ·rw [List.getElem?_set_ne hj] at e ⊢
  exact s.val j d' e
abbrev XD:=Str→List Addr→Hp→Hd→Prop
def out {α β:Type} (K:PySem.W.Frag) (E:XD) (Rp:List Addr→Hp→β→α→Prop) (ι:List Addr) (H:Hp) (r:R α) (Q:β→Hp→Prop):Prop :=
 match r with
 | .ok a h=>∀ ι' H' b,Gr ι H ι' H'→Rp ι' H' b a→HRep K ι' H' h→Q b H'
 | .ex c h=>∀ ι' H',Gr ι H ι' H'→HRep K ι' H' h→E c ι' H' h
 | .no=>False
theorem yu {α β:Type} {K:PySem.W.Frag} {E:XD} {Rp:List Addr→Hp→β→α→Prop} {ι ι1:List Addr} {H H1:Hp} {r:R α} {Q:β→Hp→Prop} (o:out K E Rp ι H r Q) (g:Gr ι H ι1 H1):out K E Rp ι1 H1 r Q:=by
 cases r with
 | ok a h=>exact fun ι' H' b g'=>o ι' H' b (g.trans g')
 | ex c h=>exact fun ι' H' g'=>o ι' H' (g.trans g')
 | no=>exact o
theorem cu {α β γ δ:Type} {K:PySem.W.Frag} {E:XD} {Rp:List Addr→Hp→β→α→Prop} {Sp:List Addr→Hp→δ→γ→Prop} {ι:List Addr} {H:Hp} {r:R α} {k:α→Hd→R γ} {Q:δ→Hp→Prop} {P:β→Hp→Prop}
  (o:out K E Sp ι H (r.bind k) Q) (hP:∀ a h ι1 H1 b,Gr ι H ι1 H1→Rp ι1 H1 b a→HRep K ι1 H1 h→out K E Sp ι1 H1 (k a h) Q→P b H1):out K E Rp ι H r P:=by
 cases r with
 | ok a h=>exact fun ι' H' b g r' hr=>hP a h ι' H' b g r' hr (yu o g)
 | ex c h=>exact o
 | no=>exact o
abbrev ul (K:PySem.W.Frag):List Addr→Hp→V→D→Prop:=fun ι H v d=>Rep K ι H v d
abbrev aku (K:PySem.W.Frag):List Addr→Hp→List V→List D→Prop:=fun ι H v d=>Reps K ι H v d
abbrev ahs:List Addr→Hp→Bool→Bool→Prop:=fun _ _ a b=>a=b
abbrev akv:List Addr→Hp→Option Int→Option Int→Prop:=fun _ _ a b=>a=b
def a9o (K:PySem.W.Frag) (E:XD) (ι:List Addr) (H:Hp) (r:Fl) (N:Ends):Prop :=
 match r with
 | .nx τ h=>∀ ι' H' σ,Gr ι H ι' H'→SRep K ι' H' σ τ→HRep K ι' H' h→N.nx σ H'
 | .bk τ h=>∀ ι' H' σ,Gr ι H ι' H'→SRep K ι' H' σ τ→HRep K ι' H' h→N.bk σ H'
 | .ct τ h=>∀ ι' H' σ,Gr ι H ι' H'→SRep K ι' H' σ τ→HRep K ι' H' h→N.ct σ H'
 | .rt d h=>∀ ι' H' v,Gr ι H ι' H'→Rep K ι' H' v d→HRep K ι' H' h→N.rt v H'
 | .ex c h=>∀ ι' H',Gr ι H ι' H'→HRep K ι' H' h→E c ι' H' h
 | .no=>False
theorem jt {K:PySem.W.Frag} {E:XD} {ι ι1:List Addr} {H H1:Hp} {r:Fl} {N:Ends} (o:a9o K E ι H r N) (g:Gr ι H ι1 H1):a9o K E ι1 H1 r N:=by
 cases r with
 | nx τ h=>exact fun ι' H' b g'=>o ι' H' b (g.trans g')
 | bk τ h=>exact fun ι' H' b g'=>o ι' H' b (g.trans g')
 | ct τ h=>exact fun ι' H' b g'=>o ι' H' b (g.trans g')
 | rt d h=>exact fun ι' H' b g'=>o ι' H' b (g.trans g')
 | ex c h=>exact fun ι' H' g'=>o ι' H' (g.trans g')
 | no=>exact o
theorem rz {α β:Type} {K:PySem.W.Frag} {E:XD} {Rp:List Addr→Hp→β→α→Prop} {ι:List Addr} {H:Hp} {r:R α} {k:α→Hd→Fl} {N:Ends} {P:β→Hp→Prop}
  (o:a9o K E ι H (r.fl k) N) (hP:∀ a h ι1 H1 b,Gr ι H ι1 H1→Rp ι1 H1 b a→HRep K ι1 H1 h→a9o K E ι1 H1 (k a h) N→P b H1):out K E Rp ι H r P:=by
 cases r with
 | ok a h=>exact fun ι' H' b g r' hr=>hP a h ι' H' b g r' hr (jt o g)
 | ex c h=>exact o
 | no=>exact o
def lift {α β:Type} (K:PySem.W.Frag) (E:XD) (Rp:List Addr→Hp→β→α→Prop) (f:Sd→Hd→R α):St→Hp→(β→Hp→Prop)→Prop:=fun σ H Q =>
 ∃ ι τ h,SRep K ι H σ τ∧HRep K ι H h∧out K E Rp ι H (f τ h) Q
def a03 (K:PySem.W.Frag) (E:XD) (f:SS):TS:=fun N σ H=>∃ ι τ h,SRep K ι H σ τ∧HRep K ι H h∧a9o K E ι H (f τ h) N
abbrev ME (X:Cx) (E:XD) (e:Expr) (f:SE):Prop:=PE X e (lift X.K E (ul X.K) f)
abbrev MT (X:Cx) (E:XD) (e:Expr) (f:ST):Prop:=PT X e (lift X.K E ahs f)
abbrev MW (X:Cx) (E:XD) (e:Expr) (f:ST):Prop:=PW X e (lift X.K E ahs f)
abbrev MA (X:Cx) (E:XD) (es:List Expr) (f:SA):Prop:=PA X es (lift X.K E (aku X.K) f)
abbrev MS (X:Cx) (E:XD) (st:Stmt) (f:SS):Prop:=PS X st (a03 X.K E f)
abbrev MSs (X:Cx) (E:XD) (st:List Stmt) (f:SS):Prop:=PSs X st (a03 X.K E f)
theorem PE.weak {X:Cx} {e:Expr} {t t':TE} (h:PE X e t) (i:∀ σ H Q,t' σ H Q→t σ H Q):PE X e t':=fun pins s σ H Q I q=>h pins s σ H Q I (i _ _ _ q)
theorem PT.weak {X:Cx} {e:Expr} {t t':TT} (h:PT X e t) (i:∀ σ H Q,t' σ H Q→t σ H Q):PT X e t':=fun pins s σ H Q I q=>h pins s σ H Q I (i _ _ _ q)
theorem PW.weak {X:Cx} {e:Expr} {t t':TT} (h:PW X e t) (i:∀ σ H Q,t' σ H Q→t σ H Q):PW X e t':=fun wh pins s σ H Q I q=>h wh pins s σ H Q I (i _ _ _ q)
theorem PA.weak {X:Cx} {e:List Expr} {t t':TA} (h:PA X e t) (i:∀ σ H Q,t' σ H Q→t σ H Q):PA X e t':=fun pos pins s σ H Q I q=>h pos pins s σ H Q I (i _ _ _ q)
theorem PS.weak {X:Cx} {e:Stmt} {t t':TS} (h:PS X e t) (i:∀ N σ H,t' N σ H→t N σ H):PS X e t':=fun pins s σ H N I q=>h pins s σ H N I (i _ _ _ q)
theorem PSs.weak {X:Cx} {e:List Stmt} {t t':TS} (h:PSs X e t) (i:∀ N σ H,t' N σ H→t N σ H):PSs X e t':=fun pins s σ H N I q=>h pins s σ H N I (i _ _ _ q)
end MI
namespace MI
open PySem L2
abbrev LINE:Nat:=16777216
theorem ll {n:Nat} (h:n≤LINE):n≤sizeLine:=a1a h
def sV (i:Nat):SE:=fun τ h=>match τ[i]? with | some (some d)=>.ok d h | _=>.no
def sC (d:D):SE:=fun _ h=>.ok d h
section
variable {X:Cx} {E:XD} {a b c e:Expr} {fa fb fc:SE} {pos:Pos}
theorem bw (i:Nat) {x:Str} {pos:Pos} (hN:X.N[i]? = some x:=by rfl) (hv:Vis X.env.scope x:=by first | exact Or.inl rfl | exact Or.inr (Or.inl rfl) | exact Or.inr (Or.inr rfl)) (hd:(x == ("__debug__" : Str))=false:=by decide)
  (hcd:(x == ("__classdict__" : Str))=false:=by decide):ME X E (.Name x pos) (sV i):=by
 refine PE.weak (a6z hN hv hd hcd) fun σ H Q ⟨ι,τ,h,S,Rh,o⟩=>?_
 unfold sV at o
 split at o
 ·rename_i d e
  obtain ⟨v,h1,h2⟩:=S.val i d e
  exact ⟨v,h1,o ι H v (.refl _ _) h2 Rh⟩
 ·exact o.elim
theorem aef {v:V} {d:D} (h:PE X e (tC v)) (r:∀ ι H,Rep X.K ι H v d):ME X E e (sC d) :=
 PE.weak h fun σ H Q ⟨ι,τ,h,S,Rh,o⟩=>o ι H v (.refl _ _) (r ι H) Rh
theorem az {i j pos}:ME X E (.Constant (.int i) j pos) (sC (.int i)):=aef aex fun _ _=>.int i
theorem aco {i j pos}:ME X E (.Constant (.bool i) j pos) (sC (.bl i)):=aef ai2 fun _ _=>.bl i
theorem yc {i j pos}:ME X E (.Constant (.str i) j pos) (sC (.str i)):=aef aez fun _ _=>.str i
theorem ag3 {j pos}:ME X E (.Constant .none j pos) (sC .non):=aef aey fun _ _=>.non
theorem a3o {x:Str} {n:String} {pos:Pos} (hg:Gl X x) (hm:X.mg x=none) (hv:bootBuiltins x=some (.type n)) (hn:x ≠ "__name__":=by decide) (hd:(x == ("__debug__" : Str))=false:=by decide):ME X E (.Name x pos) (sC (.ty n)) :=
 aef (a70 (v:=.ty n) hg hm hv rfl hn hd) fun _ _=>.ty n
theorem acp {x:Str} {i:Int} {t:Tok} {pos:Pos} (hg:Gl X x) (hm:X.mg x=some (.int i t)) (hd:(x == ("__debug__" : Str))=false:=by decide):ME X E (.Name x pos) (sC (.int i)) :=
 aef (jm (v:=.int i) hg hm ⟨t,rfl⟩ hd) fun _ _=>.int i
def s2 (g:D→D→Hd→R D) (fa fb:SE):SE:=fun τ h=>(fa τ h).bind fun x h1=>(fb τ h1).bind fun y h2=>g x y h2
def s1 (g:D→Hd→R D) (fa:SE):SE:=fun τ h=>(fa τ h).bind g
def a04 (K:PySem.W.Frag) (g:D→D→Hd→R D) (r:R2):Prop:=∀ (E:XD) ι H h x y dx dy Q,Rep K ι H x dx→Rep K ι H y dy→HRep K ι H h→out K E (ul K) ι H (g dx dy h) Q→r x y H Q
def akx (K:PySem.W.Frag) (g:D→Hd→R D) (r:V→Hp→VK→Prop):Prop:=∀ (E:XD) ι H h x dx Q,Rep K ι H x dx→HRep K ι H h→out K E (ul K) ι H (g dx h) Q→r x H Q
def ab4 (K:PySem.W.Frag) (g:List D→Hd→R D) (r:List V→Hp→VK→Prop):Prop:=∀ (E:XD) ι H h xs ds Q,Reps K ι H xs ds→HRep K ι H h→out K E (ul K) ι H (g ds h) Q→r xs H Q
theorem aht {g:D→D→Hd→R D} {r:R2} {K:PySem.W.Frag} (hs:a04 K g r) {σ:St} {H:Hp} {Q:VK} (q:lift K E (ul K) (s2 g fa fb) σ H Q):tOp r (lift K E (ul K) fa) (lift K E (ul K) fb) σ H Q:=by
 obtain ⟨ι,τ,h,S,Rh,o⟩:=q
 refine ⟨ι,τ,h,S,Rh,cu o fun d h1 ι1 H1 v g1 r1 hr1 o1=>?_⟩
 refine ⟨ι1,τ,h1,S.mono g1,hr1,cu o1 fun d2 h2 ι2 H2 u g2 r2 hr2 o2=>?_⟩
 exact hs E ι2 H2 h2 v u d d2 Q (r1.mono g2) r2 hr2 o2
theorem a3p {op:Operator} {r:R2} {g:D→D→Hd→R D} (ho:OpR X (binaryOp op) r) (hs:a04 X.K g r) (ha:ME X E a fa) (hb:ME X E b fb):ME X E (.BinOp a op b pos) (s2 g fa fb) :=
 PE.weak (aid ho ha hb) fun σ H Q q=>aht hs q
theorem a3q {op:CmpOp} {r:R2} {g:D→D→Hd→R D} (ho:OpR X (compareOp op) r) (hs:a04 X.K g r) (ha:ME X E a fa) (hb:ME X E b fb) (hm:behindInMarks op b=false):ME X E (.Compare a [op] [b] pos) (s2 g fa fb) :=
 PE.weak (ac0 ho ha hb hm) fun σ H Q q=>aht hs q
theorem aiy {op:UnaryOp} {r:V→Hp→VK→Prop} {g:D→Hd→R D} (ho:UnR X (unaryOp op) r) (hs:akx X.K g r) (ha:ME X E a fa):ME X E (.UnaryOp op a pos) (s1 g fa):=by
 refine PE.weak (aie ho ha) fun σ H Q ⟨ι,τ,h,S,Rh,o⟩=>?_
 exact ⟨ι,τ,h,S,Rh,cu o fun d h1 ι1 H1 v g1 r1 hr1 o1=>hs E ι1 H1 h1 v d Q r1 hr1 o1⟩
theorem aiz {r:R2} {g:D→D→Hd→R D} (ho:IxR X r) (hs:a04 X.K g r) (ha:ME X E a fa) (hb:ME X E b fb) (hp:a3j b):ME X E (.Subscript a b pos) (s2 g fa fb) :=
 PE.weak (ain ho ha hb hp) fun σ H Q q=>aht hs q
def asB (d:D) (h:Hd):R Bool:=match d with | .bl b=>.ok b h | _=>.no
def sT (f:SE):ST:=fun τ h=>(f τ h).bind asB
theorem acq {K:PySem.W.Frag} {t:TE} {f:SE} (hi:∀ σ H Q,lift K E (ul K) f σ H Q→t σ H Q) {σ:St} {H:Hp} {Q:Bool→Hp→Prop} (q:lift K E ahs (sT f) σ H Q):afl t σ H Q:=by
 refine hi σ H _ ?_
 obtain ⟨ι,τ,h,S,Rh,o⟩:=q
 refine ⟨ι,τ,h,S,Rh,cu o fun d h1 ι1 H1 v g1 r1 hr1 o1=>?_⟩
 cases r1 with
 | bl b=>exact ⟨b,rfl,o1 ι1 H1 b (.refl _ _) rfl hr1⟩
 | _=>exact o1.elim
theorem m9 {op:CmpOp} {r:R2} {g:D→D→Hd→R D} (ho:OpR X (compareOp op) r) (hs:a04 X.K g r) (ha:ME X E a fa) (hb:ME X E b fb) (hm:behindInMarks op b=false):MT X E (.Compare a [op] [b] pos) (sT (s2 g fa fb)) :=
 PT.weak (ac1 ho ha hb hm) fun σ H Q q=>acq (fun _ _ _=>aht hs) q
def sCh (g g':D→D→Hd→R D) (fa fb fc:SE):SE:=fun τ h=>(fa τ h).bind fun x h1=>(fb τ h1).bind fun y h2=>(g x y h2).bind fun z h3=>match z with
 | .bl true=>(fc τ h3).bind fun w h4=>g' y w h4
 | .bl false=>.ok (.bl false) h3
 | _=>.no
def tru (d:D) (h:Hd):R Bool:=match d with
 | .non=>.ok false h
 | .bl b=>.ok b h
 | .int i=>.ok (i != 0) h
 | .str x=>if x.length≤LINE then .ok ((x.length:Int) != 0) h else .no
 | .tup xs=>.ok (!xs.isEmpty) h
 | .rol xs=>.ok (!xs.isEmpty) h
 | .ref i=>match h[i]? with
  | some (.lst xs)=>.ok (!xs.isEmpty) h
  | some (.dK kvs)=>.ok (!kvs.isEmpty) h
  | _=>.no
 | _=>.no
theorem Reps.emp {K:PySem.W.Frag} {ι:List Addr} {H:Hp} {vs:List V} {ds:List D} (r:Reps K ι H vs ds):vs.isEmpty=ds.isEmpty:=by cases r<;>rfl
theorem KRep.emp {κ:Type} {K:PySem.W.Frag} {ι:List Addr} {H:Hp} {us:List (κ × V)} {kvs:List (κ × D)} (r:KRep K ι H us kvs):us.isEmpty=kvs.isEmpty:=by
 have:=congrArg List.length r.1
 cases us<;>cases kvs<;>simp at this ⊢
theorem acr {K:PySem.W.Frag} {ι:List Addr} {H:Hp} {h:Hd} {x:V} {d:D} {Q:Bool→Hp→Prop} (r:Rep K ι H x d) (hr:HRep K ι H h) (o:out K E ahs ι H (tru d h) Q):∃ k,aij K x H k∧Q k H:=by
 cases r with
 | non=>exact ⟨false,rfl,o ι H _ (.refl _ _) rfl hr⟩
 | bl b=>exact ⟨b,rfl,o ι H _ (.refl _ _) rfl hr⟩
 | int i=>exact ⟨_,rfl,o ι H _ (.refl _ _) rfl hr⟩
 | str x =>
  by_cases hl:x.length≤LINE
  ·simp only [tru,if_pos hl] at o
   exact ⟨_,⟨ll hl,rfl⟩,o ι H _ (.refl _ _) rfl hr⟩
  ·simp only [tru,if_neg hl] at o
   exact o.elim
 | ty n=>exact o.elim
 | rod _ _ _=>exact o.elim
 | scr _ _=>exact o.elim
 | rdT _ _ _=>exact o.elim
 | exc _ _ _=>exact o.elim
 | tup e rs=>exact ⟨_, .inr (.inl ⟨_,SqT.of e,rfl⟩),by rw [rs.emp];exact o ι H _ (.refl _ _) rfl hr⟩
 | rol e rs=>exact ⟨_, .inl ⟨_,e.l,rfl⟩,by rw [rs.emp];exact o ι H _ (.refl _ _) rfl hr⟩
 | @ref a i e =>
  obtain ⟨ob,h1,h2⟩:=hr.at e
  simp only [tru,h1] at o
  cases ob with
  | lst xs =>
   obtain ⟨vs,h3,h4⟩:=h2
   exact ⟨_, .inl ⟨_,SqL.of h3,rfl⟩,by rw [h4.emp];exact o ι H _ (.refl _ _) rfl hr⟩
  | dK kvs =>
   obtain ⟨us,h3,h4⟩:=h2
   exact ⟨_, .inr (.inr ⟨_,h3,rfl⟩),by rw [h4.emp];exact o ι H _ (.refl _ _) rfl hr⟩
  | dT kvs=>exact o.elim
def a0f (f:SE):ST:=fun τ h=>(f τ h).bind tru
theorem u6 (ha:ME X E a fa) (he:∀ whole,isTrue a X.env whole=(do let v ← whole;standAt a.pos;holding [v] (truthy v)):=by intro _;rfl):MT X E a (a0f fa):=by
 refine PT.weak (a9d ha he) fun σ H Q ⟨ι,τ,h,S,Rh,o⟩=>?_
 exact ⟨ι,τ,h,S,Rh,cu o fun d h1 ι1 H1 v g1 r1 hr1 o1=>acr r1 hr1 o1⟩
def a5y (f g:ST):ST:=fun τ h=>(f τ h).bind fun b h1=>if b=true then g τ h1 else .ok false h1
def sOr (f g:ST):ST:=fun τ h=>(f τ h).bind fun b h1=>if b=true then .ok true h1 else g τ h1
def a1b (f:ST):ST:=fun τ h=>(f τ h).bind fun b h1=>.ok (!b) h1
variable {ga gb:ST}
theorem a7s (ha:MT X E a ga):MW X E (.BoolOp .And [a] pos) ga:=abu ha
theorem a4i (ha:MT X E a ga):MW X E (.BoolOp .Or [a] pos) ga:=af0 ha
theorem ab5 {rest:List Expr} (ha:MT X E a ga) (hb:MW X E (.BoolOp .And (b::rest) pos) gb):MW X E (.BoolOp .And (a::b::rest) pos) (a5y ga gb):=by
 refine PW.weak (af1 ha hb) fun σ H Q ⟨ι,τ,h,S,Rh,o⟩=>?_
 refine ⟨ι,τ,h,S,Rh,cu o fun d h1 ι1 H1 v g1 r1 hr1 o1=>?_⟩
 cases r1
 cases d with
 | true=>exact ⟨ι1,τ,h1,S.mono g1,hr1,o1⟩
 | false=>exact o1 ι1 H1 false (.refl _ _) rfl hr1
theorem a9p {rest:List Expr} (ha:MT X E a ga) (hb:MW X E (.BoolOp .Or (b::rest) pos) gb):MW X E (.BoolOp .Or (a::b::rest) pos) (sOr ga gb):=by
 refine PW.weak (ai3 ha hb) fun σ H Q ⟨ι,τ,h,S,Rh,o⟩=>?_
 refine ⟨ι,τ,h,S,Rh,cu o fun d h1 ι1 H1 v g1 r1 hr1 o1=>?_⟩
 cases r1
 cases d with
 | true=>exact o1 ι1 H1 true (.refl _ _) rfl hr1
 | false=>exact ⟨ι1,τ,h1,S.mono g1,hr1,o1⟩
theorem ye (ha:MT X E a ga):MT X E (.UnaryOp .Not a pos) (a1b ga):=by
 refine PT.weak (af2 ha) fun σ H Q ⟨ι,τ,h,S,Rh,o⟩=>?_
 refine ⟨ι,τ,h,S,Rh,cu o fun d h1 ι1 H1 v g1 r1 hr1 o1=>?_⟩
 cases r1
 exact o1 ι1 H1 _ (.refl _ _) rfl hr1
def qw (f g:SE):SE:=fun τ h=>(f τ h).bind fun d h1=>match d with | .bl true=>g τ h1 | .bl false=>.ok (.bl false) h1 | _=>.no
def a8z (f g:SE):SE:=fun τ h=>(f τ h).bind fun d h1=>match d with | .bl true=>.ok (.bl true) h1 | .bl false=>g τ h1 | _=>.no
def vf (f:SE):SE:=fun τ h=>(f τ h).bind fun d h1=>match d with | .bl b=>.ok (.bl (!b)) h1 | _=>.no
theorem a0g {op} (ha:ME X E a fa):ME X E (.BoolOp op [a] pos) fa:=af3 ha
theorem a0h {rest:List Expr} (ha:ME X E a fa) (hb:ME X E (.BoolOp .And (b::rest) pos) fb):ME X E (.BoolOp .And (a::b::rest) pos) (qw fa fb):=by
 refine PE.weak (af4 ha hb) fun σ H Q ⟨ι,τ,h,S,Rh,o⟩=>?_
 refine ⟨ι,τ,h,S,Rh,cu o fun d h1 ι1 H1 v g1 r1 hr1 o1=>?_⟩
 cases r1 with
 | bl k =>
  refine ⟨k,rfl,?_⟩
  cases k with
  | true=>exact ⟨ι1,τ,h1,S.mono g1,hr1,o1⟩
  | false=>exact o1 ι1 H1 _ (.refl _ _) (.bl _) hr1
 | _=>exact o1.elim
theorem aj0 {rest:List Expr} (ha:ME X E a fa) (hb:ME X E (.BoolOp .Or (b::rest) pos) fb):ME X E (.BoolOp .Or (a::b::rest) pos) (a8z fa fb):=by
 refine PE.weak (ai6 ha hb) fun σ H Q ⟨ι,τ,h,S,Rh,o⟩=>?_
 refine ⟨ι,τ,h,S,Rh,cu o fun d h1 ι1 H1 v g1 r1 hr1 o1=>?_⟩
 cases r1 with
 | bl k =>
  refine ⟨k,rfl,?_⟩
  cases k with
  | false=>exact ⟨ι1,τ,h1,S.mono g1,hr1,o1⟩
  | true=>exact o1 ι1 H1 _ (.refl _ _) (.bl _) hr1
 | _=>exact o1.elim
theorem a4j (ha:ME X E a fa):ME X E (.UnaryOp .Not a pos) (vf fa):=by
 refine PE.weak (af5 ha) fun σ H Q ⟨ι,τ,h,S,Rh,o⟩=>?_
 refine ⟨ι,τ,h,S,Rh,cu o fun d h1 ι1 H1 v g1 r1 hr1 o1=>?_⟩
 cases r1 with
 | bl k=>exact ⟨k,rfl,o1 ι1 H1 _ (.refl _ _) (.bl _) hr1⟩
 | _=>exact o1.elim
def aeg (c:ST) (f g:SE):SE:=fun τ h=>(c τ h).bind fun b h1=>if b=true then f τ h1 else g τ h1
def dw:SA:=fun _ h=>.ok [] h
def ak (f:SE) (g:SA):SA:=fun τ h=>(f τ h).bind fun d h1=>(g τ h1).bind fun ds h2=>.ok (d::ds) h2
variable {es:List Expr} {ka:SA}
theorem bc:MA X E [] dw:=PA.weak a2b fun σ H Q ⟨ι,τ,h,S,Rh,o⟩=>o ι H [] (.refl _ _) .nil Rh
theorem aa (ha:ME X E e fa) (hr:MA X E es ka) (hs:starEach (e::es) X.env=(false,eval e X.env)::starEach es X.env:=by rfl):MA X E (e::es) (ak fa ka):=by
 refine PA.weak (j4 ha hr hs) fun σ H Q ⟨ι,τ,h,S,Rh,o⟩=>?_
 refine ⟨ι,τ,h,S,Rh,cu o fun d h1 ι1 H1 v g1 r1 hr1 o1=>?_⟩
 refine ⟨ι1,τ,h1,S.mono g1,hr1,cu o1 fun d2 h2 ι2 H2 u g2 r2 hr2 o2=>?_⟩
 exact o2 ι2 H2 _ (.refl _ _) (.cons (r1.mono g2) r2) hr2
def a0i (ds:List D) (h:Hd):R D:=if ds.length≤LINE then .ok (.tup ds) h else .no
def a0j (ds:List D) (h:Hd):R D:=if ds.length≤LINE then .ok (.ref h.length) (h++[.lst ds]) else .no
def sA (g:List D→Hd→R D) (k:SA):SE:=fun τ h=>(k τ h).bind g
theorem zp {K:PySem.W.Frag} {ι:List Addr} {H:Hp} {h:Hd} {vs:List V} {ds:List D} {Q:VK} (r:Reps K ι H vs ds) (hr:HRep K ι H h) (o:out K E (ul K) ι H (.ok (.tup ds) h) Q):∀ p,H p=none→Q (.ref p) (upd H p (.tup vs)):=fun p hp =>
 o ι _ _ (uv hp _) (.tup jf (r.mono (uv hp _))) (hr.aside hp _)
theorem u9 {K:PySem.W.Frag} {ι:List Addr} {H:Hp} {h:Hd} {vs:List V} {ds:List D} {Q:VK} (r:Reps K ι H vs ds) (hr:HRep K ι H h) (o:out K E (ul K) ι H (.ok (.ref h.length) (h++[.lst ds])) Q):∀ p,H p=none→Q (.ref p) (upd H p (.lst vs)):=fun p hp =>
 o (ι++[p]) _ _ (a7q hp _) (.ref (by rw [List.getElem?_append_right (by rw [hr.len];exact Nat.le_refl _),hr.len];simp)) (hr.add hp ⟨_,jf,r.mono (a7q hp _)⟩)
theorem ab6 {x1} (h:MA X E es ka):ME X E (.Tuple es x1 pos) (sA a0i ka):=by
 refine PE.weak (aay h) fun σ H Q ⟨ι,τ,h,S,Rh,o⟩=>?_
 refine ⟨ι,τ,h,S,Rh,cu o fun d h1 ι1 H1 v g1 r1 hr1 o1=>?_⟩
 unfold a0i at o1
 split at o1
 ·rename_i hl
  exact ⟨ll (by rw [r1.len];exact hl),zp r1 hr1 o1⟩
 ·exact o1.elim
theorem a2l (h:MA X E es ka):ME X E (.List es pos) (sA a0j ka):=by
 refine PE.weak (afn h) fun σ H Q ⟨ι,τ,h,S,Rh,o⟩=>?_
 refine ⟨ι,τ,h,S,Rh,cu o fun d h1 ι1 H1 v g1 r1 hr1 o1=>?_⟩
 unfold a0j at o1
 split at o1
 ·rename_i hl
  exact ⟨ll (by rw [r1.len];exact hl),u9 r1 hr1 o1⟩
 ·exact o1.elim
theorem lu {x:Str} {p:Pos} {id:String} {r:List V→Hp→VK→Prop} {g:List D→Hd→R D} (hc:CallR X (.builtin id) r) (hs:ab4 X.K g r) (hg:Gl X x) (hm:X.mg x=none) (hv:bootBuiltins x=some (.builtin id)) (ha:MA X E (e::es) ka) (hn:x ≠ "__name__":=by decide) (hdb:(x == ("__debug__" : Str))=false:=by decide)
  (he:starEach (e::es) X.env=(false,eval e X.env)::starEach es X.env:=by rfl) (hpl:(backTo pos (starEach es X.env)).any (·.1)=false:=by rfl):ME X E (.Call (.Name x p) (e::es) [] pos) (sA g ka):=by
 refine PE.weak (a0x hc hg hm hv ha hn hdb he hpl) fun σ H Q ⟨ι,τ,h,S,Rh,o⟩=>?_
 exact ⟨ι,τ,h,S,Rh,cu o fun d h1 ι1 H1 v g1 r1 hr1 o1=>hs E ι1 H1 h1 v d Q r1 hr1 o1⟩
theorem a7t {x:Str} {p:Pos} {id:String} {r:List V→Hp→VK→Prop} {g:List D→Hd→R D} (hc:CallR X (.type id) r) (hs:ab4 X.K g r) (hg:Gl X x) (hm:X.mg x=none) (hv:bootBuiltins x=some (.type id)) (ha:MA X E (e::es) ka) (hn:x ≠ "__name__":=by decide) (hdb:(x == ("__debug__" : Str))=false:=by decide)
  (he:starEach (e::es) X.env=(false,eval e X.env)::starEach es X.env:=by rfl) (hpl:(backTo pos (starEach es X.env)).any (·.1)=false:=by rfl):ME X E (.Call (.Name x p) (e::es) [] pos) (sA g ka):=by
 refine PE.weak (a79 hc hg hm hv ha hn hdb he hpl) fun σ H Q ⟨ι,τ,h,S,Rh,o⟩=>?_
 exact ⟨ι,τ,h,S,Rh,cu o fun d h1 ι1 H1 v g1 r1 hr1 o1=>hs E ι1 H1 h1 v d Q r1 hr1 o1⟩
end
end MI
namespace MI
open PySem L2
def j6 (f g:SS):SS:=fun τ h=>match f τ h with | .nx τ1 h1=>g τ1 h1 | r=>r
def sNx:SS:=fun τ h=>.nx τ h
def ut (f:SE):SS:=fun τ h=>(f τ h).fl fun d h1=>.rt d h1
def a05 (f:SE):SS:=fun τ h=>(f τ h).fl fun _ h1=>.nx τ h1
def sIf (c:ST) (f g:SS):SS:=fun τ h=>(c τ h).fl fun b h1=>if b=true then f τ h1 else g τ h1
def kj (i:Nat) (f:SE):SS:=fun τ h=>(f τ h).fl fun d h1=>.nx (τ.set i (some d)) h1
def a6u (i:Nat) (g:D→D→Hd→R D) (f:SE):SS:=fun τ h=>match τ[i]? with
 | some (some x)=>(f τ h).fl fun y h1=>(g x y h1).fl fun z h2=>.nx (τ.set i (some z)) h2
 | _=>.no
section
variable {X:Cx} {E:XD} {e o:Expr} {es:List Expr} {fa fb fc:SE} {ga:ST} {st:Stmt} {sts a b:List Stmt} {f g:SS} {pos:Pos}
theorem ju:MSs X E [] sNx:=PSs.weak abv fun N σ H ⟨ι,τ,h,S,Rh,o⟩=>o ι H σ (.refl _ _) S Rh
theorem ag4 {K:PySem.W.Frag} {N:Ends} {σ:St} {H:Hp} (q:a03 K E (j6 f g) N σ H):a03 K E f { N with nx:=a03 K E g N } σ H:=by
 obtain ⟨ι,τ,h,S,Rh,o⟩:=q
 refine ⟨ι,τ,h,S,Rh,?_⟩
 unfold j6 at o
 cases hf:f τ h with
 | nx τ1 h1 =>
  rw [hf] at o
  exact fun ι1 H1 σ1 g1 S1 R1=>⟨ι1,τ1,h1,S1,R1,jt o g1⟩
 | _=>rw [hf] at o;exact o
theorem aq (h1:MS X E st f) (h2:MSs X E sts g):MSs X E (st::sts) (j6 f g):=PSs.weak (a96 h1 h2) fun N σ H q=>ag4 q
theorem dq (h1:MS X E st f):MSs X E [st] f:=abw h1
theorem jw (he:ME X E e fa):MS X E (.Return (some e) pos) (ut fa):=by
 refine PS.weak (af6 he) fun N σ H ⟨ι,τ,h,S,Rh,o⟩=>?_
 exact ⟨ι,τ,h,S,Rh,rz o fun d h1 ι1 H1 v g1 r1 hr1 o1=>o1 ι1 H1 v (.refl _ _) r1 hr1⟩
theorem uz {c:Expr} (hc:MT X E c ga) (ha:MSs X E a f) (hb:MSs X E b g):MS X E (.If c a b pos) (sIf ga f g):=by
 refine PS.weak (ai8 hc ha hb) fun N σ H ⟨ι,τ,h,S,Rh,o⟩=>?_
 refine ⟨ι,τ,h,S,Rh,rz o fun d h1 ι1 H1 v g1 r1 hr1 o1=>?_⟩
 cases r1
 cases d with
 | true=>exact ⟨ι1,τ,h1,S.mono g1,hr1,o1⟩
 | false=>exact ⟨ι1,τ,h1,S.mono g1,hr1,o1⟩
theorem g8 {i:Nat} {x:Str} {pos':Pos} (hN:X.N.Nodup) (hi:X.N[i]? = some x) (hx:Loc X.env.scope x) (he:ME X E e fa) (hs:swapsWith e (some (.Name x pos')) pos.line X.env=pure false:=by rfl) (hf:X.fn x=true∨X.env.scope.names.lookup x=some .local:=by first | exact .inl rfl | exact .inr rfl | assumption) :
  MS X E (.Assign [.Name x pos'] e pos) (kj i fa):=by
 refine PS.weak (af9 hN hi hx he hs hf) fun N σ H ⟨ι,τ,h,S,Rh,o⟩=>?_
 exact ⟨ι,τ,h,S,Rh,rz o fun d h1 ι1 H1 v g1 r1 hr1 o1=>o1 ι1 H1 _ (.refl _ _) ((S.mono g1).set r1 i) hr1⟩
theorem ab7 {i:Nat} {x:Str} {op:Operator} {r:R2} {gg:D→D→Hd→R D} {pos':Pos} (hN:X.N.Nodup) (hi:X.N[i]? = some x) (hx:Loc X.env.scope x) (ho:OpR X (inplaceOp op) r) (hs:a04 X.K gg r) (he:ME X E e fa) (hf:X.fn x=true∨X.env.scope.names.lookup x=some .local:=by first | exact .inl rfl | exact .inr rfl | assumption) :
  MS X E (.AugAssign (.Name x pos') op e pos) (a6u i gg fa):=by
 refine PS.weak (afa hN hi hx he ho hf) fun N σ H ⟨ι,τ,h,S,Rh,o⟩=>?_
 unfold a6u at o
 split at o
 ·rename_i d ed
  obtain ⟨v,h1,h2⟩:=S.val i d ed
  refine ⟨v,h1,ι,τ,h,S,Rh,rz o fun d2 h3 ι1 H1 u g1 r1 hr1 o1=>?_⟩
  refine hs E ι1 H1 h3 v u d d2 _ (h2.mono g1) r1 hr1 (rz o1 fun d3 h4 ι2 H2 z g2 r2 hr2 o2=>?_)
  exact o2 ι2 H2 _ (.refl _ _) (((S.mono g1).mono g2).set r2 i) hr2
 ·exact o.elim
def put (o k v:D) (h:Hd):Option Hd:=match o,k with
 | .ref i, .int j=>match h[i]? with
  | some (.lst xs)=>match ixN xs.length j with
   | some m=>some (h.set i (.lst (xs.set m v)))
   | none=>none
  | _=>none
 | _,_=>none
theorem acs {K:PySem.W.Frag} {ι:List Addr} {H:Hp} {h h':Hd} {o k v:V} {od kd vd:D} {Q:Hp→Prop} (r1:Rep K ι H o od) (r2:Rep K ι H k kd) (r3:Rep K ι H v vd) (hr:HRep K ι H h) (e:put od kd vd h=some h')
  (q:∀ H',Gr ι H ι H'→HRep K ι H' h'→Q H'):aft o k v H Q:=by
 cases r1 with
 | @ref a i ha =>
  cases r2 with
  | int j =>
   obtain ⟨ob,h1,h2⟩:=hr.at ha
   cases ob with
   | lst xs =>
    obtain ⟨vs,h3,h4⟩:=h2
    simp only [put,h1] at e
    cases hm:ixN xs.length j with
    | none=>rw [hm] at e;cases e
    | some m =>
     rw [hm] at e
     cases e
     exact ⟨a,vs,j,m,rfl,rfl,h3,by rw [h4.len];exact hm,q _ (a7r hr ha _) (hr.put ha ⟨_,jf,(h4.set r3 m).mono (a7r hr ha _)⟩)⟩
   | dK _=>simp only [put,h1] at e;cases e
   | dT _=>simp only [put,h1] at e;cases e
  | _=>cases e
 | _=>cases e
def a90 (fe fo fi:SE):SS:=fun τ h=>(fe τ h).fl fun v h1=>(fo τ h1).fl fun o h2=>(fi τ h2).fl fun k h3=>match put o k v h3 with | some h4=>.nx τ h4 | none=>.no
theorem a7u {i:Expr} {pos':Pos} (he:ME X E e fa) (ho:ME X E o fb) (hi:ME X E i fc)
  (hs:swapsWithSole [.Subscript o i pos'] e pos.line X.env=pure false:=by rfl) (hw:swappedStores [.Subscript o i pos'] e X.env=pure none:=by rfl)
  (h1:(assignEach [.Subscript o i pos'] X.env).map (·.2)=[assign (.Subscript o i pos') X.env]:=by rfl)
  (ha:∀ v,assign (.Subscript o i pos') X.env v=(do
   let ov ← holding [v] (eval o X.env)
   let iv ← holding [v,ov] (eval i X.env)
   standAt pos'
   holding [v,ov,iv] (setItem ov iv v)
   release [v,ov,iv] []):=by intro _;rfl):MS X E (.Assign [.Subscript o i pos'] e pos) (a90 fa fb fc):=by
 refine PS.weak (af8 he (af7 ho hi set_list ha) hs hw h1) fun N σ H ⟨ι,τ,h,S,Rh,oo⟩=>?_
 refine ⟨ι,τ,h,S,Rh,rz oo fun d h1 ι1 H1 v g1 r1 hr1 o1=>?_⟩
 refine ⟨ι1,τ,h1,S.mono g1,hr1,rz o1 fun d2 h2 ι2 H2 u g2 r2 hr2 o2=>?_⟩
 refine ⟨ι2,τ,h2,(S.mono g1).mono g2,hr2,rz o2 fun d3 h3 ι3 H3 w g3 r3 hr3 o3=>?_⟩
 cases hp:put d2 d3 d h3 with
 | none=>rw [hp] at o3;exact o3.elim
 | some h4 =>
  rw [hp] at o3
  exact acs (r2.mono g3) r3 ((r1.mono g2).mono g3) hr3 hp fun H' g4 hr4=>o3 ι3 H' σ g4 ((((S.mono g1).mono g2).mono g3).mono g4) hr4
def sWh (c:ST) (f:SS):Nat→SS
 | 0,_,_=>.no
 | n+1,τ,h=>(c τ h).fl fun b h1=>if b=true then (match f τ h1 with | .nx τ2 h2=>sWh c f n τ2 h2 | .ct τ2 h2=>sWh c f n τ2 h2 | .bk τ2 h2=>.nx τ2 h2 | r=>r) else .nx τ h1
theorem a4k (n:Nat) {c:Expr} (hp:PassesOwn (model X.prog X.w) X.A X.env X.xe) (hc:MT X E c ga) (hb:MSs X E a f):MS X E (.While c a [] pos) (sWh ga f n):=by
 refine PS.weak (a97 hp hc hb) fun N σ H q=>?_
 refine ⟨fun m σ H=>a03 X.K E (sWh ga f m) N σ H,⟨n,q⟩,?_⟩
 rintro m σ1 H1 ⟨ι,τ,h,S,Rh,o⟩
 cases m with
 | zero=>exact o.elim
 | succ m =>
  refine ⟨ι,τ,h,S,Rh,rz o fun d h1 ι1 H1 v g1 r1 hr1 o1=>?_⟩
  cases r1
  cases d with
  | false=>exact o1 ι1 H1 _ (.refl _ _) (S.mono g1) hr1
  | true =>
   refine ⟨fun σ' H'=>a03 X.K E (sWh ga f m) N σ' H',fun σ' H' q=>⟨m,Nat.lt_succ_self m,q⟩,ι1,τ,h1,S.mono g1,hr1,?_⟩
   rw [if_pos rfl] at o1
   cases hf:f τ h1 with
   | nx τ2 h2=>rw [hf] at o1;exact fun ι2 H2 σ2 g2 S2 R2=>⟨ι2,τ2,h2,S2,R2,jt o1 g2⟩
   | ct τ2 h2=>rw [hf] at o1;exact fun ι2 H2 σ2 g2 S2 R2=>⟨ι2,τ2,h2,S2,R2,jt o1 g2⟩
   | bk τ2 h2=>rw [hf] at o1;exact o1
   | rt d h2=>rw [hf] at o1;exact o1
   | ex c h2=>rw [hf] at o1;exact o1
   | no=>rw [hf] at o1;exact o1.elim
end
abbrev SG:=D→Sd→Hd→Fl
def ag5 (K:PySem.W.Frag) (E:XD) (g:SG):TG:=fun v σ H Q=>∃ ι τ h d,Rep K ι H v d∧SRep K ι H σ τ∧HRep K ι H h∧a9o K E ι H (g d τ h) { nx:=Q,rt:=fun _ _=>False }
abbrev MG (X:Cx) (E:XD) (tg:Expr) (g:SG):Prop:=PG X tg (ag5 X.K E g)
abbrev SGs:=List D→Sd→Hd→Fl
theorem PG.weak {X:Cx} {e:Expr} {t t':TG} (h:PG X e t) (i:∀ v σ H Q,t' v σ H Q→t v σ H Q):PG X e t':=fun pins s σ H v u Q I r q=>h pins s σ H v u Q I r (i _ _ _ _ q)
def kN (i:Nat):SG:=fun d τ h=>.nx (τ.set i (some d)) h
def aeh:SGs:=fun ds τ h=>match ds with | []=>.nx τ h | _=>.no
def a5z (g:SG) (k:SGs):SGs:=fun ds τ h=>match ds with | d::r=>(match g d τ h with | .nx τ1 h1=>k r τ1 h1 | _=>.no) | []=>.no
def aei (n:Nat) (k:SGs):SG:=fun d τ h=>match d with | .tup ds=>if ds.length=n then k ds τ h else .no | _=>.no
section
variable {X:Cx} {E:XD} {e:Expr} {es:List Expr} {fa:SE} {pos:Pos} {g:SG} {ks:SGs}
theorem a1c {i:Nat} {x:Str} (hN:X.N.Nodup) (hi:X.N[i]? = some x) (hx:Loc X.env.scope x) (hf:X.fn x=true∨X.env.scope.names.lookup x=some .local:=by first | exact .inl rfl | exact .inr rfl | assumption):MG X E (.Name x pos) (kN i) :=
 PG.weak (a71 hN hi hx hf) fun v σ H Q ⟨ι,τ,h,d,r,S,Rh,o⟩=>o ι H _ (.refl _ _) (S.set r i) Rh
def aej (f:SE) (g:SG):SS:=fun τ h=>(f τ h).fl fun d h1=>match g d τ h1 with | .nx τ2 h2=>.nx τ2 h2 | _=>.no
end
structure Itm where
 xs:List D
 ck:Hd→Prop
def ag6 (K:PySem.W.Frag) (ι0:List Addr) (H0:Hp) (J:It) (it:Itm):Prop:=∀ ι H h,Gr ι0 H0 ι H→HRep K ι H h→it.ck h →
 (∀ (i:Nat) (d:D),it.xs[i]? = some d→J.go i H∧∀ x H',J.yld i H x H'→Gr ι H ι H'∧Rep K ι H' x d∧HRep K ι H' h)∧J.stop it.xs.length H
abbrev aky (K:PySem.W.Frag):List Addr→Hp→It→Itm→Prop:=fun ι H J it=>ag6 K ι H J it
abbrev SI:=Sd→Hd→R Itm
abbrev MI (X:Cx) (E:XD) (tg iter:Expr) (f:SI):Prop:=PI X tg iter (lift X.K E (aky X.K) f)
def zq (x:Str):List D:=x.cps.toList.map fun c=>D.str ⟨#[c]⟩
def a7v (d:D) (h:Hd):R Itm:=match d with
 | .tup xs=>.ok ⟨xs,fun _=>True⟩ h
 | .rol xs=>.ok ⟨xs,fun _=>True⟩ h
 | .str x=>.ok ⟨zq x,fun _=>True⟩ h
 | .ref i=>match h[i]? with
  | some (.lst xs)=>.ok ⟨xs,fun h=>h[i]? = some (.lst xs)⟩ h
  | _=>.no
 | _=>.no
def sIt (f:SE):SI:=fun τ h=>(f τ h).bind a7v
theorem ab8 {K:PySem.W.Frag} {ι0:List Addr} {H0:Hp} {a:Addr} {xs:List D} {ck:Hd→Prop} (hl:∀ ι H h,Gr ι0 H0 ι H→HRep K ι H h→ck h→∃ vs,SqL K H a vs∧Reps K ι H vs xs):ag6 K ι0 H0 (Itl K a) ⟨xs,ck⟩:=by
 intro ι H h g hr c
 obtain ⟨vs,h1,h2⟩:=hl ι H h g hr c
 refine ⟨fun i d e=>?_,⟨vs,h1,by rw [h2.len];exact Nat.le_refl _⟩⟩
 obtain ⟨v,e1,r⟩:=h2.get e
 refine ⟨⟨vs,v,h1,e1⟩,fun x H' y=>?_⟩
 obtain ⟨rfl,y⟩:=y
 have:=y vs h1
 rw [e1] at this;cases this
 exact ⟨.refl _ _,r,hr⟩
theorem ab9 {X:Cx} {E:XD} {tg l:Expr} {f:SE} (hl:ME X E l f):MI X E tg l (sIt f):=by
 intro pins s σ H Rr I ⟨ι,τ,h,S,Rh,o⟩
 unfold sIt at o
 cases hf:f τ h with
 | no=>rw [hf] at o;exact o.elim
 | ex c h1 =>
  rw [hf] at o
  exact ab2 hl pins s σ H Rr I ⟨ι,τ,h,S,Rh,by rw [hf];exact o⟩
 | ok d h1 =>
  rw [hf] at o
  cases d with
  | tup xs =>
   refine afc hl pins s σ H Rr I ⟨ι,τ,h,S,Rh,?_⟩
   rw [hf]
   intro ι1 H1 v g1 r1 hr1
   cases r1 with
   | @tup a vs _ e rs =>
    refine ⟨a,rfl,⟨vs,SqT.of e⟩,o ι1 H1 _ g1 ?_ hr1⟩
    intro ι2 H2 h2 g2 hr2 _
    have e2:=g2.tup _ _ e
    have rs2:=rs.mono g2
    refine ⟨fun i d ed=>?_,⟨vs,SqT.of e2,by rw [rs2.len];exact Nat.le_refl _⟩⟩
    obtain ⟨v,e1,r⟩:=rs2.get ed
    refine ⟨⟨vs,v,SqT.of e2,e1⟩,fun x H' y=>?_⟩
    obtain ⟨rfl,y⟩:=y
    have:=y vs (SqT.of e2)
    rw [e1] at this;cases this
    exact ⟨.refl _ _,r,hr2⟩
  | rol xs =>
   refine a73 hl pins s σ H Rr I ⟨ι,τ,h,S,Rh,?_⟩
   rw [hf]
   intro ι1 H1 v g1 r1 hr1
   cases r1 with
   | @rol a vs _ e rs =>
    refine ⟨a,rfl,⟨vs,e.l⟩,o ι1 H1 _ g1 ?_ hr1⟩
    exact ab8 (fun ι2 H2 h2 g2 hr2 _=>⟨vs,(e.mono g2).l,rs.mono g2⟩)
  | str x =>
   refine ab2 hl pins s σ H Rr I ⟨ι,τ,h,S,Rh,?_⟩
   rw [hf]
   intro ι1 H1 v g1 r1 hr1
   cases r1
   refine ⟨x,rfl,o ι1 H1 _ g1 ?_ hr1⟩
   intro ι2 H2 h2 g2 hr2 _
   refine ⟨fun i d ed=>?_,by show (zq x).length=_;simp [zq]⟩
   simp only [zq,List.getElem?_map,Option.map_eq_some_iff] at ed
   obtain ⟨c,ec,rfl⟩:=ed
   refine ⟨by show i<x.cps.size;have:=(List.getElem?_eq_some_iff.mp ec).1;simpa using this,fun y H' q=>?_⟩
   obtain ⟨rfl,c',ec',rfl⟩:=q
   rw [ec] at ec';cases ec'
   exact ⟨.refl _ _, .str _,hr2⟩
  | ref i =>
   simp only [R.bind,a7v] at o
   cases ho:h1[i]? with
   | none=>rw [ho] at o;exact o.elim
   | some ob =>
    rw [ho] at o
    cases ob with
    | dK _=>exact o.elim
    | dT _=>exact o.elim
    | lst xs =>
     refine a73 hl pins s σ H Rr I ⟨ι,τ,h,S,Rh,?_⟩
     rw [hf]
     intro ι1 H1 v g1 r1 hr1
     cases r1 with
     | @ref a _ e =>
      obtain ⟨vs,e1,rs⟩:=hr1.obj i a _ e ho
      refine ⟨a,rfl,⟨vs,SqL.of e1⟩,o ι1 H1 _ g1 ?_ hr1⟩
      refine ab8 (fun ι2 H2 h2 g2 hr2 c=>?_)
      obtain ⟨us,e3,rs3⟩:=hr2.obj i a _ (g2.at e) c
      exact ⟨us,SqL.of e3,rs3⟩
  | _=>exact o.elim
def rng (lo:Int) (n:Nat):List D:=(List.range n).map fun i=>D.int (lo+(i:Nat))
def B62 (j:Int):Prop := -(2 ^ 62)≤j∧j<2 ^ 62
instance (j:Int):Decidable (B62 j):=by unfold B62;exact inferInstance
def yp (ds:List D) (h:Hd):R Itm:=match ds with
 | [.int j]=>if B62 j then .ok ⟨rng 0 j.toNat,fun _=>True⟩ h else .no
 | _=>.no
def acu (ds:List D) (h:Hd):R Itm:=match ds with
 | [.int i, .int j]=>if B62 i∧B62 j then .ok ⟨rng i (j - i).toNat,fun _=>True⟩ h else .no
 | _=>.no
def sRg (g:List D→Hd→R Itm) (k:SA):SI:=fun τ h=>(k τ h).bind g
theorem ag7 {K:PySem.W.Frag} {ι0:List Addr} {H0:Hp} (lo:Int) (n:Nat):ag6 K ι0 H0 (Itr lo n) ⟨rng lo n,fun _=>True⟩:=by
 intro ι H h g hr _
 refine ⟨fun i d ed=>?_,by show n≤(rng lo n).length;simp [rng]⟩
 simp only [rng,List.getElem?_map,Option.map_eq_some_iff] at ed
 obtain ⟨j,ej,rfl⟩:=ed
 obtain ⟨hj,e⟩:=List.getElem?_eq_some_iff.mp ej
 simp at e hj
 subst e
 refine ⟨hj,fun y H' q=>?_⟩
 obtain ⟨rfl,rfl⟩:=q
 exact ⟨.refl _ _, .int _,hr⟩
theorem a3r {X:Cx} {E:XD} {tg a:Expr} {k:SA} {p pos:Pos} (hg:Gl X "range") (hm:X.mg "range" = none) (ha:MA X E [a] k) (hs:starEach [a] X.env=[(false,eval a X.env)]:=by rfl):MI X E tg (.Call (.Name "range" p) [a] [] pos) (sRg yp k):=by
 intro pins s σ H Rr I ⟨ι,τ,h,S,Rh,o⟩
 refine a74 hg hm ha hs pins s σ H Rr I ⟨ι,τ,h,S,Rh,cu o fun ds h1 ι1 H1 vs g1 r1 hr1 o1=>?_⟩
 unfold yp at o1
 split at o1
 ·rename_i j
  cases r1 with
  | cons r rs =>
   cases r;cases rs
   by_cases hb:B62 j
   ·rw [if_pos hb] at o1
    exact ⟨j,rfl,hb.1,hb.2,o1 ι1 H1 _ (.refl _ _) (ag7 0 j.toNat) hr1⟩
   ·rw [if_neg hb] at o1;exact o1.elim
 ·exact o1.elim
open Classical in
noncomputable def forL (ck:Hd→Prop) (g:SG) (b:SS):List D→Sd→Hd→Fl
 | [],τ,h=>if ck h then .nx τ h else .no
 | x::xs,τ,h=>if ck h then (match g x τ h with
   | .nx τ1 h1=>(match b τ1 h1 with
    | .nx τ2 h2=>forL ck g b xs τ2 h2
    | .ct τ2 h2=>forL ck g b xs τ2 h2
    | .bk τ2 h2=>.nx τ2 h2
    | r=>r)
   | _=>.no) else .no
noncomputable def a91 (f:SI) (g:SG) (b:SS):SS:=fun τ h=>(f τ h).fl fun it h1=>forL it.ck g b it.xs τ h1
theorem acv {K:PySem.W.Frag} {E:XD} {ι0:List Addr} {H0:Hp} {J:It} {it:Itm} {g:SG} {b:SS} {N:Ends} {σ0:St} {τ0:Sd} {h0:Hd} (ir:ag6 K ι0 H0 J it) (S:SRep K ι0 H0 σ0 τ0) (Rh:HRep K ι0 H0 h0) (o:a9o K E ι0 H0 (forL it.ck g b it.xs τ0 h0) N) :
  ∃ W:Nat→Nat→St→Hp→Prop,(∃ m,W 0 m σ0 H0)∧∀ i m σ H,W i m σ H →
   (J.stop i H∧N.nx σ H)∨(J.go i H∧∃ M:St→Hp→Prop,(∀ σ' H',M σ' H'→∃ m',m'<m∧W (i+1) m' σ' H')∧∀ x H',J.yld i H x H'→ag5 K E g x σ H' fun σ2 H2=>a03 K E b { N with nx:=M,ct:=M,bk:=N.nx } σ2 H2):=by
 refine ⟨fun i m σ H=>m=it.xs.length - i∧i≤it.xs.length∧∃ ι τ h,Gr ι0 H0 ι H∧SRep K ι H σ τ∧HRep K ι H h∧a9o K E ι H (forL it.ck g b (it.xs.drop i) τ h) N,⟨_,rfl,Nat.zero_le _,ι0,τ0,h0, .refl _ _,S,Rh,o⟩,?_⟩
 rintro i m σ H ⟨rfl,hi,ι,τ,h,g0,S,Rh,o⟩
 by_cases hlt:i<it.xs.length
 ·rw [List.drop_eq_getElem_cons hlt,forL] at o
  by_cases hc:it.ck h
  ·rw [if_pos hc] at o
   obtain ⟨go,yl⟩:=(ir ι H h g0 Rh hc).1 i _ (List.getElem?_eq_getElem hlt)
   refine .inr ⟨go,fun σ' H'=>it.xs.length - (i+1)<it.xs.length - i∧∃ ι τ h,Gr ι0 H0 ι H'∧SRep K ι H' σ' τ∧HRep K ι H' h∧a9o K E ι H' (forL it.ck g b (it.xs.drop (i+1)) τ h) N,fun σ' H' q=>⟨_,q.1,rfl,hlt,q.2⟩,fun x H' y=>?_⟩
   obtain ⟨g1,r1,hr1⟩:=yl x H' y
   refine ⟨ι,τ,h,_,r1,S.mono g1,hr1,?_⟩
   have o':=jt o g1
   cases hg:g it.xs[i] τ h with
   | nx τ1 h1 =>
    rw [hg] at o'
    dsimp only at o'
    intro ι2 H2 σ2 g2 S2 R2
    refine ⟨ι2,τ1,h1,S2,R2,?_⟩
    have o2:=jt o' g2
    have gg:=(g0.trans g1).trans g2
    cases hb:b τ1 h1 with
    | nx τ2 h2=>rw [hb] at o2;exact fun ι3 H3 σ3 g3 S3 R3=>⟨by omega,ι3,τ2,h2,gg.trans g3,S3,R3,jt o2 g3⟩
    | ct τ2 h2=>rw [hb] at o2;exact fun ι3 H3 σ3 g3 S3 R3=>⟨by omega,ι3,τ2,h2,gg.trans g3,S3,R3,jt o2 g3⟩
    | bk τ2 h2=>rw [hb] at o2;exact o2
    | rt d h2=>rw [hb] at o2;exact o2
    | ex c h2=>rw [hb] at o2;exact o2
    | no=>rw [hb] at o2;exact o2.elim
   | _=>rw [hg] at o';exact o'.elim
  ·rw [if_neg hc] at o;exact o.elim
 ·have e:i=it.xs.length:=by omega
  subst e
  rw [List.drop_eq_nil_of_le (Nat.le_refl _),forL] at o
  by_cases hc:it.ck h
  ·rw [if_pos hc] at o
   exact .inl ⟨(ir ι H h g0 Rh hc).2,o ι H σ (.refl _ _) S Rh⟩
  ·rw [if_neg hc] at o;exact o.elim
theorem a4l {X:Cx} {E:XD} {tg iter:Expr} {body:List Stmt} {f:SI} {g:SG} {b:SS} {pos:Pos} (hp:PassesOwn (model X.prog X.w) X.A X.env X.xe) (hc:X.calm=true) (hi:MI X E tg iter f) (hg:MG X E tg g) (hb:MSs X E body b) (hs:∀ x,foldedSetIterable iter X.env x=pure x:=by intro _;rfl):MS X E (.For tg iter body [] pos) (a91 f g b):=by
 refine PS.weak (afd hp hc hi hg hb hs) fun N σ H ⟨ι,τ,h,S,Rh,o⟩=>?_
 exact ⟨ι,τ,h,S,Rh,rz o fun it h1 ι1 H1 J g1 r1 hr1 o1=>acv r1 (S.mono g1) hr1 o1⟩
end MI
namespace MI
open PySem PySem.Spec L2
open Classical in
noncomputable def mapR (ck:Hd→Prop) (f:D→Hd→R D):List D→Hd→R (List D)
 | [],h=>if ck h then .ok [] h else .no
 | x::xs,h=>if ck h then (f x h).bind fun y h1=>(mapR ck f xs h1).bind fun ys h2=>.ok (y::ys) h2 else .no
def frs' (ix:List Nat) (τ:Sd):Sd:=ix.map fun i=>(τ[i]?).join
def t1 (d:D):Option Sd:=some [some d]
def a3s (t:D→Option Sd) (fe:SE) (rest:Sd) (x:D) (h:Hd):R D:=match t x with | some ts=>fe (ts++rest) h | none=>.no
def acw (yd zs:List D) (h:Hd):R D:=.ok (.ref h.length) (h++[.lst (yd++zs)])
theorem ag8 (r:R D) (m:Hd→R (List D)) (yd:List D):(r.bind fun y h1=>(m h1).bind fun ys h2=>.ok (y::ys) h2).bind (acw yd)=r.bind fun y h1=>(m h1).bind (acw (yd++[y])):=by
 cases r with
 | ok y h1 =>
  show ((m h1).bind _).bind _=(m h1).bind _
  cases m h1 with
  | ok ys h2=>simp [R.bind,acw]
  | _=>rfl
 | _=>rfl
noncomputable def a9q (fi:SI) (t:D→Option Sd) (fe:SE) (ix:List Nat):SE:=fun τ h=>(fi τ h).bind fun it h1=>if it.xs.length≤LINE then (mapR it.ck (a3s t fe (frs' ix τ)) it.xs h1).bind (acw []) else .no
def aj1 (K:PySem.W.Frag) (n:Nat) (g:TG) (t:D→Option Sd):Prop:=∀ ι H v d ts (r:St) (Q:St→Hp→Prop),Rep K ι H v d→t d=some ts→(∀ us:St,us.length=n→SRep K ι H us ts→Q (us++r) H)→g v (List.replicate n none++r) H Q
theorem a4m {K:PySem.W.Frag} {ι:List Addr} {H:Hp}:SRep K ι H [] []:=⟨rfl,fun i d e=>by simp at e⟩
theorem a2m {K:PySem.W.Frag} {ι:List Addr} {H:Hp} {v:V} {d:D} {σ:St} {τ:Sd} (r:Rep K ι H v d) (s:SRep K ι H σ τ):SRep K ι H (some v::σ) (some d::τ):=by
 refine ⟨by simp [s.len],fun i d' e=>?_⟩
 cases i with
 | zero=>simp at e;subst e;exact ⟨v,rfl,r⟩
 | succ i=>simpa using s.val i d' (by simpa using e)
theorem a4n {K:PySem.W.Frag} {ι:List Addr} {H:Hp} {σ σ':St} {τ τ':Sd} (s:SRep K ι H σ τ) (s':SRep K ι H σ' τ'):SRep K ι H (σ++σ') (τ++τ'):=by
 refine ⟨by simp [s.len,s'.len],fun i d e=>?_⟩
 by_cases hi:i<τ.length
 ·rw [List.getElem?_append_left hi] at e
  rw [List.getElem?_append_left (by rw [s.len];exact hi)]
  exact s.val i d e
 ·rw [List.getElem?_append_right (by omega)] at e
  rw [List.getElem?_append_right (by rw [s.len];omega),s.len]
  exact s'.val _ d e
theorem a9r {K:PySem.W.Frag} {ι:List Addr} {H:Hp} {σ:St} {τ:Sd} (s:SRep K ι H σ τ) (ix:List Nat):SRep K ι H (ix.map fun i=>(σ[i]?).join) (frs' ix τ):=by
 refine ⟨by simp [frs'],fun j d e=>?_⟩
 simp only [frs',List.getElem?_map,Option.map_eq_some_iff] at e
 obtain ⟨i,hi,e⟩:=e
 have:τ[i]? = some (some d):=by
  cases q:τ[i]? with
  | none=>rw [q] at e;cases e
  | some o=>rw [q] at e;simp at e;rw [e]
 obtain ⟨v,h1,h2⟩:=s.val i d this
 exact ⟨v,by simp [hi,h1],h2⟩
theorem ag9 {K:PySem.W.Frag}:aj1 K 1 (abx 0) t1:=fun ι H v d ts r Q hr e q=>by
 cases e
 exact q [some v] rfl (a2m hr a4m)
theorem acx {n:Nat} {us r:St} (h:us.length=n):L2.Ext (List.replicate n none++r) (us++r):=by
 refine ⟨by simp [h],fun i v e=>?_⟩
 by_cases hi:i<n
 ·rw [List.getElem?_append_left (by simpa using hi),List.getElem?_replicate,if_pos hi] at e
  cases e
 ·rw [List.getElem?_append_right (by simpa using hi),List.length_replicate] at e
  rw [List.getElem?_append_right (by omega),h]
  exact e
theorem a9s {K:PySem.W.Frag} {E:XD} {ι0:List Addr} {H0:Hp} {J:It} {it:Itm} {g:TG} {t:D→Option Sd} {fe:SE} {n:Nat} {r:St} {rd:Sd} {h0:Hd} {Q:VK} (ir:ag6 K ι0 H0 J it) (tg:aj1 K n g t) (S:SRep K ι0 H0 r rd) (Rh:HRep K ι0 H0 h0) (hl:it.xs.length≤LINE)
  (o:out K E (ul K) ι0 H0 ((mapR it.ck (a3s t fe rd) it.xs h0).bind (acw [])) Q):ag1 J (List.replicate n none++r) g (lift K E (ul K) fe) Q H0:=by
 refine ⟨fun i m ys H=>m=it.xs.length - i∧i≤it.xs.length∧ys.length≤i∧∃ ι h yd,Gr ι0 H0 ι H∧HRep K ι H h∧Reps K ι H ys yd∧out K E (ul K) ι H ((mapR it.ck (a3s t fe rd) (it.xs.drop i) h).bind (acw yd)) Q,
  ⟨_,rfl,Nat.zero_le _,Nat.zero_le _,ι0,h0,[], .refl _ _,Rh, .nil,o⟩,?_⟩
 rintro i m ys H ⟨rfl,hi,hy,ι,h,yd,g0,Rh,ry,o⟩
 by_cases hlt:i<it.xs.length
 ·rw [List.drop_eq_getElem_cons hlt,mapR] at o
  by_cases hc:it.ck h
  ·rw [if_pos hc,ag8] at o
   obtain ⟨go,yl⟩:=(ir ι H h g0 Rh hc).1 i _ (List.getElem?_eq_getElem hlt)
   refine .inr ⟨go,Nat.lt_of_le_of_lt hy (Nat.lt_of_lt_of_le hlt (ll hl)),fun x H' y=>?_⟩
   obtain ⟨g1,r1,hr1⟩:=yl x H' y
   have o':=yu o g1
   cases ht:t it.xs[i] with
   | none=>simp only [a3s,ht] at o';exact o'.elim
   | some ts =>
    simp only [a3s,ht] at o'
    refine tg ι H' x _ ts r _ r1 ht fun us hus su=>⟨acx hus,ι,ts++rd,h,a4n su (S.mono (g0.trans g1)),hr1,cu o' fun d2 h2 ι2 H2 u g2 r2 hr2 o2=>?_⟩
    refine ⟨it.xs.length - (i+1),by omega,rfl,hlt,by simp;omega,ι2,h2,yd++[d2],(g0.trans g1).trans g2,hr2,((ry.mono g1).mono g2).snoc r2,o2⟩
  ·rw [if_neg hc] at o;exact o.elim
 ·have e:i=it.xs.length:=by omega
  subst e
  rw [List.drop_eq_nil_of_le (Nat.le_refl _),mapR] at o
  by_cases hc:it.ck h
  ·rw [if_pos hc] at o
   refine .inl ⟨(ir ι H h g0 Rh hc).2,u9 (E:=E) ry Rh ?_⟩
   simpa [R.bind,acw] using o
  ·rw [if_neg hc] at o;exact o.elim
section
variable {X:Cx} {E:XD} {elt tg iter cnd:Expr} {scope:Scope} {pos:Pos} {cl:List (Str × Addr)} {ts fr:List Str} {ix:List Nat} {fi:SI} {g:TG} {t:D→Option Sd} {fe:SE} {fc:ST}
theorem acy (hc:X.calm=true) (S:CSc X scope cl ts fr ix) (hi:MI X E tg iter fi) (hg:∀ C fp s H,PG (cxC X (ts++fr) scope cl C fp s H) tg g) (ht:aj1 X.K ts.length g t) (he:∀ C fp s H,ME (cxC X (ts++fr) scope cl C fp s H) E elt fe)
  (hs:∀ x,foldedSetIterable iter X.env x=pure x:=by intro _;rfl):ME X E (.ListComp elt [⟨tg,iter,[],0⟩] scope pos) (a9q fi t fe ix):=by
 refine PE.weak (a9l (te:=lift X.K E (ul X.K) fe) hc S hi hg he hs) fun σ H Q ⟨ι,τ,h,Sr,Rh,o⟩=>?_
 refine ⟨ι,τ,h,Sr,Rh,cu o fun it h1 ι1 H1 J g1 r1 hr1 o1=>?_⟩
 by_cases hl:it.xs.length≤LINE
 ·rw [if_pos hl] at o1
  exact a9s r1 ht (a9r (Sr.mono g1) ix) hr1 hl o1
 ·rw [if_neg hl] at o1;exact o1.elim
end
mutual
def clo (n:Nat):D→Prop
 | .tup xs=>clos n xs
 | .rol xs=>clos n xs
 | .rod _ xs=>clos n xs
 | .scr xs=>clos n xs
 | .rdT _ xs=>clos n xs
 | .ref i=>i<n
 | _=>True
def clos (n:Nat):List D→Prop
 | []=>True
 | x::xs=>clo n x∧clos n xs
end
mutual
theorem Rep.clo {K:PySem.W.Frag} {ι:List Addr} {H:Hp}:∀ {v:V} {d:D},Rep K ι H v d→clo ι.length d
 | _,_, .non=>by simp [MI.clo]
 | _,_, .bl b=>by simp [MI.clo]
 | _,_, .int i=>by simp [MI.clo]
 | _,_, .str x=>by simp [MI.clo]
 | _,_, .ty n=>by simp [MI.clo]
 | _,_, .tup h r=>by simp only [MI.clo];exact Reps.clo r
 | _,_, .rol h r=>by simp only [MI.clo];exact Reps.clo r
 | _,_, .ref h=>by simp only [MI.clo];exact (List.getElem?_eq_some_iff.mp h).1
 | _,_, .rod h e r=>by simp only [MI.clo];exact Reps.clo r
 | _,_, .scr h r=>by simp only [MI.clo];exact Reps.clo r
 | _,_, .rdT h e r=>by simp only [MI.clo];exact Reps.clo r
 | _,_, .exc h hc hn=>by simp [MI.clo]
theorem Reps.clo {K:PySem.W.Frag} {ι:List Addr} {H:Hp}:∀ {vs:List V} {ds:List D},Reps K ι H vs ds→clos ι.length ds
 | _,_, .nil=>by simp [MI.clos]
 | _,_, .cons r rs=>by simp only [MI.clos];exact ⟨Rep.clo r,Reps.clo rs⟩
end
mutual
theorem Rep.cut {K:PySem.W.Frag} {ι:List Addr} {H:Hp} {n:Nat}:∀ {v:V} {d:D},Rep K ι H v d→clo n d→Rep K (ι.take n) H v d
 | _,_, .non,_=>.non
 | _,_, .bl b,_=>.bl b
 | _,_, .int i,_=>.int i
 | _,_, .str x,_=>.str x
 | _,_, .ty n,_=>.ty n
 | _,_, .tup h r,c=>.tup h (Reps.cut r (by simpa only [MI.clo] using c))
 | _,_, .rol h r,c=>.rol h (Reps.cut r (by simpa only [MI.clo] using c))
 | _,_, .ref h,c=>.ref (by simp only [MI.clo] at c;rw [List.getElem?_take,if_pos c];exact h)
 | _,_, .rod h e r,c=>.rod h e (Reps.cut r (by simpa only [MI.clo] using c))
 | _,_, .scr h r,c=>.scr h (Reps.cut r (by simpa only [MI.clo] using c))
 | _,_, .rdT h e r,c=>.rdT h e (Reps.cut r (by simpa only [MI.clo] using c))
 | _,_, .exc h hc hn,_=>.exc h hc hn
theorem Reps.cut {K:PySem.W.Frag} {ι:List Addr} {H:Hp} {n:Nat}:∀ {vs:List V} {ds:List D},Reps K ι H vs ds→clos n ds→Reps K (ι.take n) H vs ds
 | _,_, .nil,_=>.nil
 | _,_, .cons r rs,c=>by simp only [MI.clos] at c;exact .cons (Rep.cut r c.1) (Reps.cut rs c.2)
end
def v4 (n:Nat):O→Prop
 | .lst xs=>clos n xs
 | .dK kvs=>clos n (kvs.map (·.2))
 | .dT kvs=>clos n (kvs.map (·.2))
def aga (n:Nat) (h:Hd):Prop:=∀ o∈h,v4 n o
theorem ORep.clo {K:PySem.W.Frag} {ι:List Addr} {H:Hp} {a:Addr} {o:O} (r:ORep K ι H a o):v4 ι.length o:=by
 cases o with
 | lst xs=>obtain ⟨vs,_,r⟩:=r;exact r.clo
 | dK kvs=>obtain ⟨us,_,_,r⟩:=r;exact r.clo
 | dT kvs=>obtain ⟨us,_,_,r⟩:=r;exact r.clo
theorem ORep.cut {K:PySem.W.Frag} {ι:List Addr} {H:Hp} {a:Addr} {o:O} {n:Nat} (r:ORep K ι H a o) (c:v4 n o):ORep K (ι.take n) H a o:=by
 cases o with
 | lst xs=>obtain ⟨vs,h,r⟩:=r;exact ⟨vs,h,r.cut c⟩
 | dK kvs=>obtain ⟨us,h,e,r⟩:=r;exact ⟨us,h,e,r.cut c⟩
 | dT kvs=>obtain ⟨us,h,e,r⟩:=r;exact ⟨us,h,e,r.cut c⟩
theorem HRep.clo {K:PySem.W.Frag} {ι:List Addr} {H:Hp} {h:Hd} (r:HRep K ι H h):aga h.length h:=fun o ho=>by
 obtain ⟨i,hi⟩:=List.getElem?_of_mem ho
 obtain ⟨a,_,q⟩:=r.addr hi
 rw [← r.len];exact q.clo
theorem HRep.cut {K:PySem.W.Frag} {ι:List Addr} {H:Hp} {h g:Hd} (r:HRep K ι H (h++g)) (c:aga h.length h):HRep K (ι.take h.length) H h:=by
 refine ⟨r.nd.sublist (List.take_sublist _ _),?_,fun i a o e1 e2=>?_⟩
 ·have:=r.len
  rw [List.length_append] at this
  rw [List.length_take];omega
 ·have hi:i<h.length:=(List.getElem?_eq_some_iff.mp e2).1
  rw [List.getElem?_take,if_pos hi] at e1
  exact (r.obj i a o e1 (by rw [List.getElem?_append_left hi];exact e2)).cut (c o (List.mem_of_getElem? e2))
def X0:XD:=fun _ _ _ _=>False
abbrev SF:=List D→Hd→R D
def qx (K:PySem.W.Frag) (n:Nat) (F:SF):Sp:=fun vs H Q _=>vs.length=n∧∃ ι ds h,Reps K ι H vs ds∧HRep K ι H h∧out K X0 (ul K) ι H (F ds h) Q
def qi (n:Nat) (ds:List D):Sd:=ds.map some++List.replicate (n - ds.length) none
def lz (b:SS) (n:Nat) (ds:List D) (h:Hd):R D:=match b (qi n ds) h with
 | .rt d h1=>.ok d h1
 | .nx _ h1=>.ok .non h1
 | .ex c h1=>.ex c h1
 | _=>.no
def Rf (n:Nat) (r' r:R D):Prop:=match r with
 | .no=>True
 | .ok d h1=>∃ g,r' = .ok d (h1++g)∧(g=[]∨(n≤h1.length∧clo h1.length d∧aga h1.length h1))
 | .ex c h1=>∃ g,r' = .ex c (h1++g)∧(g=[]∨(n≤h1.length∧aga h1.length h1))
theorem Rf.same {n:Nat} {r' r:R D} (h:r'=r):Rf n r' r:=by
 subst h
 cases r' with
 | ok d h1=>exact ⟨[],by simp, .inl rfl⟩
 | ex c h1=>exact ⟨[],by simp, .inl rfl⟩
 | no=>exact True.intro
theorem vz {K:PySem.W.Frag} {ι:List Addr} {H:Hp} {vs:List V} {ds:List D} {N:List Str} (r:Reps K ι H vs ds):SRep K ι H (start N vs) (qi N.length ds):=by
 refine a4n ?_ ?_
 ·clear N
  induction r using Reps.rec (motive_1:=fun _ _ _=>True) with
  | nil=>exact a4m
  | cons r rs _ ih=>exact a2m r ih
  | _=>trivial
 ·rw [r.len]
  exact ⟨by simp,fun i d e=>by rw [List.getElem?_replicate] at e;split at e<;>cases e⟩
theorem aba {ι ι':List Addr} {H H':Hp} {n:Nat} (g:Gr ι H ι' H') (hn:ι.length≤n):Gr ι H (ι'.take n) H':=by
 obtain ⟨m,rfl,hm⟩:=g.pre
 exact ⟨⟨m.take (n - ι.length),by rw [List.take_append,List.take_of_length_le hn],fun a ha=>hm a (List.mem_of_mem_take ha)⟩,g.tup,g.frz,g.oth,g.kp⟩
section
variable {P:Program} {w:World} {K:PySem.W.Frag} {mg:Str→Option Value} {base:Heap}
theorem agb {x qual:Str} {st:Stmt} {f:Addr} {fd:FuncData} {N ps:List Str} {k:Nat} {b:SS} {F:SF} (Fu:Fun K x qual st f fd) (S:FnScope N ps (ao st))
  (hb:∀ (cdv:Value) (A:Around) (outer:List Env) (s:Shared) (H:Hp) (E:XK),Room k (A.deeper (PyProof.Rows.envOfC qual (ao st) s.heap.objs.size f cdv))→MSs (zg CX0 P w K mg base N qual (ao st) f cdv A outer s H E).nox X0 (gj st) b)
  (hF:∀ ds h,ds.length=ps.length→clos h.length ds→aga h.length h→Rf h.length (lz b N.length ds h) (F ds h)):FnOk P w K mg base CX0 (k+1) f fd ps (qx K ps.length F):=by
 refine Fu.ok S (fun vs H Q E h=>h.1) fun cdv A outer s H vs Q E hr h=>⟨_,hb cdv A outer s H E hr,?_⟩
 obtain ⟨hl,ι,ds,h,r,hr',o⟩:=h
 refine ⟨ι,qi N.length ds,h,vz r,hr',?_⟩
 have q:=hF ds h (by rw [← r.len];exact hl) (by rw [← hr'.len];exact r.clo) hr'.clo
 unfold lz at q
 cases hFd:F ds h with
 | no=>rw [hFd] at o;exact o.elim
 | ex c h1 =>
  rw [hFd] at q o
  obtain ⟨g,e,cl⟩:=q
  have fin:∀ ι' H',Gr ι H ι' H'→HRep K ι' H' (h1++g)→X0 c ι' H' (h1++g):=fun ι' H' g1 hr1=>by
   rcases cl with rfl | ⟨hn,c2⟩
   ·rw [List.append_nil] at hr1
    exact o ι' H' g1 hr1
   ·exact o (ι'.take h1.length) H' (aba g1 (by rw [hr'.len];exact hn)) (hr1.cut c2)
  cases hbd:b (qi N.length ds) h with
  | ex c' h' =>
   rw [hbd] at e
   injection e with e1 e2
   subst e1 e2
   exact fin
  | _=>rw [hbd] at e;cases e
 | ok d h1 =>
  rw [hFd] at q o
  obtain ⟨g,e,cl⟩:=q
  have fin:∀ ι' H' v,Gr ι H ι' H'→Rep K ι' H' v d→HRep K ι' H' (h1++g)→Q v H':=fun ι' H' v g1 r1 hr1=>by
   rcases cl with rfl | ⟨hn,c1,c2⟩
   ·rw [List.append_nil] at hr1
    exact o ι' H' v g1 r1 hr1
   ·exact o (ι'.take h1.length) H' v (aba g1 (by rw [hr'.len];exact hn)) (r1.cut c1) (hr1.cut c2)
  cases hbd:b (qi N.length ds) h with
  | rt d' h' =>
   rw [hbd] at e
   injection e with e1 e2
   subst e1 e2
   exact fin
  | nx τ' h' =>
   rw [hbd] at e
   injection e with e1 e2
   subst e1 e2
   exact fun ι' H' σ' g1 S1 hr1=>fin ι' H' .non g1 .non hr1
  | _=>rw [hbd] at e;cases e
end
end MI
namespace MI
open PySem PySem.Spec L2
section
variable {K:PySem.W.Frag} {E:XD} {ι:List Addr} {H:Hp} {h:Hd} {Q:VK}
theorem ans {d:D} {v:V} (o:out K E (ul K) ι H (.ok d h) Q) (r:Rep K ι H v d) (hr:HRep K ι H h):Q v H:=o ι H v (.refl _ _) r hr
theorem HRep.lst (hr:HRep K ι H h) {i:Nat} {a:Addr} {xs:List D} (e:ι[i]? = some a) (hi:h[i]? = some (.lst xs)):∃ vs,H a=some (.lst vs)∧Reps K ι H vs xs:=hr.obj i a _ e hi
end
def uy:D→D→Hd→R D
 | .int i, .int j,h=>.ok (.int (i - j)) h
 | _,_,_=>.no
open Classical in
noncomputable def agc:D→D→Hd→R D
 | .int i, .int j,h=>if CMul i j then .ok (.int (i*j)) h else .no
 | .ref i, .int k,h=>match h[i]? with
  | some (.lst xs)=>if (-(2 ^ 63)≤k∧k<2 ^ 63)∧xs.length*k.toNat≤LINE then .ok (.ref h.length) (h++[.lst (List.replicate k.toNat xs).flatten]) else .no
  | _=>.no
 | _,_,_=>.no
def a06:D→D→Hd→R D
 | .int i, .int j,h=>if 0<j then .ok (.int (i % j)) h else .no
 | _,_,_=>.no
def a2n:D→D→Hd→R D
 | .int i, .int j,h=>if 0<j∧j<1073741824 then .ok (.int (i / j)) h else .no
 | _,_,_=>.no
def a4o:D→D→Hd→R D
 | .int i, .int j,h=>if 0≤j∧j≤1000000∧i.natAbs<2 ^ 64 then .ok (.int (i ^ j.toNat)) h else .no
 | _,_,_=>.no
section
variable {X:Cx} {K:PySem.W.Frag}
theorem a7w:a04 K uy (rI0 fun i j=>.int (i - j)):=by
 intro E ι H h x y dx dy Q rx ry hr o
 cases rx with
 | int i =>
  cases ry with
  | int j=>exact ⟨i,j,rfl,rfl,ans o (.int _) hr⟩
  | _=>exact o.elim
 | _=>exact o.elim
theorem acz:a04 K a06 (rI (fun _ j=>0<j) fun i j=>.int (i % j)):=by
 intro E ι H h x y dx dy Q rx ry hr o
 cases rx with
 | int i =>
  cases ry with
  | int j =>
   by_cases hc:0<j
   ·simp only [a06,if_pos hc] at o;exact ⟨i,j,rfl,rfl,hc,ans o (.int _) hr⟩
   ·simp only [a06,if_neg hc] at o;exact o.elim
  | _=>exact o.elim
 | _=>exact o.elim
theorem a7x:a04 K a2n (rI aih fun i j=>.int (i / j)):=by
 intro E ι H h x y dx dy Q rx ry hr o
 cases rx with
 | int i =>
  cases ry with
  | int j =>
   by_cases hc:0<j∧j<1073741824
   ·simp only [a2n,if_pos hc] at o;exact ⟨i,j,rfl,rfl,hc,ans o (.int _) hr⟩
   ·simp only [a2n,if_neg hc] at o;exact o.elim
  | _=>exact o.elim
 | _=>exact o.elim
theorem ad0:a04 K a4o (rI ajj fun i j=>.int (i ^ j.toNat)):=by
 intro E ι H h x y dx dy Q rx ry hr o
 cases rx with
 | int i =>
  cases ry with
  | int j =>
   by_cases hc:0≤j∧j≤1000000∧i.natAbs<2 ^ 64
   ·simp only [a4o,if_pos hc] at o;exact ⟨i,j,rfl,rfl,hc,ans o (.int _) hr⟩
   ·simp only [a4o,if_neg hc] at o;exact o.elim
  | _=>exact o.elim
 | _=>exact o.elim
theorem a7y:a04 K agc (fun x y H Q=>rI CMul (fun i j=>.int (i*j)) x y H Q∨afv x y H Q):=by
 intro E ι H h x y dx dy Q rx ry hr o
 cases rx with
 | int i =>
  cases ry with
  | int j =>
   by_cases hc:CMul i j
   ·simp only [agc,if_pos hc] at o;exact .inl ⟨i,j,rfl,rfl,hc,ans o (.int _) hr⟩
   ·simp only [agc,if_neg hc] at o;exact o.elim
  | _=>exact o.elim
 | @ref a i ha =>
  cases ry with
  | int k =>
   simp only [agc] at o
   split at o
   ·rename_i xs hx
    obtain ⟨vs,h3,h4⟩:=hr.lst ha hx
    split at o
    ·rename_i hc
     exact .inr ⟨a,k,vs,rfl,rfl,h3,hc.1.1,hc.1.2,ll (by rw [h4.len];exact hc.2),u9 (h4.flat _) hr o⟩
    ·exact o.elim
   ·exact o.elim
  | _=>exact o.elim
 | _=>exact o.elim
variable {E:XD} {a b e:Expr} {es:List Expr} {fa fb:SE} {ka:SA} {pos:Pos}
theorem zr (ha:ME X E a fa) (hb:ME X E b fb):ME X E (.BinOp a .Sub b pos) (s2 uy fa fb):=a3p afg a7w ha hb
theorem yf (ha:ME X E a fa) (hb:ME X E b fb):ME X E (.BinOp a .Mod b pos) (s2 a06 fa fb):=a3p afh acz ha hb
theorem a7z (ha:ME X E a fa) (hb:ME X E b fb):ME X E (.BinOp a .FloorDiv b pos) (s2 a2n fa fb):=a3p aby a7x ha hb
theorem a80 (ha:ME X E a fa) (hb:ME X E b fb):ME X E (.BinOp a .Pow b pos) (s2 a4o fa fb):=a3p afi ad0 ha hb
def a3t:D→Hd→R D
 | .int i,h=>.ok (.int (-i)) h
 | _,_=>.no
theorem a4p (ha:ME X E a fa):ME X E (.UnaryOp .USub a pos) (s1 a3t fa):=aiy afj (fun E ι H h x dx Q rx hr o=>by
 cases rx with
 | int i=>exact ⟨i,rfl,ans o (.int _) hr⟩
 | _=>exact o.elim) ha
def gLt:D→D→Hd→R D
 | .int i, .int j,h=>.ok (.bl (decide (i<j))) h
 | .str i, .str j,h=>.ok (.bl (decide (i.cps.toList<j.cps.toList))) h
 | _,_,_=>.no
def gLe:D→D→Hd→R D
 | .int i, .int j,h=>.ok (.bl (decide (i≤j))) h
 | .str i, .str j,h=>.ok (.bl (!decide (j.cps.toList<i.cps.toList))) h
 | _,_,_=>.no
def gGt:D→D→Hd→R D
 | .int i, .int j,h=>.ok (.bl (decide (j<i))) h
 | _,_,_=>.no
def gGe:D→D→Hd→R D
 | .int i, .int j,h=>.ok (.bl (decide (j≤i))) h
 | _,_,_=>.no
theorem a4q:a04 K gLt (fun x y H Q=>rI0 (fun i j=>.bl (decide (i<j))) x y H Q∨∃ i j,x = .str i∧y = .str j∧Q (.bl (decide (i.cps.toList<j.cps.toList))) H):=by
 intro E ι H h x y dx dy Q rx ry hr o
 cases rx with
 | int i =>
  cases ry with
  | int j=>exact .inl ⟨i,j,rfl,rfl,ans o (.bl _) hr⟩
  | _=>exact o.elim
 | str i =>
  cases ry with
  | str j=>exact .inr ⟨i,j,rfl,rfl,ans o (.bl _) hr⟩
  | _=>exact o.elim
 | _=>exact o.elim
theorem a4r:a04 K gGt (rI0 fun i j=>.bl (decide (j<i))):=by
 intro E ι H h x y dx dy Q rx ry hr o
 cases rx with
 | int i =>
  cases ry with
  | int j=>exact ⟨i,j,rfl,rfl,ans o (.bl _) hr⟩
  | _=>exact o.elim
 | _=>exact o.elim
theorem agd:a04 K gGe (rI0 fun i j=>.bl (decide (j≤i))):=by
 intro E ι H h x y dx dy Q rx ry hr o
 cases rx with
 | int i =>
  cases ry with
  | int j=>exact ⟨i,j,rfl,rfl,ans o (.bl _) hr⟩
  | _=>exact o.elim
 | _=>exact o.elim
def a2o:D→Bool
 | .non=>true
 | _=>false
def gIs:D→D→Hd→R D
 | x, .non,h=>.ok (.bl (a2o x)) h
 | .bl i, .bl j,h=>.ok (.bl (i == j)) h
 | _,_,_=>.no
def abb:D→D→Hd→R D
 | x, .non,h=>.ok (.bl (!a2o x)) h
 | .bl i, .bl j,h=>.ok (.bl (i != j)) h
 | _,_,_=>.no
def a81:D→Bool
 | .non=>true | .bl _=>true | .int _=>true | .str _=>true
 | _=>false
end
end MI
namespace MI
open PySem PySem.Spec L2
section
variable {X:Cx} {K:PySem.W.Frag} {E:XD} {a b e o:Expr} {es:List Expr} {fa fb:SE} {ka:SA} {pos:Pos}
def a07 (d:D) (h:Hd):Option (List D):=match d with
 | .tup xs=>some xs
 | .rol xs=>some xs
 | .ref i=>match h[i]? with | some (.lst xs)=>some xs | _=>none
 | _=>none
def gIx (x y:D) (h:Hd):R D:=match y with
 | .int i=>(match x with
  | .str z=>if z.length≤LINE then (match atI z.cps.toList i with | some c=>.ok (.str ⟨#[c]⟩) h | none=>.no) else .no
  | x=>match a07 x h with
   | some xs=>(match atI xs i with | some d=>.ok d h | none=>.no)
   | none=>.no)
 | _=>.no
theorem a9t {ι:List Addr} {H:Hp} {vs:List V} {xs:List D} {i:Int} {d:D} (r:Reps K ι H vs xs) (e:atI xs i=some d):∃ v,atI vs i=some v∧Rep K ι H v d:=by
 unfold atI at e ⊢
 rw [r.len]
 cases hx:ixN xs.length i with
 | none=>rw [hx] at e;cases e
 | some j=>rw [hx] at e;exact r.get e
theorem age:a04 K gIx (rIx K):=by
 intro E ι H h x y dx dy Q rx ry hr o
 cases ry with
 | int i =>
  have go:∀ {p:Addr} {vs:List V} {xs:List D},Reps K ι H vs xs→out K E (ul K) ι H (match atI xs i with | some d=>.ok d h | none=>.no) Q→∃ v,atI vs i=some v∧Q v H:=fun {p vs xs} r o=>by
   cases he:atI xs i with
   | none=>rw [he] at o;exact o.elim
   | some d =>
    rw [he] at o
    obtain ⟨v,h1,h2⟩:=a9t r he
    exact ⟨v,h1,ans o h2 hr⟩
  cases rx with
  | str z =>
   by_cases hc:z.length≤LINE
   ·simp only [gIx,if_pos hc] at o
    cases he:atI z.cps.toList i with
    | none=>rw [he] at o;exact o.elim
    | some c=>rw [he] at o;exact .inr (.inr ⟨z,i,c,rfl,rfl,ll hc,he,ans o (.str _) hr⟩)
   ·simp only [gIx,if_neg hc] at o;exact o.elim
  | @tup p vs xs hp r =>
   simp only [gIx,a07] at o
   obtain ⟨v,h1,h2⟩:=go (p:=p) r o
   exact .inr (.inl ⟨p,vs,i,v,rfl,rfl,SqT.of hp,h1,h2⟩)
  | @rol p vs xs hp r =>
   simp only [gIx,a07] at o
   obtain ⟨v,h1,h2⟩:=go (p:=p) r o
   exact .inl ⟨p,vs,i,v,rfl,rfl,hp.l,h1,h2⟩
  | @ref p j hp =>
   obtain ⟨ob,e1,e2⟩:=hr.at hp
   cases ob with
   | lst xs =>
    simp only [gIx,a07,e1] at o
    obtain ⟨vs,h3,h4⟩:=e2
    obtain ⟨v,h1,h2⟩:=go (p:=p) h4 o
    exact .inl ⟨p,vs,i,v,rfl,rfl,SqL.of h3,h1,h2⟩
   | dK _=>simp only [gIx,a07,e1] at o;exact o.elim
   | dT _=>simp only [gIx,a07,e1] at o;exact o.elim
  | _=>exact o.elim
 | _=>exact o.elim
theorem gm (ha:ME X E a fa) (hb:ME X E b fb) (hp:a3j b):ME X E (.Subscript a b pos) (s2 gIx fa fb):=aiz afs age ha hb hp
abbrev SO:=Sd→Hd→R (Option Int)
abbrev MO (X:Cx) (E:XD) (e:Option Expr) (f:SO):Prop:=PO X e (lift X.K E akv f)
def oN:SO:=fun _ h=>.ok none h
def oS (f:SE):SO:=fun τ h=>(f τ h).bind fun d h1=>match d with | .int i=>.ok (some i) h1 | _=>.no
theorem PO.weak {e:Option Expr} {t t':St→Hp→(Option Int→Hp→Prop)→Prop} (h:PO X e t) (i:∀ σ H Q,t' σ H Q→t σ H Q):PO X e t':=fun pins s σ H Q I q=>h pins s σ H Q I (i _ _ _ q)
theorem a1d:MO X E none oN:=PO.weak ac8 fun σ H Q ⟨ι,τ,h,S,Rh,o⟩=>o ι H none (.refl _ _) rfl Rh
theorem a1e (he:ME X E e fa):MO X E (some e) (oS fa):=by
 refine PO.weak (aca he) fun σ H Q ⟨ι,τ,h,S,Rh,o⟩=>?_
 refine ⟨ι,τ,h,S,Rh,cu o fun d h1 ι1 H1 v g1 r1 hr1 o1=>?_⟩
 cases r1 with
 | int i=>exact ⟨i,rfl,o1 ι1 H1 _ (.refl _ _) rfl hr1⟩
 | _=>exact o1.elim
def whole (n:Nat) (lo hi:Option Int):Prop:=HT.sIx n 0 lo=0∧HT.sIx n n hi=n
instance (n:Nat) (lo hi:Option Int):Decidable (whole n lo hi):=by unfold whole;exact inferInstance
def gSl (d:D) (lo hi:Option Int) (h:Hd):R D:=match d with
 | .str z=>if z.length≤LINE then .ok (.str ⟨(a0z z.cps.toList lo hi).toArray⟩) h else .no
 | .tup xs=>if ¬ whole xs.length lo hi then .ok (.tup (a0z xs lo hi)) h else .no
 | .rol xs=>.ok (.ref h.length) (h++[.lst (a0z xs lo hi)])
 | .scr xs=>.ok (.ref h.length) (h++[.lst (a0z xs lo hi)])
 | .ref i=>match h[i]? with | some (.lst xs)=>.ok (.ref h.length) (h++[.lst (a0z xs lo hi)]) | _=>.no
 | _=>.no
theorem vg {ι:List Addr} {H:Hp} {vs:List V} {xs:List D} (r:Reps K ι H vs xs) (lo hi:Option Int):Reps K ι H (ab0 vs lo hi) (a0z xs lo hi):=by
 unfold ab0 a0z
 rw [r.len]
 exact (r.drop _).take _
theorem a4s {ι:List Addr} {H:Hp} {h:Hd} {x:V} {d:D} {lo hi:Option Int} {Q:VK} (rx:Rep K ι H x d) (hr:HRep K ι H h) (o:out K E (ul K) ι H (gSl d lo hi h) Q):aiv x lo hi H Q∨aim K x lo hi H Q∨aio K x lo hi H Q:=by
 cases rx with
 | str z =>
  by_cases hc:z.length≤LINE
  ·simp only [gSl,if_pos hc] at o;exact .inl ⟨z,rfl,ll hc,ans o (.str _) hr⟩
  ·simp only [gSl,if_neg hc] at o;exact o.elim
 | @tup p vs xs hp r =>
  by_cases hc:¬ whole xs.length lo hi
  ·simp only [gSl,if_pos hc] at o
   exact .inr (.inl ⟨p,vs,rfl,SqT.of hp,by rw [r.len];exact hc,zp (vg r lo hi) hr o⟩)
  ·simp only [gSl,if_neg hc] at o;exact o.elim
 | @rol p vs xs hp r=>exact .inr (.inr ⟨p,vs,rfl,hp.l,u9 (vg r lo hi) hr o⟩)
 | @scr p vs xs hp r=>exact .inr (.inr ⟨p,vs,rfl,hp.l,u9 (vg r lo hi) hr o⟩)
 | @ref p j hp =>
  obtain ⟨ob,e1,e2⟩:=hr.at hp
  cases ob with
  | lst xs =>
   simp only [gSl,e1] at o
   obtain ⟨vs,h3,h4⟩:=e2
   exact .inr (.inr ⟨p,vs,rfl,SqL.of h3,u9 (vg h4 lo hi) hr o⟩)
  | dK _=>simp only [gSl,e1] at o;exact o.elim
  | dT _=>simp only [gSl,e1] at o;exact o.elim
 | _=>exact o.elim
theorem one_sign {z:Str} {c:Nat} (h:z.cps.toList=[c]):z=⟨#[c]⟩:=by
 obtain ⟨cps⟩:=z
 congr
 exact Array.ext' (by simpa using h)
def qg:List D→Hd→R D
 | [.str z],h=>if z.length≤LINE then .ok (.int z.length) h else .no
 | [x],h=>(match a07 x h with | some xs=>.ok (.int xs.length) h | none=>.no)
 | _,_=>.no
theorem j8:ab4 K qg (fun xs H Q=>(∃ p ys,xs=[.ref p]∧(SqL K H p ys∨SqT K H p ys)∧Q (.int ys.length) H)∨∃ z,xs=[.str z]∧z.length≤sizeLine∧Q (.int z.length) H):=by
 intro E ι H h xs ds Q r hr o
 cases r with
 | nil=>exact o.elim
 | cons r rs =>
  cases rs with
  | cons _ _=>exact (show False by cases r<;>exact o).elim
  | nil =>
   cases r with
   | str z =>
    by_cases hc:z.length≤LINE
    ·simp only [qg,if_pos hc] at o;exact .inr ⟨z,rfl,ll hc,ans o (.int _) hr⟩
    ·simp only [qg,if_neg hc] at o;exact o.elim
   | @tup p vs xs hp r=>simp only [qg,a07] at o;exact .inl ⟨p,vs,rfl, .inr (SqT.of hp),by rw [r.len];exact ans o (.int _) hr⟩
   | @rol p vs xs hp r=>simp only [qg,a07] at o;exact .inl ⟨p,vs,rfl, .inl hp.l,by rw [r.len];exact ans o (.int _) hr⟩
   | @ref p j hp =>
    obtain ⟨ob,e1,e2⟩:=hr.at hp
    cases ob with
    | lst xs =>
     simp only [qg,a07,e1] at o
     obtain ⟨vs,h3,h4⟩:=e2
     exact .inl ⟨p,vs,rfl, .inl (SqL.of h3),by rw [h4.len];exact ans o (.int _) hr⟩
    | dK _=>simp only [qg,a07,e1] at o;exact o.elim
    | dT _=>simp only [qg,a07,e1] at o;exact o.elim
   | _=>exact o.elim
def agf:List D→Hd→R D
 | [.int i],h=>.ok (.int (if i<0 then -i else i)) h
 | _,_=>.no
theorem a82:ab4 K agf (fun xs H Q=>∃ i,xs=[.int i]∧Q (.int (if i<0 then -i else i)) H):=by
 intro E ι H h xs ds Q r hr o
 unfold agf at o
 split at o
 ·cases r with | cons r rs=>cases r;cases rs;exact ⟨_,rfl,ans o (.int _) hr⟩
 ·exact o.elim
def a65:List D→Hd→R D
 | [.int i, .int j],h=>.ok (.int (if j > i then j else i)) h
 | _,_=>.no
def a66:List D→Hd→R D
 | [.int i, .int j],h=>.ok (.int (if j<i then j else i)) h
 | _,_=>.no
def a9u:List D→Hd→R D
 | [.int i],h=>.ok (.int i) h
 | [.bl k],h=>.ok (.int (if k then 1 else 0)) h
 | _,_=>.no
theorem ad3:ab4 K a9u (fun xs H Q=>(∃ i,xs=[.int i]∧Q (.int i) H)∨∃ k,xs=[.bl k]∧Q (.int (if k then 1 else 0)) H):=by
 intro E ι H h xs ds Q r hr o
 unfold a9u at o
 split at o
 ·cases r with | cons r rs=>cases r;cases rs;exact .inl ⟨_,rfl,ans o (.int _) hr⟩
 ·cases r with | cons r rs=>cases r;cases rs;exact .inr ⟨_,rfl,ans o (.int _) hr⟩
 ·exact o.elim
def tyD (d:D) (h:Hd):Option String:=match d with
 | .non=>some "NoneType" | .bl _=>some "bool" | .int _=>some "int" | .str _=>some "str" | .tup _=>some "tuple" | .rol _=>some "list"
 | .ref i=>(match h[i]? with | some (.lst _)=>some "list" | some (.dK _)=>some "dict" | _=>none)
 | _=>none
def vh (t T:String):Option Bool :=
 if t∈["NoneType", "bool", "int", "str", "tuple", "list", "dict"]∧T∈["bool", "int", "str", "tuple", "list", "dict"] then some (t == T || (t == "bool" && T == "int")) else none
theorem a83 {t T:String} {b:Bool} (e:vh t T=some b):PySem.W.kitOne K (.type t) (.type T)=some b:=by
 unfold vh at e
 split at e
 ·rename_i h
  obtain ⟨h1,h2⟩:=h
  simp only [List.mem_cons,List.not_mem_nil,or_false] at h1 h2
  rcases h1 with rfl | rfl | rfl | rfl | rfl | rfl | rfl<;>rcases h2 with rfl | rfl | rfl | rfl | rfl | rfl<;>(cases e;rfl)
 ·cases e
def w6:List D→Hd→R D
 | [x, .ty T],h=>(match tyD x h with | some t=>(match vh t T with | some b=>.ok (.bl b) h | none=>.no) | none=>.no)
 | _,_=>.no
theorem agg {ι:List Addr} {H:Hp} {h:Hd} {x:V} {d:D} {t:String} (r:Rep K ι H x d) (hr:HRep K ι H h) (e:tyD d h=some t):TyOf K H x (.type t):=by
 cases r with
 | non=>cases e;exact .non
 | bl b=>cases e;exact .bl b
 | int b=>cases e;exact .int b
 | str b=>cases e;exact .str b
 | ty _=>cases e
 | tup hp r=>cases e;exact .tup hp
 | rol hp r=>cases e;obtain ⟨o,hp⟩:=hp;exact .frz hp
 | scr _ _=>cases e
 | rod _ _ _=>cases e
 | rdT _ _ _=>cases e
 | exc _ _ _=>cases e
 | ref hp =>
  obtain ⟨ob,e1,e2⟩:=hr.at hp
  cases ob with
  | lst xs=>simp only [tyD,e1] at e;cases e;obtain ⟨vs,h3,h4⟩:=e2;exact .lst h3
  | dK _=>simp only [tyD,e1] at e;cases e;obtain ⟨vs,h3,h4⟩:=e2;exact .dK h3
  | dT _=>simp only [tyD,e1] at e;cases e
theorem ad4:ab4 K w6 (fun xs H Q=>∃ x T t b,xs=[x, .ty T]∧TyOf K H x t∧PySem.W.kitOne K t (.type T)=some b∧Q (.bl b) H):=by
 intro E ι H h xs ds Q r hr o
 unfold w6 at o
 split at o
 ·rename_i d T
  cases r with
  | cons r rs =>
   cases rs with
   | cons q rs =>
    cases q;cases rs
    cases ht:tyD d h with
    | none=>rw [ht] at o;exact o.elim
    | some t =>
     rw [ht] at o
     cases hb:vh t T with
     | none=>simp only [hb] at o;exact o.elim
     | some b =>
      simp only [hb] at o
      exact ⟨_,T, .type t,b,rfl,agg r hr ht,a83 hb,ans o (.bl _) hr⟩
 ·exact o.elim
end
end MI
namespace MI
open PySem PySem.Spec L2
section
variable {X:Cx} {K:PySem.W.Frag} {E:XD} {a b e o:Expr} {es:List Expr} {fa fb fo:SE} {ka:SA} {pos apos cpos:Pos} {name:Str} {idn:String}
def ahu (K:PySem.W.Frag) (g:D→List D→Hd→R D) (r:V→List V→Hp→VK→Prop):Prop:=∀ (E:XD) ι H h x dx xs ds Q,Rep K ι H x dx→Reps K ι H xs ds→HRep K ι H h→out K E (ul K) ι H (g dx ds h) Q→r x xs H Q
def isL (d:D) (h:Hd):Bool:=match d with | .ref i=>(match h[i]? with | some (.lst _)=>true | _=>false) | .rol _=>true | _=>false
def sML (g:D→List D→Hd→R D) (f:SE) (k:SA):SE:=fun τ h=>(f τ h).bind fun d h1=>if isL d h1=true then (k τ h1).bind fun ds h2=>g d ds h2 else .no
def aek:D→List D→Hd→R D
 | .ref i,[y],h=>(match h[i]? with | some (.lst xs)=>if xs.length<LINE then .ok .non (h.set i (.lst (xs++[y]))) else .no | _=>.no)
 | _,_,_=>.no
def sMS (g:D→List D→Hd→R D) (f:SE) (k:SA):SE:=fun τ h=>(f τ h).bind fun d h1=>match d with | .str z=>(k τ h1).bind fun ds h2=>g (.str z) ds h2 | _=>.no
theorem a9v {r:V→List V→Hp→VK→Prop} {g:D→List D→Hd→R D} (slot:Slot "str" name idn) (hty:typeOf (.builtin idn)=pure (.type "method_descriptor")) (hm:MtR X idn r) (hs:ahu X.K g r) (ho:ME X E o fo) (ha:MA X E (e::es) ka)
  (hbase:attributeBase o name X.env (eval o X.env)=eval o X.env:=by rfl)
  (hfew:((backTo cpos (starEach (e::es) X.env)).all (fun x => !x.1) && (backToKw cpos (keywordEach [] X.env)).all (fun x=>x.1.isSome)
   && decide ((e::es).length+([]:List Keyword).length+(if ([]:List Keyword).isEmpty then 0 else 1)<30))=true:=by rfl)
  (hline:(apos.endLine == cpos.line)=true:=by rfl) (hst:starEach (e::es) X.env=(false,eval e X.env)::starEach es X.env:=by rfl) (hplain:(backTo cpos (starEach es X.env)).any (·.1)=false:=by rfl) :
  ME X E (.Call (.Attribute o name apos) (e::es) [] cpos) (sMS g fo ka):=by
 refine PE.weak (aix slot hty hm ho ha hbase hfew hline hst hplain) fun σ H Q ⟨ι,τ,h,S,Rh,o⟩=>?_
 refine ⟨ι,τ,h,S,Rh,cu o fun d h1 ι1 H1 v g1 r1 hr1 o1=>?_⟩
 cases r1 with
 | str z=>exact ⟨⟨z,rfl⟩,ι1,τ,h1,S.mono g1,hr1,cu o1 fun ds h2 ι2 H2 vs g2 r2 hr2 o2=>hs E ι2 H2 h2 _ _ vs ds Q (.str z) r2 hr2 o2⟩
 | _=>exact o1.elim
def a84:D→List D→Hd→R D
 | .str T,[.str z],h=>(match z.cps.toList with | [c]=>.ok (.int (vy T c)) h | _=>.no)
 | _,_,_=>.no
theorem a4t:ahu K a84 (fun x xs H Q=>∃ T c,x = .str T∧xs=[.str ⟨#[c]⟩]∧Q (.int (vy T c)) H):=by
 intro E ι H h x dx xs ds Q rx r hr o
 unfold a84 at o
 split at o
 ·cases rx
  cases r with
  | cons r1 rs =>
   cases r1;cases rs
   split at o
   ·rename_i c hz
    exact ⟨_,c,rfl,by rw [one_sign hz],ans o (.int _) hr⟩
   ·exact o.elim
 ·exact o.elim
def a4u:D→List D→Hd→R D
 | .str T,[.str z],h=>(match z.cps.toList with | [c]=>if c∈T.cps.toList then .ok (.int (vy T c)) h else .no | _=>.no)
 | _,_,_=>.no
theorem a85:ahu K a4u (fun x xs H Q=>∃ T c,x = .str T∧xs=[.str ⟨#[c]⟩]∧c∈T.cps.toList∧Q (.int (vy T c)) H):=by
 intro E ι H h x dx xs ds Q rx r hr o
 unfold a4u at o
 split at o
 ·cases rx
  cases r with
  | cons r1 rs =>
   cases r1;cases rs
   split at o
   ·rename_i c hz
    split at o
    ·rename_i hc
     exact ⟨_,c,rfl,by rw [one_sign hz],hc,ans o (.int _) hr⟩
    ·exact o.elim
   ·exact o.elim
 ·exact o.elim
def a3u:List D→Option (List Str)
 | []=>some []
 | .str z::r=>(a3u r).map (z::·)
 | _::_=>none
theorem a1f {ι:List Addr} {H:Hp}:∀ {vs:List V} {xs:List D} {zs:List Str},Reps K ι H vs xs→a3u xs=some zs→vs=zs.map V.str
 | _,_,_, .nil,e=>by cases e;rfl
 | _,_,zs, .cons (d:=d) r rs,e=>by
  cases r with
  | str z =>
   simp only [a3u,Option.map_eq_some_iff] at e
   obtain ⟨ws,h1,rfl⟩:=e
   rw [a1f rs h1];rfl
  | _=>cases e
def a86:D→List D→Hd→R D
 | .str sep,[.ref i],h=>(match h[i]? with | some (.lst xs)=>(match a3u xs with | some zs=>if (zs.map (·.length)).sum+zs.length*sep.length≤16777216 then .ok (.str (Txt.join sep zs)) h else .no | none=>.no) | _=>.no)
 | .str sep,[.rol xs],h=>(match a3u xs with | some zs=>if (zs.map (·.length)).sum+zs.length*sep.length≤16777216 then .ok (.str (Txt.join sep zs)) h else .no | none=>.no)
 | _,_,_=>.no
theorem a9w:ahu K a86 (fun x xs H Q=>∃ sep p zs,x = .str sep∧xs=[.ref p]∧SqL K H p (zs.map V.str)∧(zs.map (·.length)).sum+zs.length*sep.length≤16777216∧Q (.str (Txt.join sep zs)) H):=by
 intro E ι H h x dx xs ds Q rx r hr o
 unfold a86 at o
 split at o
 ·rename_i sep i
  cases rx
  cases r with
  | cons r1 rs =>
   cases rs
   cases r1 with
   | @ref p _ hp =>
    split at o
    ·rename_i xs hx
     obtain ⟨vs,h3,h4⟩:=hr.lst hp hx
     split at o
     ·rename_i zs hz
      split at o
      ·rename_i hc
       exact ⟨sep,p,zs,rfl,rfl,SqL.of (by rw [h3,a1f h4 hz]),hc,ans o (.str _) hr⟩
      ·exact o.elim
     ·exact o.elim
    ·exact o.elim
 ·rename_i sep xs
  cases rx
  cases r with
  | cons r1 rs =>
   cases rs
   cases r1 with
   | @rol p vs xs hp r =>
    split at o
    ·rename_i zs hz
     split at o
     ·rename_i hc
      exact ⟨sep,p,zs,rfl,rfl,by rw [← a1f r hz];exact hp.l,hc,ans o (.str _) hr⟩
     ·exact o.elim
    ·exact o.elim
 ·exact o.elim
end
end MI
theorem L2.Room.u {k:Nat} {A:PySem.Around} (r:L2.Room k A):A.units+64<PySem.cLine:=r.units
namespace MI
open PySem PySem.Spec L2
mutual
def eqD:D→D→Bool
 | .non, .non=>true
 | .bl a, .bl b=>a == b
 | .bl a, .int b=>(if a then 1 else 0) == b
 | .int a, .bl b=>a == (if b then 1 else 0)
 | .int a, .int b=>a == b
 | .str a, .str b=>a == b
 | .tup xs, .tup ys=>abd xs ys
 | _,_=>false
def abd:List D→List D→Bool
 | [],[]=>true
 | x::xs,y::ys=>eqD x y && abd xs ys
 | _,_=>false
end
def pur:Nat→D→Bool
 | _, .non=>true
 | _, .bl _=>true
 | _, .int _=>true
 | _, .str _=>true
 | n+1, .tup xs=>xs.all (pur n)
 | _,_=>false
def pairE (xs ys:List D) (j:Nat):Bool:=match xs[j]?,ys[j]? with | some x,some y=>eqD x y | _,_=>false
theorem a1g:∀ xs ys:List D,((List.range (min xs.length ys.length)).all (pairE xs ys) && xs.length == ys.length)=abd xs ys
 | [],[]=>by simp [abd]
 | [],_::_=>by simp [abd]
 | _::_,[]=>by simp [abd]
 | x::xs,y::ys=>by
  have ih:=a1g xs ys
  rw [show min (x::xs).length (y::ys).length=min xs.length ys.length+1 by simp only [List.length_cons];omega,List.range_succ_eq_map]
  rw [List.all_cons,List.all_map]
  have e:(pairE (x::xs) (y::ys) ∘ Nat.succ)=pairE xs ys:=by funext j;simp [pairE]
  rw [e]
  simp only [abd]
  rw [← ih]
  have e2:((x::xs).length == (y::ys).length)=(xs.length == ys.length):=by simp
  rw [e2,Bool.and_assoc]
  rfl
section
variable {K:PySem.W.Frag} {ι:List Addr} {H:Hp}
theorem a9x:∀ (n:Nat) {v:V} {d e:D},Rep K ι H v d→Rep K ι H v e→pur n d=true→pur n e=true→eqD d e=true:=by
 intro n
 induction n with
 | zero=>intro v d e r q p1 p2;cases r<;>cases q<;>first | (simp [eqD];done) | (cases p1;done) | (cases p2;done)
 | succ n ih =>
  intro v d e r q p1 p2
  cases r with
  | @tup a vs xs h rs =>
   cases q with
   | @tup _ us ys h' qs =>
    rw [h] at h';cases h'
    simp only [eqD]
    simp only [pur,List.all_eq_true] at p1 p2
    clear h
    induction rs using Reps.rec (motive_1:=fun _ _ _=>True) generalizing ys with
    | nil=>cases qs;rfl
    | cons r rs _ ih2 =>
     cases qs with
     | cons q qs =>
      simp only [abd,Bool.and_eq_true]
      exact ⟨ih r q (p1 _ (List.mem_cons_self ..)) (p2 _ (List.mem_cons_self ..)),ih2 qs (fun x hx=>p1 x (List.mem_cons_of_mem _ hx)) (fun x hx=>p2 x (List.mem_cons_of_mem _ hx))⟩
    | _=>trivial
   | _=>cases p2
  | _=>cases q<;>first | (simp [eqD];done) | (cases p1;done) | (cases p2;done)
theorem yg {n:Nat} {v:V} {d:D} (r:Rep K ι H v d) (p:pur n d=true):(∃ xs,d = .tup xs)∨(a3k v=true∧a81 d=true):=by
 cases r<;>first | exact .inr ⟨rfl,rfl⟩ | exact .inl ⟨_,rfl⟩ | (cases n<;>cases p)
theorem a1h {x y:V} {d e:D} (r:Rep K ι H x d) (q:Rep K ι H y e) (f:a81 d=true) (g:a81 e=true):eqV x y=eqD d e:=by
 cases r<;>cases q<;>first | rfl | (simp [eqV,eqD];done) | (cases f;done) | (cases g;done)
open SeqAt in
theorem agh {P:Program} {w:World} {s:Shared} (hok:HOk P w H s.heap):∀ (n:Nat) (A:Around) {x y:V} {u v:Value} {d e:D},Rep K ι H x d→Rep K ι H y e→RelV x u→RelV y v→pur n d=true→pur n e=true→A.units+n<cLine→EqAt A s u v (eqD d e):=by
 intro n
 induction n with
 | zero =>
  intro A x y u v d e r q rx ry p1 p2 hu
  rcases yg r p1 with ⟨xs,rfl⟩ | ⟨f1,f2⟩
  ·cases p1
  ·rcases yg q p2 with ⟨xs,rfl⟩ | ⟨g1,g2⟩
   ·cases p2
   ·rw [← a1h r q f2 g2];exact ab1 rx ry f1 g1
 | succ n ih =>
  intro A x y u v d e r q rx ry p1 p2 hu
  rcases yg r p1 with ⟨xs,rfl⟩ | ⟨f1,f2⟩
  ·cases r with
   | @tup a vs _ ha rs =>
    cases rx
    obtain ⟨_,its,r1,t1⟩:=(Rd.of ha).ok hok
    rcases yg q p2 with ⟨ys,rfl⟩ | ⟨g1,g2⟩
    ·cases q with
     | @tup b us _ hb qs =>
      cases ry
      obtain ⟨_,its2,r2,t2⟩:=(Rd.of hb).ok hok
      by_cases hab:a=b
      ·subst hab
       rw [a9x (n+1) (.tup ha rs) (.tup hb qs) p1 p2]
       exact EqAt.same _
      ·have l1:its.toArray.size=xs.length:=by rw [List.size_toArray,← r1.length,rs.len]
       have l2:its2.toArray.size=ys.length:=by rw [List.size_toArray,← r2.length,qs.len]
       have:=RcAt.tuples (A:=A) (s:=s) (e:=pairE xs ys) t1 t2 (by omega) (fun j h1 h2=>by
        have j1:j<xs.length:=by omega
        have j2:j<ys.length:=by omega
        obtain ⟨v1,e1,q1⟩:=rs.get (List.getElem?_eq_getElem j1)
        obtain ⟨v2,e2,q2⟩:=qs.get (List.getElem?_eq_getElem j2)
        obtain ⟨u1,e3,q3⟩:=r1.get e1
        obtain ⟨u2,e4,q4⟩:=r2.get e2
        have f1:its.toArray[j]=u1:=by simpa using (List.getElem?_eq_some_iff.mp e3).2
        have f2:its2.toArray[j]=u2:=by simpa using (List.getElem?_eq_some_iff.mp e4).2
        have pe:pairE xs ys j=eqD xs[j] ys[j]:=by simp [pairE,List.getElem?_eq_getElem j1,List.getElem?_eq_getElem j2]
        rw [f1,f2,pe]
        simp only [pur,List.all_eq_true] at p1 p2
        exact ih A.in1 q1 q2 q3 q4 (p1 _ (List.getElem_mem j1)) (p2 _ (List.getElem_mem j2)) (by rw [Around.in1_units];omega))
       rw [l1,l2,a1g] at this
       exact EqAt.of_refs hab this
    ·have e0:eqD (.tup xs) e=false:=by cases e<;>first | rfl | (cases g2;done)
     rw [e0]
     cases y with
     | non=>cases ry;exact EqAt.tuple_none t1 (by omega)
     | bl b=>cases ry;exact EqAt.tuple_bool b t1 (by omega)
     | int b=>obtain ⟨t,rfl⟩:=ry;exact EqAt.tuple_int b t t1 (by omega)
     | str b=>obtain ⟨t,rfl⟩:=ry;exact EqAt.tuple_str b t t1 (by omega)
     | _=>cases g1
  ·rcases yg q p2 with ⟨ys,rfl⟩ | ⟨g1,g2⟩
   ·cases q with
    | @tup b us _ hb qs =>
     cases ry
     obtain ⟨_,its2,r2,t2⟩:=(Rd.of hb).ok hok
     have e0:eqD d (.tup ys)=false:=by cases d<;>first | rfl | (cases f2;done)
     rw [e0]
     cases x with
     | non=>cases rx;exact EqAt.none_tuple t2 (by omega)
     | bl b=>cases rx;exact EqAt.bool_tuple b t2 (by omega)
     | int b=>obtain ⟨t,rfl⟩:=rx;exact EqAt.int_tuple b t t2 (by omega)
     | str b=>obtain ⟨t,rfl⟩:=rx;exact EqAt.str_tuple b t t2 (by omega)
     | _=>cases f1
   ·rw [← a1h r q f2 g2];exact ab1 rx ry f1 g1
open SeqAt in
theorem agi {A:Around} {s:Shared} {y x:V} {u v:Value} (ry:RelV y u) (rx:RelV x v) (fy:a3k y=true) (fx:a3k x=true):RcAt A s u v (eqV y x):=by
 cases y with
 | non =>
  cases ry
  cases x with
  | non=>cases rx;exact RcAt.none_none
  | bl b=>cases rx;exact RcAt.none_bool b
  | int b=>obtain ⟨t,rfl⟩:=rx;exact RcAt.none_int b t
  | str b=>obtain ⟨t,rfl⟩:=rx;exact RcAt.none_str b t
  | _=>cases fx
 | bl a =>
  cases ry
  cases x with
  | non=>cases rx;exact RcAt.bool_none a
  | bl b=>cases rx;exact RcAt.bool_bool a b
  | int b=>obtain ⟨t,rfl⟩:=rx;exact RcAt.bool_int a b t
  | str b=>obtain ⟨t,rfl⟩:=rx;exact RcAt.bool_str a b t
  | _=>cases fx
 | int a =>
  obtain ⟨t',rfl⟩:=ry
  cases x with
  | non=>cases rx;exact RcAt.int_none a t'
  | bl b=>cases rx;exact RcAt.int_bool a t' b
  | int b=>obtain ⟨t,rfl⟩:=rx;exact RcAt.int_int a t' b t
  | str b=>obtain ⟨t,rfl⟩:=rx;exact RcAt.int_str a t' b t
  | _=>cases fx
 | str a =>
  obtain ⟨t',rfl⟩:=ry
  cases x with
  | non=>cases rx;exact RcAt.str_none a t'
  | bl b=>cases rx;exact RcAt.str_bool a t' b
  | int b=>obtain ⟨t,rfl⟩:=rx;exact RcAt.str_int a t' b t
  | str b=>obtain ⟨t,rfl⟩:=rx;exact RcAt.str_str a t' b t
  | _=>cases fx
 | _=>cases fy
open SeqAt in
theorem a9y {A:Around} {s:Shared} {y x:V} {u v:Value} (ry:RelV y u) (rx:RelV x v) (fy:a3k y=true) (fx:a3k x=true):RcNeAt A s u v (!eqV y x):=by
 cases y with
 | non =>
  cases ry
  cases x with
  | non=>cases rx;exact RcNeAt.none_none
  | bl b=>cases rx;exact RcNeAt.none_bool b
  | int b=>obtain ⟨t,rfl⟩:=rx;exact RcNeAt.none_int b t
  | str b=>obtain ⟨t,rfl⟩:=rx;exact RcNeAt.none_str b t
  | _=>cases fx
 | bl a =>
  cases ry
  cases x with
  | non=>cases rx;exact RcNeAt.bool_none a
  | bl b=>cases rx;exact RcNeAt.bool_bool a b
  | int b=>obtain ⟨t,rfl⟩:=rx;exact RcNeAt.bool_int a b t
  | str b=>obtain ⟨t,rfl⟩:=rx;exact RcNeAt.bool_str a b t
  | _=>cases fx
 | int a =>
  obtain ⟨t',rfl⟩:=ry
  cases x with
  | non=>cases rx;exact RcNeAt.int_none a t'
  | bl b=>cases rx;exact RcNeAt.int_bool a t' b
  | int b=>obtain ⟨t,rfl⟩:=rx;exact RcNeAt.int_int a t' b t
  | str b=>obtain ⟨t,rfl⟩:=rx;exact RcNeAt.int_str a t' b t
  | _=>cases fx
 | str a =>
  obtain ⟨t',rfl⟩:=ry
  cases x with
  | non=>cases rx;exact RcNeAt.str_none a t'
  | bl b=>cases rx;exact RcNeAt.str_bool a t' b
  | int b=>obtain ⟨t,rfl⟩:=rx;exact RcNeAt.str_int a t' b t
  | str b=>obtain ⟨t,rfl⟩:=rx;exact RcNeAt.str_str a t' b t
  | _=>cases fx
 | _=>cases fy
open SeqAt in
theorem tops {P:Program} {w:World} {s:Shared} {A:Around} (hok:HOk P w H s.heap) {x y:V} {u v:Value} {d e:D} (r:Rep K ι H x d) (q:Rep K ι H y e) (rx:RelV x u) (ry:RelV y v) (p1:pur 60 d=true) (p2:pur 60 e=true) (hu:A.units+64<cLine) :
  RcAt A s u v (eqD d e)∧RcNeAt A s u v (!eqD d e):=by
 rcases yg r p1 with ⟨xs,rfl⟩ | ⟨f1,f2⟩
 ·cases r with
  | @tup a vs _ ha rs =>
   cases rx
   obtain ⟨_,its,r1,t1⟩:=(Rd.of ha).ok hok
   rcases yg q p2 with ⟨ys,rfl⟩ | ⟨g1,g2⟩
   ·cases q with
    | @tup b us _ hb qs =>
     cases ry
     obtain ⟨_,its2,r2,t2⟩:=(Rd.of hb).ok hok
     have l1:its.toArray.size=xs.length:=by rw [List.size_toArray,← r1.length,rs.len]
     have l2:its2.toArray.size=ys.length:=by rw [List.size_toArray,← r2.length,qs.len]
     have step:∀ j (h1:j<its.toArray.size) (h2:j<its2.toArray.size),EqAt A.in1 s its.toArray[j] its2.toArray[j] (pairE xs ys j):=fun j h1 h2=>by
      have j1:j<xs.length:=by omega
      have j2:j<ys.length:=by omega
      obtain ⟨v1,e1,q1⟩:=rs.get (List.getElem?_eq_getElem j1)
      obtain ⟨v2,e2,q2⟩:=qs.get (List.getElem?_eq_getElem j2)
      obtain ⟨u1,e3,q3⟩:=r1.get e1
      obtain ⟨u2,e4,q4⟩:=r2.get e2
      have f1:its.toArray[j]=u1:=by simpa using (List.getElem?_eq_some_iff.mp e3).2
      have f2:its2.toArray[j]=u2:=by simpa using (List.getElem?_eq_some_iff.mp e4).2
      have pe:pairE xs ys j=eqD xs[j] ys[j]:=by simp [pairE,List.getElem?_eq_getElem j1,List.getElem?_eq_getElem j2]
      rw [f1,f2,pe]
      simp only [pur,List.all_eq_true] at p1 p2
      exact agh hok 59 A.in1 q1 q2 q3 q4 (p1 _ (List.getElem_mem j1)) (p2 _ (List.getElem_mem j2)) (by rw [Around.in1_units];omega)
     have c1:=RcAt.tuples (A:=A) (s:=s) (e:=pairE xs ys) t1 t2 (by omega) step
     have c2:=RcNeAt.tuples (A:=A) (s:=s) (e:=pairE xs ys) t1 t2 (by omega) step
     rw [l1,l2,a1g] at c1 c2
     exact ⟨c1,c2⟩
   ·have e0:eqD (.tup xs) e=false:=by cases e<;>first | rfl | (cases g2;done)
    rw [e0]
    cases y with
    | non=>cases ry;exact ⟨RcAt.tuple_none t1 (by omega),RcNeAt.tuple_none t1 (by omega)⟩
    | bl b=>cases ry;exact ⟨RcAt.tuple_bool b t1 (by omega),RcNeAt.tuple_bool b t1 (by omega)⟩
    | int b=>obtain ⟨t,rfl⟩:=ry;exact ⟨RcAt.tuple_int b t t1 (by omega),RcNeAt.tuple_int b t t1 (by omega)⟩
    | str b=>obtain ⟨t,rfl⟩:=ry;exact ⟨RcAt.tuple_str b t t1 (by omega),RcNeAt.tuple_str b t t1 (by omega)⟩
    | _=>cases g1
 ·rcases yg q p2 with ⟨ys,rfl⟩ | ⟨g1,g2⟩
  ·cases q with
   | @tup b us _ hb qs =>
    cases ry
    obtain ⟨_,its2,r2,t2⟩:=(Rd.of hb).ok hok
    have e0:eqD d (.tup ys)=false:=by cases d<;>first | rfl | (cases f2;done)
    rw [e0]
    cases x with
    | non=>cases rx;exact ⟨RcAt.none_tuple t2 (by omega),RcNeAt.none_tuple t2 (by omega)⟩
    | bl b=>cases rx;exact ⟨RcAt.bool_tuple b t2 (by omega),RcNeAt.bool_tuple b t2 (by omega)⟩
    | int b=>obtain ⟨t,rfl⟩:=rx;exact ⟨RcAt.int_tuple b t t2 (by omega),RcNeAt.int_tuple b t t2 (by omega)⟩
    | str b=>obtain ⟨t,rfl⟩:=rx;exact ⟨RcAt.str_tuple b t t2 (by omega),RcNeAt.str_tuple b t t2 (by omega)⟩
    | _=>cases f1
  ·rw [← a1h r q f2 g2];exact ⟨agi rx ry f1 g1,a9y rx ry f1 g1⟩
def ajp (K:PySem.W.Frag):R2:=fun x y H Q=>∃ ι d e,Rep K ι H x d∧Rep K ι H y e∧pur 60 d=true∧pur 60 e=true∧Q (.bl (eqD d e)) H
theorem a0k {X:Cx} (hu:X.A.units+64<cLine):OpR X (compareOp .Eq) (ajp X.K):=by
 intro pins s σ H x y v u Q I rx ry h
 obtain ⟨ι,d,e,r,q,p1,p2,hq⟩:=h
 exact (tops (A:=X.A) I.hok r q rx ry p1 p2 hu).1 X.prog X.w X.xe _ ⟨.bl _,H,I,rfl,hq⟩
def hEq (x y:D) (h:Hd):R D:=if pur 60 x=true∧pur 60 y=true then .ok (.bl (eqD x y)) h else .no
def hNe (x y:D) (h:Hd):R D:=if pur 60 x=true∧pur 60 y=true then .ok (.bl (!eqD x y)) h else .no
theorem wg:a04 K hEq (ajp K):=by
 intro E ι H h x y dx dy Q rx ry hr o
 unfold hEq at o
 split at o
 ·rename_i hc;exact ⟨ι,dx,dy,rx,ry,hc.1,hc.2,ans o (.bl _) hr⟩
 ·exact o.elim
end
section
variable {X:Cx} {E:XD} {K:PySem.W.Frag}
def aj3:D→D→Hd→R D
 | .int i, .int j,h=>.ok (.int (i+j)) h
 | .str x, .str y,h=>if x.length+y.length≤LINE then .ok (.str (x++y)) h else .no
 | _,_,_=>.no
theorem a87:bootBuiltins "bool" = some (.type "bool"):=by first | exact PySem.boot_bool | exact PyProof.Rows.boot_bool
end
end MI
namespace ZP
open PySem PySem.Spec PySem.Builtin PySem.Builtin.SmallTypes
end ZP
namespace ZP
open PySem PySem.Spec PySem.Builtin PySem.Builtin.SmallTypes
end ZP
namespace ZP
open PySem PySem.Spec PySem.Builtin PySem.Builtin.SmallTypes L2
end ZP
namespace ZP
open PySem PySem.Spec PySem.Builtin PySem.Builtin.SmallTypes L2
end ZP
namespace MI
open PySem PySem.Spec L2 ZP
def srcOf (d:D) (h:Hd):Option (List D × (Hd→Prop)):=match d with
 | .tup xs=>some (xs,fun _=>True)
 | .rol xs=>some (xs,fun _=>True)
 | .str x=>some (zq x,fun _=>True)
 | .ref i=>(match h[i]? with | some (.lst xs)=>some (xs,fun h=>h[i]? = some (.lst xs)) | _=>none)
 | _=>none
def ahv (x y:D) (h:Hd):R Itm:=match srcOf x h,srcOf y h with
 | some (xs,c1),some (ys,c2)=>.ok ⟨(xs.zip ys).map fun p=>.tup [p.1,p.2],fun h=>c1 h∧c2 h⟩ h
 | _,_=>.no
def aj4 (f g:SE):SI:=fun τ h=>(f τ h).bind fun x h1=>(g τ h1).bind fun y h2=>ahv x y h2
end MI
namespace MI
open PySem PySem.Spec L2
end MI
namespace MI
open PySem PySem.Spec L2
def FrzOf (L:List Addr) (H H2:Hp):Prop:=∀ a,(a ∉ L→H2 a=H a)∧(a∈L→∃ o u,H a=some u∧H2 a=some (.frz o u))
def a3d (H:Hp) (L:List Addr):Prop:=∀ a∈L,(∃ xs,H a=some (.lst xs))∨(∃ kvs,H a=some (.dK kvs))∨∃ kvs,H a=some (.dT kvs)
def still:HO→Prop
 | .lst _=>False | .dK _=>False | .dT _=>False
 | _=>True
theorem FrzOf.still {L:List Addr} {H H2:Hp} (f:FrzOf L H H2) (ab:a3d H L) {a:Addr} {u:HO} (e:H a=some u) (st:MI.still u):H2 a=some u:=by
 rw [(f a).1 fun z=>?_]
 ·exact e
 ·rcases ab a z with ⟨_,q⟩ | ⟨_,q⟩ | ⟨_,q⟩<;>(rw [e] at q;cases q;exact st)
theorem Inv.frz {X:Cx} {pins:List (Addr × Obj)} {σ:St} {H:Hp} {s:Shared} {L:List Addr} (I:Inv X pins σ H s) (ab:a3d H L):∃ H2,FrzOf L H H2∧Inv X pins σ H2 s:=by
 have obj:∀ a∈L,∀ u,H a=some u→∃ o,s.heap.get? a=some o:=fun a ha u e=>by
  rcases ab a ha with ⟨_,q⟩ | ⟨_,q⟩ | ⟨_,q⟩
  ·obtain ⟨_,_,_,_,z⟩:=I.hok a _ q;exact ⟨_,z⟩
  ·obtain ⟨_,_,_,_,z⟩:=I.hok a _ q
   obtain ⟨o,_,_,z,_⟩:=z
   exact ⟨o,z⟩
  ·obtain ⟨_,_,_,_,o,_,_,z,_⟩:=I.hok a _ q;exact ⟨o,z⟩
 let H2:Hp:=fun a=>if a∈L then (match s.heap.get? a,H a with | some o,some u=>some (.frz o u) | _,w=>w) else H a
 have f:FrzOf L H H2:=fun a=>⟨fun h=>by simp [H2,h],fun h=>by
  obtain ⟨u,e⟩:∃ u,H a=some u:=by
   rcases ab a h with ⟨_,q⟩ | ⟨_,q⟩ | ⟨_,q⟩<;>exact ⟨_,q⟩
  obtain ⟨o,eo⟩:=obj a h u e
  exact ⟨o,u,e,by simp [H2,h,e,eo]⟩⟩
 refine ⟨H2,f,?_⟩
 have mv:∀ a u,ObjOk X.prog X.w H s.heap a u→ObjOk X.prog X.w H2 s.heap a u:=fun a u x=>x.stay (fun b v _ q=>q) (fun c q=>f.still ab q True.intro) fun c xs q=>f.still ab q True.intro
 have ok:HOk X.prog X.w H2 s.heap:=fun a u e=>by
  by_cases hl:a∈L
  ·obtain ⟨u0,e0⟩:∃ u,H a=some u:=by
    rcases ab a hl with ⟨_,q⟩ | ⟨_,q⟩ | ⟨_,q⟩<;>exact ⟨_,q⟩
   obtain ⟨o,eo⟩:=obj a hl u0 e0
   have e':H2 a=some (.frz o u0):=by simp [H2,hl,e0,eo]
   rw [e'] at e
   cases e
   exact ⟨eo,mv a u0 (I.hok a u0 e0)⟩
  ·rw [(f a).1 hl] at e
   exact mv a u (I.hok a u e)
 have fn:∀ b,H b=none→H2 b=none:=fun b n=>by
  rw [(f b).1 fun z=>?_]
  ·exact n
  ·rcases ab b z with ⟨_,q⟩ | ⟨_,q⟩ | ⟨_,q⟩<;>(rw [n] at q;cases q)
 have un:Un X.fs [] H H2 s.heap s.heap:=⟨fun b o q _ _ _=>q,fun b o q _ _ _=>⟨o.slots,q⟩,fun b o _ n _=>fn b n,fun b o q _=>⟨o,q⟩,fun b xs q=>f.still ab q True.intro,fun b o u q=>f.still ab q True.intro,fun b ps q=>⟨#[],by rw [f.still ab q True.intro];simp⟩⟩
 exact I.un (t':=s.toks) un ok
theorem a0l {X:Cx} {e:Expr} {t:TE} (h:PE X e t):PE X e (fun σ H Q=>t σ H fun v H1=>∃ L,a3d H1 L∧∀ H2,FrzOf L H1 H2→Q v H2):=fun pins s σ H Q I q =>
 thn (h pins s σ H _ I q) fun u s' ⟨v,H1,I1,r,L,ab,k⟩=>let ⟨H2,f,I2⟩:=Inv.frz I1 ab; ⟨v,H2,I2,r,k H2 f⟩
def uc {α β:Type} (f:α→Option β):List α→Option (List β)
 | []=>some []
 | x::xs=>match f x,uc f xs with | some y,some ys=>some (y::ys) | _,_=>none
open Classical in
noncomputable def a08 (n:Nat) (h:Hd):Nat→D→Option D
 | 0,_=>none
 | k+1,d=>if clo n d then some d else match d with
  | .tup xs=>(uc (a08 n h k) xs).map .tup
  | .rol xs=>(uc (a08 n h k) xs).map .rol
  | .scr xs=>(uc (a08 n h k) xs).map .scr
  | .rod ks xs=>(uc (a08 n h k) xs).map (.rod ks)
  | .rdT ks xs=>(uc (a08 n h k) xs).map (.rdT ks)
  | .ref i=>match h[i]? with
   | some (.lst xs)=>(uc (a08 n h k) xs).map .rol
   | some (.dK kvs)=>(uc (a08 n h k) (kvs.map (·.2))).map (.rod (kvs.map (·.1)))
   | some (.dT kvs)=>(uc (a08 n h k) (kvs.map (·.2))).map (.rdT (kvs.map (·.1)))
   | none=>none
  | _=>none
open Classical in
noncomputable def agj (n:Nat) (h:Hd) (k:Nat) (o:O):Option O:=if v4 n o then some o else match o with
 | .lst xs=>(uc (a08 n h k) xs).map .lst
 | .dK kvs=>(uc (a08 n h k) (kvs.map (·.2))).map fun ys=>.dK ((kvs.map (·.1)).zip ys)
 | .dT kvs=>(uc (a08 n h k) (kvs.map (·.2))).map fun ys=>.dT ((kvs.map (·.1)).zip ys)
abbrev FU:Nat:=20
noncomputable def a4v (n:Nat):R D→R D
 | .ok d h1=>match a08 n h1 FU d,uc (agj n h1 FU) (h1.take n) with | some d',some g=>.ok d' g | _,_=>.no
 | _=>.no
open Classical in
noncomputable def ael (n:Nat):R D→R D
 | .ok (.ref i) h1=>(match h1[i]? with
   | some o=>if n≤i∧v4 n o∧∀ u∈h1.take n,v4 n u then .ok (.ref n) (h1.take n++[o]) else .no
   | none=>.no)
 | _=>.no
section
variable {K:PySem.W.Frag} {ι ι':List Addr} {H H' H2:Hp} {h1:Hd} {n:Nat} {L:List Addr}
theorem a4w (f:FrzOf L H' H2) (ab:a3d H' L) (κ:List Addr):Gw κ H' κ H2:=⟨⟨[],by simp⟩,fun a vs e=>f.still ab e True.intro,fun a o u e=>f.still ab e True.intro⟩
theorem iy {K:PySem.W.Frag} {ι κ:List Addr} {H H2:Hp} {f:D→Option D} (ih:∀ {v d d'},Rep K ι H v d→f d=some d'→Rep K κ H2 v d'):∀ {vs:List V} {ds ds':List D},Reps K ι H vs ds→uc f ds=some ds'→Reps K κ H2 vs ds'
 | _,_,_, .nil,e=>by cases e;exact .nil
 | _,x::xs,_, .cons r rs,e=>by
  unfold uc at e
  split at e
  ·rename_i y ys h1 h2
   cases e
   exact .cons (ih r h1) (iy ih rs h2)
  ·cases e
theorem a1i (hr:HRep K ι' H' h1) (hL:∀ (i:Nat) a,ι'[i]? = some a→n≤i→a∈L) (f:FrzOf L H' H2) (ab:a3d H' L):∀ (k:Nat) {v:V} {d d':D},Rep K ι' H' v d→a08 n h1 k d=some d'→Rep K (ι'.take n) H2 v d':=by
 intro k
 induction k with
 | zero=>intro v d d' r e;cases e
 | succ k ih =>
  intro v d d' r e
  unfold a08 at e
  split at e
  ·rename_i c
   cases e
   exact (r.cut c).monoW (a4w f ab _)
  ·rename_i c
   cases r with
   | tup h rs =>
    simp only [Option.map_eq_some_iff] at e
    obtain ⟨ys,e1,rfl⟩:=e
    exact .tup (f.still ab h True.intro) (iy (fun r e=>ih r e) rs e1)
   | rol h rs =>
    simp only [Option.map_eq_some_iff] at e
    obtain ⟨ys,e1,rfl⟩:=e
    exact .rol (h.monoW (a4w f ab ι')) (iy (fun r e=>ih r e) rs e1)
   | scr h rs =>
    simp only [Option.map_eq_some_iff] at e
    obtain ⟨ys,e1,rfl⟩:=e
    exact .scr (h.monoW (a4w f ab ι')) (iy (fun r e=>ih r e) rs e1)
   | rod h ek rs =>
    simp only [Option.map_eq_some_iff] at e
    obtain ⟨ys,e1,rfl⟩:=e
    exact .rod (f.still ab h True.intro) ek (iy (fun r e=>ih r e) rs e1)
   | rdT h ek rs =>
    simp only [Option.map_eq_some_iff] at e
    obtain ⟨ys,e1,rfl⟩:=e
    exact .rdT (f.still ab h True.intro) ek (iy (fun r e=>ih r e) rs e1)
   | @ref a i ha =>
    have hi:n≤i:=by
     simp only [clo] at c
     omega
    obtain ⟨o,u,e1,e2⟩:=(f a).2 (hL i a ha hi)
    obtain ⟨ob,h3,h4⟩:=hr.at ha
    simp only [h3] at e
    cases ob with
    | lst xs =>
     simp only [Option.map_eq_some_iff] at e
     obtain ⟨ys,e3,rfl⟩:=e
     obtain ⟨vs,h5,h6⟩:=h4
     rw [e1] at h5;cases h5
     exact .rol ⟨o,e2⟩ (iy (fun r e=>ih r e) h6 e3)
    | dK kvs =>
     simp only [Option.map_eq_some_iff] at e
     obtain ⟨ys,e3,rfl⟩:=e
     obtain ⟨us,h5,h6,h7⟩:=h4
     rw [e1] at h5;cases h5
     exact .rod e2 h6 (iy (fun r e=>ih r e) h7 e3)
    | dT kvs =>
     simp only [Option.map_eq_some_iff] at e
     obtain ⟨ys,e3,rfl⟩:=e
     obtain ⟨us,h5,h6,h7⟩:=h4
     rw [e1] at h5;cases h5
     exact .rdT e2 h6 (iy (fun r e=>ih r e) h7 e3)
   | non=>simp only [clo,not_true_eq_false] at c
   | exc _ _ _=>simp only [clo,not_true_eq_false] at c
   | bl b=>simp only [clo,not_true_eq_false] at c
   | int b=>simp only [clo,not_true_eq_false] at c
   | str b=>simp only [clo,not_true_eq_false] at c
   | ty b=>simp only [clo,not_true_eq_false] at c
theorem a4x {κ:Type} {H:Hp} {us:List (κ × V)} {ks:List κ} {ys:List D} (e:us.map (·.1)=ks) (r:Reps K ι H (us.map (·.2)) ys):KRep K ι H us (ks.zip ys):=by
 have l:ks.length=ys.length:=by rw [← e,List.length_map,← r.len,List.length_map]
 refine ⟨?_,?_⟩
 ·rw [List.map_fst_zip (by omega)];exact e
 ·rw [List.map_snd_zip (by omega)];exact r
theorem ad5 (hr:HRep K ι' H' h1) (hL:∀ (i:Nat) a,ι'[i]? = some a→n≤i→a∈L) (f:FrzOf L H' H2) (ab:a3d H' L) {k:Nat} {a:Addr} {o o':O} (na:a ∉ L) (r:ORep K ι' H' a o) (e:agj n h1 k o=some o'):ORep K (ι'.take n) H2 a o':=by
 have same:H2 a=H' a:=(f a).1 na
 unfold agj at e
 split at e
 ·rename_i c
  cases e
  exact (r.cut c).monoW (a4w f ab _) same
 ·cases o with
  | lst xs =>
   simp only [Option.map_eq_some_iff] at e
   obtain ⟨ys,e1,rfl⟩:=e
   obtain ⟨vs,h3,h4⟩:=r
   exact ⟨vs,by rw [same];exact h3,iy (fun r e=>a1i hr hL f ab k r e) h4 e1⟩
  | dK kvs =>
   simp only [Option.map_eq_some_iff] at e
   obtain ⟨ys,e1,rfl⟩:=e
   obtain ⟨us,h3,h4,h5⟩:=r
   exact ⟨us,by rw [same];exact h3,a4x h4 (iy (fun r e=>a1i hr hL f ab k r e) h5 e1)⟩
  | dT kvs =>
   simp only [Option.map_eq_some_iff] at e
   obtain ⟨ys,e1,rfl⟩:=e
   obtain ⟨us,h3,h4,h5⟩:=r
   exact ⟨us,by rw [same];exact h3,a4x h4 (iy (fun r e=>a1i hr hL f ab k r e) h5 e1)⟩
theorem um {α β:Type} {f:α→Option β}:∀ {xs:List α} {ys:List β},uc f xs=some ys→xs.length=ys.length∧∀ (i:Nat) y,ys[i]? = some y→∃ x,xs[i]? = some x∧f x=some y
 | [],_,e=>by cases e;exact ⟨rfl,fun i y e=>by simp at e⟩
 | x::xs,ys,e=>by
  unfold uc at e
  split at e
  ·rename_i y ys h1 h2
   cases e
   obtain ⟨l,g⟩:=um h2
   refine ⟨by simp [l],fun i z e=>?_⟩
   cases i with
   | zero=>simp at e;subst e;exact ⟨x,rfl,h1⟩
   | succ i=>simpa using g i z (by simpa using e)
  ·cases e
theorem a88 (hr:HRep K ι' H' h1) (M:List Addr) (hM:∀ a∈M,a∈ι'):a3d H' M:=fun a ha=>by
 obtain ⟨i,hi⟩:=List.getElem?_of_mem (hM a ha)
 obtain ⟨o,_,q⟩:=hr.at hi
 cases o with
 | lst xs=>obtain ⟨vs,h,_⟩:=q;exact .inl ⟨_,h⟩
 | dK xs=>obtain ⟨vs,h,_⟩:=q;exact .inr (.inl ⟨_,h⟩)
 | dT xs=>obtain ⟨vs,h,_⟩:=q;exact .inr (.inr ⟨_,h⟩)
theorem zu {α:Type} {l:List α} (nd:l.Nodup) {i j:Nat} {a:α} (h1:l[i]? = some a) (h2:l[j]? = some a):i=j:=by
 obtain ⟨l1,e1⟩:=List.getElem?_eq_some_iff.mp h1
 obtain ⟨l2,e2⟩:=List.getElem?_eq_some_iff.mp h2
 rcases Nat.lt_trichotomy i j with l | l | l
 ·exact absurd (e1.trans e2.symm) (List.pairwise_iff_getElem.mp nd i j l1 l2 l)
 ·exact l
 ·exact absurd (e2.trans e1.symm) (List.pairwise_iff_getElem.mp nd j i l2 l1 l)
theorem agk (g:Gr ι H ι' H') (f:FrzOf L H' H2) (ab:a3d H' L) (hL:∀ a∈L,H a=none) {m:List Addr} (hm:∀ a∈m,H a=none):Gr ι H (ι++m) H2:=by
 refine ⟨⟨m,rfl,hm⟩,fun a vs e=>f.still ab (g.tup a vs e) True.intro,fun a o u e=>f.still ab (g.frz a o u e) True.intro,fun a u e hn=>?_,fun a u e=>?_⟩
 ·rw [(f a).1 fun z=>by rw [hL a z] at e;cases e]
  exact g.oth a u e hn
 ·obtain ⟨u',e'⟩:=g.kp a u e
  rw [(f a).1 fun z=>by rw [hL a z] at e;cases e]
  exact ⟨u',e'⟩
theorem a89 {d d':D} {v:V} {g':Hd} (g:Gr ι H ι' H') (rb:Rep K ι' H' v d) (hr:HRep K ι' H' h1) (e:a4v ι.length (.ok d h1) = .ok d' g') :
  ∃ L,a3d H' L∧∀ H2,FrzOf L H' H2→Gr ι H ι H2∧Rep K ι H2 v d'∧HRep K ι H2 g':=by
 obtain ⟨m,rfl,hm⟩:=g.pre
 have tk:(ι++m).take ι.length=ι:=by simp
 have ab:a3d H' m:=a88 hr m fun a ha=>List.mem_append_right _ ha
 have hL:∀ (i:Nat) a,(ι++m)[i]? = some a→ι.length≤i→a∈m:=fun i a e hi=>by
  rw [List.getElem?_append_right hi] at e
  exact List.mem_of_getElem? e
 refine ⟨m,ab,fun H2 f=>?_⟩
 unfold a4v at e
 simp only at e
 split at e
 ·rename_i dd gg e1 e2
  cases e
  refine ⟨by simpa using agk g f ab hm (m:=[]) (by simp),by have:=a1i hr hL f ab FU rb e1;rwa [tk] at this,?_⟩
  obtain ⟨l,gt⟩:=um e2
  have hl:=hr.len
  have ln:ι.length≤h1.length:=by rw [← hl];simp
  refine ⟨(List.nodup_append.mp hr.nd).1,by rw [← l,List.length_take];omega,fun i a o q1 q2=>?_⟩
  obtain ⟨x,hx,fx⟩:=gt i o q2
  have hi:i<ι.length:=(List.getElem?_eq_some_iff.mp q1).1
  rw [List.getElem?_take,if_pos hi] at hx
  have q3:(ι++m)[i]? = some a:=by rw [List.getElem?_append_left hi];exact q1
  have na:a ∉ m:=fun z=>(List.nodup_append.mp hr.nd).2.2 a (List.mem_of_getElem? q1) a z rfl
  have:=ad5 hr hL f ab na (hr.obj i a x q3 hx) fx
  rwa [tk] at this
 ·cases e
theorem a9z {d d':D} {v:V} {g':Hd} (g:Gr ι H ι' H') (rb:Rep K ι' H' v d) (hr:HRep K ι' H' h1) (e:ael ι.length (.ok d h1) = .ok d' g') :
  ∃ b,H b=none∧Gr ι H (ι++[b]) H'∧Rep K (ι++[b]) H' v d'∧HRep K (ι++[b]) H' g':=by
 obtain ⟨m,rfl,hm⟩:=g.pre
 have tk:(ι++m).take ι.length=ι:=by simp
 have up:∀ b,Gw ι H' (ι++[b]) H':=fun b=>⟨⟨[b],rfl⟩,fun _ _ h=>h,fun _ _ _ h=>h⟩
 cases rb with
 | @ref b i hb =>
  unfold ael at e
  simp only at e
  split at e
  ·rename_i ob ho
   split at e
   ·rename_i hc
    obtain ⟨hi,c1,c2⟩:=hc
    cases e
    have hb':=hb
    rw [List.getElem?_append_right hi] at hb'
    have bm:b∈m:=List.mem_of_getElem? hb'
    obtain ⟨nd1,nd2,nd3⟩:=List.nodup_append.mp hr.nd
    have hl:=hr.len
    have ln:ι.length≤h1.length:=by rw [← hl];simp
    have lt:(h1.take ι.length).length=ι.length:=by rw [List.length_take];omega
    refine ⟨b,hm b bm,⟨⟨[b],rfl,by simpa using hm b bm⟩,g.tup,g.frz,g.oth,g.kp⟩, .ref (by simp),?_⟩
    refine ⟨List.nodup_append.mpr ⟨nd1,by simp,fun a ha c hc z=>nd3 a ha c (by rw [List.mem_singleton.mp hc];exact bm) z⟩,by simp [lt],fun j a o q1 q2=>?_⟩
    by_cases hj:j<ι.length
    ·rw [List.getElem?_append_left hj] at q1
     rw [List.getElem?_append_left (by omega)] at q2
     have q2':=q2
     rw [List.getElem?_take,if_pos hj] at q2'
     have:=(hr.obj j a o (by rw [List.getElem?_append_left hj];exact q1) q2').cut (c2 o (List.mem_of_getElem? q2))
     rw [tk] at this
     exact this.monoW (up b) rfl
    ·have hj2:j<(ι++[b]).length:=(List.getElem?_eq_some_iff.mp q1).1
     have:j=ι.length:=by simp at hj2;omega
     subst this
     rw [List.getElem?_append_right (Nat.le_refl _)] at q1
     rw [List.getElem?_append_right (by omega),lt] at q2
     simp at q1 q2
     subst q1 q2
     have:=(hr.obj i b ob hb ho).cut c1
     rw [tk] at this
     exact this.monoW (up b) rfl
   ·cases e
  ·cases e
 | _=>cases e
end
noncomputable def sZ (f:SE):SE:=fun τ h=>a4v h.length (f τ h)
abbrev akz (Q:VK):VK:=fun v H1=>∃ L,a3d H1 L∧∀ H2,FrzOf L H1 H2→Q v H2
theorem al0 {K:PySem.W.Frag} {E:XD} {fa:SE} {σ:St} {H:Hp} {Q:VK} (q:lift K E (ul K) (sZ fa) σ H Q):lift K E (ul K) fa σ H (akz Q):=by
 obtain ⟨ι,τ,h,S,Rh,o⟩:=q
 refine ⟨ι,τ,h,S,Rh,?_⟩
 unfold sZ at o
 rw [← Rh.len] at o
 cases hf:fa τ h with
 | ok d h1 =>
  rw [hf] at o
  intro ι' H' v g r hr
  cases hz:a4v ι.length (.ok d h1) with
  | ok d' g' =>
   rw [hz] at o
   obtain ⟨L,ab,k⟩:=a89 g r hr hz
   refine ⟨L,ab,fun H2 f=>?_⟩
   obtain ⟨k1,k2,k3⟩:=k H2 f
   exact o ι H2 v k1 k2 k3
  | ex c hx=>unfold a4v at hz;simp only at hz;split at hz<;>cases hz
  | no=>rw [hz] at o;exact o.elim
 | ex c h1=>rw [hf] at o;exact o.elim
 | no=>rw [hf] at o;exact o.elim
theorem abe {X:Cx} {E:XD} {e:Expr} {fa:SE} (ha:ME X E e fa):ME X E e (sZ fa):=PE.weak (a0l ha) fun σ H Q q=>al0 q
def refOf:D→Option Nat
 | .ref i=>some i
 | _=>none
def v5 (ds:List D):List Nat:=ds.filterMap refOf
def ud:Nat→List D→List D
 | _,[]=>[]
 | k,d::ds=>match d with
  | .ref _=>.ref k::ud (k+1) ds
  | d=>d::ud k ds
def kh:Hd→List Nat→List O→Hd
 | h,i::is,o::os=>kh (h.set i o) is os
 | h,_,_=>h
def isRef (d:D):Prop:=∃ i,d = .ref i
open Classical in
noncomputable def aem (m:Bool) (F:SF) (ds:List D) (h:Hd):R D:=match uc (fun i=>h[i]?) (v5 ds) with
 | none=>.no
 | some os=>if (v5 ds).Nodup∧(∀ d∈ds,clo 0 d∨isRef d)∧(∀ o∈os,v4 0 o) then
   (match (if m then ael os.length (F (ud 0 ds) os) else a4v os.length (F (ud 0 ds) os)) with
   | .ok d h1=>if ∀ o∈h1,v4 0 o then
     (if m then .ok (.ref h.length) (kh h (v5 ds) h1++h1.drop os.length)
      else if clo 0 d then .ok d (kh h (v5 ds) h1) else .no) else .no
   | _=>.no)
  else .no
noncomputable def jz (m:Bool) (n:Nat) (F:SF):SF:=fun ds h=>if ds.length=n then aem m F ds h else .no
section
variable {K:PySem.W.Frag} {ι ι':List Addr} {H H' H2:Hp} {h h1:Hd} {n:Nat}
theorem abf (κ:List Addr):Gw [] H κ H:=⟨⟨κ,rfl⟩,fun _ _ h=>h,fun _ _ _ h=>h⟩
theorem Rep.any {v:V} {d:D} (r:Rep K ι H v d) (c:MI.clo 0 d) (κ:List Addr):Rep K κ H v d:=by
 have:=r.cut c
 rw [List.take_zero] at this
 exact this.monoW (abf κ)
theorem ORep.any {a:Addr} {o:O} (r:ORep K ι H a o) (c:v4 0 o) (κ:List Addr):ORep K κ H a o:=by
 have:=r.cut c
 rw [List.take_zero] at this
 exact this.monoW (abf κ) rfl
theorem a2p {α:Type} (l:List α):∀ {is:List Nat},(∀ i∈is,i<l.length)→∃ ys,uc (fun i=>l[i]?) is=some ys
 | [],_=>⟨[],rfl⟩
 | i::is,hi=>by
  obtain ⟨ys,e⟩:=a2p l (is:=is) fun j hj=>hi j (List.mem_cons_of_mem _ hj)
  have:=hi i List.mem_cons_self
  exact ⟨l[i]::ys,by unfold uc;rw [e,List.getElem?_eq_getElem this]⟩
theorem wj:∀ {ds:List D} {vs:List V} {pre κ:List Addr},Reps K ι H vs ds→(∀ d∈ds,clo 0 d∨isRef d)→uc (fun i=>ι[i]?) (v5 ds)=some κ→Reps K (pre++κ) H vs (ud pre.length ds)
 | [],_,_,_, .nil,_,_=>.nil
 | d::ds,_,pre,κ, .cons r rs,hc,e=>by
  have hc':∀ d∈ds,clo 0 d∨isRef d:=fun x hx=>hc x (List.mem_cons_of_mem _ hx)
  by_cases hd:isRef d
  ·obtain ⟨i,rfl⟩:=hd
   have e':uc (fun i=>ι[i]?) (i::v5 ds)=some κ:=e
   unfold uc at e'
   split at e'
   ·rename_i a κ' h1 h2
    cases e'
    cases r with
    | ref ha =>
     rw [ha] at h1;cases h1
     have:=wj (pre:=pre++[a]) rs hc' h2
     simp only [List.append_assoc,List.singleton_append,List.length_append,List.length_singleton] at this
     refine .cons (.ref ?_) this
     rw [List.getElem?_append_right (Nat.le_refl _)]
     simp
   ·cases e'
  ·have c:=(hc d List.mem_cons_self).resolve_right hd
   have e1:v5 (d::ds)=v5 ds:=by
    unfold v5
    cases d<;>first | rfl | exact absurd ⟨_,rfl⟩ hd
   have e2:ud pre.length (d::ds)=d::ud pre.length ds:=by
    cases d<;>first | rfl | exact absurd ⟨_,rfl⟩ hd
   rw [e1] at e
   rw [e2]
   exact .cons (r.any c _) (wj rs hc' e)
theorem qj:∀ {is:List Nat} {os:List O} {h:Hd},(kh h is os).length=h.length
 | [],_,_=>by simp [kh]
 | _::_,[],_=>by simp [kh]
 | i::is,o::os,h=>by rw [kh,qj,List.length_set]
theorem wu {i:Nat}:∀ {is:List Nat} {os:List O} {h:Hd},i ∉ is→(kh h is os)[i]? = h[i]?
 | [],_,_,_=>by simp [kh]
 | _::_,[],_,_=>by simp [kh]
 | j::is,o::os,h,n=>by
  rw [kh,wu fun z=>n (List.mem_cons_of_mem _ z),List.getElem?_set_ne fun z=>n (by rw [z];exact List.mem_cons_self)]
theorem a2q {i:Nat} {o:O}:∀ {is:List Nat} {os:List O} {h:Hd} {j:Nat},is.Nodup→is[j]? = some i→os[j]? = some o→i<h.length→(kh h is os)[i]? = some o
 | [],_,_,_,_,e,_,_=>by simp at e
 | _::_,[],_,_,_,_,e,_=>by simp at e
 | k::is,o'::os,h,j,nd,e1,e2,hl=>by
  cases j with
  | zero =>
   simp at e1 e2
   subst e1 e2
   rw [kh,wu (List.nodup_cons.mp nd).1,List.getElem?_set_self hl]
  | succ j =>
   rw [kh]
   exact a2q (j:=j) (List.nodup_cons.mp nd).2 (by simpa using e1) (by simpa using e2) (by simpa using hl)
theorem a2r {α:Type} {l:List α} (nl:l.Nodup) {is:List Nat} {ys:List α} (e:uc (fun i=>l[i]?) is=some ys) (ni:is.Nodup):ys.Nodup:=by
 obtain ⟨le,g⟩:=um e
 refine List.pairwise_iff_getElem.mpr fun i j hi hj lt z=>?_
 obtain ⟨x,h1,h2⟩:=g i _ (List.getElem?_eq_getElem hi)
 obtain ⟨y,h3,h4⟩:=g j _ (List.getElem?_eq_getElem hj)
 rw [← z] at h4
 have:=zu nl h2 h4
 subst this
 have:=zu ni h1 h3
 omega
theorem a4y {is:List Nat} {κ m:List Addr} {g:Hd} (hr:HRep K ι H h) (e1:uc (fun i=>ι[i]?) is=some κ) (nd:is.Nodup) (gr:Gr κ H (κ++m) H2) (hg:HRep K (κ++m) H2 g) (cg:∀ o∈g,v4 0 o) (hm:m.length≤1) :
  Gr ι H (ι++m) H2∧HRep K (ι++m) H2 (kh h is g++g.drop κ.length):=by
 obtain ⟨l1,g1⟩:=um e1
 have mn:∀ a∈m,H a=none:=by
  obtain ⟨m',e,hm'⟩:=gr.pre
  rw [List.append_cancel_left e];exact hm'
 have sub:∀ a∈κ,a∈ι:=fun a ha=>by
  obtain ⟨j,hj⟩:=List.getElem?_of_mem ha
  obtain ⟨i,_,q⟩:=g1 j a hj
  exact List.mem_of_getElem? q
 have some_of:∀ a∈ι,∃ u,H a=some u:=fun a ha=>by
  obtain ⟨i,hi⟩:=List.getElem?_of_mem ha
  obtain ⟨o,_,q⟩:=hr.at hi
  obtain ⟨u,q,_⟩:=q.some
  exact ⟨u,q⟩
 have G:Gr ι H (ι++m) H2:=⟨⟨m,rfl,mn⟩,gr.tup,gr.frz,fun a u e n=>gr.oth a u e fun z=>n (sub a z),gr.kp⟩
 have lg:=hg.len
 rw [List.length_append] at lg
 refine ⟨G,?_,?_,fun j a o q1 q2=>?_⟩
 ·refine List.nodup_append.mpr ⟨hr.nd,(List.nodup_append.mp hg.nd).2.1,fun a ha b hb z=>?_⟩
  obtain ⟨u,q⟩:=some_of a ha
  rw [z,mn b hb] at q;cases q
 ·rw [List.length_append,List.length_append,qj,List.length_drop,hr.len];omega
 ·by_cases hj:j<ι.length
  ·rw [List.getElem?_append_left hj] at q1
   rw [List.getElem?_append_left (by rw [qj,← hr.len];exact hj)] at q2
   by_cases hp:j∈is
   ·obtain ⟨k,hk⟩:=List.getElem?_of_mem hp
    have hkl:k<κ.length:=by rw [← l1];exact (List.getElem?_eq_some_iff.mp hk).1
    obtain ⟨i,h3,h4⟩:=g1 k _ (List.getElem?_eq_getElem hkl)
    rw [hk] at h3;cases h3
    rw [q1] at h4
    have hkg:k<g.length:=by omega
    have e5:=a2q (h:=h) nd hk (List.getElem?_eq_getElem hkg) (by rw [← hr.len];exact hj)
    rw [e5] at q2
    cases q2
    have ea:(κ++m)[k]? = some a:=by rw [List.getElem?_append_left hkl,List.getElem?_eq_getElem hkl];exact h4.symm
    exact (hg.obj k a _ ea (List.getElem?_eq_getElem hkg)).any (cg _ (List.getElem_mem hkg)) _
   ·rw [wu hp] at q2
    have r:=hr.obj j a o q1 q2
    obtain ⟨u,hu,_⟩:=r.some
    have na:a ∉ κ:=fun z=>by
     obtain ⟨k,hk⟩:=List.getElem?_of_mem z
     obtain ⟨i,h3,h4⟩:=g1 k a hk
     have:=zu hr.nd q1 h4
     subst this
     exact hp (List.mem_of_getElem? h3)
    exact r.mono G (by rw [hu];exact gr.oth a u hu na)
  ·have q1':=q1
   rw [List.getElem?_append_right (by omega)] at q1
   rw [List.getElem?_append_right (by rw [qj,← hr.len];omega),qj,← hr.len,List.getElem?_drop] at q2
   have ea:(κ++m)[κ.length+(j - ι.length)]? = some a:=by rw [List.getElem?_append_right (by omega)];simpa using q1
   exact (hg.obj _ a o ea q2).any (cg o (List.mem_of_getElem? q2)) _
theorem zx {m:Bool} {F:SF} {vs:List V} {ds:List D} {Q:VK} (r:Reps K ι H vs ds) (hr:HRep K ι H h) (o:out K X0 (ul K) ι H (jz m n F ds h) Q) (E:XK) :
  qx K n F vs H (fun v H1=>∃ L,a3d H1 L∧∀ H2,FrzOf L H1 H2→Q v H2) E:=by
 unfold jz at o
 split at o
 ·rename_i hl
  refine ⟨by rw [r.len];exact hl,?_⟩
  unfold aem at o
  split at o
  ·exact o.elim
  ·rename_i os hos
   split at o
   ·rename_i hc
    obtain ⟨nd,hd,hcl⟩:=hc
    obtain ⟨l0,g0⟩:=um hos
    obtain ⟨κ,e1⟩:=a2p ι (is:=v5 ds) fun i hi=>by
     obtain ⟨j,hj⟩:=List.getElem?_of_mem hi
     have hjl:j<os.length:=by rw [← l0];exact (List.getElem?_eq_some_iff.mp hj).1
     obtain ⟨x,h3,h4⟩:=g0 j _ (List.getElem?_eq_getElem hjl)
     rw [hj] at h3;cases h3
     rw [hr.len]
     exact (List.getElem?_eq_some_iff.mp h4).1
    obtain ⟨l1,g1⟩:=um e1
    have lk:κ.length=os.length:=by omega
    have R0:Reps K κ H vs (ud 0 ds):=by simpa using wj (pre:=[]) r hd e1
    have H0:HRep K κ H os:=by
     refine ⟨a2r hr.nd e1 nd,lk,fun j a ob q1 q2=>?_⟩
     obtain ⟨i,h3,h4⟩:=g1 j a q1
     obtain ⟨i',h5,h6⟩:=g0 j ob q2
     rw [h3] at h5;cases h5
     exact (hr.obj i a ob h4 h6).any (hcl ob (List.mem_of_getElem? q2)) _
    refine ⟨κ,ud 0 ds,os,R0,H0,?_⟩
    cases hF:F (ud 0 ds) os with
    | no=>rw [hF] at o;cases m<;>exact o.elim
    | ex c hx=>rw [hF] at o;cases m<;>exact o.elim
    | ok d h1 =>
     rw [hF] at o
     intro ι' H' v g rb hr1
     rw [← lk] at o
     cases m with
     | false =>
      simp only [Bool.false_eq_true,if_false] at o
      cases hz:a4v κ.length (.ok d h1) with
      | ok d' g' =>
       rw [hz] at o
       simp only at o
       obtain ⟨L,ab,k⟩:=a89 g rb hr1 hz
       refine ⟨L,ab,fun H2 f=>?_⟩
       obtain ⟨k1,k2,k3⟩:=k H2 f
       split at o
       ·rename_i cg
        split at o
        ·rename_i cd
         have q:=a4y (m:=[]) hr e1 nd (by simpa using k1) (by simpa using k3) cg (by simp)
         have lg:=k3.len
         have dr:g'.drop κ.length=[]:=List.drop_eq_nil_of_le (by omega)
         rw [dr,List.append_nil,List.append_nil] at q
         exact o ι H2 v q.1 (k2.any cd _) q.2
        ·exact o.elim
       ·exact o.elim
      | ex c hx=>rw [hz] at o;exact o.elim
      | no=>rw [hz] at o;exact o.elim
     | true =>
      simp only [if_true] at o
      cases hz:ael κ.length (.ok d h1) with
      | ok d' g' =>
       rw [hz] at o
       simp only at o
       obtain ⟨b,hb,k1,k2,k3⟩:=a9z g rb hr1 hz
       refine ⟨[],fun a ha=>(by simp at ha),fun H2 f=>?_⟩
       have e2:H2=H':=by funext a;exact (f a).1 (by simp)
       subst e2
       split at o
       ·rename_i cg
        have q:=a4y (m:=[b]) hr e1 nd k1 k3 cg (by simp)
        refine o (ι++[b]) H2 v q.1 ?_ q.2
        have hd':d' = .ref κ.length:=by
         unfold ael at hz
         split at hz
         ·rename_i i h2 hh
          injection hh with z1 z2
          split at hz
          ·split at hz
           ·injection hz with z3 z4;exact z3.symm
           ·cases hz
          ·cases hz
         ·cases hz
        subst hd'
        cases k2 with
        | ref hk =>
         rw [List.getElem?_append_right (Nat.le_refl _)] at hk
         simp at hk
         subst hk
         exact .ref (by rw [← hr.len];simp)
       ·exact o.elim
      | ex c hx=>rw [hz] at o;exact o.elim
      | no=>rw [hz] at o;exact o.elim
   ·exact o.elim
 ·exact o.elim
end
theorem dm (m:Bool) {X:Cx} {k n:Nat} {f:Addr} {fd:FuncData} {ps:List Str} {x:Str} {F:SF} {ka:SA} {e:Expr} {es:List Expr} {p pos:Pos} (G:Dn X.prog X.w X.K X.mg X.base k x ps (qx X.K n F) f fd) (hr:Room k X.A) (hg:Gl X x) (ha:MA X X0 (e::es) ka)
  (hdb:(x == ("__debug__" : Str))=false:=by decide) (he:starEach (e::es) X.env=(false,eval e X.env)::starEach es X.env:=by rfl) (hpl:(backTo pos (starEach es X.env)).any (·.1)=false:=by rfl):ME X X0 (.Call (.Name x p) (e::es) [] pos) (sA (jz m n F) ka):=by
 refine PE.weak (a0l (a3h G.ok hr hg G.m G.kp G.b .nil acg ha hdb he hpl)) fun σ H Q ⟨ι,τ,h,S,Rh,o⟩=>?_
 refine ⟨ι,τ,h,S,Rh,cu o fun ds h1 ι1 H1 vs g1 r1 hr1 o1=>?_⟩
 rw [List.append_nil]
 exact zx r1 hr1 o1 _
theorem a8a (m:Bool) {X:Cx} {k n:Nat} {f:Addr} {fd:FuncData} {ps:List Str} {x:Str} {F:SF} {p pos:Pos} (G:Dn X.prog X.w X.K X.mg X.base k x ps (qx X.K n F) f fd) (hr:Room k X.A) (hg:Gl X x) (hdb:(x == ("__debug__" : Str))=false:=by decide) :
  ME X X0 (.Call (.Name x p) [] [] pos) (sA (jz m n F) dw):=by
 refine PE.weak (a0l (a9e G.ok hr hg G.m G.kp G.b .nil acg hdb)) fun σ H Q ⟨ι,τ,h,S,Rh,o⟩=>?_
 exact zx (vs:=[]) .nil Rh o E0
end MI
namespace MI
open PySem PySem.Spec L2
def abg:SS:=fun _ _=>.no
section
variable {X:Cx} {E:XD}
theorem a0m {st:List Stmt}:MSs X E st abg:=fun _ _ _ _ _ _ ⟨_,_,_,_,_,o⟩=>o.elim
end
theorem ql {P:Program} {w:World} {K:PySem.W.Frag} {mg:Str→Option Value} {base:Heap} {x qual:Str} {st:Stmt} {f:Addr} {fd:FuncData} {N ps:List Str} {k:Nat} {b:SS} (Fu:Fun K x qual st f fd) (S:FnScope N ps (ao st))
  (hb:∀ (cdv:Value) (A:Around) (outer:List Env) (s:Shared) (H:Hp) (E:XK),Room k (A.deeper (PyProof.Rows.envOfC qual (ao st) s.heap.objs.size f cdv))→MSs (zg CX0 P w K mg base N qual (ao st) f cdv A outer s H E).nox X0 (gj st) b) :
  FnOk P w K mg base CX0 (k+1) f fd ps (qx K ps.length (lz b N.length)):=agb Fu S hb fun ds h _ _ _=>Rf.same rfl
end MI
namespace MI
open PySem PySem.Spec L2 HT
theorem a67 {prog:Program} {w:World} {A:Around} {E:Value→Shared→Prop} {s:Shared} {t sl:Addr} {items:Array Value} {vl vu:Value} {lo hi:Option Int} {Q:Value→Shared→Prop} (ht:PyProof.Rows.IsTup s.heap t items) (hs:s.heap.IsSliceOf sl vl vu .none) (pl:IsPart vl lo) (pu:IsPart vu hi)
  (hw:HT.sIx items.size 0 lo=0∧HT.sIx items.size items.size hi=items.size) (h:Q (.ref t) s):wpAny (model prog w) A (getItem (.ref t) (.ref sl)) Q E s:=by
 obtain ⟨os,f1,f2,f3⟩:=id hs
 have ty:s.TypeIs (.ref sl) "slice":=⟨os,f1,f2⟩
 have tt:s.TypeIs (.ref t) "tuple":=ht.typeIs
 rw [getItem]
 try apply wpAny_holding
 first | (apply wpAny_bind;apply wpAny_pure) | skip
 apply wpAny_bind;apply wpAny_sequenceKey tt (by decide)
 apply wpAny_bind
 apply wpAny_callSpecial?_slot (name:=Str.ofString "__getitem__") tt PyProof.Rows.slot_tuple_getitem
 apply wpAny_call_entry PyProof.Rows.slot_tuple_getitem tt PyProof.Rows.entry_tuple_getitem _ (PyProof.Rows.args_tuple_getitem _ _)
 change wpAny (model prog w) A.in1 (Builtin.Tuple.tupleItemsOf (.ref t)>>=_) _ _ s
 apply wpAny_bind;apply PyProof.Rows.tupleItemsOf_ ht
 apply wpAny_bind;apply wpAny_typeOf ty
 rw [if_pos (by decide)]
 apply wpAny_bind;apply HT.rn hs pl pu
 rw [hw.1,hw.2]
 dsimp only
 rw [if_pos (by simp)]
 apply wpAny_bind
 rw [Builtin.Tuple.tupleIsExact]
 apply wpAny_bind;apply wpAny_typeOf tt
 apply wpAny_pure
 rw [if_pos (by decide)]
 apply wpAny_bind;apply wpAny_rule
 apply wpAny_pure
 exact ⟨_,rfl,wpAny_pure h⟩
def ajq (K:PySem.W.Frag):V→Option Int→Option Int→Hp→VK→Prop:=fun x lo hi H Q=>∃ a xs,x = .ref a∧SqT K H a xs∧whole xs.length lo hi∧Q (.ref a) H
theorem aa0 {X:Cx}:SlR X (ajq X.K):=by
 intro pins s σ H x v vl vu lo hi sl Q I rx hs pl pu h
 obtain ⟨a,xs,rfl,hx,hw,q⟩:=h
 cases rx
 obtain ⟨its,r,ht,hz⟩:=I.tuple hx
 have hlen:its.toArray.size=xs.length:=by rw [List.size_toArray];exact r.length.symm
 exact ⟨"tuple",_,PyProof.Rows.slot_tuple_getitem.lookup,ht.typeIs,a67 ht hs pl pu (by rw [hlen];exact hw) ⟨.ref a,H,I,rfl,q⟩⟩
def a92 (d:D) (lo hi:Option Int) (h:Hd):R D:=match d with
 | .tup xs=>if whole xs.length lo hi then .ok (.tup xs) h else .ok (.tup (a0z xs lo hi)) h
 | d=>gSl d lo hi h
def a3e (f:SE) (l u:SO):SE:=fun τ h=>(f τ h).bind fun d h1=>(l τ h1).bind fun lo h2=>(u τ h2).bind fun hi h3=>a92 d lo hi h3
theorem ad6 {K:PySem.W.Frag} {E:XD} {ι:List Addr} {H:Hp} {h:Hd} {x:V} {d:D} {lo hi:Option Int} {Q:VK} (rx:Rep K ι H x d) (hr:HRep K ι H h) (o:out K E (ul K) ι H (a92 d lo hi h) Q):(aiv x lo hi H Q∨aim K x lo hi H Q∨aio K x lo hi H Q)∨ajq K x lo hi H Q:=by
 cases rx with
 | @tup p vs xs hp r =>
  by_cases hc:whole xs.length lo hi
  ·simp only [a92,if_pos hc] at o
   exact .inr ⟨p,vs,rfl,SqT.of hp,by rw [r.len];exact hc,ans o (.tup hp r) hr⟩
  ·simp only [a92,if_neg hc] at o
   exact .inl (.inr (.inl ⟨p,vs,rfl,SqT.of hp,by rw [r.len];exact hc,zp (vg r lo hi) hr o⟩))
 | non=>exact o.elim
 | bl _=>exact o.elim
 | int _=>exact o.elim
 | ty _=>exact o.elim
 | str z=>exact .inl (a4s (.str z) hr o)
 | rol a b=>exact .inl (a4s (.rol a b) hr o)
 | scr a b=>exact .inl (a4s (.scr a b) hr o)
 | rod a b c=>exact o.elim
 | rdT a b c=>exact o.elim
 | exc a b c=>exact o.elim
 | ref a=>exact .inl (a4s (.ref a) hr o)
theorem vm {X:Cx} {E:XD} {e:Expr} {fa:SE} {lo hi:Option Expr} {l u:SO} {p2 pos:Pos} (he:ME X E e fa) (hl:MO X E lo l) (hu:MO X E hi u):ME X E (.Subscript e (.Slice lo hi none p2) pos) (a3e fa l u):=by
 refine PE.weak (a9g ((ag0.or (afp.or ace)).or aa0) he hl hu) fun σ H Q ⟨ι,τ,h,S,Rh,o⟩=>?_
 refine ⟨ι,τ,h,S,Rh,cu o fun d h1 ι1 H1 v g1 r1 hr1 o1=>?_⟩
 refine ⟨ι1,τ,h1,S.mono g1,hr1,cu o1 fun lo h2 ι2 H2 lv g2 r2 hr2 o2=>?_⟩
 refine ⟨ι2,τ,h2,(S.mono g1).mono g2,hr2,cu o2 fun hi h3 ι3 H3 hv g3 r3 hr3 o3=>?_⟩
 cases r2;cases r3
 exact ad6 ((r1.mono g2).mono g3) hr3 o3
end MI
namespace TPM
open PySem PySem.Spec PySem.W L2 HT MI
theorem sr:fillsNumberSlot (.type "tuple") "mul" = pure false :=
 fillsNumberSlot_seq (id := "tuple.__mul__") (r:=some (.builtin "tuple.__rmul__")) F.slot_tuple_mul.lookup (by decide +kernel) F.slot_tuple_rmul.lookup (by decide +kernel)
theorem a8b (t:Addr) (items:Array Value) (n:Nat) (dd:Option Addr) (sl:Array (Option Value)) (x:Int) (u:Tok) (h0:items.isEmpty=false) (h2:2≤x) (h3:x<2 ^ 63) (hz:items.size*x.toNat≤sizeLine) :
  Meets (Builtin.«tuple.__mul__» ⟨[.ref t, .int x u],[]⟩) (fun _ R s=>s.heap.get? t=some { cls:=.type "tuple",dict:=dd,data:=.seq items n,slots:=sl }∧R (.ok (.ret (.ref s.heap.objs.size))) { s with heap:=s.heap.push { cls:=.type "tuple",data:=.seq (List.foldl (fun x1 x2=>x1++x2) #[] (List.replicate x.toNat items)) } }) :=
 .of_wp fun prog w A R s h=>by
  obtain ⟨hp,g,d,tk,os⟩:=s;obtain ⟨hl,h⟩:=h
  have c1:¬ (decide (x < -2 ^ 63) || decide (x≥2 ^ 63))=true:=by
   rw [Bool.or_eq_true,decide_eq_true_eq,decide_eq_true_eq];omega
  have c2:¬ (items.isEmpty || x == 1)=true:=by
   rw [h0,Bool.false_or];simp;omega
  have c3:¬ (decide (x≤0) || items.isEmpty)=true:=by
   rw [h0,Bool.or_false,decide_eq_true_eq];omega
  have ex:((items.size:Nat):Int)*x=((items.size*x.toNat:Nat):Int):=by
   rw [Int.natCast_mul,Int.toNat_of_nonneg (by omega)]
  have sl':(sizeLine:Nat)≤(2 ^ 63 - 1) / 8:=by decide
  have c4:¬ (items.size:Int)*x > (2 ^ 63 - 1) / 8:=by rw [ex];omega
  have c5:¬ Builtin.Tuple.tupleTooMany ((items.size:Int)*x)=true:=by
   rw [ex]
   simp only [Builtin.Tuple.tupleTooMany,decide_eq_true_eq];omega
  wp_walk
  rw [if_neg c1]
  wp_walk
  rw [if_neg c2]
  wp_walk
  rw [if_neg c3]
  wp_walk
  rw [if_neg c4]
  wp_walk
  rw [if_neg c5]
  wp_walk
  have fs:¬ (List.foldl (fun x1 x2=>x1++x2) #[] (List.replicate x.toNat items)).size > sizeLine:=by
   have:=foldl_rep items.toList x.toNat []
   rw [List.nil_append,Array.toArray_toList] at this
   rw [show (#[]:Array Value)=([]:List Value).toArray from rfl,this,List.size_toArray,len_rep,Array.length_toList,Nat.mul_comm]
   omega
  rw [if_neg fs]
  wp_walk
  exact ⟨_,rfl,h⟩
theorem yh (a:Int) (t:Tok) (l:Addr) (items:Array Value) (n:Nat) (dd:Option Addr) (sl:Array (Option Value)) :
  Meets (Builtin.«int.__rmul__» ⟨[.int a t, .ref l],[]⟩) (fun _ R s=>s.heap.get? l=some { cls:=.type "tuple",dict:=dd,data:=.seq items n,slots:=sl }∧R (.ok (.ret Value.notImplemented)) s):=by
 refine .of_wp fun prog w A R s h=>?_
 obtain ⟨hp,g,d,tk,os⟩:=s
 obtain ⟨hl,h⟩:=h
 wp_walk
 exact ⟨_,rfl,h⟩
theorem a2s:seqRepeat? (.type "tuple")=pure (some (.builtin "tuple.__mul__")):=by
 unfold seqRepeat?
 rw [seqSlot_of (T := "tuple") (name := "__mul__") (id := "tuple.__mul__") F.slot_tuple_mul.lookup (by decide +kernel),seqSlot_of (T := "tuple") (name := "__rmul__") (id := "tuple.__rmul__") F.slot_tuple_rmul.lookup (by decide +kernel)]
 rfl
def aa1 (K:PySem.W.Frag):R2:=fun x y H Q=>∃ a k xs,x = .ref a∧y = .int k∧SqT K H a xs∧xs≠[]∧2≤k∧k<2 ^ 63∧xs.length*k.toNat≤sizeLine∧∀ p,H p=none→Q (.ref p) (upd H p (.tup (List.replicate k.toNat xs).flatten))
theorem ad7 {X:Cx}:OpR X (binaryOp .Mult) (aa1 X.K):=by
 intro pins s σ H x y v u Q I rx ry h
 obtain ⟨a,k,xs,rfl,rfl,ha,hx,h1,h2,hz,q⟩:=h
 cases rx
 obtain ⟨t,rfl⟩:=ry
 obtain ⟨its,r1,p1,_⟩:=I.tuple ha
 obtain ⟨⟨cls,dd,data,sl⟩,ho,hc,n,hd⟩:=id p1
 simp only at hc hd
 subst hc hd
 have he:its.toArray.isEmpty=false:=by
  cases its with
  | nil=>exact (hx (r1.nil_iff.mp rfl)).elim
  | cons _ _=>rfl
 have hz2:its.toArray.size*k.toNat≤sizeLine:=by rw [List.size_toArray,← r1.length];exact hz
 have hnew:List.foldl (fun x1 x2=>x1++x2) #[] (List.replicate k.toNat its.toArray)=(List.replicate k.toNat its).flatten.toArray:=by
  have:=foldl_rep its k.toNat []
  rw [List.nil_append] at this
  exact this
 refine wpAny_binaryOp_repeat_ref (T := "tuple") (U := "int") (by decide) ⟨_,ho,rfl⟩ (fun s'=>typeIs_int s' k t) sr F.fills_int_mul F.slot_int_rmul a2s F.slot_int_index.lookup
  (call_meets F.slot_int_rmul (typeIs_int s k t) F.entry_int_rmul (F.args_int_rmul_2 _ _) (yh k t a its.toArray n dd sl)
   ⟨ho,rfl,⟨_,ho,rfl⟩,call_meets F.slot_tuple_mul ⟨_,ho,rfl⟩ F.entry_tuple_mul (F.args_tuple_mul_2 _ _) (a8b a its.toArray n dd sl k t he h1 h2 hz2) ⟨ho,?_⟩⟩)
 rw [hnew]
 refine ⟨.ref s.heap.objs.size,_,I.laid (t':=s.toks) (o:=.tup (List.replicate k.toNat xs).flatten) (fun b ob q=>Heap.get?_push_of_some _ q) (Nat.le_refl _) ?_,rfl,q _ (I.hok.fresh (Nat.le_refl _))⟩
 exact ⟨by rw [len_rep,Nat.mul_comm];exact hz,_,r1.rep k.toNat,PyProof.Rows.IsTup.new _ _⟩
end TPM
namespace MI
open PySem PySem.Spec L2 TPM
open Classical in
noncomputable def aa2 (x y:D) (h:Hd):R D:=match x,y with
 | .tup xs, .int k=>if (xs≠[]∧2≤k∧k<2 ^ 63)∧xs.length*k.toNat≤LINE then .ok (.tup (List.replicate k.toNat xs).flatten) h else .no
 | x,y=>agc x y h
theorem a1j {K:PySem.W.Frag}:a04 K aa2 (fun x y H Q=>(rI CMul (fun i j=>.int (i*j)) x y H Q∨afv x y H Q)∨aa1 K x y H Q):=by
 intro E ι H h x y dx dy Q rx ry hr o
 cases rx with
 | @tup a vs xs ha rs =>
  cases ry with
  | int k =>
   simp only [aa2] at o
   split at o
   ·rename_i hc
    refine .inr ⟨a,k,vs,rfl,rfl,SqT.of ha,fun z=>?_,hc.1.2.1,hc.1.2.2,ll (by rw [rs.len];exact hc.2),zp (rs.flat _) hr o⟩
    subst z
    cases rs
    exact hc.1.1 rfl
   ·exact o.elim
  | _=>exact o.elim
 | int i=>exact .inl (a7y _ _ _ _ _ _ _ _ _ (.int i) ry hr o)
 | ref e=>exact .inl (a7y _ _ _ _ _ _ _ _ _ (.ref e) ry hr o)
 | _=>exact o.elim
end MI
namespace L2
open PySem PySem.Spec PyProof.Rows
end L2
namespace MI
open PySem PySem.Spec L2
def ad8 (x y:D) (h:Hd):R D:=match x,y with
 | .ref p, .int i=>(match h[p]? with | some (.lst xs)=>(match atI xs i with | some d=>.ok d h | none=>.no) | _=>.no)
 | _,_=>.no
def a68 (g:D→D→Hd→R D) (fo fi fe:SE):SS:=fun τ h=>(fo τ h).fl fun o h1=>(fi τ h1).fl fun i h2=>(ad8 o i h2).fl fun x h3=>(fe τ h3).fl fun y h4=>(g x y h4).fl fun z h5=>match put o i z h5 with | some h6=>.nx τ h6 | none=>.no
end MI
namespace TPM
open PySem PySem.Spec PySem.W L2 HT MI
theorem a69 (t b:Addr) (items2:Array Value) (n n2:Nat) (dd dd2:Option Addr) (sl sl2:Array (Option Value)) :
  Meets (Builtin.«tuple.__add__» ⟨[.ref t, .ref b],[]⟩) (fun _ R s=>s.heap.get? t=some { cls:=.type "tuple",dict:=dd,data:=.seq #[] n,slots:=sl }∧s.heap.get? b=some { cls:=.type "tuple",dict:=dd2,data:=.seq items2 n2,slots:=sl2 }∧R (.ok (.ret (.ref b))) s):=by
 refine .of_wp fun prog w A R s h=>?_
 obtain ⟨hp,g,d,tk,os⟩:=s
 obtain ⟨hl,hb,h⟩:=h
 wp_walk
 refine wpAny_of_eq sub_tuple_self ?_
 wp_walk
 exact ⟨_,rfl,h⟩
def agl (K:PySem.W.Frag):R2:=fun x y H Q=>∃ a b ys,x = .ref a∧y = .ref b∧SqT K H a []∧SqT K H b ys∧Q (.ref b) H
theorem ad9 {X:Cx}:OpR X (binaryOp .Add) (agl X.K):=by
 intro pins s σ H x y v u Q I rx ry h
 obtain ⟨a,b,ys,rfl,rfl,ha,hb,q⟩:=h
 cases rx
 cases ry
 obtain ⟨its,r1,p1,_⟩:=I.tuple ha
 obtain ⟨its2,r2,p2,_⟩:=I.tuple hb
 cases r1
 obtain ⟨⟨cls,dd,data,sl⟩,ho,hc,n,hd⟩:=id p1
 obtain ⟨⟨cls2,dd2,data2,sl2⟩,ho2,hc2,n2,hd2⟩:=id p2
 simp only at hc hd hc2 hd2
 subst hc hd hc2 hd2
 exact concat_meets ⟨_,ho,rfl⟩ ⟨_,ho2,rfl⟩ noFill_tuple_add seq_tuple_add F.slot_tuple_add F.entry_tuple_add (F.args_tuple_add_2 _ _) (a69 a b its2.toArray n n2 dd dd2 sl sl2) ⟨ho,ho2,⟨.ref b,H,I,rfl,q⟩⟩
end TPM
namespace MI
open PySem PySem.Spec L2 TPM
end MI
namespace TPM
open PySem PySem.Spec PySem.W L2 HT MI PyProof.Rows
end TPM
namespace MI
open PySem PySem.Spec L2 TPM
end MI
namespace L2
open PySem PySem.Spec PyProof.Rows
section
variable {X:Cx}
theorem Inv.lstR {pins:List (Addr × Obj)} {σ:St} {H:Hp} {s:Shared} {l:Addr} {xs:List V} (I:Inv X pins σ H s) (hH:Rd H l (.lst xs)):xs.length≤sizeLine∧∃ (its:List Value) (n:Nat),Vals xs its∧xs.length=its.length∧s.heap.get? l=some { cls:=.type "list",data:=.seq its.toArray n }:=by
 obtain ⟨z,its,n,r,e⟩:=hH.ok I.hok
 exact ⟨z,its,n,r,r.length,e⟩
def ada:R2:=fun x y H Q=>∃ l b xs zs,x = .ref l∧y = .ref b∧Rd H l (.lst xs)∧Rd H b (.lst zs)∧xs.length+zs.length≤sizeLine∧∀ p,H p=none→Q (.ref p) (upd H p (.lst (xs++zs)))
theorem adb:OpR X (binaryOp .Add) ada:=fun pins s σ H x y v u Q I rx ry ⟨l,b,xs,zs,ex,ey,h1,h2,hz,q⟩=>by
 subst ex ey
 cases rx
 cases ry
 obtain ⟨_,as,_,va,la,ea⟩:=I.lstR h1
 obtain ⟨_,bs,_,vb,lb,eb⟩:=I.lstR h2
 have app:as.toArray++bs.toArray=(as++bs).toArray:=by simp
 refine PySem.P.add_list ea eb ?_ (by simp;omega)
 rw [app]
 exact ⟨.ref _,_,I.lnew (t':=s.toks) (va.append vb) (by simpa using hz),rfl,q _ I.fresh⟩
def agm:R2:=fun x y H Q=>∃ l k xs,x = .ref l∧y = .int k∧Rd H l (.lst xs) ∧ -(2 ^ 63)≤k∧k<2 ^ 63∧xs.length*k.toNat≤sizeLine∧∀ p,H p=none→Q (.ref p) (upd H p (.lst (List.replicate k.toNat xs).flatten))
theorem adc (its:List Value) (k:Nat):List.foldl (fun x1 x2=>x1++x2) #[] (List.replicate (if its.toArray.isEmpty=true then 0 else k) its.toArray)=(List.replicate k its).flatten.toArray:=by
 have g:∀ m:Nat,List.foldl (fun x1 x2=>x1++x2) #[] (List.replicate m its.toArray)=(List.replicate m its).flatten.toArray:=fun m=>by simpa using foldl_rep its m []
 cases its with
 | nil=>simp
 | cons a r=>rw [if_neg (by simp),g]
theorem ade:OpR X (binaryOp .Mult) agm:=fun pins s σ H x y v u Q I rx ry ⟨l,k,xs,ex,ey,h1,k1,k2,hz,q⟩=>by
 subst ex ey
 cases rx
 obtain ⟨t,rfl⟩:=ry
 obtain ⟨_,as,n,va,la,ea⟩:=I.lstR h1
 have few:as.toArray.size*k.toNat≤sizeLine:=by rw [List.size_toArray,← la];exact hz
 have top:(sizeLine:Nat)≤(2 ^ 63 - 1) / 8:=by decide
 refine wpAny_binaryOp_repeat_ref (T := "list") (U := "int") (by decide) ⟨_,ea,rfl⟩ (fun s'=>typeIs_int s' k t) noFill_list_mul F.fills_int_mul F.slot_int_rmul repeat_list F.slot_int_index.lookup
  (call_meets F.slot_int_rmul (typeIs_int s k t) F.entry_int_rmul (F.args_int_rmul_2 _ _) (int___rmul___int_list k t l as.toArray n)
   ⟨ea,rfl,⟨_,ea,rfl⟩,call_meets F.slot_list_mul ⟨_,ea,rfl⟩ F.entry_list_mul (F.args_list_mul_2 _ _)
    (AutoListH.list___mul___list_int_3 l as.toArray n k t (by rw [fitsIndex_both k1 k2];exact Bool.false_ne_true) (by omega) (by rw [a4f few];exact Bool.false_ne_true)) ⟨ea,?_⟩⟩)
 rw [adc]
 exact ⟨.ref _,_,I.lnew (t':=s.toks) (va.rep k.toNat) (by rw [len_rep,Nat.mul_comm];exact hz),rfl,q _ I.fresh⟩
end
end L2
namespace MI
open PySem PySem.Spec L2 TPM
def sy (d:D) (h:Hd):Option (List D):=match d with
 | .rol xs=>some xs
 | .ref i=>(match h[i]? with | some (.lst xs)=>some xs | _=>none)
 | _=>none
section
variable {K:PySem.W.Frag} {ι:List Addr} {H:Hp} {h:Hd}
theorem a1k {x:V} {d:D} {xs:List D} (r:Rep K ι H x d) (hr:HRep K ι H h) (e:sy d h=some xs):∃ a vs,x = .ref a∧Rd H a (.lst vs)∧Reps K ι H vs xs:=by
 cases r with
 | @rol a vs ys hp rs=>cases e;exact ⟨a,vs,rfl, .inr hp,rs⟩
 | @ref a i hp =>
  obtain ⟨ob,e1,e2⟩:=hr.at hp
  simp only [sy,e1] at e
  cases ob with
  | lst ys=>cases e;obtain ⟨vs,h3,h4⟩:=e2;exact ⟨a,vs,rfl, .inl h3,h4⟩
  | _=>cases e
 | _=>cases e
def gk:D→D→Hd→R D
 | .int i, .int j,h=>.ok (.int (i+j)) h
 | .str x, .str y,h=>if x.length+y.length≤LINE then .ok (.str (x++y)) h else .no
 | .tup [], .tup ys,h=>.ok (.tup ys) h
 | .tup (x::xs), .tup ys,h=>if (x::xs).length+ys.length≤LINE then .ok (.tup (x::xs++ys)) h else .no
 | x,y,h=>match sy x h,sy y h with
  | some xs,some ys=>if xs.length+ys.length≤LINE then .ok (.ref h.length) (h++[.lst (xs++ys)]) else .no
  | _,_=>.no
theorem a8c {x y:D} {xs ys:List D} (e1:sy x h=some xs) (e2:sy y h=some ys):gk x y h=if xs.length+ys.length≤LINE then .ok (.ref h.length) (h++[.lst (xs++ys)]) else .no:=by
 cases x<;>first | (cases e1;done) | (cases y<;>first | (cases e2;done) | (simp only [gk,e1,e2]))
theorem aa3:a04 K gk (fun x y H Q=>(rI0 (fun i j=>.int (i+j)) x y H Q∨(∃ i j,x = .str i∧y = .str j∧i.length+j.length≤sizeLine∧Q (.str (i++j)) H)∨afq K x y H Q∨ada x y H Q)∨agl K x y H Q):=by
 intro E ι H h x y dx dy Q rx ry hr o
 have lists:∀ xs ys,sy dx h=some xs→sy dy h=some ys→ada x y H Q:=fun xs ys e1 e2=>by
  rw [a8c e1 e2] at o
  obtain ⟨a,vs,rfl,h1,h2⟩:=a1k rx hr e1
  obtain ⟨b,us,rfl,h3,h4⟩:=a1k ry hr e2
  split at o
  ·rename_i hc
   exact ⟨a,b,vs,us,rfl,rfl,h1,h3,ll (by rw [h2.len,h4.len];exact hc),u9 (h2.app h4) hr o⟩
  ·exact o.elim
 cases hx:sy dx h with
 | some xs =>
  cases hy:sy dy h with
  | some ys=>exact .inl (.inr (.inr (.inr (lists xs ys hx hy))))
  | none =>
   exfalso
   cases rx<;>first | (cases hx;done) | (cases ry<;>first | (simp only [gk,hx,hy] at o;exact o) | (simp only [gk] at o;exact o))
 | none =>
  cases rx with
  | int i =>
   cases ry with
   | int j=>exact .inl (.inl ⟨i,j,rfl,rfl,ans o (.int _) hr⟩)
   | _=>exact o.elim
  | str i =>
   cases ry with
   | str j =>
    simp only [gk] at o
    split at o
    ·rename_i hc;exact .inl (.inr (.inl ⟨i,j,rfl,rfl,ll hc,ans o (.str _) hr⟩))
    ·exact o.elim
   | _=>exact o.elim
  | @tup a vs xs ha r1 =>
   cases ry with
   | @tup b us ys hb r2 =>
    cases xs with
    | nil=>cases r1;exact .inr ⟨a,b,us,rfl,rfl,SqT.of ha,SqT.of hb,ans o (.tup hb r2) hr⟩
    | cons z xs =>
     simp only [gk] at o
     split at o
     ·rename_i hc
      refine .inl (.inr (.inr (.inl ⟨a,b,vs,us,rfl,rfl,SqT.of ha,SqT.of hb,fun z=>(by subst z;cases r1),ll (by rw [r1.len,r2.len];exact hc),fun z=>?_,fun _=>?_⟩)))
      ·subst z;cases r2
       rw [List.append_nil] at o
       exact ans o (.tup ha r1) hr
      ·exact zp (r1.app r2) hr o
     ·exact o.elim
   | _=>cases xs<;>exact o.elim
  | rol _ _=>cases hx
  | ref _=>cases ry<;>(simp only [gk,hx] at o;exact o.elim)
  | _=>cases ry<;>exact o.elim
theorem gh {X:Cx} {E:XD} {a b:Expr} {fa fb:SE} {pos:Pos} (ha:ME X E a fa) (hb:ME X E b fb):ME X E (.BinOp a .Add b pos) (s2 gk fa fb) :=
 a3p (OpR.or (afe.or (a5t.or (acb.or adb))) ad9) aa3 ha hb
open Classical in
noncomputable def yq:D→D→Hd→R D
 | .int i, .int j,h=>if CMul i j then .ok (.int (i*j)) h else .no
 | x, .int k,h=>match sy x h with
  | some xs=>if (-(2 ^ 63)≤k∧k<2 ^ 63)∧xs.length*k.toNat≤LINE then .ok (.ref h.length) (h++[.lst (List.replicate k.toNat xs).flatten]) else .no
  | none=>.no
 | _,_,_=>.no
theorem aa4:a04 K yq (fun x y H Q=>rI CMul (fun i j=>.int (i*j)) x y H Q∨agm x y H Q):=by
 intro E ι H h x y dx dy Q rx ry hr o
 cases ry with
 | int k =>
  cases hx:sy dx h with
  | some xs =>
   obtain ⟨a,vs,rfl,h1,h2⟩:=a1k rx hr hx
   have o':out K E (ul K) ι H (if (-(2 ^ 63)≤k∧k<2 ^ 63)∧xs.length*k.toNat≤LINE then .ok (.ref h.length) (h++[.lst (List.replicate k.toNat xs).flatten]) else .no) Q:=by
    cases dx<;>first | (cases hx;done) | (simp only [yq,hx] at o;exact o)
   split at o'
   ·rename_i hc
    exact .inr ⟨a,k,vs,rfl,rfl,h1,hc.1.1,hc.1.2,ll (by rw [h2.len];exact hc.2),u9 (h2.flat _) hr o'⟩
   ·exact o'.elim
  | none =>
   cases rx with
   | int i =>
    by_cases hc:CMul i k
    ·simp only [yq,if_pos hc] at o;exact .inl ⟨i,k,rfl,rfl,hc,ans o (.int _) hr⟩
    ·simp only [yq,if_neg hc] at o;exact o.elim
   | _=>simp only [yq,hx] at o;exact o.elim
 | _=>cases rx<;>exact o.elim
theorem a1l {X:Cx} {E:XD} {a b:Expr} {fa fb:SE} {pos:Pos} (ha:ME X E a fa) (hb:ME X E b fb):ME X E (.BinOp a .Mult b pos) (s2 yq fa fb):=a3p (aax.or ade) aa4 ha hb
end
end MI
namespace MI
open PySem PySem.Spec L2
end MI
namespace L2
open PySem PySem.Spec PyProof.Rows
end L2
namespace MI
open PySem PySem.Spec L2
end MI
namespace L2
open PySem PySem.Spec PyProof.Rows
def ixI (n:Int):List Int→Option Nat
 | []=>none
 | a::l=>if a=n then some 0 else (ixI n l).map (·+1)
end L2
namespace MI
open PySem PySem.Spec L2
end MI
namespace MI
open PySem PySem.Spec L2
def agn:D→Option Key
 | .int i=>some (.inl i)
 | .str x=>some (.inr x)
 | _=>none
def al2:D→Option (List Key)
 | .tup xs=>uc agn xs
 | _=>none
def putD {κ:Type} [DecidableEq κ] (kvs:List (κ × D)) (k:κ) (d:D):List (κ × D):=if (kvs.any fun kv=>decide (kv.1=k))=true then kvs.map fun kv=>if kv.1=k then (kv.1,d) else kv else kvs++[(k,d)]
section
variable {K:PySem.W.Frag} {ι:List Addr} {H:Hp} {h:Hd}
theorem adf {v:V} {d:D} {k:Key} (r:Rep K ι H v d) (e:agn d=some k):v=kV k:=by
 cases r with
 | int i=>cases e;rfl
 | str x=>cases e;rfl
 | _=>cases e
variable {X:Cx} {E:XD} {a b e o i:Expr} {fa fb fc:SE} {pos:Pos}
def al3 (o k v:D) (h:Hd):Option Hd:=match o with
 | .ref i=>(match h[i]? with
  | some (.dK kvs)=>(match agn k with | some kk=>if kvs.length<LINE then some (h.set i (.dK (putD kvs kk v))) else none | none=>none)
  | some (.dT kvs)=>(match al2 k with | some kk=>if kvs.length<LINE then some (h.set i (.dT (putD kvs kk v))) else none | none=>none)
  | _=>none)
 | _=>none
def a6a (fe fo fi:SE):SS:=fun τ h=>(fe τ h).fl fun v h1=>(fo τ h1).fl fun o h2=>(fi τ h2).fl fun k h3=>match al3 o k v h3 with | some h4=>.nx τ h4 | none=>.no
def gD1 (x y:D) (h:Hd):R D:=match agn x with
 | some k=>.ok (.ref h.length) (h++[.dK [(k,y)]])
 | none=>.no
theorem a8d {p:Addr} {o:HO} {ob:O} (hr:HRep K ι H h) (pn:p ∉ ι) (gw:Gw ι H (ι++[p]) (upd H p o)) (q:ORep K (ι++[p]) (upd H p o) p ob):HRep K (ι++[p]) (upd H p o) (h++[ob]):=by
 refine ⟨List.nodup_append.mpr ⟨hr.nd,by simp,fun a ha b hb z=>pn (by rw [List.mem_singleton.mp hb] at z;rw [← z];exact ha)⟩,by simp [hr.len],fun j a o' q1 q2=>?_⟩
 by_cases hj:j<ι.length
 ·rw [List.getElem?_append_left hj] at q1
  rw [List.getElem?_append_left (by rw [← hr.len];exact hj)] at q2
  exact (hr.obj j a o' q1 q2).monoW gw (dj fun z=>pn (by rw [← z];exact List.mem_of_getElem? q1))
 ·have hj2:j<(ι++[p]).length:=(List.getElem?_eq_some_iff.mp q1).1
  have:j=ι.length:=by simp at hj2;omega
  subst this
  rw [List.getElem?_append_right (Nat.le_refl _)] at q1
  rw [hr.len,List.getElem?_append_right (Nat.le_refl _)] at q2
  simp at q1 q2
  subst q1 q2
  exact q
theorem aj5 (ha:ME X E a fa) (hb:ME X E b fb):ME X E (.Dict [some a] [b] pos) (s2 gD1 fa fb):=by
 refine PE.weak (acj (a9j ha hb aci) rfl rfl (by simp) (by simp)) fun σ H Q ⟨ι,τ,h,S,Rh,o⟩ p hp=>?_
 have pn:p ∉ ι:=Rh.notin hp
 have g0:Gr ι H ι (upd H p (.dK [])):=uv hp _
 unfold s2 at o
 refine ⟨ι,τ,h,S.mono g0,Rh.aside hp _,?_⟩
 cases hfa:fa τ h with
 | no=>rw [hfa] at o;exact o.elim
 | ex c hx=>rw [hfa] at o;exact yu (Rp:=ul X.K) (r:=.ex c hx) (Q:=Q) o g0
 | ok d h1 =>
  rw [hfa] at o
  intro ι1 H1 v g1 r1 hr1
  refine ⟨ι1,τ,h1,(S.mono g0).mono g1,hr1,?_⟩
  simp only [R.bind] at o
  cases hfb:fb τ h1 with
  | no=>rw [hfb] at o;exact o.elim
  | ex c hx=>rw [hfb] at o;exact yu (Rp:=ul X.K) (r:=.ex c hx) (Q:=Q) o (g0.trans g1)
  | ok d2 h2 =>
   rw [hfb] at o
   intro ι2 H2 u g2 r2 hr2
   have g12:=g1.trans g2
   have e2:H2 p=some (.dK []):=g12.oth p _ jf pn
   simp only [gD1] at o
   cases hk:agn d with
   | none=>rw [hk] at o;exact o.elim
   | some k =>
    rw [hk] at o
    refine ⟨e2,[(k,u)],?_,by simp,?_⟩
    ·rw [adf (r1.mono g2) hk];rfl
    ·obtain ⟨m,em,hm⟩:=g12.pre
     have nm:∀ c∈m,c≠p∧H c=none:=fun c hc=>by
      have q:=hm c hc
      by_cases z:c=p
      ·subst z;rw [jf] at q;cases q
      ·rw [dj z] at q;exact ⟨z,q⟩
     have pn2:p ∉ ι2:=fun z=>by
      rw [em] at z
      rcases List.mem_append.mp z with z | z
      ·exact pn z
      ·exact (nm p z).1 rfl
     have ne:∀ {c u'},H c=some u'→c≠p:=fun e=>di e hp
     have up:∀ {c u'},H c=some u'→(upd H p (.dK [])) c=some u':=fun e=>by rw [dj (ne e)];exact e
     have gw:Gw ι2 H2 (ι2++[p]) (upd H2 p (.dK [(k,u)])):=⟨⟨[p],rfl⟩,fun c vs e=>by rw [dj (fun z=>by subst z;rw [e2] at e;cases e)];exact e,fun c o u' e=>by rw [dj (fun z=>by subst z;rw [e2] at e;cases e)];exact e⟩
     have G:Gr ι H (ι2++[p]) (upd H2 p (.dK [(k,u)])):=by
      refine ⟨⟨m++[p],by rw [em];simp,fun c hc=>?_⟩,fun c vs e=>?_,fun c o u' e=>?_,fun c u' e hn=>?_,fun c u' e=>?_⟩
      ·rcases List.mem_append.mp hc with hc | hc
       ·exact (nm c hc).2
       ·rw [List.mem_singleton.mp hc];exact hp
      ·rw [dj (ne e)];exact g12.tup _ _ (up e)
      ·rw [dj (ne e)];exact g12.frz _ _ _ (up e)
      ·rw [dj (ne e)];exact g12.oth _ _ (up e) hn
      ·obtain ⟨w,q⟩:=g12.kp _ _ (up e)
       exact ⟨w,by rw [dj (ne e)];exact q⟩
     refine o (ι2++[p]) _ (.ref p) G (.ref (by rw [List.getElem?_append_right (by rw [hr2.len];exact Nat.le_refl _),hr2.len];simp)) (a8d hr2 pn2 gw ⟨_,jf,rfl, .cons (r2.monoW gw) .nil⟩)
end
end MI
namespace ZP
open PySem PySem.Spec PySem.Builtin PySem.Builtin.SmallTypes L2
end ZP
namespace MI
open PySem PySem.Spec L2 ZP
def aa5 (x:D) (h:Hd):R Itm:=match srcOf x h with
 | some (xs,c)=>.ok ⟨((List.range xs.length).zip xs).map fun p=>.tup [.int (p.1:Nat),p.2],c⟩ h
 | none=>.no
def adg (f:SE):SI:=fun τ h=>(f τ h).bind aa5
end MI
namespace L2
open PySem PySem.Spec PyProof.Rows
end L2
namespace MI
open PySem PySem.Spec L2
end MI
namespace L2
open PySem PySem.Spec PyProof.Rows
end L2
namespace MI
open PySem PySem.Spec L2
def al4 (lo:Int) (n:Nat):List D:=(List.range n).map fun i=>D.int (lo - (i:Nat))
def adh (ds:List D) (h:Hd):R Itm:=match ds with
 | [.int i, .int j, .int k]=>if k = -1∧B62 i∧B62 j then .ok ⟨al4 i (i - j).toNat,fun _=>True⟩ h else .no
 | _=>.no
end MI
namespace MI
open PySem PySem.Spec L2
end MI
namespace MI
open PySem PySem.Spec L2
theorem dg {α β:Type} (a:α) (h:Hd) (k:α→Hd→R β):(R.ok a h).bind k=k a h:=rfl
theorem a09 {α:Type} (a:α) (h:Hd) (k:α→Hd→Fl):(R.ok a h).fl k=k a h:=rfl
def thn (r:Fl) (g:SS):Fl:=match r with | .nx τ h=>g τ h | r=>r
theorem jj (f g:SS) (τ:Sd) (h:Hd):j6 f g τ h=thn (f τ h) g:=by unfold j6 thn;cases f τ h<;>rfl
theorem uw (τ:Sd) (h:Hd) (g:SS):thn (.nx τ h) g=g τ h:=rfl
theorem a0n (d:D) (h:Hd) (g:SS):thn (.rt d h) g = .rt d h:=rfl
def toR (r:Fl):R D:=match r with | .rt d h1=>.ok d h1 | .nx _ h1=>.ok .non h1 | .ex c h1=>.ex c h1 | _=>.no
theorem gq (b:SS) (n:Nat) (ds:List D) (h:Hd):lz b n ds h=toR (b (qi n ds) h):=by unfold lz toR;cases b (qi n ds) h<;>rfl
theorem zy (d:D) (h:Hd):toR (.rt d h) = .ok d h:=rfl
theorem a0o (τ:Sd) (h:Hd):toR (.nx τ h) = .ok .non h:=rfl
theorem uo {n:Nat}:∀ {xs:List D},clos n xs↔∀ x∈xs,clo n x
 | []=>by simp [clos]
 | x::xs=>by simp [clos,uo (xs:=xs)]
theorem bu {n:Nat} (i:Int):clo n (.int i):=by simp [clo]
theorem du {n:Nat} (i:Str):clo n (.str i):=by simp [clo]
theorem yj {n:Nat} (i:Bool):clo n (.bl i):=by simp [clo]
theorem a3v {n:Nat}:clo n .non:=by simp [clo]
theorem jk {n:Nat}:clos n []:=by simp [clos]
theorem bj {n:Nat} {x:D} {xs:List D} (a:clo n x) (b:clos n xs):clos n (x::xs):=by simp only [clos];exact ⟨a,b⟩
theorem a1m {n:Nat} {xs:List D} (h:clos n xs):clo n (.tup xs):=by simpa [clo] using h
theorem a1n {n:Nat} {xs:List D} (h:clos n xs):clo n (.rol xs):=by simpa [clo] using h
theorem yw {α:Type} {n:Nat} {f:α→D} {l:List α} (h:∀ a∈l,clo n (f a)):clos n (l.map f):=by
 rw [uo]
 intro x hx
 obtain ⟨a,ha,rfl⟩:=List.mem_map.mp hx
 exact h a ha
mutual
theorem abh {n m:Nat} (hm:n≤m):∀ {d:D},clo n d→clo m d
 | .non,_=>by simp [clo]
 | .bl _,_=>by simp [clo]
 | .int _,_=>by simp [clo]
 | .str _,_=>by simp [clo]
 | .ty _,_=>by simp [clo]
 | .tup xs,h=>by simp only [clo] at h ⊢;exact qb hm h
 | .rol xs,h=>by simp only [clo] at h ⊢;exact qb hm h
 | .scr xs,h=>by simp only [clo] at h ⊢;exact qb hm h
 | .rod _ xs,h=>by simp only [clo] at h ⊢;exact qb hm h
 | .rdT _ xs,h=>by simp only [clo] at h ⊢;exact qb hm h
 | .exc _,_=>by simp [clo]
 | .ref i,h=>by simp only [clo] at h ⊢;omega
theorem qb {n m:Nat} (hm:n≤m):∀ {xs:List D},clos n xs→clos m xs
 | [],_=>by simp [clos]
 | x::xs,h=>by simp only [clos] at h ⊢;exact ⟨abh hm h.1,qb hm h.2⟩
end
theorem ww {n m:Nat} (hm:n≤m) {o:O} (h:v4 n o):v4 m o:=by
 cases o with
 | lst xs=>exact qb hm h
 | dK kvs=>exact qb hm h
 | dT kvs=>exact qb hm h
theorem a3w {α:Type} {f:α→Option α}:∀ {xs:List α},(∀ x∈xs,f x=some x)→uc f xs=some xs
 | [],_=>rfl
 | x::xs,h=>by
  unfold uc
  rw [h x List.mem_cons_self,a3w fun y hy=>h y (List.mem_cons_of_mem _ hy)]
theorem a1o {n k:Nat} {h:Hd} {d:D} (c:clo n d):a08 n h (k+1) d=some d:=by unfold a08;rw [if_pos c]
theorem aa6 {n k:Nat} {h:Hd} {o:O} (c:v4 n o):agj n h k o=some o:=by unfold agj;rw [if_pos c]
theorem aa7 {n k i:Nat} {h:Hd} {xs:List D} (hi:n≤i) (e:h[i]? = some (.lst xs)) (c:clos n xs):a08 n h (k+2) (.ref i)=some (.rol xs):=by
 unfold a08
 rw [if_neg (by simp only [clo];omega)]
 simp only [e]
 rw [a3w fun x hx=>a1o (uo.mp c x hx)]
 rfl
theorem a8e {α β:Type} {f:α→Option β} {x:α} {y:β} {xs:List α} {ys:List β} (h:f x=some y) (t:uc f xs=some ys):uc f (x::xs)=some (y::ys):=by unfold uc;rw [h,t]
theorem a1p {n:Nat} {d d':D} {h1:Hd} (e:a08 n h1 FU d=some d') (c:∀ o∈h1.take n,v4 n o):a4v n (.ok d h1) = .ok d' (h1.take n):=by
 unfold a4v
 simp only [e]
 rw [a3w fun o ho=>aa6 (c o ho)]
theorem km {n:Nat} {d:D} {h1:Hd} (e:clo n d) (c:∀ o∈h1.take n,v4 n o):a4v n (.ok d h1) = .ok d (h1.take n):=a1p (a1o e) c
theorem a1q {n i:Nat} {h1:Hd} {xs:List D} (hi:n≤i) (e:h1[i]? = some (.lst xs)) (cx:clos n xs) (c:∀ o∈h1.take n,v4 n o):a4v n (.ok (.ref i) h1) = .ok (.rol xs) (h1.take n):=a1p (aa7 hi e cx) c
theorem aj6 {f:SE} {τ:Sd} {h:Hd} {xs:List D} (e:f τ h = .ok (.ref h.length) (h++[.lst xs])) (cx:clos h.length xs) (c:∀ o∈h,v4 h.length o):sZ f τ h = .ok (.rol xs) h:=by
 unfold sZ
 rw [e,a1q (Nat.le_refl _) (by simp) cx (by simpa using c)]
 simp
def Pu (F:SF) (n:Nat) (ds:List D) (d:D):Prop:=∀ h,jz false n F ds h = .ok d h
def Dr (F:SF) (n:Nat) (ds:List D) (o:O) (d:D) (o':O):Prop:=∀ p h,h[p]? = some o→jz false n F (.ref p::ds) h = .ok d (h.set p o')
theorem yx:∀ {ds:List D},(∀ d∈ds,clo 0 d)→v5 ds=[]∧ud 0 ds=ds∧∀ k,ud k ds=ds
 | [],_=>⟨rfl,rfl,fun _=>rfl⟩
 | d::ds,h=>by
  obtain ⟨a,b,c⟩:=yx (ds:=ds) fun x hx=>h x (List.mem_cons_of_mem _ hx)
  have hd:=h d List.mem_cons_self
  have nr:refOf d=none:=by cases d<;>first | rfl | (simp only [clo] at hd;omega)
  refine ⟨?_,?_,fun k=>?_⟩
  ·simpa [v5,nr] using a
  ·cases d<;>first | (simp only [clo] at hd;omega) | (simp only [ud,b])
  ·cases d<;>first | (simp only [clo] at hd;omega) | (simp only [ud,c])
theorem Pu.of {F:SF} {n:Nat} {ds:List D} {r:R D} {d:D} (hn:ds.length=n) (cd:∀ x∈ds,clo 0 x) (e:F ds []=r) (z:a4v 0 r = .ok d []) (c:clo 0 d):Pu F n ds d:=fun h=>by
 obtain ⟨p1,p2,_⟩:=yx cd
 unfold jz
 rw [if_pos hn]
 unfold aem
 rw [p1]
 simp only [uc,List.length_nil,Bool.false_eq_true,if_false]
 rw [if_pos ⟨List.nodup_nil,fun x hx=>.inl (cd x hx),fun o ho=>by simp at ho⟩,p2,e,z]
 simp [c,kh]
theorem Dr.of {F:SF} {n:Nat} {ds:List D} {o o':O} {r:R D} {d:D} (hn:ds.length+1=n) (cd:∀ x∈ds,clo 0 x) (co:v4 0 o) (e:F (.ref 0::ds) [o]=r) (z:a4v 1 r = .ok d [o']) (c:clo 0 d) (co':v4 0 o'):Dr F n ds o d o':=fun p h hp=>by
 obtain ⟨p1,_,p3⟩:=yx cd
 have e1:v5 (.ref p::ds)=[p]:=by
  have:v5 (.ref p::ds)=p::v5 ds:=rfl
  rw [this,p1]
 have e2:ud 0 (.ref p::ds) = .ref 0::ds:=by
  have:ud 0 (.ref p::ds) = .ref 0::ud 1 ds:=rfl
  rw [this,p3]
 unfold jz
 rw [if_pos (by simpa using hn)]
 unfold aem
 rw [e1]
 simp only [uc,hp,List.length_singleton,Bool.false_eq_true,if_false]
 have all:∀ x∈(D.ref p::ds),clo 0 x∨isRef x:=fun x hx=>by
  rcases List.mem_cons.mp hx with rfl | hx
  ·exact .inr ⟨p,rfl⟩
  ·exact .inl (cd x hx)
 rw [if_pos ⟨by simp,all,fun u hu=>by rw [List.mem_singleton.mp hu];exact co⟩,e2,e,z]
 simp [c,co',kh]
theorem ago {F:SF} {n i:Nat} {ds:List D} {o:O} {h1:Hd} (hn:ds.length=n) (cd:∀ x∈ds,clo 0 x) (e:F ds [] = .ok (.ref i) h1) (ho:h1[i]? = some o) (co:v4 0 o) (h:Hd):jz true n F ds h = .ok (.ref h.length) (h++[o]):=by
 obtain ⟨p1,p2,_⟩:=yx cd
 unfold jz
 rw [if_pos hn]
 unfold aem
 rw [p1]
 simp only [uc,List.length_nil,if_true]
 rw [if_pos ⟨List.nodup_nil,fun x hx=>.inl (cd x hx),fun o ho=>by simp at ho⟩,p2,e]
 unfold ael
 simp only [ho]
 rw [if_pos ⟨Nat.zero_le _,co,by simp⟩]
 simp [co,kh]
theorem aa8 (g:SG) (b:SS) (τ:Sd) (h:Hd):forL (fun _=>True) g b [] τ h = .nx τ h:=by rw [forL,if_pos True.intro]
def trn (r:Fl) (k:Sd→Hd→Fl):Fl:=match r with | .nx τ h=>k τ h | .ct τ h=>k τ h | .bk τ h=>.nx τ h | r=>r
theorem a8f (g:SG) (b:SS) (x:D) (xs:List D) (τ τ1:Sd) (h h1:Hd) (e:g x τ h = .nx τ1 h1):forL (fun _=>True) g b (x::xs) τ h=trn (b τ1 h1) (forL (fun _=>True) g b xs):=by
 rw [forL,if_pos True.intro,e]
 dsimp only
 unfold trn
 cases b τ1 h1<;>rfl
theorem agp (τ:Sd) (h:Hd) (k:Sd→Hd→Fl):trn (.nx τ h) k=k τ h:=rfl
theorem agq (d:D) (h:Hd) (k:Sd→Hd→Fl):trn (.rt d h) k = .rt d h:=rfl
theorem a4z {g:SG} {b:SS} {α:Type} (f:α→D) (I:List α→Sd→Hd→Prop) (Rt:D→Hd→Prop):∀ (xs pre:List α) (τ:Sd) (h:Hd),
  (∀ pre' x post τ h,pre++xs=pre'++x::post→I pre' τ h→∃ τ1 h1,g (f x) τ h = .nx τ1 h1∧((∃ τ2 h2,b τ1 h1 = .nx τ2 h2∧I (pre'++[x]) τ2 h2)∨∃ d h2,b τ1 h1 = .rt d h2∧Rt d h2))→I pre τ h →
  (∃ τ' h',forL (fun _=>True) g b (xs.map f) τ h = .nx τ' h'∧I (pre++xs) τ' h')∨∃ d h',forL (fun _=>True) g b (xs.map f) τ h = .rt d h'∧Rt d h'
 | [],pre,τ,h,_,i0=>.inl ⟨τ,h,aa8 ..,by simpa using i0⟩
 | x::xs,pre,τ,h,st,i0=>by
  obtain ⟨τ1,h1,e1,q⟩:=st pre x xs τ h rfl i0
  rw [List.map_cons,a8f _ _ _ _ _ _ _ _ e1]
  rcases q with ⟨τ2,h2,e2,i2⟩ | ⟨d,h2,e2,r⟩
  ·rw [e2,agp]
   have:=a4z f I Rt xs (pre++[x]) τ2 h2 (fun pre' y post τ h e=>st pre' y post τ h (by simpa using e)) i2
   simpa using this
  ·rw [e2,agq]
   exact .inr ⟨d,h2,rfl,r⟩
theorem yz {g:SG} {b:SS} {α:Type} (f:α→D) (I:List α→Sd→Hd→Prop) (xs:List α) (τ:Sd) (h:Hd)
  (st:∀ pre x post τ h,xs=pre++x::post→I pre τ h→∃ τ1 h1,g (f x) τ h = .nx τ1 h1∧∃ τ2 h2,b τ1 h1 = .nx τ2 h2∧I (pre++[x]) τ2 h2) (i0:I [] τ h) :
  ∃ τ' h',forL (fun _=>True) g b (xs.map f) τ h = .nx τ' h'∧I xs τ' h':=by
 rcases a4z f I (fun _ _=>False) xs [] τ h (fun pre' x post τ h e i=>let ⟨τ1,h1,a,b⟩:=st pre' x post τ h e i; ⟨τ1,h1,a, .inl b⟩) i0 with ⟨τ',h',a,b⟩ | ⟨_,_,_,z⟩
 ·exact ⟨τ',h',a,b⟩
 ·exact z.elim
theorem a5a {f:D→Hd→R D} {α:Type} (g:α→D) (I:List α→List D→Hd→Prop):∀ (xs pre:List α) (ys:List D) (h:Hd),
  (∀ pre' x post ys h,pre++xs=pre'++x::post→I pre' ys h→∃ y h',f (g x) h = .ok y h'∧I (pre'++[x]) (ys++[y]) h')→I pre ys h→∃ zs h',mapR (fun _=>True) f (xs.map g) h = .ok zs h'∧I (pre++xs) (ys++zs) h'
 | [],pre,ys,h,_,i0=>⟨[],h,by rw [List.map_nil,mapR,if_pos True.intro],by simpa using i0⟩
 | x::xs,pre,ys,h,st,i0=>by
  obtain ⟨y,h1,e1,i1⟩:=st pre x xs ys h rfl i0
  obtain ⟨zs,h',e2,i2⟩:=a5a g I xs (pre++[x]) (ys++[y]) h1 (fun pre' z post ys h e=>st pre' z post ys h (by simpa using e)) i1
  refine ⟨y::zs,h',?_,by simpa using i2⟩
  rw [List.map_cons,mapR,if_pos True.intro,e1]
  show (mapR _ f (xs.map g) h1).bind _=_
  rw [e2];rfl
end MI
namespace MI
open PySem PySem.Spec L2
end MI
namespace MI
open PySem PySem.Spec L2
mutual
def toPy:D→Option PyData
 | .non=>some .none
 | .bl b=>some (.bool b)
 | .int i=>some (.int i)
 | .str x=>some (.str x)
 | .tup xs=>(adi xs).map .tuple
 | .rol xs=>(adi xs).map .list
 | .rod [] []=>some (.dict [])
 | _=>none
def adi:List D→Option (List PyData)
 | []=>some []
 | x::xs=>match toPy x,adi xs with | some p,some ps=>some (p::ps) | _,_=>none
end
mutual
def noL:D→Bool
 | .rol _=>false
 | .tup xs=>ajr xs
 | _=>true
def ajr:List D→Bool
 | []=>true
 | x::xs=>noL x && ajr xs
end
open Classical in
theorem j9 {X:Cx}:CallR X (.builtin "isinstance") (fun xs H Q=>∃ a o us T b,xs=[.ref a, .ty T]∧H a=some (.frz o (.dK us))∧PySem.W.kitOne X.K (.type "dict") (.type T)=some b∧Q (.bl b) H):=by
 intro pins s σ H xs us Q I r h
 obtain ⟨a,o,kv,T,b,rfl,ea,e,q⟩:=h
 obtain ⟨u,w',rfl,rx,rt⟩:=vals2 r
 cases rt
 obtain rfl:u=Value.ref a:=rx
 obtain ⟨_,_,_,vs,_,p⟩:=(show ObjOk X.prog X.w H s.heap a (.frz o (.dK kv)) from I.hok a _ ea)
 obtain ⟨o',es,ep,h1,h2,_⟩:=p
 exact PySem.W.kia_one PySem.W.kitx_dict I.kIn ⟨o',h1,h2.1⟩ e (fun z=>nomatch z) fun tk=>⟨.bl b,H,I.tok tk,rfl,q⟩
def ie:List D→Hd→R D
 | [.rod ks xs, .ty T],h=>(match vh "dict" T with | some b=>.ok (.bl b) h | none=>.no)
 | ds,h=>w6 ds h
theorem qy {K:PySem.W.Frag}:ab4 K ie (fun xs H Q=>(∃ x T t b,xs=[x, .ty T]∧TyOf K H x t∧PySem.W.kitOne K t (.type T)=some b∧Q (.bl b) H)∨∃ a o us T b,xs=[.ref a, .ty T]∧H a=some (.frz o (.dK us))∧PySem.W.kitOne K (.type "dict") (.type T)=some b∧Q (.bl b) H):=by
 intro E ι H h xs ds Q r hr o
 unfold ie at o
 split at o
 ·split at o
  ·rename_i b hb
   cases r with
   | cons r1 rs =>
    cases rs with
    | cons r2 rs2 =>
     cases rs2
     cases r2
     cases r1 with
     | rod hp ek rr=>exact .inr ⟨_,_,_,_,b,rfl,hp,a83 hb,ans o (.bl _) hr⟩
  ·exact o.elim
 ·exact .inl (ad4 E ι H h xs _ Q r hr o)
end MI
namespace TPM
open PySem PySem.Spec PySem.W L2 HT MI PyProof.Rows
end TPM
namespace MI
open PySem PySem.Spec L2 TPM
end MI
namespace L2
open PySem PySem.Spec PyProof.Rows
end L2
namespace MI
open PySem PySem.Spec L2
end MI
namespace PN
open PySem PySem.Spec L2 MI
noncomputable def vo:SS :=
 (ut (sA a0j (ak (sZ (a3e (sV 0) oN (oS (sC (.int 63))))) (ak (sC (.int 0)) (ak (sC (.int 0)) dw)))))
noncomputable def wy:SS :=
 (j6 (sIf (sT (s2 gGt (s2 gIx (sV 0) (sC (.int 2))) (sC (.int 0))))
 (j6 (kj 2 (s2 a06 (s2 gIx (sV 0) (sC (.int 2))) (sV 1)))
 (j6 (a90 (s2 a2n (s2 gIx (sV 0) (sC (.int 2))) (sV 1)) (sV 0) (sC (.int 2)))
 (ut (sV 2))))
 sNx)
 (j6 (kj 3 (s2 gIx (sV 0) (sC (.int 1))))
 (j6 (a90 (s2 gk (sV 3) (sC (.int 1))) (sV 0) (sC (.int 1)))
 (j6 (kj 4 (sC (.int 5)))
 (j6 (sIf (sT (s2 gGt (sA qg (ak (s2 gIx (sV 0) (sC (.int 0))) dw)) (sC (.int 0))))
 (kj 4 (s2 gIx (s2 gIx (sV 0) (sC (.int 0))) (s2 a06 (sV 3) (sA qg (ak (s2 gIx (sV 0) (sC (.int 0))) dw)))))
 sNx)
 (j6 (sIf (a5y (sT (s2 gLt (sV 3) (sA qg (ak (s2 gIx (sV 0) (sC (.int 0))) dw)))) (sT (s2 gGe (sA agf (ak (sV 4) dw)) (s2 a4o (sC (.int 10)) (sC (.int 18))))))
 (j6 (kj 5 (s2 gk (s2 yq (sC (.int 2)) (sA agf (ak (sV 4) dw))) (sA a9u (ak (s2 gLt (sV 4) (sC (.int 0))) dw))))
 (j6 (a90 (s2 a2n (sV 5) (sV 1)) (sV 0) (sC (.int 2)))
 (ut (s2 a06 (sV 5) (sV 1)))))
 sNx)
 (j6 (kj 6 (s2 a06 (s2 a4o (s2 gk (s2 gk (s2 a06 (sV 4) (sC (.int 2147483587))) (s2 yq (sC (.int 40709)) (sV 3))) (sC (.int 31))) (sC (.int 3))) (sC (.int 2147483647))))
 (j6 (kj 6 (s2 a06 (s2 gk (s2 gk (s2 yq (sV 6) (sV 6)) (s2 yq (sC (.int 48271)) (sV 6))) (sV 3)) (sC (.int 2147483629))))
 (ut (s2 a06 (s2 a2n (sV 6) (sC (.int 64))) (sV 1)))))))))))
noncomputable def o9:SS :=
 (j6 (kj 0 (sC (.str " !\"#$&'()*+,-./0123456789:;<=>?@ABCDEFGHIJKLMNOPQRSTUVWXYZ[\\]^_`")))
 (ut (s2 gk (sV 0) (sC (.str "abcdefghijklmnopqrstuvwxyz{|}~\n")))))
noncomputable def mq (au:SF):SS :=
 (j6 (kj 5 (sA (jz false 2 au) (ak (sV 0) (ak (sA qg (ak (sV 1) dw)) dw))))
 (j6 (kj 3 (s2 gk (sV 3) (s2 gIx (sV 1) (sV 5))))
 (kj 1 (s2 gk (a3e (sV 1) oN (oS (sV 5))) (a3e (sV 1) (oS (s2 gk (sV 5) (sC (.int 1)))) oN)))))
noncomputable def wz (au:SF):SS :=
 (j6 (kj 3 (sC (.str "")))
 (j6 (a91 (sRg yp (ak (s2 gk (sC (.int 1)) (sA (jz false 2 au) (ak (sV 0) (ak (sV 2) dw)))) dw)) (kN 4) (mq au))
 (ut (sV 3))))
end PN
namespace L2
open PySem PySem.Spec PySem.W PyProof.Rows
structure Air (stack:List Env) (H:Hp) (h0 B:Heap) (a C:Addr) (t:Value) (h:Heap):Prop where
 fly:Heap.FlyingW B stack a (.ref C) t h
 bk:∀ b o,h.get? b=some o→b ∉ frs stack→(H b≠none∨∃ o0,h0.get? b=some o0)→B.get? b=some o
def CXE (P:Program) (w:World):CXT:=fun outer H s E e s' =>
 ∃ a C t B H',e = .ref a∧s'.os=s.os∧AllBare s'.gens∧Un (frs outer) [] H H' s.heap s'.heap∧HOk P w H' s'.heap∧Air outer H' s.heap B a C t s'.heap∧E (.ref C) none H'
section
variable {P:Program} {w:World} {H H':Hp} {h h':Heap}
theorem HOk.is (x:HOk P w H h) {a:Addr} {o:HO} (e:H a=some o):∃ ob,h.get? a=some ob:=by
 have:=x a o e
 cases o with
 | lst xs=>obtain ⟨_,_,_,_,e⟩:=this;exact ⟨_,e⟩
 | tup xs=>obtain ⟨_,_,_,ob,e,_⟩:=this;exact ⟨_,e⟩
 | dK kvs=>obtain ⟨_,_,_,_,o,_,_,e,_⟩:=this;exact ⟨_,e⟩
 | dT kvs=>obtain ⟨_,_,_,_,o,_,_,e,_⟩:=this;exact ⟨_,e⟩
 | set S n=>obtain ⟨o,_,_,_,e,_⟩:=this;exact ⟨_,e⟩
 | ins C dx fs=>obtain ⟨_,_,_,e,_⟩:=this;exact ⟨_,e⟩
 | own y=>exact this
 | xd fs=>obtain ⟨_,⟨_,_,_,e,_⟩,_⟩:=this;exact ⟨_,e⟩
 | rng lo hi=>obtain ⟨_,_,_,e⟩:=this;exact ⟨_,e⟩
 | frz ob u=>exact ⟨_,this.1⟩
 | tbl ps=>exact ⟨_,this⟩
 | met f y=>exact ⟨_,this⟩
 | ext φ=>exact this.2.1
theorem HOk.track (x:HOk P w H h) (k:∀ b u,H b≠none→h.get? b=some u→h'.get? b=some u):HOk P w H h':=fun a o e =>
 (x a o e).stay (fun b u hb q=>k b u (by
  rcases hb with rfl | hb
  ·rw [e];simp
  ·rw [hb];simp) q) (fun _ q=>q) fun _ _ q=>q
end
section
variable {P:Program} {w:World} {K:PySem.W.Frag} {mg:Str→Option Value} {base:Heap} {N:List Str} {qual:Str} {scope:Scope} {f:Addr} {cd:Value} {A:Around} {outer:List Env} {s0:Shared} {H0:Hp} {E:XK} {pins:List (Addr × Obj)} {σ:St} {H:Hp} {s:Shared}
abbrev cxE (P:Program) (w:World) (K:PySem.W.Frag) (mg:Str→Option Value) (base:Heap) (N:List Str) (qual:Str) (scope:Scope) (f:Addr) (cd:Value) (A:Around) (outer:List Env) (s:Shared) (H:Hp) (E:XK):Cx:=zg (CXE P w) P w K mg base N qual scope f cd A outer s H E
theorem aa9 {B:Heap} {a C:Addr} {t:Value} {h1 h2:Heap} (I:Inv (cxE P w K mg base N qual scope f cd A outer s0 H0 E) pins σ H { s with heap:=h1 }) (hB:∀ b o,h1.get? b=some o→b ∉ frs (envOfC qual scope s0.heap.objs.size f cd::outer)→(H b≠none∨∃ o0,s0.heap.get? b=some o0)→B.get? b=some o)
  (sl:∀ b o,h1.get? b=some o→b∈frs outer→∃ sl,h2.get? b=some { o with slots:=sl }) (fly:Heap.FlyingW B outer a (.ref C) t h2) (e:E (.ref C) none H):CXE P w outer H0 s0 E (.ref a) { s with heap:=h2 }:=by
 have lo:∀ b,b∈frs (envOfC qual scope s0.heap.objs.size f cd::outer)→b=s0.heap.objs.size∨b∈frs outer:=fun b hb=>by
  unfold frs at hb ⊢
  rw [List.filterMap_cons] at hb
  rcases List.mem_cons.mp hb with rfl | hb
  ·exact .inl rfl
  ·exact .inr hb
 have stk:∀ b,b∈frs (envOfC qual scope s0.heap.objs.size f cd::outer)→H b=none:=fun b hb=>I.stkFree b hb
 have old:∀ b o,s0.heap.get? b=some o→b ∉ frs outer→b ∉ frs (envOfC qual scope s0.heap.objs.size f cd::outer):=fun b o q n z=>by
  rcases lo b z with rfl | z
  ·exact absurd (Heap.lt_size q) (Nat.lt_irrefl _)
  ·exact n z
 have tr:∀ b u,H b≠none→h1.get? b=some u→h2.get? b=some u:=fun b u hn q=>fly.1 _ _ (hB b u q (fun z=>hn (stk b z)) (.inl hn))
 have ba:=I.base
 refine ⟨a,C,t,B,H,rfl,I.os,I.bare,⟨?_,?_,ba.free,?_,ba.tups,ba.frzs,ba.tbls⟩,I.hok.track tr,⟨fly,?_⟩,e⟩
 ·intro b o q n hf hx
  exact fly.1 _ _ (hB b o (ba.keep b o q n hf hx) (old b o q hf) (.inr ⟨o,q⟩))
 ·intro b o q n hf hx
  obtain ⟨s1,q1⟩:=ba.slot b o q n hf hx
  obtain ⟨s2,q2⟩:=sl b _ q1 hf
  exact ⟨s2,q2⟩
 ·intro b o q hx
  obtain ⟨o1,q1⟩:=ba.there b o q hx
  by_cases hf:b∈frs outer
  ·obtain ⟨s2,q2⟩:=sl b _ q1 hf
   exact ⟨_,q2⟩
  ·exact ⟨_,fly.1 _ _ (hB b o1 q1 (old b o q hf) (.inr ⟨o,q⟩))⟩
 ·intro b o q nf c
  have hh:b ∉ frs (envOfC qual scope s0.heap.objs.size f cd::outer):=fun z=>by
   rcases c with c | ⟨o0,c⟩
   ·exact c (stk b z)
   ·exact old b o0 c nf z
  obtain ⟨o1,q1⟩:∃ o1,h1.get? b=some o1:=by
   rcases c with c | ⟨o0,c⟩
   ·cases e1:H b with
    | none=>exact absurd e1 c
    | some u=>exact I.hok.is e1
   ·exact ba.there b o0 c (by intro z;cases z)
  have q2:=hB b o1 q1 hh c
  have q3:=fly.1 _ _ q2
  rw [q3] at q
  cases q
  exact q2
theorem zz {X:Cx} {pins:List (Addr × Obj)} {σ:St} {H:Hp} {s:Shared} (I:Inv X pins σ H s) {b:Addr} {o:Obj} (hb:b∈frs X.stack) (q:s.heap.get? b=some o):∀ vs,o.data≠.fields vs:=by
 obtain ⟨_,o1,q1,d⟩:=I.stack.mem hb
 rw [q] at q1
 cases q1
 exact d
theorem aj7 {h':Heap} {a C:Addr} {args:List Value} (I:Inv (cxE P w K mg base N qual scope f cd A outer s0 H0 E) pins σ H s) (mk:Heap.MadeExcOf s.heap h' a (.ref C) args) (e:E (.ref C) none H):(cxE P w K mg base N qual scope f cd A outer s0 H0 E).xe (.ref a) { s with heap:=h' }:=by
 have hin:∀ b,b∈frs outer→b∈frs (envOfC qual scope s0.heap.objs.size f cd::outer):=fun b hb=>by
  unfold frs at hb ⊢
  rw [List.filterMap_cons]
  exact List.mem_cons_of_mem _ hb
 have st:=I.stack
 refine wpAny_leaves_madeW (base:=hideAll s.heap (frs (envOfC qual scope s0.heap.objs.size f cd::outer))) (h:=s.heap) I.ok.frames (L:=s0.heap.objs.size) rfl (fun b o q=>of_hideAll _ q) (funFrames_hide st fun env he b hb=>List.mem_filterMap.mpr ⟨env,he,hb⟩) mk fun h2 t fl tu bt up=>?_
 exact aa9 (h1:=s.heap) I (fun b o q nf _=>hideAll_get _ q nf) (fun b o q hb=>up b o (mk.keeps b o q) (zz I (hin b hb) q)) fl e
end
structure XCls (K:PySem.W.Frag) (C:Addr):Prop where
 obj:∃ (nm q:Str) (N:Addr) (bs bm:List Value) (hdct:Bool) (sn:List Str) (sub:List Value) (ab:Bool) (col:Option Bool) (dd:Option Addr) (k0 k1 k2 k3 k5:Option Value),
  K.lookup C=some (excClassObj nm q C N bs bm hdct sn sub ab col dd k0 k1 k2 k3 k5 "ValueError.__new__")∧nsOkIn K N=true∧nsIn K N "__init__" = some none∧tailIn K [.type "ValueError", .type "Exception", .type "BaseException", .type "object"] bm=true
def agr (t:TA) (Ex:Hp→Prop):TS:=fun _ σ H=>t σ H fun vs H1=>vs.length≤sizeLine∧Ex H1
section
variable {X:Cx} {C:Addr} {x:Str} {np cpos pos:Pos} {e:Expr} {es:List Expr} {t:TA} {Ex:Hp→Prop}
theorem aaa (hC:XCls X.K C) (hg:Gl X x) (hm:X.mg x=some (.ref C)) (hc:X.calm=true) (ha:PA X (e::es) t)
  (lk:∀ (pins:List (Addr × Obj)) (σ:St) (H:Hp) (s:Shared) (h':Heap) (a:Addr) (args:List Value),Inv X pins σ H s→Heap.MadeExcOf s.heap h' a (.ref C) args→Ex H→X.xe (.ref a) { s with heap:=h' })
  (hdb:(x == ("__debug__" : Str))=false:=by decide) (he:starEach (e::es) X.env=(false,eval e X.env)::starEach es X.env:=by rfl) (hpl:(backTo cpos (starEach es X.env)).any (·.1)=false:=by rfl) :
  PS X (.Raise (some (.Call (.Name x np) (e::es) [] cpos)) none pos) (agr t Ex):=by
 intro pins s σ H D I h
 obtain ⟨nm,q,N,bs,bm,hdct,sn,sub,ab,col,dd,k0,k1,k2,k3,k5,lo,ok,ni,ti⟩:=hC.obj
 refine wpAny_Raise_call_subT (C:=C) (nm:=nm) (q:=q) (N:=N) (bs:=bs) (bm:=bm) (hdct:=hdct) (sn:=sn) (sub:=sub) (ab:=ab) (col:=col) (dd:=dd) (k0:=k0) (k1:=k1) (k2:=k2) (k3:=k3) (k5:=k5)
  PySem.F.excBase_ValueError (mN:=X.base.nsMap N) ((tail_of_in I.kIn ti).hasType PySem.F.excBase_ValueError.hasBase) (I.ok.hd hc) (by rw [he];show (false || (backTo cpos (starEach es X.env)).any (·.1))=false;rw [hpl];rfl) (nsMap_none_of_in I.ok.mod.kin ok ni) (ux I hg hm ⟨rfl,?_⟩ hdb)
 have h2:=ha cpos pins s σ H _ I h
 rw [he] at h2 ⊢
 refine Calls.evalArgs_plain (thn h2 fun us s1 ⟨vs,H1,I1,r,z,ex⟩=>?_)
 exact ⟨rfl,by rw [← r.length];exact z,I1.kIn _ _ lo, .keeps (.of_isNs (isNs_of_in I1.ok.mod.kin ok)) I1.bk,tail_of_in I1.kIn ti,fun h' a mk=>lk pins σ H1 s1 h' a us I1 mk ex⟩
end
end L2
namespace L2
open PySem PySem.Spec PySem.W PyProof.Rows Builtin Builtin.ObjectAttr Builtin.Getset_descriptor
section
variable {prog:Program} {w:World} {A:Around} {E:Value→Shared→Prop} {s:Shared} {K:Frag} {x D:Addr} {ox:Obj} {odo:Option Obj}
structure XKit (K:Frag) (D:Addr):Prop where
 ga:findIn K (.ref D) "__getattribute__" = some (some (.builtin "BaseException.__getattribute__"))
 gn:findIn K (.ref D) "__getattr__" = some none
 cl:(clsIn K D).isSome=true
 ca:findIn K (.ref D) "__class__" = some (some (.builtin "object.__class__"))
 sp:specialIn K (.builtin "object.__class__") "__get__" = some (some (.builtin "getset_descriptor.__get__"))
 tk:takesIn K (.builtin "object.__class__")=some true
 ob:mroIn K D (.type "object")=some true
 be:subIn K (.ref D) (.type "BaseException")=some true
 kc:kitCls K (.ref D) (.ref D)=some true
abbrev ExAt (x D:Addr) (h:Heap):Prop:=∃ o,h.get? x=some o∧o.cls = .ref D
theorem ExAt.ty {M:Model} {h:Heap} (I:ExAt x D h):Looks M h (typeOf (.ref x)) (.ref D):=by
 obtain ⟨o,q,c⟩:=I
 exact c ▸ (Looks.ld q).andThen .now
theorem adk {R:Result→Shared→Prop} {tp:Value} (Z:XKit K D) (X:K.In s.heap) (I:ExAt x D s.heap) (h:R (.ok (.ret (.ref D))) s):codeAny (model prog w) A (.call (.builtin "getset_descriptor.__get__") ⟨[.builtin "object.__class__", .ref x,tp],[]⟩) R s:=by
 obtain ⟨hh,g,d,t,os⟩:=s
 have T0:=ExAt.ty (M:=model prog w) I
 have T1:=looks_mroIn (M:=model prog w) X Z.ob
 refine codeAny_call_builtin KF.slot_gs.plain KF.entry_gs (KF.slot_gs.check _ _ _ _ _ _ _ _ KF.type_class (KF.args_gs _ _ _) ?_);unfold Builtin.«getset_descriptor.__get__» descrGet;rw [dga_obj]
 refine wpAny_bind (wpAny_pure ?_);unfold descrGetter descrCheckInstance descrNameAndClass isInstance;simp only [KF.owner_class]
 repeat lk
 refine ⟨Code.quiet_builtin _ (by decide +kernel),codeAny_builtin KF.entry_class ?_⟩;unfold Builtin.«object.__class__» shownTypeOf
 repeat lk
 exact h
theorem aab {M:Model} {h:Heap} (Z:XKit K D) (X:K.In h):Looks M h (Builtin.ObjectAttr.find (.ref x) (.ref D) "__class__") (.bind (.builtin "getset_descriptor.__get__") (.builtin "object.__class__")):=by
 refine (looks_findIn X Z.ca).andThen (Looks.andThen (a:=some (.builtin "getset_descriptor.__get__")) (looks_specialIn X Z.sp) (Looks.andThen (a:=some (.builtin "getset_descriptor.__get__", .builtin "object.__class__")) ?_ (Looks.tag .now)))
 exact (looks_takesIn X Z.tk).andThen .now
theorem a8g {Q:Option Value→Shared→Prop} (Z:XKit K D) (X:K.In s.heap) (I:ExAt x D s.heap) (h:Q (some (.ref D)) { s with toks:=s.toks+1 }):wpAny (model prog w) A (getAttr? (.ref x) "__class__") Q E s:=by
 obtain ⟨hh,g,d,t,os⟩:=s
 have T0:=ExAt.ty (M:=model prog w) I
 have T1:=looks_findIn (M:=model prog w) X Z.ga
 have T2:=looks_findIn (M:=model prog w) X Z.gn
 have T3:=aab (M:=model prog w) (x:=x) Z X
 have T4:Looks (model prog w) hh (isInstance (.ref x) (.type "BaseException")) true:=T0.andThen (looks_subIn X Z.be)
 have f3:=PySem.F.attrBase_ValueError.ga.bind (.ref x)
 have nb:(Value.builtin "BaseException.__getattribute__" == Value.builtin "object.__getattribute__")=false:=by decide +kernel
 have nh:(onTheHeap (Value.ref D) && Value.builtin "BaseException.__getattribute__" == Value.builtin "object.__getattribute__")=false:=by rw [nb];rfl
 unfold getAttr? getAttrBy? getAttrBy;refine wpAny_bind (wpAny_mkText (wpAny_bind (wpAny_attempt (wpAny_holding (wpAny_bind (T0.at (wpAny_bind (T1.at ?_))))))));dsimp only
 rw [nh,if_neg Bool.false_ne_true]
 unfold getAttrByItsOwn
 show wpAny _ _ (typeLookup (.ref D) "__getattr__">>=fun before=>_) _ _ _
 refine wpAny_bind (T2.at (wpAny_bind (wpAny_attempt (wpAny_holding ?_))))
 show wpAny _ _ (boundAndCalled _ _ _) _ _ _
 unfold boundAndCalled
 rw [f3]
 refine wpAny_bind (wpAny_pure (wpAny_call (codeAny_call_builtin PySem.F.attrBase_ValueError.ga.plain PySem.F.entry_bexc_ga ?_)))
 have k1:builtinKind "BaseException.__getattribute__" = some .slot:=by decide +kernel
 have k2:splitId "BaseException.__getattribute__" = some ("BaseException", "__getattribute__"):=by decide +kernel
 have k3:=PySem.F.args_bexc_ga (.ref x) (.str "__class__" t)
 simp only [checkBuiltinCall,k1,k2]
 show wpAny _ _ (isInstance (.ref x) (.type "BaseException")>>=fun b=>_) _ _ _
 refine wpAny_bind (T4.at ?_)
 rw [if_neg (by decide)]
 refine wpAny_mono (Q:=fun _ s'=>s'=⟨hh,g,d,t+1,os⟩) (E:=fun _ _=>False) ?_ (fun u s' e=>?_) (fun _ _ z=>z.elim)
 ·repeat (any_goals (first | assumption | rfl | wp_step))
 ·subst e
  unfold Builtin.«object.__getattribute__»
  repeat (first | with_reducible refine T0.at ?_ | with_reducible refine T3.at ?_ | wp_step)
  exact adk (s:=⟨hh,g,d,t+1,os⟩) Z X I (wpAny_pure (handed_on rfl (wpAny_pure h)))
theorem XKit.at (Z:XKit K D):∃ c o cd sl,K.lookup D=some ⟨c,o, .cls cd,sl⟩:=by
 have:=Z.cl
 unfold clsIn at this
 split at this
 ·exact ⟨_,_,_,_, ‹_›⟩
 ·cases this
theorem XKit.no (Z:XKit K D) {h:Heap} {tp:Addr} {dd:Option Addr} {its:List Value} {n:Nat} {sl:Array (Option Value)} (X:K.In h) (q:h.get? tp=some ⟨.type "tuple",dd, .seq its.toArray n,sl⟩):(Value.ref D == .ref tp)=false :=
 beq_eq_false_iff_ne.mpr fun e=>by
  obtain ⟨_,_,_,_,lo⟩:=Z.at
  rw [Value.ref.inj e] at lo
  have:=X _ _ lo
  rw [q] at this
  cases this
theorem a5b (Z:XKit K D):KitX K (.ref x) (.ref D) (ExAt x D) :=
 ⟨fun _ _ _ I=>ExAt.ty I,fun _ _ X _=>(kit_cls X Z.kc).2.1,fun _ _ _ _ _ _ X q=>Z.no X q,fun X I q=>a8g Z X I q⟩
end
end L2
namespace L2
open PySem PySem.Spec PySem.W PyProof.Rows
section
variable {X:Cx} {pins:List (Addr × Obj)} {σ:St} {H H1 H':Hp} {s s1 s':Shared}
theorem a1r {M:Model} {A:Around} {E:Value→Shared→Prop} {i:Nat} {n:Str} {pos:Pos} {Q:Unit→Shared→Prop} (I:Inv X pins σ H s) (hN:X.N.Nodup) (hi:X.N[i]? = some n) (hk:X.env.scope.names.lookup n=some .local)
  (h:∀ s',Inv X pins (σ.set i none) H s'→Q () s'):wpAny M A (do bindName X.env n .none;unbindBehindTheSuite X.env n pos) Q E s:=by
 obtain ⟨m,hn,hl⟩:=id I.loc
 have hcls:(X.env.scope.kind == .class || (X.env.scope.kind == .module && X.env.locals != X.env.globals))=false:=by rw [I.ok.kind];rfl
 have cne:=I.cne
 obtain ⟨oL,_,_,hoL,_⟩:=id hn
 refine wpAny_nameGoes_keeps hk hn hcls fun h' v hn' hs=>h _ ?_
 have far:∀ b o,X.s₀.heap.get? b=some o→b≠X.env.locals:=fun b o e=>Nat.ne_of_lt (Nat.lt_of_lt_of_le (Heap.lt_size e) I.ok.above)
 refine ⟨I.ok,I.os,I.bare,⟨fun b o e n hb hx=>(hs.2 b (far b o e)).trans (I.base.keep b o e n hb hx),fun b o e n hb hx=>?_,I.base.free,fun b o e hx=>?_,I.base.tups,I.base.frzs,I.base.tbls⟩,⟨_,hn',fun j y v' e1 e2 e3=>?_⟩,fun y c e=>?_,I.free,I.freeC,fun p hp=>?_,I.hok.track fun b u hb q=>?_,by simpa using I.len⟩
 ·obtain ⟨sl,q⟩:=I.base.slot b o e n hb hx
  exact ⟨sl,(hs.2 b (far b o e)).trans q⟩
 ·obtain ⟨o1,q⟩:=I.base.there b o e hx
  exact ⟨o1,(hs.2 b (far b o e)).trans q⟩
 ·have ji:j≠i:=fun z=>by
   subst z
   rw [List.getElem?_set] at e2
   simp at e2
  rw [List.getElem?_set_ne (Ne.symm ji)] at e2
  obtain ⟨u',r',q⟩:=hl j y v' e1 e2 e3
  refine ⟨u',r',?_⟩
  rcases q with ⟨k,e⟩ | ⟨k,c,e,z⟩
  ·refine .inl ⟨k,?_⟩
   have:y≠n:=fun e=>ji (a0w hN e1 (e ▸ hi))
   simp [this,e]
  ·exact .inr ⟨k,c,e,z.sameBut hs (cne y c e)⟩
 ·obtain ⟨w',z⟩:=I.cell y c e
  exact ⟨w',z.sameBut hs (cne y c e)⟩
 ·obtain ⟨e,n,ne,nf,d⟩:=I.pin p hp
  exact ⟨(hs.2 p.1 ne).trans e,n,ne,nf,d⟩
 ·refine (hs.2 b fun z=>?_).trans q
  subst z
  exact hb I.free
theorem abi {B h5:Heap} {a C:Addr} {t:Value} (I1:Inv X pins σ H1 s1) (os:s'.os=s1.os) (bare:AllBare s'.gens) (un:Un (frs X.stack) [] H1 H' s1.heap s'.heap) (hok:HOk X.prog X.w H' s'.heap) (air:Air X.stack H' s1.heap B a C t s'.heap)
  (st:B.StaysIn h5) (up:s'.heap.UpToSlots h5) (tk:Nat):Inv X pins σ H' { s' with heap:=h5,toks:=tk }:=by
 have I2:Inv X pins σ H' s':=I1.call' os un hok bare (by intro b z;cases z)
 refine I1.call' (s':={ s' with heap:=h5,toks:=tk }) os ⟨fun b o q n hf hx=>?_,fun b o q n hf hx=>?_,un.free,fun b o q hx=>?_,un.tups,un.frzs,un.tbls⟩ (hok.track fun b u hn q=>?_) bare (by intro b z;cases z)
 ·exact st _ _ (air.bk b o (un.keep b o q n hf hx) hf (.inr ⟨o,q⟩))
 ·obtain ⟨s2,q2⟩:=un.slot b o q n hf hx
  obtain ⟨s3,q3⟩:=up b _ q2 (zz I2 hf q2)
  exact ⟨s3,q3⟩
 ·obtain ⟨o1,q1⟩:=un.there b o q hx
  by_cases hf:b∈frs X.stack
  ·obtain ⟨s3,q3⟩:=up b _ q1 (zz I2 hf q1)
   exact ⟨_,q3⟩
  ·exact ⟨_,st _ _ (air.bk b o1 q1 hf (.inr ⟨o,q⟩))⟩
 ·exact st _ _ (air.bk b u q (fun z=>hn (I2.stkFree b z)) (.inl hn))
abbrev Cx.inEx (X:Cx) (a:Addr):Cx:={ X with A:=X.A.mark (some (.ref a)),calm:=false,xe:=fun _ _=>False }
theorem Cx.Ok.inEx (ok:X.Ok) (a:Addr):(X.inEx a).Ok:=⟨ok.mod,ok.kind,ok.glob,ok.blt,ok.above,ok.inj,ok.has,ok.cab,fun z=>(Bool.noConfusion (show false=true from z)),ok.frames,ok.stk,ok.exf,ok.bs,ok.bsz,ok.noex,ok.exfs,ok.funs,ok.frf⟩
theorem Inv.inEx (I:Inv X pins σ H s) (a:Addr):Inv (X.inEx a) pins σ H s:=⟨I.ok.inEx a,I.os,I.bare,I.base,I.loc,I.cell,I.free,I.freeC,I.pin,I.hok,I.len⟩
theorem Inv.outEx {a:Addr} (ok:X.Ok) (I:Inv (X.inEx a) pins σ H s):Inv X pins σ H s:=⟨ok,I.os,I.bare,I.base,I.loc,I.cell,I.free,I.freeC,I.pin,I.hok,I.len⟩
def exO (a:Addr):HO:=.ext fun h=>∃ o,h.get? a=some o
theorem Inv.exc {a:Addr} {oe:Obj} (I:Inv X pins σ H s) (I1:Inv X pins σ H1 s1) (he:s.heap.get? a=some oe) (ha:H a=none) (na:s1.heap.get? a=none):Inv X pins σ (upd H a (.frz oe (exO a))) s:=by
 have old:∀ b o,s1.heap.get? b=some o→b≠a:=fun b o q z=>by subst z;rw [na] at q;cases q
 have sm:∀ b o,s1.heap.get? b=some o→upd H a (.frz oe (exO a)) b=H b:=fun b o q=>dj (old b o q)
 have kp:∀ b u,H b=some u→upd H a (.frz oe (exO a)) b=some u:=fun b u q=>by
  rw [dj]
  ·exact q
  ·intro z;subst z;rw [ha] at q;cases q
 have ba:=I.base
 refine ⟨I.ok,I.os,I.bare,⟨ba.keep,ba.slot,fun b o q n hx=>?_,ba.there,fun b xs q=>kp _ _ (ba.tups b xs q),fun b o u q=>kp _ _ (ba.frzs b o u q),fun b ps q=>?_⟩,I.loc,I.cell,?_,fun y c e=>?_,fun p hp=>?_,fun b u q=>?_,I.len⟩
 ·obtain ⟨o1,q1⟩:=I1.base.there b o q hx
  rw [sm b o1 q1]
  exact ba.free b o q n hx
 ·obtain ⟨more,q1⟩:=ba.tbls b ps q
  exact ⟨more,kp _ _ q1⟩
 ·obtain ⟨_,⟨o,_,_,q,_⟩,_⟩:=I1.loc
  rw [sm _ _ q]
  exact I.free
 ·obtain ⟨v,o,q,_⟩:=I1.cell y c e
  rw [sm _ _ q]
  exact I.freeC y c e
 ·obtain ⟨e,n,ne,nf,d⟩:=I.pin p hp
  exact ⟨e,by rw [sm _ _ (I1.pin p hp).1];exact n,ne,nf,d⟩
 ·by_cases hb:b=a
  ·subst hb
   rw [jf] at q
   cases q
   exact ⟨he,⟨oe,he⟩,⟨oe,he⟩,fun h1 h2 ⟨o,q⟩ k=>⟨o,k o q⟩⟩
  ·rw [dj hb] at q
   exact (I.hok b u q).stay (fun _ _ _ z=>z) (fun c z=>kp _ _ z) fun c xs z=>kp _ _ z
end
def XP (X:Cx) (pins:List (Addr × Obj)) (σ:St) (E:XK) (e:Value) (s':Shared):Prop:=∃ s1 H1,Inv X pins σ H1 s1∧CXE X.prog X.w X.stack H1 s1 E e s'
structure Hnd (X:Cx) (R:Addr) (x n:Str) (i:Nat):Prop where
 hg:Gl X x
 hm:X.mg x=some (.ref R)
 nd:X.N.Nodup
 hi:X.N[i]? = some n
 lo:X.env.scope.names.lookup n=some .local
 st:X.stack=X.env::X.outer∧X.env.frame=some X.env.locals
 db:(x == ("__debug__" : Str))=false
section
variable {X:Cx} {pins:List (Addr × Obj)} {σ:St} {s s':Shared}
def aj8 (D:Ends) (i:Nat):Ends:={ nx:=fun σ H=>D.nx (σ.set i none) H,rt:=D.rt,bk:=fun σ H=>D.bk (σ.set i none) H,ct:=fun σ H=>D.ct (σ.set i none) H }
theorem aac {R:Addr} {x n:Str} {i:Nat} {np pos:Pos} {b0:Stmt} {suite:List Stmt} {ts:TS} {D:Ends} {E:XK} {e:Value} (N:Hnd X R x n i) (hs:∀ a,PSs (X.inEx a) (b0::suite) ts)
  (mt:∀ C H,E (.ref C) none H→exmOne X.K (.ref C) (.ref R)=some true∧∀ a oe,oe.cls = .ref C→H a=none→ts (aj8 D i) (σ.set i (some (.ref a))) (upd H a (.frz oe (exO a))))
  (h:XP X pins σ E e s') :
  wpAny (model X.prog X.w) X.A (noteFrame e X.env) (fun _ s2=>wpAny (model X.prog X.w) X.A (setFlight e none) (fun _ s3=>wpAny (model X.prog X.w) X.A (handleBy e X.env [.ExceptHandler (some (.Name x np)) (some n) (b0::suite) pos]) (SP X pins D) X.xe s3) X.xe s2) X.xe s':=by
 obtain ⟨s1,H1,I1,a,C,t,B,H',rfl,os,bare,un,hok,air,e⟩:=h
 obtain ⟨mt1,mt2⟩:=mt C H' e
 have ok:=I1.ok
 have fr:X.A.frames=some (X.env::X.outer):=by rw [← N.st.1];exact ok.frames
 have fl:=air.fly
 rw [N.st.1] at fl
 have na:s1.heap.get? a=none:=by
  cases q:s1.heap.get? a with
  | none=>rfl
  | some o =>
   obtain ⟨oe,vs,he,_,hd,_⟩:=fl.first
   have I2:Inv X pins σ H' s':=I1.call' os un hok bare (by intro b z;cases z)
   have nf:a ∉ frs X.stack:=fun z=>zz I2 z he _ hd
   have:=air.bk a oe he nf (.inr ⟨o,q⟩)
   rw [fl.2.1] at this
   cases this
 have ha:H' a=none:=by
  cases q:H' a with
  | none=>rfl
  | some u =>
   obtain ⟨oe,vs,he,_,hd,_⟩:=fl.first
   have I2:Inv X pins σ H' s':=I1.call' os un hok bare (by intro b z;cases z)
   have nf:a ∉ frs X.stack:=fun z=>zz I2 z he _ hd
   have:=air.bk a oe he nf (.inl (by rw [q];simp))
   rw [fl.2.1] at this
   cases this
 refine wpAny_looks_onW fr N.st.2 fl fun h4 held4 up4=>?_
 refine wpAny_landsW held4 fun h5 fl5 up5=>?_
 have I5:=abi I1 os bare un hok air fl5.1 (up4.trans up5) s'.toks
 obtain ⟨ob,hob,hobc⟩:=fl5.there
 have I5m:=I5.inEx a
 refine wpAny_handleBy_cons (codeAny_handlers_test (ux I5m N.hg N.hm ?_ N.db)) (by intro q;cases q)
 have LT:Looks (model X.prog X.w) h5 (typeOf (.ref a)) (.ref C):=hobc ▸ (Looks.ld hob).andThen .now
 refine (exm_one I5.kIn LT mt1).here ?_
 refine codeAny_handlers_suite_as ?_
 refine lands_againW fl5 fun h6 fl6 up6=>?_
 have I6:=abi I1 os bare un hok air fl6.1 ((up4.trans up5).trans up6) s'.toks
 obtain ⟨oe,vs,he,hec,hed,_⟩:=fl6.first
 have I7:=(I6.exc I1 he ha na).inEx a
 refine yt (X:=X.inEx a) I7 N.nd N.hi (.inl N.lo) (v:=.ref a) rfl (fun s8 I8=>?_) (.inr N.lo)
 refine wpAny_mono (hs a pins s8 _ _ (aj8 D i) I8 (mt2 a oe hec ha)) (fun f s9 q=>?_) fun _ _ z=>z.elim
 show wpAny (model X.prog X.w) X.A (do bindName X.env n .none;unbindBehindTheSuite X.env n pos) (fun _ s3=>SP X pins D f s3) X.xe s9
 cases f with
 | next =>
  obtain ⟨σ',H9,I9,q⟩:=q
  exact a1r (I9.outEx ok) N.nd N.hi N.lo fun s10 I10=>⟨_,H9,I10,q⟩
 | brk =>
  obtain ⟨σ',H9,I9,q⟩:=q
  exact a1r (I9.outEx ok) N.nd N.hi N.lo fun s10 I10=>⟨_,H9,I10,q⟩
 | cont =>
  obtain ⟨σ',H9,I9,q⟩:=q
  exact a1r (I9.outEx ok) N.nd N.hi N.lo fun s10 I10=>⟨_,H9,I10,q⟩
 | ret u =>
  obtain ⟨v,σ',H9,I9,r,q⟩:=q
  exact a1r (I9.outEx ok) N.nd N.hi N.lo fun s10 I10=>⟨v,_,H9,I10,r,q⟩
def PEx (X:Cx) (e:Expr) (t:St→Hp→VK→XK→Prop):Prop :=
 ∀ (pins:List (Addr × Obj)) (s:Shared) (σ:St) (H:Hp) (Q:VK) (E:XK),Inv X pins σ H s→t σ H Q E→wpAny (model X.prog X.w) X.A (eval e X.env) (EP X pins σ Q) (XP X pins σ E) s
def PSx (X:Cx) (st:List Stmt) (t:Ends→XK→St→Hp→Prop):Prop :=
 ∀ (pins:List (Addr × Obj)) (s:Shared) (σ:St) (H:Hp) (D:Ends) (E:XK),Inv X pins σ H s→t D E σ H→wpAny (model X.prog X.w) X.A (execs st X.env) (SP X pins D) (XP X pins σ E) s
variable {e:Expr} {es:List Expr} {pos:Pos}
theorem a8h {st:Stmt} {D:Ends} {W:Value→Shared→Prop} (h:wpAny (model X.prog X.w) X.A (exec st X.env) (SP X pins D) W s):wpAny (model X.prog X.w) X.A (execs [st] X.env) (SP X pins D) W s:=by
 refine wpAny_execs_cons (thn h fun f s1 q=>?_)
 cases f with
 | next=>exact wpAny_execs_nil q
 | ret v=>exact q
 | brk=>exact q
 | cont=>exact q
theorem aad {t:St→Hp→VK→XK→Prop} (he:PEx X e t) (hs:swapsWith e none pos.line X.env=pure false:=by rfl):PSx X [.Expr e pos] (fun D E σ H=>t σ H (fun _ H1=>D.nx σ H1) E):=by
 intro pins s σ H D E I h
 exact a8h (wpAny_Expr_any (thn (he pins s σ H _ E I h) fun v s1 ⟨x,H1,I1,r1,q1⟩=>⟨σ,H1,I1,q1⟩) I.quiet hs)
theorem ags {R:Addr} {x n:Str} {i:Nat} {np hp pos:Pos} {body:List Stmt} {b0:Stmt} {suite:List Stmt} {t:Ends→XK→St→Hp→Prop} {ts:TS} (N:Hnd X R x n i) (hb:PSx X body t) (hs:∀ a,PSs (X.inEx a) (b0::suite) ts) :
  PS X (.Try body [.ExceptHandler (some (.Name x np)) (some n) (b0::suite) hp] [] [] pos) (fun D σ H=>t D (fun cls d H'=>∃ C,cls = .ref C∧exmOne X.K (.ref C) (.ref R)=some true∧∀ a oe,oe.cls = .ref C→H' a=none→ts (aj8 D i) (σ.set i (some (.ref a))) (upd H' a (.frz oe (exO a)))) σ H):=by
 intro pins s σ H D I h
 refine wpAny_Try_except (wpAny_mono (hb pins s σ H D _ I h) (fun f s1 q=>?_) fun e s1 q=>aac N hs (fun C H' z=>?_) q)
 ·cases f with
  | next=>exact wpAny_execs_nil q
  | ret v=>exact q
  | brk=>exact q
  | cont=>exact q
 ·obtain ⟨C',z,m1,m2⟩:=z
  cases z
  exact ⟨m1,m2⟩
theorem aae {k:Nat} {f:Addr} {fd:FuncData} {ps:List Str} {sp:Sp} {x:Str} {p:Pos} {t:TA} (F:FnOk X.prog X.w X.K X.mg X.base (CXE X.prog X.w) k f fd ps sp) (hr:Room k X.A) (hg:Gl X x) (hm:X.mg x=some (.ref f)) (hk:PySem.W.keepIn X.K (.ref f)=true) (hb:Binds X.K fd ps [])
  (ha:PA X.nox (e::es) t) (hdb:(x == ("__debug__" : Str))=false:=by decide) (he:starEach (e::es) X.env=(false,eval e X.env)::starEach es X.env:=by rfl) (hpl:(backTo pos (starEach es X.env)).any (·.1)=false:=by rfl) :
  PEx X (.Call (.Name x p) (e::es) [] pos) (fun σ H Q E=>t σ H fun vs H1=>sp vs H1 Q E):=by
 intro pins s σ H Q E I h
 refine wpAny_Call_Name_kw (ux I hg hm ?_ hdb)
 refine PySem.W.callWith_K (h₀:=X.base) I.ok.mod.kin hk (wpAny_mono (ha pos pins s σ H _ (I.wish _) h) (fun us s1 ⟨vs,H1,I1,r,q⟩=>⟨I1.unwish.kIn,?_⟩) fun _ _ z=>z.elim) he hpl
 have I1:=I1.unwish
 have hl:us.length=ps.length:=by rw [← r.length];exact F.len _ _ _ _ q
 have bd:=hb s1 us I1.kIn (by rw [List.append_nil];exact hl)
 rw [List.append_nil] at bd
 refine wpAny_call (codeAny_mono (F.run X.A X.stack s1 H1 ⟨us,[]⟩ us vs Q E hr I1.env0 bd r q) fun r s' hq=>?_)
 cases r with
 | error e=>exact ⟨s1,H1,I1,hq⟩
 | ok fl =>
  cases fl with
  | ret u=>exact I1.after hq
  | next=>exact False.elim hq
  | brk=>exact False.elim hq
  | cont=>exact False.elim hq
end
end L2
namespace MI
open PySem PySem.Spec L2
def abj (mg:Str→Option Value) (E:XK):XD:=fun c _ H' _=>∃ C,mg c=some (.ref C)∧E (.ref C) none H'
def spX (K:PySem.W.Frag) (mg:Str→Option Value) (n:Nat) (F:SF):Sp:=fun vs H Q E=>vs.length=n∧∃ ι ds h,Reps K ι H vs ds∧HRep K ι H h∧out K (abj mg E) (ul K) ι H (F ds h) Q
structure DnX (P:Program) (w:World) (K:PySem.W.Frag) (mg:Str→Option Value) (base:Heap) (k:Nat) (x:Str) (ps:List Str) (sp:Sp) (f:Addr) (fd:FuncData):Prop where
 ok:FnOk P w K mg base (CXE P w) k f fd ps sp
 m:mg x=some (.ref f)
 kp:PySem.W.keepIn K (.ref f)=true
 b:Binds K fd ps []
theorem adl {P:Program} {w:World} {K:PySem.W.Frag} {mg:Str→Option Value} {base:Heap} {x qual:Str} {st:Stmt} {f:Addr} {fd:FuncData} {N ps:List Str} {k:Nat} {b:SS} (Fu:Fun K x qual st f fd) (S:FnScope N ps (ao st))
  (hb:∀ (cdv:Value) (A:Around) (outer:List Env) (s:Shared) (H:Hp) (E:XK),Room k (A.deeper (PyProof.Rows.envOfC qual (ao st) s.heap.objs.size f cdv))→MSs (cxE P w K mg base N qual (ao st) f cdv A outer s H E) (abj mg E) (gj st) b) :
  FnOk P w K mg base (CXE P w) (k+1) f fd ps (spX K mg ps.length (lz b N.length)):=by
 obtain ⟨oc,od,kV,doc,pm,an,cdv,ct,osl,rfl,lk,hcd⟩:=Fu.ex
 refine afo lk hcd S (fun vs H Q E h=>h.1) fun A outer s H vs Q E hr h=>⟨_,hb cdv A outer s H E hr,?_⟩
 obtain ⟨hl,ι,ds,h,r,hr',o⟩:=h
 refine ⟨ι,qi N.length ds,h,vz r,hr',?_⟩
 unfold lz at o
 cases hbd:b (qi N.length ds) h with
 | rt d h1=>rw [hbd] at o;exact o
 | nx τ h1=>rw [hbd] at o;exact fun ι' H' σ' g1 S1 hr1=>o ι' H' .non g1 .non hr1
 | ex c h1=>rw [hbd] at o;exact o
 | bk τ h1=>rw [hbd] at o;exact o.elim
 | ct τ h1=>rw [hbd] at o;exact o.elim
 | no=>rw [hbd] at o;exact o.elim
section
variable {K:PySem.W.Frag} {ι:List Addr} {H:Hp} {h:Hd} {n:Nat}
noncomputable def t7 (n:Nat) (F:SF):SF:=fun ds h=>open Classical in if ∀ d∈ds,clo 0 d then (match F ds [] with | .ex c _=>if ds.length=n then .ex c h else .no | _=>jz false n F ds h) else .no
theorem noex {m:Bool} {F:SF} {ds:List D} {c:Str} {h1:Hd}:jz m n F ds h≠.ex c h1:=by
 unfold jz
 split
 ·unfold aem
  intro e
  repeat (first | (split at e) | cases e)
 ·intro e;cases e
theorem a5c {E E':XD} {r:R D} {Q:VK} (ne:∀ c h1,r≠.ex c h1) (o:out K E (ul K) ι H r Q):out K E' (ul K) ι H r Q:=by
 cases r with
 | ok a h=>exact o
 | ex c h=>exact absurd rfl (ne c h)
 | no=>exact o
theorem HRep.stays {H':Hp} (hr:HRep K ι H h) (k:∀ a u,H a=some u→H' a=some u):Gr ι H ι H'∧HRep K ι H' h:=by
 have G:Gr ι H ι H':=⟨⟨[],by simp,by simp⟩,fun a vs q=>k _ _ q,fun a o u q=>k _ _ q,fun a u q _=>k _ _ q,fun a u q=>⟨u,k _ _ q⟩⟩
 refine ⟨G,hr.nd,hr.len,fun i a o e1 e2=>?_⟩
 have r:=hr.obj i a o e1 e2
 obtain ⟨u,hu,_⟩:=r.some
 exact r.mono G (by rw [hu];exact k a u hu)
theorem a2t:∀ {ds:List D},(∀ d∈ds,clo 0 d)→clos 0 ds
 | [],_=>by simp [clos]
 | d::ds,h=>by simp only [clos];exact ⟨h d List.mem_cons_self,a2t fun x hx=>h x (List.mem_cons_of_mem _ hx)⟩
theorem a5d {mg:Str→Option Value} {F:SF} {vs:List V} {ds:List D} {Q:VK} {E:XK} {E2:XD} (r:Reps K ι H vs ds) (hr:HRep K ι H h) (o:out K E2 (ul K) ι H (t7 n F ds h) Q) (hE:∀ c H' ,Gr ι H ι H'→HRep K ι H' h→E2 c ι H' h→abj mg E c ι H' h) :
  spX K mg n F vs H (fun v H1=>∃ L,a3d H1 L∧∀ H2,FrzOf L H1 H2→Q v H2) E:=by
 unfold t7 at o
 split at o
 ·rename_i hc
  have ok:out K E2 (ul K) ι H (jz false n F ds h) Q→spX K mg n F vs H (fun v H1=>∃ L,a3d H1 L∧∀ H2,FrzOf L H1 H2→Q v H2) E:=fun o=>by
   obtain ⟨l,ι0,ds0,h0,r0,hr0,o0⟩:=zx r hr (a5c (E':=X0) (fun c h1=>noex) o) E
   refine ⟨l,ι0,ds0,h0,r0,hr0,?_⟩
   cases e:F ds0 h0 with
   | ok a h1=>rw [e] at o0;exact o0
   | ex c h1=>rw [e] at o0;exact fun ι' H' g hr=>(o0 ι' H' g hr).elim
   | no=>rw [e] at o0;exact o0
  split at o
  ·rename_i c hx e
   split at o
   ·rename_i hl
    have R0:Reps K [] H vs ds:=by
     have:=r.cut (a2t hc)
     rwa [List.take_zero] at this
    refine ⟨by rw [r.len];exact hl,[],ds,[],R0,⟨List.nodup_nil,rfl,fun i a o e1=>by simp at e1⟩,?_⟩
    rw [e]
    intro ι' H' g _
    obtain ⟨G,hr'⟩:=hr.stays fun a u q=>g.oth a u q (by simp)
    exact hE c H' G hr' (o ι H' G hr')
   ·exact o.elim
  ·exact ok o
 ·exact o.elim
end
theorem aaf (m:Bool) {X:Cx} {E:XD} {k n:Nat} {f:Addr} {fd:FuncData} {ps:List Str} {x:Str} {F:SF} {ka:SA} {e:Expr} {es:List Expr} {p pos:Pos} (G:Dn X.prog X.w X.K X.mg X.base k x ps (qx X.K n F) f fd) (hr:Room k X.A) (hg:Gl X x) (ha:MA X E (e::es) ka)
  (hdb:(x == ("__debug__" : Str))=false:=by decide) (he:starEach (e::es) X.env=(false,eval e X.env)::starEach es X.env:=by rfl) (hpl:(backTo pos (starEach es X.env)).any (·.1)=false:=by rfl):ME X E (.Call (.Name x p) (e::es) [] pos) (sA (jz m n F) ka):=by
 refine PE.weak (a0l (a3h G.ok hr hg G.m G.kp G.b .nil acg ha hdb he hpl)) fun σ H Q ⟨ι,τ,h,S,Rh,o⟩=>?_
 refine ⟨ι,τ,h,S,Rh,cu o fun ds h1 ι1 H1 vs g1 r1 hr1 o1=>?_⟩
 rw [List.append_nil]
 exact zx r1 hr1 (a5c (fun c h1=>noex) o1) _
theorem ue {X:Cx} {k n:Nat} {f:Addr} {fd:FuncData} {ps:List Str} {x:Str} {F:SF} {ka:SA} {e:Expr} {es:List Expr} {p pos:Pos} (G:DnX X.prog X.w X.K X.mg X.base k x ps (spX X.K X.mg n F) f fd) (hr:Room k X.A) (hg:Gl X x) (ha:MA X X0 (e::es) ka)
  (hdb:(x == ("__debug__" : Str))=false:=by decide) (he:starEach (e::es) X.env=(false,eval e X.env)::starEach es X.env:=by rfl) (hpl:(backTo pos (starEach es X.env)).any (·.1)=false:=by rfl):ME X X0 (.Call (.Name x p) (e::es) [] pos) (sA (t7 n F) ka):=by
 have ps0:a2c (CXE X.prog X.w) X E0:=by
  rintro pins σ H s e s' I ⟨a,C,t,B,H',rfl,os,bare,un,hok,air,z⟩
  exact z.elim
 refine PE.weak (a0l (a3h G.ok hr hg G.m G.kp G.b .nil ps0 ha hdb he hpl)) fun σ H Q ⟨ι,τ,h,S,Rh,o⟩=>?_
 refine ⟨ι,τ,h,S,Rh,cu o fun ds h1 ι1 H1 vs g1 r1 hr1 o1=>?_⟩
 rw [List.append_nil]
 exact a5d r1 hr1 o1 fun c H' _ _ z=>z.elim
section
variable {P:Program} {w:World} {K:PySem.W.Frag} {mg:Str→Option Value} {base:Heap} {N:List Str} {qual:Str} {scope:Scope} {fa:Addr} {cd:Value} {A:Around} {outer:List Env} {s0:Shared} {H0:Hp} {E:XK}
def a2u (c:Str) (ka:SA):SS:=fun τ h=>(ka τ h).fl fun ds h1=>if ds.length≤LINE then .ex c h1 else .no
theorem a5e {C:Addr} {x:Str} {ka:SA} {e:Expr} {es:List Expr} {np cpos pos:Pos} (hC:XCls K C) (hg:Gl (cxE P w K mg base N qual scope fa cd A outer s0 H0 E) x) (hm:mg x=some (.ref C)) (ha:MA (cxE P w K mg base N qual scope fa cd A outer s0 H0 E) (abj mg E) (e::es) ka)
  (hdb:(x == ("__debug__" : Str))=false:=by decide) (he:starEach (e::es) (cxE P w K mg base N qual scope fa cd A outer s0 H0 E).env=(false,eval e (cxE P w K mg base N qual scope fa cd A outer s0 H0 E).env)::starEach es (cxE P w K mg base N qual scope fa cd A outer s0 H0 E).env:=by rfl) (hpl:(backTo cpos (starEach es (cxE P w K mg base N qual scope fa cd A outer s0 H0 E).env)).any (·.1)=false:=by rfl) :
  MS (cxE P w K mg base N qual scope fa cd A outer s0 H0 E) (abj mg E) (.Raise (some (.Call (.Name x np) (e::es) [] cpos)) none pos) (a2u x ka):=by
 refine PS.weak (aaa (X:=cxE P w K mg base N qual scope fa cd A outer s0 H0 E) (Ex:=fun H=>E (.ref C) none H) hC hg hm rfl ha (fun pins σ H s h' a args I mk z=>aj7 I mk z) hdb he hpl) fun D σ H ⟨ι,τ,h,S,Rh,o⟩=>?_
 refine ⟨ι,τ,h,S,Rh,rz o fun ds h1 ι1 H1 vs g1 r1 hr1 o1=>?_⟩
 split at o1
 ·rename_i hl
  obtain ⟨C',e1,z⟩:=o1 ι1 H1 (.refl _ _) hr1
  rw [hm] at e1
  cases e1
  exact ⟨by rw [r1.len];exact a1a hl,z⟩
 ·exact o1.elim
end
def noX {α:Type}:R α→R α
 | .ex _ _=>.no
 | r=>r
def qA {α:Type} (ka:Sd→Hd→R α):Sd→Hd→R α:=fun τ h=>noX (ka τ h)
abbrev MEx (X:Cx) (e:Expr) (f:SE):Prop:=PEx X e fun σ H Q E=>lift X.K (abj X.mg E) (ul X.K) f σ H Q
abbrev MSx (X:Cx) (st:List Stmt) (f:SS):Prop:=PSx X st fun D E σ H=>a03 X.K (abj X.mg E) f D σ H
section
variable {X:Cx}
theorem adm {e:Expr} {t:St→Hp→VK→XK→Prop} (h:PEx X e t):PEx X e (fun σ H Q E=>t σ H (fun v H1=>∃ L,a3d H1 L∧∀ H2,FrzOf L H1 H2→Q v H2) E):=fun pins s σ H Q E I q =>
 L2.thn (h pins s σ H _ E I q) fun u s' ⟨v,H1,I1,r,L,ab,k⟩=>let ⟨H2,f,I2⟩:=Inv.frz I1 ab; ⟨v,H2,I2,r,k H2 f⟩
theorem adn {k n:Nat} {f:Addr} {fd:FuncData} {ps:List Str} {x:Str} {F:SF} {ka:SA} {e:Expr} {es:List Expr} {p pos:Pos} (G:DnX X.prog X.w X.K X.mg X.base k x ps (spX X.K X.mg n F) f fd) (hr:Room k X.A) (hg:Gl X x) (ha:MA X.nox X0 (e::es) ka)
  (hdb:(x == ("__debug__" : Str))=false:=by decide) (he:starEach (e::es) X.env=(false,eval e X.env)::starEach es X.env:=by rfl) (hpl:(backTo pos (starEach es X.env)).any (·.1)=false:=by rfl):MEx X (.Call (.Name x p) (e::es) [] pos) (sA (t7 n F) (qA ka)):=by
 intro pins s σ H Q E I ⟨ι,τ,h,S,Rh,o⟩
 refine adm (aae G.ok hr hg G.m G.kp G.b ha hdb he hpl) pins s σ H Q E I ⟨ι,τ,h,S,Rh,?_⟩
 have o2:=cu o (P:=fun vs H1=>spX X.K X.mg n F vs H1 (fun v H1=>∃ L,a3d H1 L∧∀ H2,FrzOf L H1 H2→Q v H2) E) fun ds h1 ι1 H1 vs g1 r1 hr1 o1=>a5d r1 hr1 o1 fun c H' _ _ z=>z
 unfold qA at o2
 cases e1:ka τ h with
 | ok a h1=>rw [e1] at o2;exact o2
 | ex c h1=>rw [e1] at o2;exact o2.elim
 | no=>rw [e1] at o2;exact o2
theorem ado {e:Expr} {f:SE} {pos:Pos} (he:MEx X e f) (hs:swapsWith e none pos.line X.env=pure false:=by rfl):MSx X [.Expr e pos] (a05 f):=fun pins s σ H D E I ⟨ι,τ,h,S,Rh,o⟩ =>
 aad he hs pins s σ H D E I ⟨ι,τ,h,S,Rh,rz o fun d h1 ι1 H1 v g1 r1 hr1 o1=>o1 ι1 H1 _ (.refl _ _) (S.mono g1) hr1⟩
def agt (i:Nat) (cs:Str→Bool) (fb fs:SS):SS:=fun τ h=>match fb τ h with
 | .ex c h1=>if cs c=true then (match fs (τ.set i (some (.exc c))) h1 with
   | .nx τ' h'=>.nx (τ'.set i none) h' | .rt d h'=>.rt d h' | .bk τ' h'=>.bk (τ'.set i none) h' | .ct τ' h'=>.ct (τ'.set i none) h' | _=>.no) else .no
 | r=>r
theorem SRep.off {K:PySem.W.Frag} {ι:List Addr} {H:Hp} {σ:St} {τ:Sd} (S:SRep K ι H σ τ) (i:Nat):SRep K ι H (σ.set i none) (τ.set i none):=by
 refine ⟨by simp [S.len],fun j d e=>?_⟩
 by_cases hj:i=j
 ·subst hj
  rw [List.getElem?_set] at e
  simp at e
 ·rw [List.getElem?_set_ne hj] at e ⊢
  exact S.val j d e
theorem agu {R:Addr} {x n:Str} {i:Nat} {np hp pos:Pos} {body:List Stmt} {b0:Stmt} {suite:List Stmt} {cs:Str→Bool} {fb fs:SS} (N:Hnd X R x n i)
  (hcs:∀ c,cs c=true→∃ C,X.mg c=some (.ref C)∧PySem.W.nsIn X.K mainGlobals c=some (some (.ref C))∧PySem.W.exmOne X.K (.ref C) (.ref R)=some true)
  (hb:MSx X body fb) (hs:∀ a,MSs (X.inEx a) X0 (b0::suite) fs):MS X X0 (.Try body [.ExceptHandler (some (.Name x np)) (some n) (b0::suite) hp] [] [] pos) (agt i cs fb fs):=by
 refine PS.weak (ags (ts:=a03 X.K X0 fs) N hb hs) fun D σ H ⟨ι,τ,h,S,Rh,o⟩=>⟨ι,τ,h,S,Rh,?_⟩
 unfold agt at o
 cases e:fb τ h with
 | nx τ' h'=>rw [e] at o;exact o
 | rt d h'=>rw [e] at o;exact o
 | bk τ' h'=>rw [e] at o;exact o
 | ct τ' h'=>rw [e] at o;exact o
 | no=>rw [e] at o;exact o
 | ex c h1 =>
  rw [e] at o
  dsimp only at o
  split at o
  ·rename_i hc
   obtain ⟨C,m,ns,ex⟩:=hcs c hc
   intro ι' H' g hr
   refine ⟨C,m,C,rfl,ex,fun a oe hoe ha=>?_⟩
   have G:=g.trans (uv (ι:=ι') ha (.frz oe (L2.exO a)))
   refine ⟨ι',τ.set i (some (.exc c)),h1,(S.mono G).set (.exc (o:=oe) (C:=C) jf hoe ns) i,hr.aside ha _,?_⟩
   have o1:=jt o G
   cases e2:fs (τ.set i (some (.exc c))) h1 with
   | nx τ' h'=>rw [e2] at o1;exact fun ι2 H2 σ' g2 S2 hr2=>o1 ι2 H2 _ g2 (S2.off i) hr2
   | bk τ' h'=>rw [e2] at o1;exact fun ι2 H2 σ' g2 S2 hr2=>o1 ι2 H2 _ g2 (S2.off i) hr2
   | ct τ' h'=>rw [e2] at o1;exact fun ι2 H2 σ' g2 S2 hr2=>o1 ι2 H2 _ g2 (S2.off i) hr2
   | rt d h'=>rw [e2] at o1;exact o1
   | ex c' h'=>rw [e2] at o1;exact o1.elim
   | no=>rw [e2] at o1;exact o1.elim
  ·exact o.elim
end
end MI
namespace MI
open PySem PySem.Spec L2
section
variable {X:Cx}
def vc (v:V) (cv:Value):Prop:=(∃ C,v = .ref C∧cv = .ref C)∨∃ T,v = .ty T∧cv = .type T
theorem vc.eq {v:V} {cv u:Value} (h:vc v cv) (r:RelV v u):u=cv:=by
 rcases h with ⟨C,rfl,rfl⟩ | ⟨T,rfl,rfl⟩
 ·exact r
 ·cases r;rfl
theorem agv {pins:List (Addr × Obj)} {σ:St} {H:Hp} {s:Shared} {a C:Addr} {o:Obj} (I:L2.Inv X pins σ H s) (e:H a=some (.frz o (exO a))) (c:o.cls = .ref C):ExAt a C s.heap:=⟨o,(show ObjOk X.prog X.w H s.heap a (.frz o (exO a)) from I.hok a _ e).1,c⟩
theorem aag:CallR X (.builtin "isinstance") (fun xs H Q=>∃ a o C v cv b,xs=[.ref a,v]∧vc v cv∧H a=some (.frz o (exO a))∧o.cls = .ref C∧XKit X.K C∧PySem.W.kitOne X.K (.ref C) cv=some b∧Q (.bl b) H):=by
 intro pins s σ H xs us Q I r h
 obtain ⟨a,o,C,v,cv,b,rfl,hv,ea,hc,Z,e,q⟩:=h
 obtain ⟨u,w',rfl,rx,rt⟩:=vals2 r
 obtain rfl:u=Value.ref a:=rx
 obtain rfl:=hv.eq rt
 exact PySem.W.kia_one (a5b Z) I.kIn (agv I ea hc) e (fun z=>nomatch z) fun tk=>⟨.bl b,H,I.tok tk,rfl,q⟩
theorem a2v:∀ {cs:List Addr} {us:List Value},Vals (cs.map V.ref) us→us=cs.map Value.ref
 | [],_,r=>by cases r;rfl
 | c::cs,us,r=>by
  cases r with
  | cons r rs =>
   rw [List.map_cons,← a2v rs]
   congr 1
theorem a8i:CallR X (.builtin "isinstance") (fun xs H Q=>∃ a o C tp,∃ cs:List Addr,∃ b,xs=[.ref a, .ref tp]∧H tp=some (.tup (cs.map V.ref))∧H a=some (.frz o (exO a))∧o.cls = .ref C∧XKit X.K C∧PySem.W.kitAny X.K (.ref C) (cs.map Value.ref)=some b∧Q (.bl b) H):=by
 intro pins s σ H xs us Q I r h
 obtain ⟨a,o,C,tp,cs,b,rfl,et,ea,hc,Z,e,q⟩:=h
 obtain ⟨u,w',rfl,rx,rt⟩:=vals2 r
 obtain rfl:u=Value.ref a:=rx
 obtain rfl:w'=Value.ref tp:=rt
 obtain ⟨_,its,vr,o',h1,h2,h3⟩:=(show ObjOk X.prog X.w H s.heap tp (.tup (cs.map V.ref)) from I.hok tp _ et)
 obtain rfl:=a2v vr
 obtain ⟨n,h3⟩:=h3
 have htp:s.heap.get? tp=some ⟨.type "tuple",o'.dict, .seq (cs.map Value.ref).toArray n,o'.slots⟩:=by
  rw [h1]
  obtain ⟨c,dd,dt,sl⟩:=o'
  simp only at h2 h3
  rw [h2,h3]
 exact PySem.W.kia_tup (a5b Z) I.kIn (agv I ea hc) htp e (fun z=>nomatch z) fun tk=>⟨.bl b,H,I.tok tk,rfl,q⟩
def a93 (i:Nat) (f:Str→Option Bool):SE:=fun τ h=>match τ[i]? with
 | some (some (.exc c))=>(match f c with | some b=>.ok (.bl b) h | none=>.no)
 | _=>.no
variable {E:XD}
theorem abk {K:PySem.W.Frag} {ι:List Addr} {H:Hp} {σ:St} {τ:Sd} {h:Hd} {i:Nat} {f:Str→Option Bool} {Q:VK} (S:SRep K ι H σ τ) (o:out K E (ul K) ι H (a93 i f τ h) Q) :
  ∃ a ob C c b,σ[i]? = some (some (.ref a))∧H a=some (.frz ob (exO a))∧ob.cls = .ref C∧PySem.W.nsIn K mainGlobals c=some (some (.ref C))∧f c=some b∧out K E (ul K) ι H (.ok (.bl b) h) Q:=by
 unfold a93 at o
 split at o
 ·rename_i c e
  obtain ⟨v,e1,r⟩:=S.val i _ e
  cases r with
  | exc q hc hn =>
   split at o
   ·rename_i b hb
    exact ⟨_,_,_,c,b,e1,q,hc,hn,hb,o⟩
   ·exact o.elim
 ·exact o.elim
theorem abl {i:Nat} {f:Str→Option Bool} {n x:Str} {v:V} {cv:Value} {p0 pn px pos:Pos} (hg:Gl X "isinstance") (hm:X.mg "isinstance" = none) (hb:bootBuiltins "isinstance" = some (.builtin "isinstance")) (hN:X.N[i]? = some n) (hv:Vis X.env.scope n) (hc:PE X (.Name x px) (tC v)) (hvc:vc v cv)
  (hf:∀ c b C,f c=some b→PySem.W.nsIn X.K mainGlobals c=some (some (.ref C))→XKit X.K C∧PySem.W.kitOne X.K (.ref C) cv=some b)
  (hd:(n == ("__debug__" : Str))=false:=by decide) (hcd:(n == ("__classdict__" : Str))=false:=by decide):ME X E (.Call (.Name "isinstance" p0) [.Name n pn, .Name x px] [] pos) (a93 i f):=by
 refine PE.weak (a0x aag hg hm hb (j4 (a6z hN hv hd hcd) (j4 hc a2b))) fun σ H Q ⟨ι,τ,h,S,Rh,o⟩=>?_
 obtain ⟨a,ob,C,c,b,e1,q,oc,ns,fb,o1⟩:=abk S o
 obtain ⟨Z,ki⟩:=hf c b C fb ns
 exact ⟨_,e1,a,ob,C,v,cv,b,rfl,hvc,q,oc,Z,ki,o1 ι H _ (.refl _ _) (.bl b) Rh⟩
theorem a8j {i:Nat} {f:Str→Option Bool} {n:Str} {cs:List Addr} {es:List Expr} {t:TA} {k:Nat} {p0 pn px pos:Pos} (hg:Gl X "isinstance") (hm:X.mg "isinstance" = none) (hb:bootBuiltins "isinstance" = some (.builtin "isinstance")) (hN:X.N[i]? = some n) (hv:Vis X.env.scope n) (hc:PA X es t) (ht:∀ σ H (Q:List V→Hp→Prop),Q (cs.map V.ref) H→t σ H Q) (hl:cs.length≤sizeLine)
  (hf:∀ c b C,f c=some b→PySem.W.nsIn X.K mainGlobals c=some (some (.ref C))→XKit X.K C∧PySem.W.kitAny X.K (.ref C) (cs.map Value.ref)=some b)
  (hd:(n == ("__debug__" : Str))=false:=by decide) (hcd:(n == ("__classdict__" : Str))=false:=by decide):ME X E (.Call (.Name "isinstance" p0) [.Name n pn, .Tuple es k px] [] pos) (a93 i f):=by
 refine PE.weak (a0x a8i hg hm hb (j4 (a6z hN hv hd hcd) (j4 (aay hc) a2b))) fun σ H Q ⟨ι,τ,h,S,Rh,o⟩=>?_
 obtain ⟨a,ob,C,c,b,e1,q,oc,ns,fb,o1⟩:=abk S o
 obtain ⟨Z,ki⟩:=hf c b C fb ns
 refine ⟨_,e1,ht _ _ _ ⟨by rw [List.length_map];exact hl,fun p hp=>?_⟩⟩
 have G:=uv (ι:=ι) hp (.tup (cs.map V.ref))
 exact ⟨a,ob,C,p,cs,b,rfl,jf,G.frz _ _ _ q,oc,Z,ki,o1 ι _ _ G (.bl b) (Rh.aside hp _)⟩
end
end MI
namespace MI
open PySem PySem.Spec L2
end MI
namespace EVX
open PySem PySem.Spec L2 MI
end EVX
namespace MI
open PySem PySem.Spec L2
end MI
namespace EVX
open PySem PySem.Spec L2 MI
end EVX
namespace ZP
open PySem PySem.Spec PySem.Builtin PySem.Builtin.SmallTypes L2
end ZP
namespace MI
open PySem PySem.Spec L2 ZP
end MI
namespace AT
open L2
theorem a6b {α:Type} (x0:α) (xs:List α):atI (x0::xs) 0=some x0:=m8 (j:=0) rfl
theorem a6c {α:Type} (x0 x1:α) (xs:List α):atI (x0::x1::xs) 1=some x1:=m8 (j:=1) rfl
theorem a6d {α:Type} (x0 x1 x2:α) (xs:List α):atI (x0::x1::x2::xs) 2=some x2:=m8 (j:=2) rfl
theorem a6e {α:Type} (x0 x1 x2 x3:α) (xs:List α):atI (x0::x1::x2::x3::xs) 3=some x3:=m8 (j:=3) rfl
theorem a6f {α:Type} (x0 x1 x2 x3 x4:α) (xs:List α):atI (x0::x1::x2::x3::x4::xs) 4=some x4:=m8 (j:=4) rfl
theorem a6g {α:Type} (x0 x1 x2 x3 x4 x5:α) (xs:List α):atI (x0::x1::x2::x3::x4::x5::xs) 5=some x5:=m8 (j:=5) rfl
theorem a6h {α:Type} (x0 x1 x2 x3 x4 x5 x6:α) (xs:List α):atI (x0::x1::x2::x3::x4::x5::x6::xs) 6=some x6:=m8 (j:=6) rfl
theorem a6i {α:Type} (x0 x1 x2 x3 x4 x5 x6 x7:α) (xs:List α):atI (x0::x1::x2::x3::x4::x5::x6::x7::xs) 7=some x7:=m8 (j:=7) rfl
theorem x10:ixN 1 0=some 0:=rfl
theorem x20:ixN 2 0=some 0:=rfl
theorem x21:ixN 2 1=some 1:=rfl
theorem x30:ixN 3 0=some 0:=rfl
theorem x31:ixN 3 1=some 1:=rfl
theorem x32:ixN 3 2=some 2:=rfl
theorem x40:ixN 4 0=some 0:=rfl
theorem x41:ixN 4 1=some 1:=rfl
theorem x42:ixN 4 2=some 2:=rfl
theorem x43:ixN 4 3=some 3:=rfl
theorem x50:ixN 5 0=some 0:=rfl
theorem x51:ixN 5 1=some 1:=rfl
theorem x52:ixN 5 2=some 2:=rfl
theorem x53:ixN 5 3=some 3:=rfl
theorem x54:ixN 5 4=some 4:=rfl
theorem x60:ixN 6 0=some 0:=rfl
theorem x61:ixN 6 1=some 1:=rfl
theorem x62:ixN 6 2=some 2:=rfl
theorem x63:ixN 6 3=some 3:=rfl
theorem x64:ixN 6 4=some 4:=rfl
theorem x65:ixN 6 5=some 5:=rfl
theorem x70:ixN 7 0=some 0:=rfl
theorem x71:ixN 7 1=some 1:=rfl
theorem x72:ixN 7 2=some 2:=rfl
theorem x73:ixN 7 3=some 3:=rfl
theorem x74:ixN 7 4=some 4:=rfl
theorem x75:ixN 7 5=some 5:=rfl
theorem x76:ixN 7 6=some 6:=rfl
def abm (x:Int):Int:=if x<0 then -x else x
theorem a6j (x:Int) (h:MI.Hd):MI.agf [.int x] h = .ok (.int (abm x)) h:=rfl
theorem p18 (h:MI.Hd):MI.a4o (.int 10) (.int 18) h = .ok (.int 1000000000000000000) h:=by rw [MI.a4o,if_pos (by decide)];rfl
theorem agw {i j:Int} {h:MI.Hd} (c:0≤j∧j≤1000000∧i.natAbs<2 ^ 64):MI.a4o (.int i) (.int j) h = .ok (.int (i ^ j.toNat)) h:=by rw [MI.a4o,if_pos c]
end AT
namespace MI
open PySem PySem.Spec L2 SeqAt
end MI
namespace L2
open PySem PySem.Spec
end L2
namespace MI
open PySem PySem.Spec L2
end MI
namespace TPM
open PySem PySem.Spec PySem.W L2 HT MI
theorem a6k (t:Addr) (items:Array Value) (n:Nat) (dd:Option Addr) (sl:Array (Option Value)) (u:Tok) :
  Meets (Builtin.«tuple.__mul__» ⟨[.ref t, .int 1 u],[]⟩) (fun _ R s=>s.heap.get? t=some { cls:=.type "tuple",dict:=dd,data:=.seq items n,slots:=sl }∧R (.ok (.ret (.ref t))) s) :=
 .of_wp fun prog w A R s h=>by
  obtain ⟨hp,g,d,tk,os⟩:=s;obtain ⟨hl,h⟩:=h
  wp_walk
  exact ⟨_,rfl,h⟩
def adp (K:PySem.W.Frag):R2:=fun x y H Q=>∃ a xs,x = .ref a∧y = .int 1∧SqT K H a xs∧Q (.ref a) H
theorem adq {X:Cx}:OpR X (binaryOp .Mult) (adp X.K):=by
 intro pins s σ H x y v u Q I rx ry h
 obtain ⟨a,xs,rfl,rfl,ha,q⟩:=h
 cases rx
 obtain ⟨t,rfl⟩:=ry
 obtain ⟨its,r1,p1,_⟩:=I.tuple ha
 obtain ⟨⟨cls,dd,data,sl⟩,ho,hc,n,hd⟩:=id p1
 simp only at hc hd
 subst hc hd
 exact wpAny_binaryOp_repeat_ref (T := "tuple") (U := "int") (by decide) ⟨_,ho,rfl⟩ (fun s'=>typeIs_int s' 1 t) sr F.fills_int_mul F.slot_int_rmul a2s F.slot_int_index.lookup
  (call_meets F.slot_int_rmul (typeIs_int s 1 t) F.entry_int_rmul (F.args_int_rmul_2 _ _) (yh 1 t a its.toArray n dd sl)
   ⟨ho,rfl,⟨_,ho,rfl⟩,call_meets F.slot_tuple_mul ⟨_,ho,rfl⟩ F.entry_tuple_mul (F.args_tuple_mul_2 _ _) (a6k a its.toArray n dd sl t) ⟨ho, .ref a,H,I,rfl,q⟩⟩)
end TPM
namespace MI
open PySem PySem.Spec L2 TPM
noncomputable def a8k (x y:D) (h:Hd):R D:=match x,y with
 | .tup xs, .int k=>if k=1 then .ok (.tup xs) h else aa2 (.tup xs) (.int k) h
 | x,y=>aa2 x y h
theorem za {K:PySem.W.Frag}:a04 K a8k (fun x y H Q=>((rI CMul (fun i j=>.int (i*j)) x y H Q∨afv x y H Q)∨aa1 K x y H Q)∨adp K x y H Q):=by
 intro E ι H h x y dx dy Q rx ry hr o
 cases rx with
 | @tup a vs xs ha rs =>
  cases ry with
  | int k =>
   simp only [a8k] at o
   split at o
   ·rename_i hc
    subst hc
    exact .inr ⟨a,vs,rfl,rfl,SqT.of ha,ans o (.tup ha rs) hr⟩
   ·exact .inl (a1j _ _ _ _ _ _ _ _ _ (.tup ha rs) (.int k) hr o)
  | _=>exact o.elim
 | int i=>exact .inl (a1j _ _ _ _ _ _ _ _ _ (.int i) ry hr o)
 | ref e=>exact .inl (a1j _ _ _ _ _ _ _ _ _ (.ref e) ry hr o)
 | _=>exact o.elim
end MI
namespace MI
open PySem PySem.Spec L2
section
variable {env:Env} {es xs ys:List Expr} {a b:Expr} {pos:Pos}
theorem d9 {c} {k}:starEach (.Constant c k pos::es) env=(false,eval (.Constant c k pos) env)::starEach es env:=rfl
theorem a8l:starEach (.List xs pos::es) env=(false,eval (.List xs pos) env)::starEach es env:=rfl
theorem a6l {k}:starEach (.Tuple xs k pos::es) env=(false,eval (.Tuple xs k pos) env)::starEach es env:=rfl
theorem lq {o}:starEach (.BinOp a o b pos::es) env=(false,eval (.BinOp a o b pos) env)::starEach es env:=rfl
theorem a8m {ks}:starEach (.Dict ks ys pos::es) env=(false,eval (.Dict ks ys pos) env)::starEach es env:=rfl
theorem iz {ks}:starEach (.Call a xs ks pos::es) env=(false,eval (.Call a xs ks pos) env)::starEach es env:=rfl
theorem aj {x}:starEach (.Name x pos::es) env=(false,eval (.Name x pos) env)::starEach es env:=rfl
end
end MI
namespace MI
open PySem PySem.Spec L2
section
variable {env:Env} {es xs ys:List Expr} {a b:Expr} {pos:Pos}
theorem qm:starEach (.Subscript a b pos::es) env=(false,eval (.Subscript a b pos) env)::starEach es env:=rfl
end
end MI
namespace MI
open PySem PySem.Spec L2
def agx:List D→Hd→R D
 | [.int i],h=>if i.natAbs.log2<1920 then .ok (.str (toString i)) h else .no
 | _,_=>.no
theorem aah {K:PySem.W.Frag}:ab4 K agx (fun xs H Q=>∃ i,xs=[.int i]∧i.natAbs.log2<1920∧Q (.str (toString i)) H):=by
 intro E ι H h xs ds Q r hr o
 unfold agx at o
 split at o
 ·cases r with
  | cons r rs =>
   cases rs
   cases r
   split at o
   ·rename_i hc
    exact ⟨_,rfl,hc,ans o (.str _) hr⟩
   ·exact o.elim
 ·exact o.elim
end MI
namespace MI
open PySem PySem.Spec L2
abbrev S (l:List Nat):Str:=⟨l.toArray⟩
theorem a2w (l:List Nat):(S l).cps.toList=l:=by simp
theorem a1s (l:List Nat):(S l).length=l.length:=by simp [Str.length]
theorem adt (x:Str):S x.cps.toList=x:=by cases x;simp
theorem adu (a b:List Nat):S a++S b=S (a++b):=by rw [← adt (S a++S b),aiw]
theorem aj9 {a b:List Nat} (h:S a=S b):a=b:=by
 have:=congrArg (fun x:Str=>x.cps.toList) h
 simpa using this
section
variable {h:Hd} {a b l:List Nat} {i:Nat} {c:Nat}
theorem abn (hl:l.length≤LINE) (e:l[i]? = some c):gIx (.str (S l)) (.int (i:Nat)) h = .ok (.str (S [c])) h:=by
 unfold gIx
 simp only [a1s,if_pos hl,a2w,m8 e]
theorem a6m (hl:a.length+b.length≤LINE):gk (.str (S a)) (.str (S b)) h = .ok (.str (S (a++b))) h:=by
 unfold gk
 simp only [a1s,if_pos hl,adu]
theorem yr (hl:l.length≤LINE):qg [.str (S l)] h = .ok (.int l.length) h:=by
 unfold qg
 simp only [a1s,if_pos hl]
theorem ajs (k:Nat) (hl:l.length≤LINE):a92 (.str (S l)) none (some (k:Int)) h = .ok (.str (S (l.take k))) h:=by
 show gSl (.str (S l)) none (some (k:Int)) h=_
 unfold gSl
 simp only [a1s,if_pos hl,a2w,a7n]
theorem agy (k:Nat) (hl:l.length≤LINE):a92 (.str (S l)) (some (k:Int)) none h = .ok (.str (S (l.drop k))) h:=by
 show gSl (.str (S l)) (some (k:Int)) none h=_
 unfold gSl
 simp only [a1s,if_pos hl,a2w,a7o]
end
section
variable {h:Hd} {i j:Int} {xs ys:List D}
theorem v8:gIx (.tup xs) (.int i) h=(match atI xs i with | some d=>.ok d h | none=>.no):=rfl
theorem a00:gIx (.rol xs) (.int i) h=(match atI xs i with | some d=>.ok d h | none=>.no):=rfl
theorem a0p {k:Nat}:gIx (.ref k) (.int i) h=(match a07 (.ref k) h with | some xs=>(match atI xs i with | some d=>.ok d h | none=>.no) | none=>.no):=rfl
theorem xf:qg [.tup xs] h = .ok (.int xs.length) h:=rfl
theorem xg:qg [.rol xs] h = .ok (.int xs.length) h:=rfl
theorem xj {k:Nat}:qg [.ref k] h=(match a07 (.ref k) h with | some xs=>.ok (.int xs.length) h | none=>.no):=rfl
theorem oh:gk (.int i) (.int j) h = .ok (.int (i+j)) h:=rfl
theorem xm:aj3 (.int i) (.int j) h = .ok (.int (i+j)) h:=rfl
open Classical in
theorem a0q:yq (.int i) (.int j) h=if CMul i j then .ok (.int (i*j)) h else .no:=by unfold yq;rfl
theorem jh (b:Bool):tru (.bl b) h = .ok b h:=rfl
theorem xn:tru (.int i) h = .ok (i != 0) h:=rfl
theorem xq:tru (.rol xs) h = .ok (!xs.isEmpty) h:=rfl
theorem xr:tru (.tup xs) h = .ok (!xs.isEmpty) h:=rfl
theorem xu:tru .non h = .ok false h:=rfl
theorem a2x:hEq (.int i) (.int j) h = .ok (.bl (i == j)) h:=rfl
theorem a6n:hNe (.int i) (.int j) h = .ok (.bl (!(i == j))) h:=rfl
theorem a6o (a b:Bool):hEq (.bl a) (.bl b) h = .ok (.bl (a == b)) h:=rfl
theorem a6p (a b:Bool):hNe (.bl a) (.bl b) h = .ok (.bl (!(a == b))) h:=rfl
theorem a0r (x:D):gIs x .non h = .ok (.bl (a2o x)) h:=by cases x<;>rfl
theorem qp (x:D):abb x .non h = .ok (.bl (!a2o x)) h:=by cases x<;>rfl
theorem a6q (a b:Bool):gIs (.bl a) (.bl b) h = .ok (.bl (a == b)) h:=rfl
theorem uq (a b:Bool):abb (.bl a) (.bl b) h = .ok (.bl (a != b)) h:=rfl
theorem aen:a2o (.int i)=false:=rfl
theorem aeo (x:Str):a2o (.str x)=false:=rfl
theorem aep:a2o .non=true:=rfl
theorem aeq:a2o (.tup xs)=false:=rfl
end
end MI
namespace MI
open PySem PySem.Spec L2
theorem aja (n:Nat):rng 0 n=(List.range n).map fun i:Nat=>D.int (i:Nat):=by
 unfold rng
 exact List.map_congr_left fun i _=>by rw [Int.zero_add]
theorem adv {n:Nat} (h:n≤LINE):B62 (n:Int):=by
 have:n≤16777216:=h
 unfold B62;omega
theorem agz {n:Nat} (h:Hd) (z:n≤LINE):yp [.int (n:Nat)] h = .ok ⟨(List.range n).map fun i:Nat=>D.int (i:Nat),fun _=>True⟩ h:=by
 unfold yp
 simp only [adv z,if_true,Int.toNat_natCast,aja]
theorem ajb {f:SE} {τ:Sd} {h:Hd} {d:D} (e:f τ h = .ok d h):ak f dw τ h = .ok [d] h:=by unfold ak dw;rw [e];rfl
theorem a8n {f:SE} {τ:Sd} {h:Hd} {n:Nat} (e:f τ h = .ok (.int (n:Nat)) h) (z:n≤LINE):sRg yp (ak f dw) τ h = .ok ⟨(List.range n).map fun i:Nat=>D.int (i:Nat),fun _=>True⟩ h:=by
 unfold sRg
 rw [ajb e,dg]
 exact agz h z
theorem dh {i:Nat} {τ:Sd} {h:Hd} {d:D} (e:τ[i]? = some (some d)):sV i τ h = .ok d h:=by unfold sV;rw [e]
theorem adw (fe:SE) (r:Sd) (x:D) (h:Hd):a3s t1 fe r x h=fe (some x::r) h:=rfl
end MI
namespace MI
open PySem PySem.Spec L2
section
variable {f k f1 f2 f3:SE} {c c1 c2:ST} {g p q:SS} {τ τ1:Sd} {h h1 h2 h3 h4:Hd} {a b d v:D} {i:Nat} {t u:Bool}
theorem il (d:D) (τ:Sd) (h:Hd):sC d τ h = .ok d h:=rfl
theorem al7 {G:List D→Hd→R D} (e3:G [] h = .ok v h1):sA G dw τ h = .ok v h1:=e3
theorem a02 {G:List D→Hd→R D} (e1:f τ h = .ok a h1) (e3:G [a] h1 = .ok v h2):sA G (ak f dw) τ h = .ok v h2:=by
 have:ak f dw τ h = .ok [a] h1:=by unfold ak;rw [e1];rfl
 unfold sA
 rw [this,dg,e3]
theorem qu {G:List D→Hd→R D} (e1:f τ h = .ok a h1) (e2:k τ h1 = .ok b h2) (e3:G [a,b] h2 = .ok v h3):sA G (ak f (ak k dw)) τ h = .ok v h3:=by
 have:ak f (ak k dw) τ h = .ok [a,b] h2:=by unfold ak;rw [e1,dg,e2];rfl
 unfold sA
 rw [this,dg,e3]
theorem ajc {G:List D→Hd→R D} (e0:f1 τ h = .ok d h1) (e1:f τ h1 = .ok a h2) (e2:k τ h2 = .ok b h3) (e3:G [d,a,b] h3 = .ok v h4):sA G (ak f1 (ak f (ak k dw))) τ h = .ok v h4:=by
 have:ak f1 (ak f (ak k dw)) τ h = .ok [d,a,b] h3:=by unfold ak;rw [e0,dg,e1,dg,e2];rfl
 unfold sA
 rw [this,dg,e3]
theorem qd (e:f τ h = .ok d h1):j6 (kj i f) g τ h=g (τ.set i (some d)) h1:=by
 rw [jj]
 unfold kj
 rw [e]
 rfl
theorem aer (e:f τ h = .ok d h1):kj i f τ h = .nx (τ.set i (some d)) h1:=by
 unfold kj
 rw [e]
 rfl
theorem a3x (e:p τ h = .nx τ1 h1):j6 p g τ h=g τ1 h1:=by rw [jj,e];rfl
theorem ah0 (e:p τ h = .rt d h1):j6 p g τ h = .rt d h1:=by rw [jj,e];rfl
theorem ifT (e:c τ h = .ok true h1):sIf c p q τ h=p τ h1:=by unfold sIf;rw [e];rfl
theorem ifF (e:c τ h = .ok false h1):sIf c p q τ h=q τ h1:=by unfold sIf;rw [e];rfl
theorem ifN (e:c τ h = .ok false h1):j6 (sIf c p sNx) g τ h=g τ h1:=by rw [jj,ifF e];rfl
theorem tof (e:f τ h = .ok (.bl t) h1):sT f τ h = .ok t h1:=by unfold sT;rw [e];rfl
theorem v6 (e:f τ h = .ok d h1) (e':tru d h1 = .ok t h2):a0f f τ h = .ok t h2:=by unfold a0f;rw [e,dg,e']
theorem ajt (e:c1 τ h = .ok true h1) (e':c2 τ h1 = .ok t h2):a5y c1 c2 τ h = .ok t h2:=by unfold a5y;rw [e,dg,if_pos rfl,e']
theorem al8 (e:c1 τ h = .ok false h1):a5y c1 c2 τ h = .ok false h1:=by unfold a5y;rw [e,dg,if_neg (by simp)]
theorem orT (e:c1 τ h = .ok true h1):sOr c1 c2 τ h = .ok true h1:=by unfold sOr;rw [e,dg,if_pos rfl]
theorem orF (e:c1 τ h = .ok false h1) (e':c2 τ h1 = .ok t h2):sOr c1 c2 τ h = .ok t h2:=by unfold sOr;rw [e,dg,if_neg (by simp),e']
theorem ah1 (e:c τ h = .ok t h1):a1b c τ h = .ok (!t) h1:=by unfold a1b;rw [e];rfl
theorem aai (e:c τ h = .ok true h1):a1b c τ h = .ok false h1:=ah1 e
theorem al9 (e:c τ h = .ok false h1):a1b c τ h = .ok true h1:=ah1 e
theorem t8 (e:f τ h = .ok d h1):ut f τ h = .rt d h1:=by unfold ut;rw [e];rfl
theorem a2y (e:f τ h = .ok (.bl true) h1) (e':k τ h1 = .ok d h2):qw f k τ h = .ok d h2:=by unfold qw;rw [e,dg];exact e'
theorem arg1 (e:f τ h = .ok d h1):ak f dw τ h = .ok [d] h1:=by unfold ak dw;rw [e];rfl
theorem j7 {G:D→D→Hd→R D} (e1:f τ h = .ok a h1) (e2:k τ h1 = .ok b h2) (e3:G a b h2 = .ok v h3):s2 G f k τ h = .ok v h3:=by
 unfold s2
 rw [e1,dg,e2,dg,e3]
theorem ah2 {G:D→Hd→R D} (e1:f τ h = .ok a h1) (e3:G a h1 = .ok v h2):s1 G f τ h = .ok v h2:=by
 unfold s1
 rw [e1,dg,e3]
theorem ah3 {G:D→D→Hd→R D} (ht:τ[i]? = some (some a)) (e:f τ h = .ok b h1) (e2:G a b h1 = .ok d h2):a6u i G f τ h = .nx (τ.set i (some d)) h2:=by
 unfold a6u
 rw [ht]
 dsimp only
 rw [e,a09,e2]
 rfl
theorem adx {fi:SI} {G:SG} {b:SS} {xs:List D} {ck:Hd→Prop} (e:fi τ h = .ok ⟨xs,ck⟩ h1):j6 (a91 fi G b) g τ h=thn (forL ck G b xs τ h1) g:=by
 rw [jj]
 unfold a91
 rw [e]
 rfl
theorem aju {xs:List D} {ck:Hd→Prop} (e:f τ h = .ok d h1) (e2:a7v d h1 = .ok ⟨xs,ck⟩ h1):sIt f τ h = .ok ⟨xs,ck⟩ h1:=by
 unfold sIt
 rw [e,dg,e2]
theorem ala {xs:List D} {j:Nat} {y:D} (hj:xs[j]? = some y):gIx (.rol xs) (.int (j:Nat)) h = .ok y h:=by
 rw [a00]
 simp only [m8 hj]
theorem ajv {xs:List D} {j:Nat} {y:D} (hj:xs[j]? = some y):gIx (.tup xs) (.int (j:Nat)) h = .ok y h:=by
 rw [v8]
 simp only [m8 hj]
theorem div_ii {x y:Int} (c:0<y∧y<1073741824):a2n (.int x) (.int y) h = .ok (.int (x / y)) h:=by unfold a2n;exact if_pos c
theorem ah4 {x y:Int} (c:0<y):a06 (.int x) (.int y) h = .ok (.int (x % y)) h:=by unfold a06;exact if_pos c
theorem ahw {x y:Int} (c:y<x):gGt (.int x) (.int y) h = .ok (.bl true) h:=by unfold gGt;simp only [c,decide_true]
theorem ajw {x y:Int} (c:¬ y<x):gGt (.int x) (.int y) h = .ok (.bl false) h:=by unfold gGt;simp only [c,decide_false]
theorem ajx {x y:Int} (c:x<y):gLt (.int x) (.int y) h = .ok (.bl true) h:=by unfold gLt;simp only [c,decide_true]
theorem ajy {x y:Int} (c:¬ x<y):gLt (.int x) (.int y) h = .ok (.bl false) h:=by unfold gLt;simp only [c,decide_false]
theorem aaj {x y:Int} (c:x=y):hEq (.int x) (.int y) h = .ok (.bl true) h:=by rw [a2x,c,beq_self_eq_true]
theorem ady {x y:Int} (c:¬ x=y):hEq (.int x) (.int y) h = .ok (.bl false) h:=by rw [a2x,beq_eq_false_iff_ne.mpr c]
theorem a8o (x:Int):a3t (.int x) h = .ok (.int (-x)) h:=rfl
theorem a01 (x y:Int):MI.uy (.int x) (.int y) h = .ok (.int (x - y)) h:=rfl
theorem ig {n:Nat} (h:n≤1000000):n≤LINE:=by show n≤16777216;omega
theorem alb:MI.a0i [a,b] h = .ok (.tup [a,b]) h:=by unfold MI.a0i;rw [if_pos (ig (by simp))]
end
end MI
namespace L2
open PySem PySem.Spec PyProof.Rows
theorem a5f (x:Array Nat):∀ (n:Nat) (a:Array Nat),(List.replicate n x).foldl (·++·) a=(a.toList++(List.replicate n x.toList).flatten).toArray
 | 0,a=>by simp
 | n+1,a=>by rw [List.replicate_succ,List.foldl_cons,a5f x n];simp [List.replicate_succ]
theorem aak {α:Type} (n:Nat) (l:List α):(List.replicate n l).flatten.length=n*l.length:=by simp
def ah5:R2:=fun x y H Q=>∃ z k,x = .str z∧y = .int k ∧ -1000000≤k∧k≤1000000∧z.length*k.toNat≤sizeLine∧Q (.str ⟨((List.replicate k.toNat z.cps.toList).flatten).toArray⟩) H
theorem adz {X:Cx}:OpR X (binaryOp .Mult) ah5:=by
 intro pins s σ H x y v u Q I rx ry ⟨z,k,ex,ey,k1,k2,hz,q⟩
 subst ex ey
 obtain ⟨t,rfl⟩:=rx
 obtain ⟨t',rfl⟩:=ry
 refine P.mul_str (by rw [decide_eq_false (by omega),decide_eq_false (by omega)];rfl) (fun h1 h2=>?_) (fun _ _=>?_) ?_
 ·have hs:=sizeLine_eq
  have hx:z.length≤sizeLine:=by
   have:1≤k.toNat:=by omega
   exact Nat.le_trans (Nat.le_mul_of_pos_right _ this) hz
  have:(1000000000:Int)≤(2 ^ 63 - 1) / k:=by
   rw [Int.le_ediv_iff_mul_le (by omega)]
   omega
  omega
 ·exact decide_eq_false (Nat.not_lt.mpr hz)
 ·split
  ·rename_i h1
   have:k.toNat=0:=by omega
   refine ⟨by decide, .str _,H,I.tok _,⟨_,rfl⟩,?_⟩
   rw [this] at q
   exact q
  ·split
   ·rename_i h1 h2
    rw [Bool.or_eq_true] at h2
    refine ⟨.str z,H,I,⟨_,rfl⟩,?_⟩
    have e:(⟨((List.replicate k.toNat z.cps.toList).flatten).toArray⟩:Str)=z:=by
     rcases h2 with h2 | h2
     ·have:k=1:=by simpa using h2
      subst this
      simp
     ·have h0:z.length=0:=by simpa using h2
      have:z.cps.toList=[]:=List.length_eq_zero_iff.mp (by rw [Array.length_toList];exact h0)
      rw [this]
      obtain ⟨c⟩:=z
      have:c = #[]:=by simpa using this
      subst this
      simp
    rw [e] at q
    exact q
   ·have e:(⟨(List.replicate k.toNat z.cps).foldl (·++·) #[]⟩:Str)=⟨((List.replicate k.toNat z.cps.toList).flatten).toArray⟩:=by rw [a5f];simp
    rw [e]
    refine ⟨?_, .str _,H,I.tok _,⟨_,rfl⟩,q⟩
    show ((List.replicate k.toNat z.cps.toList).flatten).toArray.size≤_
    have hl:((List.replicate k.toNat z.cps.toList).flatten).toArray.size=z.length*k.toNat:=by
     rw [List.size_toArray,aak]
     exact Nat.mul_comm _ _
    omega
def aes (i j:Int):Prop:=i.natAbs<2 ^ 1000∧j.natAbs<2 ^ 1000
theorem ae0 {X:Cx}:OpR X (binaryOp .Mult) (rI aes fun i j=>.int (i*j)):=opI fun _ _ _ _ _ _ _ hc q=>P.mul_int q (IntMulOk.of_le (intBits_le_iff.mpr hc.1) (intBits_le_iff.mpr hc.2) (by omega))
end L2
namespace MI
open PySem PySem.Spec L2 TPM
open Classical in
noncomputable def my (x y:D) (h:Hd):R D:=match x,y with
 | .str z, .int k=>if (-1000000≤k∧k≤1000000)∧z.length*k.toNat≤LINE then .ok (.str ⟨((List.replicate k.toNat z.cps.toList).flatten).toArray⟩) h else .no
 | .int i, .int j=>if aes i j then .ok (.int (i*j)) h else a8k (.int i) (.int j) h
 | x,y=>a8k x y h
theorem aal {K:PySem.W.Frag}:a04 K my (fun x y H Q=>((((rI CMul (fun i j=>.int (i*j)) x y H Q∨afv x y H Q)∨aa1 K x y H Q)∨adp K x y H Q)∨rI aes (fun i j=>.int (i*j)) x y H Q)∨ah5 x y H Q):=by
 intro E ι H h x y dx dy Q rx ry hr o
 cases rx with
 | str z =>
  cases ry with
  | int k =>
   simp only [my] at o
   split at o
   ·rename_i hc
    exact .inr ⟨z,k,rfl,rfl,hc.1.1,hc.1.2,ll hc.2,ans o (.str _) hr⟩
   ·exact o.elim
  | _=>exact o.elim
 | int i =>
  cases ry with
  | int j =>
   simp only [my] at o
   split at o
   ·rename_i hc
    exact .inl (.inr ⟨i,j,rfl,rfl,hc,ans o (.int _) hr⟩)
   ·exact .inl (.inl (za _ _ _ _ _ _ _ _ _ (.int i) (.int j) hr o))
  | _=>exact o.elim
 | @tup a vs xs ha rs=>exact .inl (.inl (za _ _ _ _ _ _ _ _ _ (.tup ha rs) ry hr o))
 | ref e=>exact .inl (.inl (za _ _ _ _ _ _ _ _ _ (.ref e) ry hr o))
 | _=>first | exact o.elim | exact .inl (.inl (za _ _ _ _ _ _ _ _ _ (by assumption) ry hr o))
theorem uf {X:Cx} {E:XD} {a b:Expr} {fa fb:SE} {pos:Pos} (ha:ME X E a fa) (hb:ME X E b fb):ME X E (.BinOp a .Mult b pos) (s2 my fa fb):=a3p (((((aax.or afw).or ad7).or adq).or ae0).or adz) aal ha hb
open Classical in
theorem a5g {l:List Nat} {k:Nat} {h:Hd} (hk:k≤1000) (hl:l.length≤1000):my (.str (S l)) (.int (k:Nat)) h = .ok (.str (S (List.replicate k l).flatten)) h:=by
 have:my (.str (S l)) (.int (k:Nat)) h=if (-1000000≤(k:Int)∧(k:Int)≤1000000)∧(S l).length*(k:Int).toNat≤LINE then .ok (.str ⟨((List.replicate (k:Int).toNat (S l).cps.toList).flatten).toArray⟩) h else .no:=rfl
 have hz:(S l).length*(k:Int).toNat≤LINE:=by
  rw [a1s,Int.toNat_natCast]
  exact ig (Nat.le_trans (Nat.mul_le_mul hl hk) (by omega))
 rw [this,if_pos ⟨by omega,hz⟩,Int.toNat_natCast]
open Classical in
theorem a5h {i j:Int} {h:Hd} (c:aes i j):my (.int i) (.int j) h = .ok (.int (i*j)) h:=by
 have:my (.int i) (.int j) h=if aes i j then .ok (.int (i*j)) h else a8k (.int i) (.int j) h:=rfl
 rw [this,if_pos c]
end MI
namespace L2
open PySem PySem.Spec PyProof.Rows
structure RoomN (k:Nat) (A:Around):Prop where
 dp:A.depth+3*k+5<recursionLimit
 un:A.units+16*k+200<cLine
theorem Room.n {k:Nat} {A:Around} (r:Room k A):RoomN k A:=⟨r.dp,r.un⟩
theorem RoomN.deeper {k:Nat} {A:Around} (r:RoomN (k+1) A) (env:Env):RoomN k (A.deeper env) :=
 ⟨by have:=r.dp;show A.depth+1+3*k+5<_;omega,by have:=r.un;show A.units+3+16*k+200<_;omega⟩
theorem RoomN.mark {k:Nat} {A:Around} (r:RoomN k A) (e:Option Value):RoomN k (A.mark e):=⟨r.dp,r.un⟩
abbrev cxM (P:Program) (w:World) (K:PySem.W.Frag) (mg:Str→Option Value) (base:Heap) (N:List Str) (qual:Str) (scope:Scope) (f:Addr) (cd:Value) (A:Around) (outer:List Env) (s:Shared) (H:Hp) (E:XK):Cx :=
 { (zg CX0 P w K mg base N qual scope f cd A outer s H E).nox with calm:=false }
structure FnOkN (P:Program) (w:World) (K:PySem.W.Frag) (mg:Str→Option Value) (base:Heap) (k:Nat) (f:Addr) (fd:FuncData) (ps:List Str) (sp:Sp):Prop where
 len:∀ vs H Q E,sp vs H Q E→vs.length=ps.length
 run:∀ (A:Around) (outer:List Env) (s:Shared) (H:Hp) (args:Args) (us:List Value) (vs:List V) (Q:VK) (E:XK),RoomN k A→Env0 P w K mg base A outer s H→BindsTo s fd args (ps.zip us)→Vals vs us→sp vs H Q E →
  codeAny (model P w) A (.call (.ref f) args) (CR CX0 outer P w H s Q E) s
section
variable {P:Program} {w:World} {K:PySem.W.Frag} {mg:Str→Option Value} {base:Heap}
theorem a6r {N ps:List Str} {qual:Str} {scope:Scope} {f:Addr} {cd:Value} {A:Around} {outer:List Env} {s s1:Shared} {H:Hp} {E:XK} {us:List Value} {vs:List V}
  (S:FnScope N ps scope) (e0:Env0 P w K mg base A outer s H) (hl:vs.length=ps.length) (r:Vals vs us)
  (x:InCallC s s.heap.objs.size (bindL (envOfC qual scope s.heap.objs.size f cd).kindOf (ps.zip us) fun _=>none) (cellsFrom (s.heap.objs.size+1) scope.names []) (bindC (envOfC qual scope s.heap.objs.size f cd).kindOf (ps.zip us) fun _=>none) s1) :
  Inv (cxM P w K mg base N qual scope f cd A outer s H E) [] (start N vs) H s1:=by
 have e1:Env0 P w K mg base { A with handled:=none } outer s H:=⟨e0.frames,e0.mod,e0.bs,e0.bsz,e0.funs,e0.frf,e0.hok,e0.bare⟩
 have I:=a2h (CX:=CX0) (A:={ A with handled:=none }) (E:=E) S rfl e1 hl r x
 exact ⟨⟨I.ok.mod,I.ok.kind,I.ok.glob,I.ok.blt,I.ok.above,I.ok.inj,I.ok.has,I.ok.cab,fun z=>(Bool.noConfusion (show false=true from z)),Around.frames_deeper e0.frames,I.ok.stk,I.ok.exf,I.ok.bs,I.ok.bsz,I.ok.noex,I.ok.exfs,I.ok.funs,I.ok.frf⟩,I.os,I.bare,I.base,I.loc,I.cell,I.free,I.freeC,I.pin,I.hok,I.len⟩
theorem Fun.okN {x qual:Str} {st:Stmt} {f:Addr} {fd:FuncData} {N ps:List Str} {k:Nat} {sp:Sp} (F:Fun K x qual st f fd) (S:FnScope N ps (ao st)) (len:∀ vs H Q E,sp vs H Q E→vs.length=ps.length)
  (hbody:∀ (cdv:Value) (A:Around) (outer:List Env) (s:Shared) (H:Hp) (vs:List V) (Q:VK) (E:XK),RoomN k (A.deeper (envOfC qual (ao st) s.heap.objs.size f cdv))→sp vs H Q E →
   ∃ t,PSs (cxM P w K mg base N qual (ao st) f cdv A outer s H E) (gj st) t∧t { nx:=fun _ H'=>Q .non H',rt:=Q } (start N vs) H):FnOkN P w K mg base (k+1) f fd ps sp:=by
 obtain ⟨oc,od,kV,doc,pm,an,cdv,ct,osl,rfl,lk,hcd⟩:=F.ex
 refine ⟨len,fun A outer s H args us vs Q E hr e0 hb r hsp=>?_⟩
 have hl:=len _ _ _ _ hsp
 have KX:K.In s.heap:=e0.mod.kin.keeps fun b o e=>(e0.bs b o e).1
 have lim:s.heap.NoLimit:=e0.mod.nolimit.keeps fun b o e=>(e0.bs b o e).1
 refine codeAny_call_function (by have:=hr.dp;omega) (KX _ _ lk) rfl S.co S.gen rfl (PySem.W.codeRec_of KX hcd) (hb _ _ _ _ ?_)
 refine wpAny_newFunctionEnv_cells S.kind (fun ⟨n,v⟩ hy=>?_) fun env he s1 x=>?_
 ·rcases S.par n (List.of_mem_zip hy).1 with q | q
  ·exact .inl q
  ·exact .inr ⟨q,PySem.W.cellsFrom_some _ _ _ (.inl q)⟩
 subst he
 refine ⟨lim.keeps x.toInCall.keep,codeAny_func ?_⟩
 obtain ⟨t,ht,hq⟩:=hbody cdv A outer s H vs Q E (hr.deeper _) hsp
 have I:=a6r (E:=E) S e0 hl r x
 refine wpAny_mono (ht [] s1 (start N vs) H _ I hq) (fun fl s' hs=>?_) fun e s' hs=>(show False from hs).elim
 cases fl with
 | ret u =>
  obtain ⟨v,σ',H',J,rv,q⟩:=hs
  exact ⟨v,H',J.os,J.bare,J.base,J.hok,rv,q⟩
 | next =>
  obtain ⟨σ',H',J,q⟩:=hs
  exact ⟨V.non,H',J.os,J.bare,J.base,J.hok,rfl,q⟩
 | brk=>obtain ⟨_,_,_,q⟩:=hs;exact False.elim q
 | cont=>obtain ⟨_,_,_,q⟩:=hs;exact False.elim q
structure DnN (P:Program) (w:World) (K:PySem.W.Frag) (mg:Str→Option Value) (base:Heap) (k:Nat) (x:Str) (ps:List Str) (sp:Sp) (f:Addr) (fd:FuncData):Prop where
 ok:FnOkN P w K mg base k f fd ps sp
 m:mg x=some (.ref f)
 kp:PySem.W.keepIn K (.ref f)=true
 b:Binds K fd ps []
end
section
variable {X:Cx} {k:Nat} {f:Addr} {fd:FuncData} {ps:List Str} {sp:Sp} {x:Str} {p pos:Pos} {e:Expr} {es:List Expr} {t:TA}
theorem aam (F:FnOkN X.prog X.w X.K X.mg X.base k f fd ps sp) (hr:RoomN k X.A) (hg:Gl X x) (hm:X.mg x=some (.ref f)) (hk:PySem.W.keepIn X.K (.ref f)=true) (hb:Binds X.K fd ps [])
  (ha:PA X (e::es) t) (hdb:(x == ("__debug__" : Str))=false:=by decide) (he:starEach (e::es) X.env=(false,eval e X.env)::starEach es X.env:=by rfl) (hpl:(backTo pos (starEach es X.env)).any (·.1)=false:=by rfl) :
  PE X (.Call (.Name x p) (e::es) [] pos) (ac3 sp [] E0 t):=by
 intro pins s σ H Q I h
 refine wpAny_Call_Name_kw (ux I hg hm ?_ hdb)
 refine PySem.W.callWith_K (h₀:=X.base) I.ok.mod.kin hk (thn (ha pos pins s σ H _ I h) fun us s1 ⟨vs,H1,I1,r,q⟩=>⟨I1.kIn,?_⟩) he hpl
 have q:sp (vs++[]) H1 Q E0:=q
 rw [List.append_nil] at q
 have hl:(us++[]).length=ps.length:=by rw [List.append_nil,← r.length];exact F.len _ _ _ _ q
 have hb':=hb s1 us I1.kIn hl
 rw [List.append_nil] at hb'
 refine wpAny_call (codeAny_mono (F.run X.A X.stack s1 H1 ⟨us,[]⟩ us vs Q E0 hr I1.env0 hb' r q) fun rr s' hq=>?_)
 cases rr with
 | error ee=>exact (show False from hq).elim
 | ok fl =>
  cases fl with
  | ret u=>exact I1.after hq
  | next=>exact False.elim hq
  | brk=>exact False.elim hq
  | cont=>exact False.elim hq
end
end L2
namespace MI
open PySem PySem.Spec L2
theorem ae1 {P:Program} {w:World} {K:PySem.W.Frag} {mg:Str→Option Value} {base:Heap} {x qual:Str} {st:Stmt} {f:Addr} {fd:FuncData} {N ps:List Str} {k:Nat} {b:SS} (Fu:Fun K x qual st f fd) (S:FnScope N ps (ao st))
  (hb:∀ (cdv:Value) (A:Around) (outer:List Env) (s:Shared) (H:Hp) (E:XK),RoomN k (A.deeper (PyProof.Rows.envOfC qual (ao st) s.heap.objs.size f cdv))→MSs (cxM P w K mg base N qual (ao st) f cdv A outer s H E) X0 (gj st) b) :
  FnOkN P w K mg base (k+1) f fd ps (qx K ps.length (lz b N.length)):=by
 refine Fu.okN S (fun vs H Q E h=>h.1) fun cdv A outer s H vs Q E hr h=>⟨_,hb cdv A outer s H E hr,?_⟩
 obtain ⟨hl,ι,ds,h,r,hr',o⟩:=h
 refine ⟨ι,qi N.length ds,h,vz r,hr',?_⟩
 unfold lz at o
 cases hbd:b (qi N.length ds) h with
 | rt d' h'=>rw [hbd] at o;exact o
 | nx τ' h'=>rw [hbd] at o;exact fun ι' H' σ' g1 S1 hr1=>o ι' H' .non g1 .non hr1
 | ex c h'=>rw [hbd] at o;exact o
 | _=>rw [hbd] at o;exact o.elim
theorem aan (m:Bool) {X:Cx} {k n:Nat} {f:Addr} {fd:FuncData} {ps:List Str} {x:Str} {F:SF} {ka:SA} {e:Expr} {es:List Expr} {p pos:Pos} (G:DnN X.prog X.w X.K X.mg X.base k x ps (qx X.K n F) f fd) (hr:RoomN k X.A) (hg:Gl X x) (ha:MA X X0 (e::es) ka)
  (hdb:(x == ("__debug__" : Str))=false:=by decide) (he:starEach (e::es) X.env=(false,eval e X.env)::starEach es X.env:=by rfl) (hpl:(backTo pos (starEach es X.env)).any (·.1)=false:=by rfl):ME X X0 (.Call (.Name x p) (e::es) [] pos) (sA (jz m n F) ka):=by
 refine PE.weak (a0l (aam G.ok hr hg G.m G.kp G.b ha hdb he hpl)) fun σ H Q ⟨ι,τ,h,S,Rh,o⟩=>?_
 refine ⟨ι,τ,h,S,Rh,cu o fun ds h1 ι1 H1 vs g1 r1 hr1 o1=>?_⟩
 rw [List.append_nil]
 exact zx r1 hr1 o1 _
end MI
namespace K03
open PySem PySem.Spec L2 MI
def bf:Str→Option Bool:=fun c=>if c = "NoWord" then some false else none
def ug:Str→Option Bool:=fun c=>if c = "NoWord" then some true else none
def d8:Str→Option Bool:=fun c=>if c = "NoWord" then some false else none
def a1t:Str→Option Bool:=fun c=>if c = "NoWord" then some true else none
def qz:Str→Bool:=fun c=>decide (c = "NoWord")
noncomputable def jb:SS :=
 (ut (qw (sA ie (ak (sV 0) (ak (sC (.ty "int")) dw))) (vf (sA ie (ak (sV 0) (ak (sC (.ty "bool")) dw))))))
noncomputable def qe:SS :=
 (kj 2 (s2 gk (s2 gk (s2 my (sV 2) (sA qg (ak (sV 0) dw))) (sMS a4u (sV 0) (ak (sV 3) dw))) (sC (.int 1))))
noncomputable def rm:SS :=
 (j6 (kj 2 (sC (.int 0)))
 (j6 (a91 (sIt (sV 1)) (kN 3) qe)
 (ut (sV 2))))
noncomputable def ym (bh:SF):ST :=
 (sT (s2 gGt (sV 3) (sC (.int 0))))
noncomputable def p6 (bh:SF):SS :=
 (j6 (sIf (sT (s2 hEq (sA qg (ak (sV 2) dw)) (sC (.int 60))))
 (a2u "NoWord" (ak (sC (.str "a word of more than sixty signs")) dw))
 sNx)
 (j6 (a6u 3 uy (sC (.int 1)))
 (j6 (kj 2 (s2 gk (s2 gIx (sV 0) (s2 a06 (sV 3) (sA qg (ak (sV 0) dw)))) (sV 2)))
 (a6u 3 a2n (sA qg (ak (sV 0) dw))))))
noncomputable def m5 (bh:SF):SS :=
 (j6 (sIf (sOr (a1b (a0f (sA (jz false 1 bh) (ak (sV 1) dw)))) (sT (s2 gLt (sV 1) (sC (.int 0)))))
 (a2u "NoWord" (ak (sC (.str "no number from 0 on")) dw))
 sNx)
 (j6 (kj 2 (sC (.str "")))
 (j6 (kj 3 (sV 1))
 (j6 (sWh (ym bh) (p6 bh) 100000)
 (ut (sV 2))))))
noncomputable def mz (au:SF):SE :=
 (s2 gIx (sV 2) (sA (jz false 2 au) (ak (sV 1) (ak (sA qg (ak (sV 2) dw)) dw))))
noncomputable def ur (au:SF):SS :=
 (j6 (kj 3 (sA (jz false 2 au) (ak (sV 0) (ak (s2 gk (sV 2) (sC (.int 1))) dw))))
 (ut (sMS a86 (sC (.str "")) (ak (sZ (a9q (sRg yp (ak (sV 3) dw)) t1 (mz au) [0,1])) dw))))
noncomputable def nq:SS :=
 (j6 (sIf (a0f (sA ie (ak (sV 1) (ak (sC (.ty "tuple")) dw))))
 abg
 sNx)
 (j6 (sIf (a0f (sA ie (ak (sV 1) (ak (sC (.ty "str")) dw))))
 (ut (qw (sA ie (ak (sV 0) (ak (sC (.ty "str")) dw))) (s2 hEq (sV 0) (sV 1))))
 sNx)
 (ut (qw (sA ie (ak (sV 0) (ak (sC (.ty "int")) dw))) (qw (vf (sA ie (ak (sV 0) (ak (sC (.ty "bool")) dw)))) (s2 hEq (sV 0) (sV 1)))))))
noncomputable def p7:SS :=
 (j6 (sIf (a0f (a93 0 bf))
 abg
 sNx)
 (ut (a8z (a93 0 d8) (vf (a93 0 ug)))))
noncomputable def n6 (je:SF) (bx:SF):SS :=
 (j6 (kj 2 (sC (.bl false)))
 (j6 (agt 3 qz
 (a05 (sA (t7 2 bx) (qA (ak (sV 0) (ak (sV 1) dw)))))
 (kj 2 (qw (a93 3 a1t) (vf (sA (jz false 1 je) (ak (sV 3) dw))))))
 (ut (sV 2))))
noncomputable def mj:SS :=
 (j6 (kj 2 (s2 gk (sV 2) (sV 3)))
 (kj 3 (s2 my (sV 3) (sA qg (ak (sV 0) dw)))))
noncomputable def n8:SS :=
 (j6 (kj 2 (sC (.int 0)))
 (j6 (kj 3 (sC (.int 1)))
 (j6 (a91 (sRg yp (ak (sV 1) dw)) (kN 4) mj)
 (ut (sA a0i (ak (sV 2) (ak (sV 3) dw)))))))
noncomputable def ou (d7:SF):SS :=
 (kj 2 (s2 gk (s2 my (sV 2) (sA qg (ak (sV 0) dw))) (sMS a84 (sV 0) (ak (sV 3) dw))))
noncomputable def p8 (d7:SF):SS :=
 (j6 (kj 2 (sC (.int 0)))
 (j6 (a91 (sIt (sV 1)) (kN 3) (ou d7))
 (ut (s2 gk (s2 gIx (sA (jz false 2 d7) (ak (sV 0) (ak (sA qg (ak (sV 1) dw)) dw))) (sC (.int 0))) (sV 2)))))
noncomputable def jg:ST :=
 (a5y (sT (s2 gGt (sV 2) (sC (.int 0)))) (sT (s2 hEq (s2 gIx (sV 1) (s2 uy (sV 2) (sC (.int 1)))) (s2 gIx (sV 0) (s1 a3t (sC (.int 1)))))))
noncomputable def nj:SS :=
 (kj 2 (s2 uy (sV 2) (sC (.int 1))))
noncomputable def qt:SS :=
 (j6 (kj 2 (sA qg (ak (sV 1) dw)))
 (j6 (sWh jg nj 100000)
 (j6 (sIf (sT (s2 hEq (sV 2) (sC (.int 0))))
 (ut (s2 my (s2 gIx (sV 0) (sC (.int 0))) (s2 gk (sA qg (ak (sV 1) dw)) (sC (.int 1)))))
 sNx)
 (j6 (kj 3 (s2 gIx (sV 0) (s2 gk (sMS a84 (sV 0) (ak (s2 gIx (sV 1) (s2 uy (sV 2) (sC (.int 1)))) dw)) (sC (.int 1)))))
 (ut (s2 gk (s2 gk (a3e (sV 1) oN (oS (s2 uy (sV 2) (sC (.int 1))))) (sV 3)) (s2 my (s2 gIx (sV 0) (sC (.int 0))) (s2 uy (sA qg (ak (sV 1) dw)) (sV 2)))))))))
noncomputable def aao (jq:SF) (jd:SF) (m7:SF) (ik:SF) (fj:SF) (d7:SF) (iw:SF) (jo:SF) (au:SF) (jr:SF) (jc:SF) (bx:SF):SS :=
 (j6 (kj 1 (sA (jz true 1 m7) (ak (sV 0) dw)))
 (j6 (kj 2 (sA (jz false 2 au) (ak (sV 1) (ak (sC (.int 12)) dw))))
 (j6 (kj 3 (sA (jz false 3 jo) (ak (sV 1) (ak (sA (jz false 0 iw) dw) (ak (sC (.int 6)) dw)))))
 (j6 (kj 4 (sA (jz false 3 jr) (ak (sV 1) (ak (sV 3) (ak (s2 gIx (sZ (sA a0j (ak (sC (.int 8)) (ak (sC (.int 60)) (ak (sC (.int 8)) (ak (sC (.int 60)) (ak (sC (.int 8)) dw))))))) (sA (jz false 2 au) (ak (sV 1) (ak (sC (.int 5)) dw)))) dw)))))
 (j6 (sIf (sT (s2 hEq (sA (jz false 2 au) (ak (sV 1) (ak (sC (.int 8)) dw))) (sC (.int 0))))
 (kj 4 (s2 my (s2 gIx (sV 3) (s1 a3t (sC (.int 1)))) (sA qg (ak (sV 4) dw))))
 sNx)
 (j6 (kj 5 (sA (jz false 2 jd) (ak (sV 3) (ak (sV 4) dw))))
 (j6 (kj 6 (s2 gIx (sA (jz false 2 d7) (ak (sV 3) (ak (sC (.int 61)) dw))) (sC (.int 0))))
 (j6 (kj 7 (sZ (sA a0j (ak (sV 6) (ak (s2 gk (sV 6) (sA (jz false 2 au) (ak (sV 1) (ak (sC (.int 1000)) dw)))) (ak (s2 gk (s2 a4o (sC (.int 10)) (sC (.int 60))) (s2 my (sV 5) (sV 5))) (ak (s2 uy (s1 a3t (sC (.int 1))) (sV 5)) (ak (sC (.bl true)) (ak (sC (.bl false)) (ak (sC .non) (ak (sA agx (ak (sV 5) dw)) dw)))))))))))
 (j6 (kj 8 (s2 gIx (sZ (s2 gk (sV 7) (sZ (sA a0j (ak (sA a0i (ak (sV 5) dw)) (ak (sZ (sA a0j (ak (sV 5) dw))) (ak (sZ (s2 gD1 (sV 5) (sV 5))) (ak (sV 4) dw)))))))) (sV 2)))
 (j6 (sIf (sOr (a1b (a0f (sA (jz false 2 fj) (ak (sA (jz false 2 jc) (ak (sV 3) (ak (sV 4) dw))) (ak (sV 5) dw))))) (a1b (a0f (sA (jz false 2 fj) (ak (sA (t7 2 bx) (ak (sV 3) (ak (sV 5) dw))) (ak (sV 4) dw))))))
 abg
 sNx)
 (j6 (sIf (sOr (a1b (a0f (sA (jz false 2 ik) (ak (sV 3) (ak (sV 8) dw))))) (a1b (a0f (sA (jz false 2 fj) (ak (sA (t7 2 bx) (ak (sV 3) (ak (sV 5) dw))) (ak (sV 4) dw))))))
 abg
 sNx)
 (j6 (kj 9 (sA (jz false 2 jq) (ak (sV 3) (ak (sV 4) dw))))
 (j6 (sIf (sT (s2 gLt (sA qg (ak (sV 9) dw)) (sC (.int 61))))
 (sIf (sOr (a1b (a0f (sA (jz false 2 fj) (ak (sA (t7 2 bx) (ak (sV 3) (ak (s2 gk (sV 5) (sC (.int 1))) dw))) (ak (sV 9) dw))))) (a1b (a0f (sA (jz false 2 fj) (ak (sA (jz false 2 jc) (ak (sV 3) (ak (sV 9) dw))) (ak (s2 gk (sV 5) (sC (.int 1))) dw))))))
 abg
 sNx)
 (sIf (a1b (a0f (sA (jz false 2 ik) (ak (sV 3) (ak (s2 gk (sV 5) (sC (.int 1))) dw)))))
 abg
 sNx))
 (ut (qw (sA (jz false 2 fj) (ak (sA (t7 2 bx) (ak (sV 3) (ak (s2 uy (sV 6) (sC (.int 1))) dw))) (ak (s2 my (s2 gIx (sV 3) (s1 a3t (sC (.int 1)))) (sC (.int 60))) dw))) (sA (jz false 2 fj) (ak (sA (t7 2 bx) (ak (sV 3) (ak (sC (.int 0)) dw))) (ak (sC (.str "")) dw))))))))))))))))))
end K03
namespace K03
open PySem PySem.Spec L2 MI
def top (i:Nat):Stmt:=PySem.Challenge.pw_nearreach_k03_numbers_of_words.main.body.getD i (.Pass ⟨0,0,0,0⟩)
structure Nm (mg:Str→Option Value):Prop where
 ValueError:mg "ValueError" = none
 abs:mg "abs" = none
 bool:mg "bool" = none
 int:mg "int" = none
 isinstance:mg "isinstance" = none
 len:mg "len" = none
 range:mg "range" = none
 str:mg "str" = none
 tuple:mg "tuple" = none
structure Cn (mg:Str→Option Value):Prop where
 LONGEST:∃ t,mg "LONGEST" = some (.int 60 t)
structure Xn (K:PySem.W.Frag) (mg:Str→Option Value) (y_NoWord y_Closed y_NoBook y_NoLine y_NoModes y_NoPlace y_NoQuote y_NoShape y_NoTable y_NoText y_Stopped y_TooHeavy y_TooMany y_Unlike y_ReachError:Addr):Prop where
 g_NoWord:mg "NoWord" = some (.ref y_NoWord)
 g_Closed:mg "Closed" = some (.ref y_Closed)
 g_NoBook:mg "NoBook" = some (.ref y_NoBook)
 g_NoLine:mg "NoLine" = some (.ref y_NoLine)
 g_NoModes:mg "NoModes" = some (.ref y_NoModes)
 g_NoPlace:mg "NoPlace" = some (.ref y_NoPlace)
 g_NoQuote:mg "NoQuote" = some (.ref y_NoQuote)
 g_NoShape:mg "NoShape" = some (.ref y_NoShape)
 g_NoTable:mg "NoTable" = some (.ref y_NoTable)
 g_NoText:mg "NoText" = some (.ref y_NoText)
 g_Stopped:mg "Stopped" = some (.ref y_Stopped)
 g_TooHeavy:mg "TooHeavy" = some (.ref y_TooHeavy)
 g_TooMany:mg "TooMany" = some (.ref y_TooMany)
 g_Unlike:mg "Unlike" = some (.ref y_Unlike)
 g_ReachError:mg "ReachError" = some (.ref y_ReachError)
 n_NoWord:PySem.W.nsIn K mainGlobals "NoWord" = some (some (.ref y_NoWord))
 c_NoWord:XCls K y_NoWord
 k_NoWord:XKit K y_NoWord
 e_NoWord_ReachError:PySem.W.exmOne K (.ref y_NoWord) (.ref y_ReachError)=some true
 i_NoWord_Closed_NoBook_NoLine_NoModes_NoPlace_NoQuote_NoShape_NoTable:PySem.W.kitAny K (.ref y_NoWord) [.ref y_Closed, .ref y_NoBook, .ref y_NoLine, .ref y_NoModes, .ref y_NoPlace, .ref y_NoQuote, .ref y_NoShape, .ref y_NoTable]=some false
 i_NoWord_ValueError:PySem.W.kitOne K (.ref y_NoWord) (.type "ValueError")=some true
 i_NoWord_NoText_Stopped_TooHeavy_TooMany_Unlike:PySem.W.kitAny K (.ref y_NoWord) [.ref y_NoText, .ref y_Stopped, .ref y_TooHeavy, .ref y_TooMany, .ref y_Unlike]=some false
 i_NoWord_NoWord:PySem.W.kitOne K (.ref y_NoWord) (.ref y_NoWord)=some true
section
variable {K:PySem.W.Frag} {mg:Str→Option Value} {y_NoWord y_Closed y_NoBook y_NoLine y_NoModes y_NoPlace y_NoQuote y_NoShape y_NoTable y_NoText y_Stopped y_TooHeavy y_TooMany y_Unlike y_ReachError:Addr}
theorem a0a (Z:Xn K mg y_NoWord y_Closed y_NoBook y_NoLine y_NoModes y_NoPlace y_NoQuote y_NoShape y_NoTable y_NoText y_Stopped y_TooHeavy y_TooMany y_Unlike y_ReachError):∀ c,qz c=true→∃ C,mg c=some (.ref C)∧PySem.W.nsIn K mainGlobals c=some (some (.ref C))∧PySem.W.exmOne K (.ref C) (.ref y_ReachError)=some true:=by
 intro c h
 simp only [qz,Bool.or_eq_true,decide_eq_true_eq] at h
 subst h
 ·exact ⟨_,Z.g_NoWord,Z.n_NoWord,Z.e_NoWord_ReachError⟩
theorem gf (Z:Xn K mg y_NoWord y_Closed y_NoBook y_NoLine y_NoModes y_NoPlace y_NoQuote y_NoShape y_NoTable y_NoText y_Stopped y_TooHeavy y_TooMany y_Unlike y_ReachError):∀ c b C,bf c=some b→PySem.W.nsIn K mainGlobals c=some (some (.ref C))→XKit K C∧PySem.W.kitAny K (.ref C) ([y_Closed,y_NoBook,y_NoLine,y_NoModes,y_NoPlace,y_NoQuote,y_NoShape,y_NoTable].map Value.ref)=some b:=by
 intro c b C h q
 unfold bf at h
 by_cases e_NoWord:c = "NoWord"
 ·subst e_NoWord;rw [if_pos rfl] at h;cases h;cases Z.n_NoWord.symm.trans q;exact ⟨Z.k_NoWord,Z.i_NoWord_Closed_NoBook_NoLine_NoModes_NoPlace_NoQuote_NoShape_NoTable⟩
 rw [if_neg e_NoWord] at h
 cases h
theorem a1u (Z:Xn K mg y_NoWord y_Closed y_NoBook y_NoLine y_NoModes y_NoPlace y_NoQuote y_NoShape y_NoTable y_NoText y_Stopped y_TooHeavy y_TooMany y_Unlike y_ReachError):∀ c b C,ug c=some b→PySem.W.nsIn K mainGlobals c=some (some (.ref C))→XKit K C∧PySem.W.kitOne K (.ref C) (.type "ValueError")=some b:=by
 intro c b C h q
 unfold ug at h
 by_cases e_NoWord:c = "NoWord"
 ·subst e_NoWord;rw [if_pos rfl] at h;cases h;cases Z.n_NoWord.symm.trans q;exact ⟨Z.k_NoWord,Z.i_NoWord_ValueError⟩
 rw [if_neg e_NoWord] at h
 cases h
theorem j5 (Z:Xn K mg y_NoWord y_Closed y_NoBook y_NoLine y_NoModes y_NoPlace y_NoQuote y_NoShape y_NoTable y_NoText y_Stopped y_TooHeavy y_TooMany y_Unlike y_ReachError):∀ c b C,d8 c=some b→PySem.W.nsIn K mainGlobals c=some (some (.ref C))→XKit K C∧PySem.W.kitAny K (.ref C) ([y_NoText,y_Stopped,y_TooHeavy,y_TooMany,y_Unlike].map Value.ref)=some b:=by
 intro c b C h q
 unfold d8 at h
 by_cases e_NoWord:c = "NoWord"
 ·subst e_NoWord;rw [if_pos rfl] at h;cases h;cases Z.n_NoWord.symm.trans q;exact ⟨Z.k_NoWord,Z.i_NoWord_NoText_Stopped_TooHeavy_TooMany_Unlike⟩
 rw [if_neg e_NoWord] at h
 cases h
theorem a8p (Z:Xn K mg y_NoWord y_Closed y_NoBook y_NoLine y_NoModes y_NoPlace y_NoQuote y_NoShape y_NoTable y_NoText y_Stopped y_TooHeavy y_TooMany y_Unlike y_ReachError):∀ c b C,a1t c=some b→PySem.W.nsIn K mainGlobals c=some (some (.ref C))→XKit K C∧PySem.W.kitOne K (.ref C) (.ref y_NoWord)=some b:=by
 intro c b C h q
 unfold a1t at h
 by_cases e_NoWord:c = "NoWord"
 ·subst e_NoWord;rw [if_pos rfl] at h;cases h;cases Z.n_NoWord.symm.trans q;exact ⟨Z.k_NoWord,Z.i_NoWord_NoWord⟩
 rw [if_neg e_NoWord] at h
 cases h
end
section
variable {P:Program} {w:World} {K:PySem.W.Frag} {mg:Str→Option Value} {base:Heap} {f:Addr}
theorem ajz:FnScope ["thing"] ["thing"] (ao (top 17)):=⟨rfl,rfl,rfl,by decide +kernel,rfl,by decide +kernel,by decide +kernel⟩
theorem m_0 {k:Nat} (M:Nm mg) (cdv:Value) (A:Around) (outer:List Env) (s:Shared) (H:Hp) (E:XK) (hr:Room k (A.deeper (PyProof.Rows.envOfC "is_number" (ao (top 17)) s.heap.objs.size f cdv))):MSs (zg CX0 P w K mg base ["thing"] "is_number" (ao (top 17)) f cdv A outer s H E).nox X0 (gj (top 17)) (jb) :=
 have SC:=ajz
 (dq (jw (a0h (lu (L2.CallR.or jn j9) qy rfl M.isinstance fu (aa (bw 0) (aa (a3o rfl M.int a7m) bc aj) aj)) (a0g (a4j (lu (L2.CallR.or jn j9) qy rfl M.isinstance fu (aa (bw 0) (aa (a3o rfl M.bool a87) bc aj) aj)))))))
theorem ak0:FnScope ["tongue", "word", "number", "sign"] ["tongue", "word"] (ao (top 20)):=⟨rfl,rfl,rfl,by decide +kernel,rfl,by decide +kernel,by decide +kernel⟩
theorem m_1 {k:Nat} (M:Nm mg) (cdv:Value) (A:Around) (outer:List Env) (s:Shared) (H:Hp) (E:XK) (hr:Room k (A.deeper (PyProof.Rows.envOfC "number_of" (ao (top 20)) s.heap.objs.size f cdv))):MSs (zg CX0 P w K mg base ["tongue", "word", "number", "sign"] "number_of" (ao (top 20)) f cdv A outer s H E).nox X0 (gj (top 20)) (rm) :=
 have SC:=ak0
 (aq (g8 (i:=2) SC.nd rfl (Or.inl rfl) az)
 (aq (a4l PassesOwn.never rfl (ab9 (bw 1)) (a1c (i:=3) SC.nd rfl (Or.inl rfl)) (dq (g8 (i:=2) SC.nd rfl (Or.inl rfl) (gh (gh (uf (bw 2) (lu (L2.CallR.or bz cj) j8 rfl M.len lr (aa (bw 0) bc aj))) (a9v PySem.F.slot_str_index PySem.F.type_str_index a9n a85 (bw 0) (aa (bw 3) bc aj))) az))))
 (dq (jw (bw 2)))))
theorem ak1:FnScope ["tongue", "number", "word", "left"] ["tongue", "number"] (ao (top 21)):=⟨rfl,rfl,rfl,by decide +kernel,rfl,by decide +kernel,by decide +kernel⟩
theorem m_2 {k:Nat} (M:Nm mg) (C:Cn mg) {y_NoWord y_Closed y_NoBook y_NoLine y_NoModes y_NoPlace y_NoQuote y_NoShape y_NoTable y_NoText y_Stopped y_TooHeavy y_TooMany y_Unlike y_ReachError:Addr} (Z:Xn K mg y_NoWord y_Closed y_NoBook y_NoLine y_NoModes y_NoPlace y_NoQuote y_NoShape y_NoTable y_NoText y_Stopped y_TooHeavy y_TooMany y_Unlike y_ReachError) {a_0:Addr} {d_0:FuncData} {k_0:Nat} {F_0:SF} (D_0:Dn P w K mg base k_0 "is_number" ["thing"] (qx K 1 F_0) a_0 d_0) (h_0:k_0≤k) (cdv:Value) (A:Around) (outer:List Env) (s:Shared) (H:Hp) (E:XK) (hr:Room k (A.deeper (PyProof.Rows.envOfC "word_at" (ao (top 21)) s.heap.objs.size f cdv))):MSs (cxE P w K mg base ["tongue", "number", "word", "left"] "word_at" (ao (top 21)) f cdv A outer s H E) (abj mg E) (gj (top 21)) (m5 F_0) :=
 have SC:=ak1
 (aq (uz (PW.pt (a9p (ye (u6 (aaf false D_0 (hr.mono h_0) rfl (aa (bw 1) bc aj)))) (a4i (m9 (a9b.or v7) a4q (bw 1) az (o7 _)))))
 (dq (a5e Z.c_NoWord rfl Z.g_NoWord (aa yc bc d9)))
 ju)
 (aq (g8 (i:=2) SC.nd rfl (Or.inl rfl) yc)
 (aq (g8 (i:=3) SC.nd rfl (Or.inl rfl) (bw 1))
 (aq (a4k 100000 PassesOwn.leaving (m9 a9c a4r (bw 3) az (o7 _)) (aq (uz (m9 (a0k hr.u) wg (lu (L2.CallR.or bz cj) j8 rfl M.len lr (aa (bw 2) bc aj)) (acp rfl C.LONGEST.choose_spec) (o7 _))
 (dq (a5e Z.c_NoWord rfl Z.g_NoWord (aa yc bc d9)))
 ju)
 (aq (ab7 (i:=3) SC.nd rfl (Or.inl rfl) abz a7w az)
 (aq (g8 (i:=2) SC.nd rfl (Or.inl rfl) (gh (gm (bw 0) (yf (bw 3) (lu (L2.CallR.or bz cj) j8 rfl M.len lr (aa (bw 0) bc aj))) (fun _ _=>rfl)) (bw 2)))
 (dq (ab7 (i:=3) SC.nd rfl (Or.inl rfl) a9a a7x (lu (L2.CallR.or bz cj) j8 rfl M.len lr (aa (bw 0) bc aj))))))))
 (dq (jw (bw 2)))))))
theorem ak2:FnScope ["_law_script"] ["_law_script"] (ao (top 23)):=⟨rfl,rfl,rfl,by decide +kernel,rfl,by decide +kernel,by decide +kernel⟩
theorem m_3 {k:Nat} (cdv:Value) (A:Around) (outer:List Env) (s:Shared) (H:Hp) (E:XK) (hr:Room k (A.deeper (PyProof.Rows.envOfC "_law_pen" (ao (top 23)) s.heap.objs.size f cdv))):MSs (zg CX0 P w K mg base ["_law_script"] "_law_pen" (ao (top 23)) f cdv A outer s H E).nox X0 (gj (top 23)) (PN.vo) :=
 have SC:=ak2
 (dq (jw (a2l (aa (abe (vm (bw 0) a1d (a1e az))) (aa az (aa az bc d9) d9) qm))))
theorem ak3:FnScope ["_law_pen_here", "_law_many", "_law_found", "_law_at", "_law_cell", "_law_great", "_law_number_here"] ["_law_pen_here", "_law_many"] (ao (top 24)):=⟨rfl,rfl,rfl,by decide +kernel,rfl,by decide +kernel,by decide +kernel⟩
theorem m_4 {k:Nat} (M:Nm mg) (cdv:Value) (A:Around) (outer:List Env) (s:Shared) (H:Hp) (E:XK) (hr:Room k (A.deeper (PyProof.Rows.envOfC "_law_take" (ao (top 24)) s.heap.objs.size f cdv))):MSs (zg CX0 P w K mg base ["_law_pen_here", "_law_many", "_law_found", "_law_at", "_law_cell", "_law_great", "_law_number_here"] "_law_take" (ao (top 24)) f cdv A outer s H E).nox X0 (gj (top 24)) (PN.wy) :=
 have SC:=ak3
 (aq (uz (m9 a9c a4r (gm (bw 0) az (fun _ _=>rfl)) az (o7 _))
 (aq (g8 (i:=2) SC.nd rfl (Or.inl rfl) (yf (gm (bw 0) az (fun _ _=>rfl)) (bw 1)))
 (aq (a7u (a7z (gm (bw 0) az (fun _ _=>rfl)) (bw 1)) (bw 0) az)
 (dq (jw (bw 2)))))
 ju)
 (aq (g8 (i:=3) SC.nd rfl (Or.inl rfl) (gm (bw 0) az (fun _ _=>rfl)))
 (aq (a7u (gh (bw 3) az) (bw 0) az)
 (aq (g8 (i:=4) SC.nd rfl (Or.inl rfl) az)
 (aq (uz (m9 a9c a4r (lu (L2.CallR.or bz cj) j8 rfl M.len lr (aa (gm (bw 0) az (fun _ _=>rfl)) bc qm)) az (o7 _))
 (dq (g8 (i:=4) SC.nd rfl (Or.inl rfl) (gm (gm (bw 0) az (fun _ _=>rfl)) (yf (bw 3) (lu (L2.CallR.or bz cj) j8 rfl M.len lr (aa (gm (bw 0) az (fun _ _=>rfl)) bc qm))) (fun _ _=>rfl))))
 ju)
 (aq (uz (PW.pt (ab5 (m9 (a9b.or v7) a4q (bw 3) (lu (L2.CallR.or bz cj) j8 rfl M.len lr (aa (gm (bw 0) az (fun _ _=>rfl)) bc qm)) (o7 _)) (a7s (m9 aii agd (lu a4c a82 rfl M.abs ab3 (aa (bw 4) bc aj)) (a80 az az) (o7 _)))))
 (aq (g8 (i:=5) SC.nd rfl (Or.inl rfl) (gh (a1l az (lu a4c a82 rfl M.abs ab3 (aa (bw 4) bc aj))) (a7t a76 ad3 rfl M.int a7m (aa (a3q (a9b.or v7) a4q (bw 4) az (o7 _)) bc))))
 (aq (a7u (a7z (bw 5) (bw 1)) (bw 0) az)
 (dq (jw (yf (bw 5) (bw 1))))))
 ju)
 (aq (g8 (i:=6) SC.nd rfl (Or.inl rfl) (yf (a80 (gh (gh (yf (bw 4) az) (a1l az (bw 3))) az) az) az))
 (aq (g8 (i:=6) SC.nd rfl (Or.inl rfl) (yf (gh (gh (a1l (bw 6) (bw 6)) (a1l az (bw 6))) (bw 3)) az))
 (dq (jw (yf (a7z (bw 6) az) (bw 1))))))))))))
theorem ak4:FnScope ["_law_some_here"] [] (ao (top 25)):=⟨rfl,rfl,rfl,by decide +kernel,rfl,by decide +kernel,by decide +kernel⟩
theorem m_5 {k:Nat} (cdv:Value) (A:Around) (outer:List Env) (s:Shared) (H:Hp) (E:XK) (hr:Room k (A.deeper (PyProof.Rows.envOfC "_law_signs" (ao (top 25)) s.heap.objs.size f cdv))):MSs (zg CX0 P w K mg base ["_law_some_here"] "_law_signs" (ao (top 25)) f cdv A outer s H E).nox X0 (gj (top 25)) (PN.o9) :=
 have SC:=ak4
 (aq (g8 (i:=0) SC.nd rfl (Or.inl rfl) yc)
 (dq (jw (gh (bw 0) yc))))
theorem ak5:FnScope ["_law_pen_here", "_law_rest", "_law_most", "_law_found", "_law_k", "_law_at"] ["_law_pen_here", "_law_rest", "_law_most"] (ao (top 26)):=⟨rfl,rfl,rfl,by decide +kernel,rfl,by decide +kernel,by decide +kernel⟩
theorem m_6 {k:Nat} (M:Nm mg) {a_4:Addr} {d_4:FuncData} {k_4:Nat} {F_4:SF} (D_4:Dn P w K mg base k_4 "_law_take" ["_law_pen_here", "_law_many"] (qx K 2 F_4) a_4 d_4) (h_4:k_4≤k) (cdv:Value) (A:Around) (outer:List Env) (s:Shared) (H:Hp) (E:XK) (hr:Room k (A.deeper (PyProof.Rows.envOfC "_law_some" (ao (top 26)) s.heap.objs.size f cdv))):MSs (zg CX0 P w K mg base ["_law_pen_here", "_law_rest", "_law_most", "_law_found", "_law_k", "_law_at"] "_law_some" (ao (top 26)) f cdv A outer s H E).nox X0 (gj (top 26)) (PN.wz F_4) :=
 have SC:=ak5
 (aq (g8 (i:=3) SC.nd rfl (Or.inl rfl) yc)
 (aq (a4l PassesOwn.never rfl (a3r rfl M.range (aa (gh az (dm false D_4 (hr.mono h_4) rfl (aa (bw 0) (aa (bw 2) bc aj) aj))) bc lq)) (a1c (i:=4) SC.nd rfl (Or.inl rfl)) (aq (g8 (i:=5) SC.nd rfl (Or.inl rfl) (dm false D_4 (hr.mono h_4) rfl (aa (bw 0) (aa (lu (L2.CallR.or bz cj) j8 rfl M.len lr (aa (bw 1) bc aj)) bc iz) aj)))
 (aq (g8 (i:=3) SC.nd rfl (Or.inl rfl) (gh (bw 3) (gm (bw 1) (bw 5) (fun _ _=>rfl))))
 (dq (g8 (i:=1) SC.nd rfl (Or.inl rfl) (gh (vm (bw 1) a1d (a1e (bw 5))) (vm (bw 1) (a1e (gh (bw 5) az)) a1d)))))))
 (dq (jw (bw 3)))))
theorem ak6:FnScope ["_law_pen_here", "_law_tongue", "_law_most", "_law_size"] ["_law_pen_here", "_law_tongue", "_law_most"] (ao (top 27)):=⟨rfl,rfl,rfl,by decide +kernel,rfl,by decide +kernel,by decide +kernel⟩
theorem m_7 {k:Nat} (M:Nm mg) {a_4:Addr} {d_4:FuncData} {k_4:Nat} {F_4:SF} (D_4:Dn P w K mg base k_4 "_law_take" ["_law_pen_here", "_law_many"] (qx K 2 F_4) a_4 d_4) (h_4:k_4≤k) (cdv:Value) (A:Around) (outer:List Env) (s:Shared) (H:Hp) (E:XK) (hr:Room k (A.deeper (PyProof.Rows.envOfC "_law_word" (ao (top 27)) s.heap.objs.size f cdv))):MSs (zg CX0 P w K mg base ["_law_pen_here", "_law_tongue", "_law_most", "_law_size"] "_law_word" (ao (top 27)) f cdv A outer s H E).nox X0 (gj (top 27)) (ur F_4) :=
 have SC:=ak6
 (aq (g8 (i:=3) SC.nd rfl (Or.inl rfl) (dm false D_4 (hr.mono h_4) rfl (aa (bw 0) (aa (gh (bw 2) az) bc lq) aj)))
 (dq (jw (a9v PySem.F.slot_str_join PySem.F.type_str_join acn a9w yc (aa (abe (acy rfl (CSc.of (ts:=["_law_k"]) (fr:=["_law_pen_here", "_law_tongue"]) (ix:=[0,1]) rfl rfl rfl rfl (by intro p hp;simp only [List.mem_cons,List.not_mem_nil,or_false] at hp;rcases hp with rfl | rfl<;>rfl) rfl rfl rfl rfl) (a3r rfl M.range (aa (bw 3) bc aj)) (fun _ _ _ _=>(a71 (i:=0) (show (["_law_k", "_law_pen_here", "_law_tongue"]:List Str).Nodup by decide +kernel) rfl (Or.inl rfl) (.inr rfl))) ag9 (fun _ _ _ _=>(gm (bw 2) (dm false D_4 (hr.mono h_4) rfl (aa (bw 1) (aa (lu (L2.CallR.or bz cj) j8 rfl M.len lr (aa (bw 2) bc aj)) bc iz) aj)) (fun _ _=>rfl))))) bc)))))
theorem ak7:FnScope ["_law_found", "_law_due", "_law_one", "_law_other"] ["_law_found", "_law_due"] (ao (top 28)):=⟨rfl,rfl,rfl,by decide +kernel,rfl,by decide +kernel,by decide +kernel⟩
theorem m_8 {k:Nat} (M:Nm mg) (cdv:Value) (A:Around) (outer:List Env) (s:Shared) (H:Hp) (E:XK) (hr:Room k (A.deeper (PyProof.Rows.envOfC "_law_same" (ao (top 28)) s.heap.objs.size f cdv))):MSs (zg CX0 P w K mg base ["_law_found", "_law_due", "_law_one", "_law_other"] "_law_same" (ao (top 28)) f cdv A outer s H E).nox X0 (gj (top 28)) (nq) :=
 have SC:=ak7
 (aq (uz (u6 (lu (L2.CallR.or jn j9) qy rfl M.isinstance fu (aa (bw 1) (aa (a3o rfl M.tuple a9m) bc aj) aj)))
 a0m
 ju)
 (aq (uz (u6 (lu (L2.CallR.or jn j9) qy rfl M.isinstance fu (aa (bw 1) (aa (a3o rfl M.str a7l) bc aj) aj)))
 (dq (jw (a0h (lu (L2.CallR.or jn j9) qy rfl M.isinstance fu (aa (bw 0) (aa (a3o rfl M.str a7l) bc aj) aj)) (a0g (a3q (a0k hr.u) wg (bw 0) (bw 1) (o7 _))))))
 ju)
 (dq (jw (a0h (lu (L2.CallR.or jn j9) qy rfl M.isinstance fu (aa (bw 0) (aa (a3o rfl M.int a7m) bc aj) aj)) (a0h (a4j (lu (L2.CallR.or jn j9) qy rfl M.isinstance fu (aa (bw 0) (aa (a3o rfl M.bool a87) bc aj) aj))) (a0g (a3q (a0k hr.u) wg (bw 0) (bw 1) (o7 _)))))))))
theorem ak8:FnScope ["_law_e"] ["_law_e"] (ao (top 29)):=⟨rfl,rfl,rfl,by decide +kernel,rfl,by decide +kernel,by decide +kernel⟩
theorem m_9 {k:Nat} (M:Nm mg) {y_NoWord y_Closed y_NoBook y_NoLine y_NoModes y_NoPlace y_NoQuote y_NoShape y_NoTable y_NoText y_Stopped y_TooHeavy y_TooMany y_Unlike y_ReachError:Addr} (Z:Xn K mg y_NoWord y_Closed y_NoBook y_NoLine y_NoModes y_NoPlace y_NoQuote y_NoShape y_NoTable y_NoText y_Stopped y_TooHeavy y_TooMany y_Unlike y_ReachError) (cdv:Value) (A:Around) (outer:List Env) (s:Shared) (H:Hp) (E:XK) (hr:RoomN k (A.deeper (PyProof.Rows.envOfC "_law_others" (ao (top 29)) s.heap.objs.size f cdv))):MSs (cxM P w K mg base ["_law_e"] "_law_others" (ao (top 29)) f cdv A outer s H E) X0 (gj (top 29)) (p7) :=
 have SC:=ak8
 (aq (uz (u6 (a8j (i:=0) (cs:=[y_Closed,y_NoBook,y_NoLine,y_NoModes,y_NoPlace,y_NoQuote,y_NoShape,y_NoTable]) rfl M.isinstance fu rfl (Or.inl rfl) (j4 (jm (v:=.ref y_Closed) rfl Z.g_Closed rfl) (j4 (jm (v:=.ref y_NoBook) rfl Z.g_NoBook rfl) (j4 (jm (v:=.ref y_NoLine) rfl Z.g_NoLine rfl) (j4 (jm (v:=.ref y_NoModes) rfl Z.g_NoModes rfl) (j4 (jm (v:=.ref y_NoPlace) rfl Z.g_NoPlace rfl) (j4 (jm (v:=.ref y_NoQuote) rfl Z.g_NoQuote rfl) (j4 (jm (v:=.ref y_NoShape) rfl Z.g_NoShape rfl) (j4 (jm (v:=.ref y_NoTable) rfl Z.g_NoTable rfl) a2b)))))))) (fun _ _ _ q=>q) (a1a (by simp)) (gf Z)))
 a0m
 ju)
 (dq (jw (aj0 (a8j (i:=0) (cs:=[y_NoText,y_Stopped,y_TooHeavy,y_TooMany,y_Unlike]) rfl M.isinstance fu rfl (Or.inl rfl) (j4 (jm (v:=.ref y_NoText) rfl Z.g_NoText rfl) (j4 (jm (v:=.ref y_Stopped) rfl Z.g_Stopped rfl) (j4 (jm (v:=.ref y_TooHeavy) rfl Z.g_TooHeavy rfl) (j4 (jm (v:=.ref y_TooMany) rfl Z.g_TooMany rfl) (j4 (jm (v:=.ref y_Unlike) rfl Z.g_Unlike rfl) a2b))))) (fun _ _ _ q=>q) (a1a (by simp)) (j5 Z)) (a0g (a4j (abl (i:=0) rfl M.isinstance fu rfl (Or.inl rfl) (a70 (v:=.ty "ValueError") rfl M.ValueError PyProof.Rows.Boot.«ValueError» rfl) (.inr ⟨_,rfl,rfl⟩) (a1u Z))))))))
theorem ah6:FnScope ["_law_tongue", "_law_number_here", "_law_good", "_law_e"] ["_law_tongue", "_law_number_here"] (ao (top 30)):=⟨rfl,rfl,rfl,by decide +kernel,rfl,by decide +kernel,by decide +kernel⟩
theorem alc {k:Nat} (M:Nm mg) {y_NoWord y_Closed y_NoBook y_NoLine y_NoModes y_NoPlace y_NoQuote y_NoShape y_NoTable y_NoText y_Stopped y_TooHeavy y_TooMany y_Unlike y_ReachError:Addr} (Z:Xn K mg y_NoWord y_Closed y_NoBook y_NoLine y_NoModes y_NoPlace y_NoQuote y_NoShape y_NoTable y_NoText y_Stopped y_TooHeavy y_TooMany y_Unlike y_ReachError) {a_9:Addr} {d_9:FuncData} {k_9:Nat} {F_9:SF} (D_9:DnN P w K mg base k_9 "_law_others" ["_law_e"] (qx K 1 F_9) a_9 d_9) (h_9:k_9≤k) {a_2:Addr} {d_2:FuncData} {k_2:Nat} {F_2:SF} (D_2:DnX P w K mg base k_2 "word_at" ["tongue", "number"] (spX K mg 2 F_2) a_2 d_2) (h_2:k_2≤k) (cdv:Value) (A:Around) (outer:List Env) (s:Shared) (H:Hp) (E:XK) (hr:Room k (A.deeper (PyProof.Rows.envOfC "_law_refused" (ao (top 30)) s.heap.objs.size f cdv))):MSs (zg CX0 P w K mg base ["_law_tongue", "_law_number_here", "_law_good", "_law_e"] "_law_refused" (ao (top 30)) f cdv A outer s H E).nox X0 (gj (top 30)) (n6 F_9 F_2) :=
 have SC:=ah6
 (aq (g8 (i:=2) SC.nd rfl (Or.inl rfl) aco)
 (aq (agu (i:=3) ⟨rfl,Z.g_ReachError,SC.nd,rfl,rfl,⟨rfl,rfl⟩,by decide⟩ (a0a Z)
 (ado (adn D_2 (hr.mono h_2) rfl (aa (bw 0) (aa (bw 1) bc aj) aj)))
 (fun a=>(dq (g8 (i:=2) SC.nd rfl (Or.inl rfl) (a0h (abl (i:=3) rfl M.isinstance fu rfl (Or.inl rfl) (jm (v:=.ref y_NoWord) rfl Z.g_NoWord rfl) (.inl ⟨_,rfl,rfl⟩) (a8p Z)) (a0g (a4j (aan false D_9 ((hr.mono h_9).n.mark _) rfl (aa (bw 3) bc aj)))))))))
 (dq (jw (bw 2)))))
theorem ah7:FnScope ["_law_tongue", "_law_size", "_law_found", "_law_many", "_law_k"] ["_law_tongue", "_law_size"] (ao (top 31)):=⟨rfl,rfl,rfl,by decide +kernel,rfl,by decide +kernel,by decide +kernel⟩
theorem ald {k:Nat} (M:Nm mg) (cdv:Value) (A:Around) (outer:List Env) (s:Shared) (H:Hp) (E:XK) (hr:Room k (A.deeper (PyProof.Rows.envOfC "_law_shorter" (ao (top 31)) s.heap.objs.size f cdv))):MSs (zg CX0 P w K mg base ["_law_tongue", "_law_size", "_law_found", "_law_many", "_law_k"] "_law_shorter" (ao (top 31)) f cdv A outer s H E).nox X0 (gj (top 31)) (n8) :=
 have SC:=ah7
 (aq (g8 (i:=2) SC.nd rfl (Or.inl rfl) az)
 (aq (g8 (i:=3) SC.nd rfl (Or.inl rfl) az)
 (aq (a4l PassesOwn.never rfl (a3r rfl M.range (aa (bw 1) bc aj)) (a1c (i:=4) SC.nd rfl (Or.inl rfl)) (aq (g8 (i:=2) SC.nd rfl (Or.inl rfl) (gh (bw 2) (bw 3)))
 (dq (g8 (i:=3) SC.nd rfl (Or.inl rfl) (uf (bw 3) (lu (L2.CallR.or bz cj) j8 rfl M.len lr (aa (bw 0) bc aj)))))))
 (dq (jw (ab6 (aa (bw 2) (aa (bw 3) bc aj) aj)))))))
theorem ah8:FnScope ["_law_tongue", "_law_word_here", "_law_found", "_law_sign"] ["_law_tongue", "_law_word_here"] (ao (top 32)):=⟨rfl,rfl,rfl,by decide +kernel,rfl,by decide +kernel,by decide +kernel⟩
theorem ale {k:Nat} (M:Nm mg) {a_11:Addr} {d_11:FuncData} {k_11:Nat} {F_11:SF} (D_11:Dn P w K mg base k_11 "_law_shorter" ["_law_tongue", "_law_size"] (qx K 2 F_11) a_11 d_11) (h_11:k_11≤k) (cdv:Value) (A:Around) (outer:List Env) (s:Shared) (H:Hp) (E:XK) (hr:Room k (A.deeper (PyProof.Rows.envOfC "_law_number" (ao (top 32)) s.heap.objs.size f cdv))):MSs (zg CX0 P w K mg base ["_law_tongue", "_law_word_here", "_law_found", "_law_sign"] "_law_number" (ao (top 32)) f cdv A outer s H E).nox X0 (gj (top 32)) (p8 F_11) :=
 have SC:=ah8
 (aq (g8 (i:=2) SC.nd rfl (Or.inl rfl) az)
 (aq (a4l PassesOwn.never rfl (ab9 (bw 1)) (a1c (i:=3) SC.nd rfl (Or.inl rfl)) (dq (g8 (i:=2) SC.nd rfl (Or.inl rfl) (gh (uf (bw 2) (lu (L2.CallR.or bz cj) j8 rfl M.len lr (aa (bw 0) bc aj))) (a9v PySem.F.slot_str_find PySem.F.type_str_find a7p a4t (bw 0) (aa (bw 3) bc aj))))))
 (dq (jw (gh (gm (dm false D_11 (hr.mono h_11) rfl (aa (bw 0) (aa (lu (L2.CallR.or bz cj) j8 rfl M.len lr (aa (bw 1) bc aj)) bc iz) aj)) az (fun _ _=>rfl)) (bw 2))))))
theorem ah9:FnScope ["_law_tongue", "_law_word_here", "_law_at", "_law_later"] ["_law_tongue", "_law_word_here"] (ao (top 33)):=⟨rfl,rfl,rfl,by decide +kernel,rfl,by decide +kernel,by decide +kernel⟩
theorem alf {k:Nat} (M:Nm mg) (cdv:Value) (A:Around) (outer:List Env) (s:Shared) (H:Hp) (E:XK) (hr:Room k (A.deeper (PyProof.Rows.envOfC "_law_next" (ao (top 33)) s.heap.objs.size f cdv))):MSs (zg CX0 P w K mg base ["_law_tongue", "_law_word_here", "_law_at", "_law_later"] "_law_next" (ao (top 33)) f cdv A outer s H E).nox X0 (gj (top 33)) (qt) :=
 have SC:=ah9
 (aq (g8 (i:=2) SC.nd rfl (Or.inl rfl) (lu (L2.CallR.or bz cj) j8 rfl M.len lr (aa (bw 1) bc aj)))
 (aq (a4k 100000 PassesOwn.never (PW.pt (ab5 (m9 a9c a4r (bw 2) az (o7 _)) (a7s (m9 (a0k hr.u) wg (gm (bw 1) (zr (bw 2) az) (fun _ _=>rfl)) (gm (bw 0) (a4p az) (fun _ _=>rfl)) (o7 _))))) (dq (g8 (i:=2) SC.nd rfl (Or.inl rfl) (zr (bw 2) az))))
 (aq (uz (m9 (a0k hr.u) wg (bw 2) az (o7 _))
 (dq (jw (uf (gm (bw 0) az (fun _ _=>rfl)) (gh (lu (L2.CallR.or bz cj) j8 rfl M.len lr (aa (bw 1) bc aj)) az))))
 ju)
 (aq (g8 (i:=3) SC.nd rfl (Or.inl rfl) (gm (bw 0) (gh (a9v PySem.F.slot_str_find PySem.F.type_str_find a7p a4t (bw 0) (aa (gm (bw 1) (zr (bw 2) az) (fun _ _=>rfl)) bc qm)) az) (fun _ _=>rfl)))
 (dq (jw (gh (gh (vm (bw 1) a1d (a1e (zr (bw 2) az))) (bw 3)) (uf (gm (bw 0) az (fun _ _=>rfl)) (zr (lu (L2.CallR.or bz cj) j8 rfl M.len lr (aa (bw 1) bc aj)) (bw 2))))))))))
theorem aha:FnScope ["_law_script", "_law_pen_here", "_law_odd", "_law_tongue", "_law_word_here", "_law_due", "_law_most", "_law_things", "_law_bad", "_law_later"] ["_law_script"] (ao (top 34)):=⟨rfl,rfl,rfl,by decide +kernel,rfl,by decide +kernel,by decide +kernel⟩
theorem alg {k:Nat} (M:Nm mg) {a_13:Addr} {d_13:FuncData} {k_13:Nat} {F_13:SF} (D_13:Dn P w K mg base k_13 "_law_next" ["_law_tongue", "_law_word_here"] (qx K 2 F_13) a_13 d_13) (h_13:k_13≤k) {a_12:Addr} {d_12:FuncData} {k_12:Nat} {F_12:SF} (D_12:Dn P w K mg base k_12 "_law_number" ["_law_tongue", "_law_word_here"] (qx K 2 F_12) a_12 d_12) (h_12:k_12≤k) {a_3:Addr} {d_3:FuncData} {k_3:Nat} {F_3:SF} (D_3:Dn P w K mg base k_3 "_law_pen" ["_law_script"] (qx K 1 F_3) a_3 d_3) (h_3:k_3≤k) {a_10:Addr} {d_10:FuncData} {k_10:Nat} {F_10:SF} (D_10:Dn P w K mg base k_10 "_law_refused" ["_law_tongue", "_law_number_here"] (qx K 2 F_10) a_10 d_10) (h_10:k_10≤k) {a_8:Addr} {d_8:FuncData} {k_8:Nat} {F_8:SF} (D_8:Dn P w K mg base k_8 "_law_same" ["_law_found", "_law_due"] (qx K 2 F_8) a_8 d_8) (h_8:k_8≤k) {a_11:Addr} {d_11:FuncData} {k_11:Nat} {F_11:SF} (D_11:Dn P w K mg base k_11 "_law_shorter" ["_law_tongue", "_law_size"] (qx K 2 F_11) a_11 d_11) (h_11:k_11≤k) {a_5:Addr} {d_5:FuncData} {k_5:Nat} {F_5:SF} (D_5:Dn P w K mg base k_5 "_law_signs" [] (qx K 0 F_5) a_5 d_5) (h_5:k_5≤k) {a_6:Addr} {d_6:FuncData} {k_6:Nat} {F_6:SF} (D_6:Dn P w K mg base k_6 "_law_some" ["_law_pen_here", "_law_rest", "_law_most"] (qx K 3 F_6) a_6 d_6) (h_6:k_6≤k) {a_4:Addr} {d_4:FuncData} {k_4:Nat} {F_4:SF} (D_4:Dn P w K mg base k_4 "_law_take" ["_law_pen_here", "_law_many"] (qx K 2 F_4) a_4 d_4) (h_4:k_4≤k) {a_7:Addr} {d_7:FuncData} {k_7:Nat} {F_7:SF} (D_7:Dn P w K mg base k_7 "_law_word" ["_law_pen_here", "_law_tongue", "_law_most"] (qx K 3 F_7) a_7 d_7) (h_7:k_7≤k) {a_1:Addr} {d_1:FuncData} {k_1:Nat} {F_1:SF} (D_1:Dn P w K mg base k_1 "number_of" ["tongue", "word"] (qx K 2 F_1) a_1 d_1) (h_1:k_1≤k) {a_2:Addr} {d_2:FuncData} {k_2:Nat} {F_2:SF} (D_2:DnX P w K mg base k_2 "word_at" ["tongue", "number"] (spX K mg 2 F_2) a_2 d_2) (h_2:k_2≤k) (cdv:Value) (A:Around) (outer:List Env) (s:Shared) (H:Hp) (E:XK) (hr:Room k (A.deeper (PyProof.Rows.envOfC "law" (ao (top 34)) s.heap.objs.size f cdv))):MSs (zg CX0 P w K mg base ["_law_script", "_law_pen_here", "_law_odd", "_law_tongue", "_law_word_here", "_law_due", "_law_most", "_law_things", "_law_bad", "_law_later"] "law" (ao (top 34)) f cdv A outer s H E).nox X0 (gj (top 34)) (aao F_13 F_12 F_3 F_10 F_8 F_11 F_5 F_6 F_4 F_7 F_1 F_2) :=
 have SC:=aha
 (aq (g8 (i:=1) SC.nd rfl (Or.inl rfl) (dm true D_3 (hr.mono h_3) rfl (aa (bw 0) bc aj)))
 (aq (g8 (i:=2) SC.nd rfl (Or.inl rfl) (dm false D_4 (hr.mono h_4) rfl (aa (bw 1) (aa az bc d9) aj)))
 (aq (g8 (i:=3) SC.nd rfl (Or.inl rfl) (dm false D_6 (hr.mono h_6) rfl (aa (bw 1) (aa (a8a false D_5 (hr.mono h_5) rfl) (aa az bc d9) iz) aj)))
 (aq (g8 (i:=4) SC.nd rfl (Or.inl rfl) (dm false D_7 (hr.mono h_7) rfl (aa (bw 1) (aa (bw 3) (aa (gm (abe (a2l (aa az (aa az (aa az (aa az (aa az bc d9) d9) d9) d9) d9))) (dm false D_4 (hr.mono h_4) rfl (aa (bw 1) (aa az bc d9) aj)) (fun _ _=>rfl)) bc qm) aj) aj)))
 (aq (uz (m9 (a0k hr.u) wg (dm false D_4 (hr.mono h_4) rfl (aa (bw 1) (aa az bc d9) aj)) az (o7 _))
 (dq (g8 (i:=4) SC.nd rfl (Or.inl rfl) (uf (gm (bw 3) (a4p az) (fun _ _=>rfl)) (lu (L2.CallR.or bz cj) j8 rfl M.len lr (aa (bw 4) bc aj)))))
 ju)
 (aq (g8 (i:=5) SC.nd rfl (Or.inl rfl) (dm false D_12 (hr.mono h_12) rfl (aa (bw 3) (aa (bw 4) bc aj) aj)))
 (aq (g8 (i:=6) SC.nd rfl (Or.inl rfl) (gm (dm false D_11 (hr.mono h_11) rfl (aa (bw 3) (aa az bc d9) aj)) az (fun _ _=>rfl)))
 (aq (g8 (i:=7) SC.nd rfl (Or.inl rfl) (abe (a2l (aa (bw 6) (aa (gh (bw 6) (dm false D_4 (hr.mono h_4) rfl (aa (bw 1) (aa az bc d9) aj))) (aa (gh (a80 az az) (uf (bw 5) (bw 5))) (aa (zr (a4p az) (bw 5)) (aa aco (aa aco (aa ag3 (aa (a7t a2a aah rfl M.str a7l (aa (bw 5) bc aj)) bc iz) d9) d9) d9) lq) lq) lq) aj))))
 (aq (g8 (i:=8) SC.nd rfl (Or.inl rfl) (gm (abe (gh (bw 7) (abe (a2l (aa (ab6 (aa (bw 5) bc aj)) (aa (abe (a2l (aa (bw 5) bc aj))) (aa (abe (aj5 (bw 5) (bw 5))) (aa (bw 4) bc aj) a8m) a8l) a6l))))) (bw 2) (fun _ _=>rfl)))
 (aq (uz (PW.pt (a9p (ye (u6 (dm false D_8 (hr.mono h_8) rfl (aa (dm false D_1 (hr.mono h_1) rfl (aa (bw 3) (aa (bw 4) bc aj) aj)) (aa (bw 5) bc aj) iz)))) (a4i (ye (u6 (dm false D_8 (hr.mono h_8) rfl (aa (ue D_2 (hr.mono h_2) rfl (aa (bw 3) (aa (bw 5) bc aj) aj)) (aa (bw 4) bc aj) iz)))))))
 a0m
 ju)
 (aq (uz (PW.pt (a9p (ye (u6 (dm false D_10 (hr.mono h_10) rfl (aa (bw 3) (aa (bw 8) bc aj) aj)))) (a4i (ye (u6 (dm false D_8 (hr.mono h_8) rfl (aa (ue D_2 (hr.mono h_2) rfl (aa (bw 3) (aa (bw 5) bc aj) aj)) (aa (bw 4) bc aj) iz)))))))
 a0m
 ju)
 (aq (g8 (i:=9) SC.nd rfl (Or.inl rfl) (dm false D_13 (hr.mono h_13) rfl (aa (bw 3) (aa (bw 4) bc aj) aj)))
 (aq (uz (m9 (a9b.or v7) a4q (lu (L2.CallR.or bz cj) j8 rfl M.len lr (aa (bw 9) bc aj)) az (o7 _))
 (dq (uz (PW.pt (a9p (ye (u6 (dm false D_8 (hr.mono h_8) rfl (aa (ue D_2 (hr.mono h_2) rfl (aa (bw 3) (aa (gh (bw 5) az) bc lq) aj)) (aa (bw 9) bc aj) iz)))) (a4i (ye (u6 (dm false D_8 (hr.mono h_8) rfl (aa (dm false D_1 (hr.mono h_1) rfl (aa (bw 3) (aa (bw 9) bc aj) aj)) (aa (gh (bw 5) az) bc lq) iz)))))))
 a0m
 ju))
 (dq (uz (ye (u6 (dm false D_10 (hr.mono h_10) rfl (aa (bw 3) (aa (gh (bw 5) az) bc lq) aj))))
 a0m
 ju)))
 (dq (jw (a0h (dm false D_8 (hr.mono h_8) rfl (aa (ue D_2 (hr.mono h_2) rfl (aa (bw 3) (aa (zr (bw 6) az) bc lq) aj)) (aa (uf (gm (bw 3) (a4p az) (fun _ _=>rfl)) az) bc lq) iz)) (a0g (dm false D_8 (hr.mono h_8) rfl (aa (ue D_2 (hr.mono h_2) rfl (aa (bw 3) (aa az bc d9) aj)) (aa yc bc d9) iz)))))))))))))))))))
end
end K03
namespace HND
open PySem PySem.Spec L2 MI
noncomputable def o9:SS :=
 (j6 (kj 0 (sC (.str " !\"#$&'()*+,-./0123456789:;<=>?@ABCDEFGHIJKLMNOPQRSTUVWXYZ[\\]^_`")))
 (ut (s2 gk (sV 0) (sC (.str "abcdefghijklmnopqrstuvwxyz{|}~\n")))))
end HND
namespace HND
open PySem PySem.Spec L2 MI AT
local macro_rules | `(tactic| walk_at "ev") => `(tactic| simp only [jj,uw,a0n,zy,a0o,kj,a6u,a68,sIf,ut,a05,a90,put,a6a,aej,aei,a5z,aeh,kN,sV,sC,s2,s1,sA,ak,dw,sNx,sT,asB,a0f,jh,xn,xq,xr,xu,a5y,sOr,a1b,qw,a8z,vf,sCh,aeg,dg,a09,MI.v8,MI.a00,MI.a0p,ad8,a07,gLt,gGt,gGe,gLe,a2x,a6n,a6o,a6p,a0r,qp,a6q,uq,aen,aeo,aep,aeq,oh,MI.uy,a06,a2n,a0q,AT.a6j,AT.p18,xf,xg,xj,a9u,xm,a3t,a66,a65,MI.a0i,MI.a0j,sML,isL,aek,oN,oS,a3e,sy,sIt,a7v,sRg,List.length_map,List.length_cons,List.length_nil,List.length_append,List.getElem?_cons_zero,List.getElem?_cons_succ,List.set_cons_zero,List.set_cons_succ,List.nil_append,List.cons_append,AT.a6b,AT.a6c,AT.a6d,AT.a6e,AT.a6f,AT.a6g,AT.a6h,AT.a6i,AT.x10,AT.x20,AT.x21,AT.x30,AT.x31,AT.x32,AT.x40,AT.x41,AT.x42,AT.x43,AT.x50,AT.x51,AT.x52,AT.x53,AT.x54,AT.x60,AT.x61,AT.x62,AT.x63,AT.x64,AT.x65,AT.x70,AT.x71,AT.x72,AT.x73,AT.x74,AT.x75,AT.x76,decide_true,decide_false,reduceIte,Bool.true_and,Bool.and_self,Bool.not_true,Bool.not_false,and_self,true_and,and_true,beq_self_eq_true,Nat.reduceAdd,Nat.reduceLeDiff,Nat.reduceLT,Nat.reducePow,Int.reduceLT,Int.reduceLE,Int.reduceNeg,Int.reduceEq,Int.reduceBEq,Bool.false_eq_true,Bool.true_eq_false,ite_true,ite_false,if_true,if_false, *])
end HND
namespace HND
open PySem PySem.Spec L2 MI AT
local macro_rules | `(tactic| walk_at "ev") => `(tactic| simp only [jj,uw,a0n,zy,a0o,kj,a6u,a68,sIf,ut,a05,a90,put,a6a,aej,aei,a5z,aeh,kN,sV,sC,s2,s1,sA,ak,dw,sNx,sT,asB,a0f,jh,xn,xq,xr,xu,a5y,sOr,a1b,qw,a8z,vf,sCh,aeg,dg,a09,MI.v8,MI.a00,MI.a0p,ad8,a07,gLt,gGt,gGe,gLe,a2x,a6n,a6o,a6p,a0r,qp,a6q,uq,aen,aeo,aep,aeq,oh,MI.uy,a06,a2n,a0q,AT.a6j,AT.p18,xf,xg,xj,a9u,xm,a3t,a66,a65,MI.a0i,MI.a0j,sML,isL,aek,oN,oS,a3e,sy,sIt,a7v,sRg,a91,yp,acu,adh,adg,aa5,aj4,ahv,srcOf,  List.length_map,List.length_cons,List.length_nil,List.length_append,List.getElem?_cons_zero,List.getElem?_cons_succ,List.set_cons_zero,List.set_cons_succ,List.nil_append,List.cons_append,AT.a6b,AT.a6c,AT.a6d,AT.a6e,AT.a6f,AT.a6g,AT.a6h,AT.a6i,AT.x10,AT.x20,AT.x21,AT.x30,AT.x31,AT.x32,AT.x40,AT.x41,AT.x42,AT.x43,AT.x50,AT.x51,AT.x52,AT.x53,AT.x54,AT.x60,AT.x61,AT.x62,AT.x63,AT.x64,AT.x65,AT.x70,AT.x71,AT.x72,AT.x73,AT.x74,AT.x75,AT.x76,decide_true,decide_false,reduceIte,Bool.true_and,Bool.and_self,Bool.not_true,Bool.not_false,and_self,true_and,and_true,beq_self_eq_true,Nat.reduceAdd,Nat.reduceLeDiff,Nat.reduceLT,Nat.reducePow,Int.reduceLT,Int.reduceLE,Int.reduceNeg,Int.reduceEq,Int.reduceBEq,Bool.false_eq_true,Bool.true_eq_false,ite_true,ite_false,if_true,if_false, *])
def ahx:Str := " !\"#$&'()*+,-./0123456789:;<=>?@ABCDEFGHIJKLMNOPQRSTUVWXYZ[\\]^_`"
def ahy:Str := "abcdefghijklmnopqrstuvwxyz{|}~\n"
def sig:List Nat:=ahx.cps.toList++ahy.cps.toList
theorem a8q:sig.length=95:=by decide +kernel
theorem ahb:sig.Nodup:=by decide +kernel
noncomputable def iw:SF:=lz o9 1
theorem lits {h:Hd}:gk (.str ahx) (.str ahy) h = .ok (.str (S sig)) h:=by
 rw [← adt ahx,← adt ahy,a6m (by decide +kernel)]
 rfl
theorem a1v:Pu iw 0 [] (.str (S sig)):=by
 refine Pu.of rfl (by simp) (r:=.ok (.str (S sig)) []) ?_ (by rw [km (du _) (by simp)];rfl) (du _)
 unfold iw
 rw [gq]
 unfold o9
 have e:=@lits []
 unfold ahx ahy at e
 show toR (j6 (kj 0 _) _ [none] [])=_
 simp only [jj,kj,sC,a09,uw,ut,s2,sV,List.set_cons_zero,List.getElem?_cons_zero,dg,e,zy]
structure Tongue (l:List Nat):Prop where
 lo:1≤l.length
 hi:l.length≤6
 nd:l.Nodup
 sub:∀ c∈l,c∈sig
theorem a8r (a r:List Nat) (i:Nat) (c:Nat) (e:r[i]? = some c):List.Perm (a++r) ((a++[c])++(r.take i++r.drop (i+1))):=by
 obtain ⟨hi,e⟩:=List.getElem?_eq_some_iff.mp e
 have:r=r.take i++c::r.drop (i+1):=by rw [← e];simp
 rw [List.append_assoc]
 refine List.Perm.append_left a ?_
 rw [List.singleton_append]
 conv=>lhs;rw [this]
 exact List.perm_middle
end HND
namespace EVX
open PySem PySem.Spec L2 MI
section
variable {i:Nat} {cs:Str→Bool} {fb fs p g:SS} {τ τ1 τ2:Sd} {h h1 h2:Hd} {c:Str} {f:SE} {ka:SA} {ds:List D} {F:SF} {n:Nat}
theorem aap (e:p τ h = .ex c h1):j6 p g τ h = .ex c h1:=by unfold j6;rw [e]
theorem a3y (e:ka τ h = .ok ds h1) (l:ds.length≤100):a2u c ka τ h = .ex c h1:=by
 unfold a2u
 rw [e]
 show (if ds.length≤LINE then Fl.ex c h1 else .no)=_
 rw [if_pos (ig (by omega))]
theorem ae2 (hn:ds.length=n) (cd:∀ x∈ds,MI.clo 0 x) (e:F ds [] = .ex c h1):t7 n F ds h = .ex c h:=by
 unfold t7
 rw [if_pos cd,e]
 exact if_pos hn
theorem ae3 {d d':D} (cd:∀ x∈ds,MI.clo 0 x) (e:F ds [] = .ok d h1) (p:Pu F n ds d'):t7 n F ds h = .ok d' h:=by
 unfold t7
 rw [if_pos cd,e]
 exact p h
theorem ahc (e:fb τ h = .ex c h1) (hc:cs c=true) (e2:fs (τ.set i (some (.exc c))) h1 = .nx τ2 h2):agt i cs fb fs τ h = .nx (τ2.set i none) h2:=by
 unfold agt
 rw [e]
 show (if cs c=true then _ else _)=_
 rw [if_pos hc,e2]
theorem ahd (e:f τ h = .ex c h1):a05 f τ h = .ex c h1:=by unfold a05;rw [e];rfl
theorem qof {α:Type} {k:Sd→Hd→R α} {x:α} (e:k τ h = .ok x h1):qA k τ h = .ok x h1:=by unfold qA;rw [e];rfl
theorem alh (e:ka τ h = .ok ds h1):sA F ka τ h=F ds h1:=by unfold sA;rw [e];rfl
theorem aaq {x:Str→Option Bool} {b:Bool} (e:τ[i]? = some (some (.exc c))) (e2:x c=some b):a93 i x τ h = .ok (.bl b) h:=by unfold a93;rw [e];dsimp only;rw [e2]
theorem a0s {b:Bool} (e:f τ h = .ok (.bl b) h1):vf f τ h = .ok (.bl (!b)) h1:=by unfold vf;rw [e];rfl
theorem jx {d:D} (e:f τ h = .ok d h1) (e2:ka τ h1 = .ok ds h2):ak f ka τ h = .ok (d::ds) h2:=by
 unfold ak
 rw [e,dg,e2]
 rfl
theorem ali {a:D}:MI.a0i [a] h = .ok (.tup [a]) h:=by unfold MI.a0i;rw [if_pos (ig (by simp))]
theorem ahe:MI.a0i [] h = .ok (.tup []) h:=by unfold MI.a0i;rw [if_pos (ig (by simp))]
end
end EVX
namespace PN
open PySem PySem.Spec L2 MI AT HND EVX
local macro_rules | `(tactic| walk_at "ev") => `(tactic| simp only [jj,uw,a0n,zy,a0o,kj,a6u,a68,sIf,ut,a05,a90,put,a6a,aej,aei,a5z,aeh,kN,sV,sC,s2,s1,sA,ak,dw,sNx,sT,asB,a0f,jh,xn,xq,xr,xu,a5y,sOr,a1b,qw,a8z,vf,sCh,aeg,dg,a09,MI.v8,MI.a00,MI.a0p,ad8,a07,gLt,gGt,gGe,gLe,a2x,a6n,a6o,a6p,a0r,qp,a6q,uq,aen,aeo,aep,aeq,oh,MI.uy,a06,a2n,a0q,AT.a6j,AT.p18,xf,xg,xj,a9u,xm,a3t,a66,a65,MI.a0i,MI.a0j,sML,isL,aek,oN,oS,a3e,sy,sIt,a7v,sRg,List.length_map,List.length_cons,List.length_nil,List.length_append,List.getElem?_cons_zero,List.getElem?_cons_succ,List.set_cons_zero,List.set_cons_succ,List.nil_append,List.cons_append,AT.a6b,AT.a6c,AT.a6d,AT.a6e,AT.a6f,AT.a6g,AT.a6h,AT.a6i,AT.x10,AT.x20,AT.x21,AT.x30,AT.x31,AT.x32,AT.x40,AT.x41,AT.x42,AT.x43,AT.x50,AT.x51,AT.x52,AT.x53,AT.x54,AT.x60,AT.x61,AT.x62,AT.x63,AT.x64,AT.x65,AT.x70,AT.x71,AT.x72,AT.x73,AT.x74,AT.x75,AT.x76,decide_true,decide_false,reduceIte,Bool.true_and,Bool.and_self,Bool.not_true,Bool.not_false,and_self,true_and,and_true,beq_self_eq_true,Nat.reduceAdd,Nat.reduceLeDiff,Nat.reduceLT,Nat.reducePow,Int.reduceLT,Int.reduceLE,Int.reduceNeg,Int.reduceEq,Int.reduceBEq,Bool.false_eq_true,Bool.true_eq_false,ite_true,ite_false,if_true,if_false, *])
structure Pen (o:O) (N:Nat):Prop where
 ex:∃ (cells:List Int) (a l:Int),o = .lst [.rol (cells.map D.int), .int a, .int l]∧0≤a∧a≤N∧0≤l
theorem Pen.clo {o:O} {N:Nat} (P:Pen o N):v4 0 o:=by
 obtain ⟨cells,a,l,rfl,_⟩:=P.ex
 exact bj (a1n (yw fun x _=>bu x)) (bj (bu _) (bj (bu _) jk))
theorem Pen.up {o:O} {N M:Nat} (P:Pen o N) (h:N≤M):Pen o M:=by
 obtain ⟨cells,a,l,e,h1,h2,h3⟩:=P.ex
 exact ⟨cells,a,l,e,h1,by omega,h3⟩
noncomputable def au:SF:=lz wy 7
theorem a8s {o:O} {N:Nat} {m:Int} (P:Pen o N) (hN:N≤1000000000) (m0:0<m) (m1:m<1073741824):∃ r o',au [.ref 0, .int m] [o] = .ok (.int r) [o']∧0≤r∧r<m∧Pen o' (N+1):=by
 obtain ⟨cells,a,l,rfl,a0,a1,l0⟩:=P.ex
 unfold au
 rw [gq]
 unfold wy qi
 simp only [List.map_cons,List.map_nil,List.length_cons,List.length_nil,Nat.reduceSub,Nat.reduceAdd,List.replicate,List.cons_append,List.nil_append]
 have k3:(0<m∧m<1073741824)=True:=by simp [m0,m1]
 have k3':(0<m)=True:=by simp [m0]
 by_cases hl:0<l
 ·have kl:decide (0<l)=true:=decide_eq_true hl
  refine ⟨l % m,_,?_,Int.emod_nonneg _ (by omega),Int.emod_lt_of_pos _ m0,⟨cells,a,l / m,rfl,a0,by omega,Int.ediv_nonneg (by omega) (by omega)⟩⟩
  walk_at "ev"
 ·have:l=0:=by omega
  subst this
  have last:∀ c:Int,∃ r q q2,0≤r∧r<m∧(c % 2147483587+40709*a+31) ^ (3:Int).toNat % 2147483647=q∧(q*q+48271*q+a) % 2147483629=q2∧q2 / 64 % m=r∧CMul 40709 a∧CMul q q∧CMul 48271 q ∧
    (∀ h,a4o (.int (c % 2147483587+40709*a+31)) (.int 3) h = .ok (.int ((c % 2147483587+40709*a+31) ^ (3:Int).toNat)) h):=fun c=>by
   have p0:0≤c % 2147483587:=Int.emod_nonneg _ (by decide)
   have p1:c % 2147483587<2147483587:=Int.emod_lt_of_pos _ (by decide)
   have q0:0≤(c % 2147483587+40709*a+31) ^ (3:Int).toNat % 2147483647:=Int.emod_nonneg _ (by decide)
   have q1:(c % 2147483587+40709*a+31) ^ (3:Int).toNat % 2147483647<2147483647:=Int.emod_lt_of_pos _ (by decide)
   refine ⟨_,_,_,Int.emod_nonneg _ (by omega),Int.emod_lt_of_pos _ m0,rfl,rfl,rfl, .inl ⟨by decide,by decide⟩, .inl ⟨by omega,by omega⟩, .inl ⟨by decide,by decide⟩,fun h=>agw ⟨by decide,by decide,by omega⟩⟩
  obtain ⟨n,rfl⟩:=Int.eq_ofNat_of_zero_le a0
  by_cases hc:0<(cells.length:Int)
  ·have kc:decide (0<(cells.length:Int))=true:=decide_eq_true hc
   have ic:(0<(cells.length:Int))=True:=by simpa using hc
   have im:((n:Int) % (cells.length:Int))=((n % cells.length:Nat):Int):=by omega
   have hj:n % cells.length<cells.length:=Nat.mod_lt _ (by omega)
   have hat:atI (cells.map D.int) ((n % cells.length:Nat):Int)=some (.int cells[n % cells.length]):=m8 (by simp [hj])
   generalize cells[n % cells.length]=x at hat
   by_cases hA:(n:Int)<(cells.length:Int)
   ·have ka:decide ((n:Int)<(cells.length:Int))=true:=decide_eq_true hA
    by_cases hB:(1000000000000000000:Int)≤abm x
    ·have kb:decide ((1000000000000000000:Int)≤abm x)=true:=decide_eq_true hB
     have cm:CMul 2 (abm x):=.inl ⟨by decide,by decide⟩
     have g0:0≤2*abm x+(if decide (x<0)=true then 1 else 0):=by split<;>omega
     refine ⟨(2*abm x+(if decide (x<0)=true then 1 else 0)) % m,_,?_,Int.emod_nonneg _ (by omega),Int.emod_lt_of_pos _ m0,⟨cells,(n:Int)+1,(2*abm x+(if decide (x<0)=true then 1 else 0)) / m,rfl,by omega,by omega,Int.ediv_nonneg g0 (by omega)⟩⟩
     walk_at "ev"
    ·have kb:decide ((1000000000000000000:Int)≤abm x)=false:=decide_eq_false hB
     obtain ⟨r,q,q2,r0,r1,eq,eq2,er,d1,d2,d3,d4⟩:=last x
     refine ⟨r,_,?_,r0,r1,⟨cells,(n:Int)+1,0,rfl,by omega,by omega,by omega⟩⟩
     walk_at "ev"
   ·have ka:decide ((n:Int)<(cells.length:Int))=false:=decide_eq_false hA
    obtain ⟨r,q,q2,r0,r1,eq,eq2,er,d1,d2,d3,d4⟩:=last x
    refine ⟨r,_,?_,r0,r1,⟨cells,(n:Int)+1,0,rfl,by omega,by omega,by omega⟩⟩
    walk_at "ev"
  ·have kc:decide (0<(cells.length:Int))=false:=decide_eq_false hc
   have ka:decide ((n:Int)<(cells.length:Int))=false:=decide_eq_false (by omega)
   obtain ⟨r,q,q2,r0,r1,eq,eq2,er,d1,d2,d3,d4⟩:=last 5
   refine ⟨r,_,?_,r0,r1,⟨cells,(n:Int)+1,0,rfl,by omega,by omega,by omega⟩⟩
   walk_at "ev"
theorem a3z {o:O} {N:Nat} {m:Int} (P:Pen o N) (hN:N≤1000000000) (m0:0<m) (m1:m<1073741824):∃ r o',Dr au 2 [.int m] o (.int r) o'∧0≤r∧r<m∧Pen o' (N+1):=by
 obtain ⟨r,o',e,r0,r1,P'⟩:=a8s P hN m0 m1
 refine ⟨r,o',Dr.of rfl (by simp [bu]) P.clo e (km (bu _) ?_) (bu _) P'.clo,r0,r1,P'⟩
 intro u hu
 simp at hu
 subst hu
 exact ww (by omega) P'.clo
noncomputable def m7:SF:=lz vo 1
theorem ahf (ns:List Int) (h:Hd):∃ o,Pen o 0∧jz true 1 m7 [.scr (ns.map D.int)] h = .ok (.ref h.length) (h++[o]):=by
 have cl:clos 0 ((ns.take 63).map D.int):=yw fun x _=>bu x
 have z1:sZ (a3e (sV 0) oN (oS (sC (.int 63)))) [some (.scr (ns.map D.int))] [] = .ok (.rol ((ns.take 63).map D.int)) []:=by
  refine aj6 (by
   show gSl (.scr (ns.map D.int)) none (some ((63:Nat):Int)) []=_
   unfold gSl
   simp only [a7n,List.map_take]) cl (by simp)
 have e:m7 [.scr (ns.map D.int)] [] = .ok (.ref 0) [.lst [.rol ((ns.take 63).map D.int), .int 0, .int 0]]:=by
  unfold m7
  rw [gq]
  show toR (vo [some (.scr (ns.map D.int))] [])=_
  unfold vo
  exact congrArg toR (t8 (ajc z1 (il _ _ _) (il _ _ _) rfl))
 have P:Pen (.lst [.rol ((ns.take 63).map D.int), .int 0, .int 0]) 0:=⟨_,0,0,rfl,by decide,by decide,by decide⟩
 exact ⟨_,P,ago rfl (by simpa [MI.clo] using (yw fun x _=>bu x:clos 0 (ns.map D.int))) e rfl P.clo h⟩
noncomputable def iw:SF:=lz o9 1
theorem a1v:Pu iw 0 [] (.str (S sig)):=HND.a1v
end PN
namespace SRC
open PySem PySem.Spec L2 MI
end SRC
namespace SRC
open PySem PySem.Spec L2 MI AT
local macro_rules | `(tactic| walk_at "ev") => `(tactic| simp only [jj,uw,a0n,zy,a0o,kj,a6u,a68,sIf,ut,a05,a90,put,a6a,aej,aei,a5z,aeh,kN,sV,sC,s2,s1,sA,ak,dw,sNx,sT,asB,a0f,jh,xn,xq,xr,xu,a5y,sOr,a1b,qw,a8z,vf,sCh,aeg,dg,a09,MI.v8,MI.a00,MI.a0p,ad8,a07,gLt,gGt,gGe,gLe,a2x,a6n,a6o,a6p,a0r,qp,a6q,uq,aen,aeo,aep,aeq,oh,MI.uy,a06,a2n,a0q,AT.a6j,AT.p18,xf,xg,xj,a9u,xm,a3t,a66,a65,MI.a0i,MI.a0j,sML,isL,aek,oN,oS,a3e,sy,sIt,a7v,sRg,List.length_map,List.length_cons,List.length_nil,List.length_append,List.getElem?_cons_zero,List.getElem?_cons_succ,List.set_cons_zero,List.set_cons_succ,List.nil_append,List.cons_append,AT.a6b,AT.a6c,AT.a6d,AT.a6e,AT.a6f,AT.a6g,AT.a6h,AT.a6i,AT.x10,AT.x20,AT.x21,AT.x30,AT.x31,AT.x32,AT.x40,AT.x41,AT.x42,AT.x43,AT.x50,AT.x51,AT.x52,AT.x53,AT.x54,AT.x60,AT.x61,AT.x62,AT.x63,AT.x64,AT.x65,AT.x70,AT.x71,AT.x72,AT.x73,AT.x74,AT.x75,AT.x76,decide_true,decide_false,reduceIte,Bool.true_and,Bool.and_self,Bool.not_true,Bool.not_false,and_self,true_and,and_true,beq_self_eq_true,Nat.reduceAdd,Nat.reduceLeDiff,Nat.reduceLT,Nat.reducePow,Int.reduceLT,Int.reduceLE,Int.reduceNeg,Int.reduceEq,Int.reduceBEq,Bool.false_eq_true,Bool.true_eq_false,ite_true,ite_false,if_true,if_false, *])
end SRC
namespace SRC
open PySem PySem.Spec L2 MI AT HND EVX
local macro_rules | `(tactic| walk_at "ev") => `(tactic| simp only [jj,uw,a0n,zy,a0o,kj,a6u,a68,sIf,ut,a05,a90,put,a6a,aej,aei,a5z,aeh,kN,sV,sC,s2,s1,sA,ak,dw,sNx,sT,asB,a0f,jh,xn,xq,xr,xu,a5y,sOr,a1b,qw,a8z,vf,sCh,aeg,dg,a09,MI.v8,MI.a00,MI.a0p,ad8,a07,gLt,gGt,gGe,gLe,a2x,a6n,a6o,a6p,a0r,qp,a6q,uq,aen,aeo,aep,aeq,oh,MI.uy,a06,a2n,a0q,AT.a6j,AT.p18,xf,xg,xj,a9u,xm,a3t,a66,a65,MI.a0i,MI.a0j,sML,isL,aek,oN,oS,a3e,sy,sIt,a7v,sRg,a91,yp,acu,adh,adg,aa5,aj4,ahv,srcOf,  List.length_map,List.length_cons,List.length_nil,List.length_append,List.getElem?_cons_zero,List.getElem?_cons_succ,List.set_cons_zero,List.set_cons_succ,List.nil_append,List.cons_append,AT.a6b,AT.a6c,AT.a6d,AT.a6e,AT.a6f,AT.a6g,AT.a6h,AT.a6i,AT.x10,AT.x20,AT.x21,AT.x30,AT.x31,AT.x32,AT.x40,AT.x41,AT.x42,AT.x43,AT.x50,AT.x51,AT.x52,AT.x53,AT.x54,AT.x60,AT.x61,AT.x62,AT.x63,AT.x64,AT.x65,AT.x70,AT.x71,AT.x72,AT.x73,AT.x74,AT.x75,AT.x76,decide_true,decide_false,reduceIte,Bool.true_and,Bool.and_self,Bool.not_true,Bool.not_false,and_self,true_and,and_true,beq_self_eq_true,Nat.reduceAdd,Nat.reduceLeDiff,Nat.reduceLT,Nat.reducePow,Int.reduceLT,Int.reduceLE,Int.reduceNeg,Int.reduceEq,Int.reduceBEq,Bool.false_eq_true,Bool.true_eq_false,ite_true,ite_false,if_true,if_false, *])
end SRC
namespace HND
open PySem PySem.Spec L2 MI AT
end HND
namespace HND
open PySem PySem.Spec L2 MI AT
end HND
namespace HND
open PySem PySem.Spec L2 MI AT
end HND
namespace HND
open PySem PySem.Spec L2 MI AT
end HND
namespace HND
open PySem PySem.Spec L2 MI AT
end HND
namespace HND
open PySem PySem.Spec L2 MI AT
abbrev dz (i:Nat):D:=.int (i:Nat)
end HND
namespace HND
open PySem PySem.Spec L2 MI AT
theorem all_map {α:Type} (f:α→D) (P:α→Prop):∀ (l:List D),(∀ x∈l,∃ r,P r∧x=f r)→∃ G:List α,l=G.map f∧∀ r∈G,P r
 | [],_=>⟨[],rfl,by simp⟩
 | x::l,h=>by
  obtain ⟨r,pr,rfl⟩:=h _ List.mem_cons_self
  obtain ⟨G,rfl,pG⟩:=all_map f P l fun y hy=>h y (List.mem_cons_of_mem _ hy)
  exact ⟨r::G,rfl,fun q hq=>by
   rcases List.mem_cons.mp hq with rfl | h
   ·exact pr
   ·exact pG q h⟩
structure Table where
 tg:List Nat
 go:List (List Nat)
 ks:List Int
end HND
namespace MI
open PySem PySem.Spec L2
end MI
namespace PAP
open PySem PySem.Spec L2 MI AT HND
def Pln:D→Prop
 | .non=>True | .bl _=>True | .int _=>True | .str x=>x.cps.toList.length≤1000 | .tup xs=>clos 0 xs | .rol xs=>clos 0 xs | .rod _ xs=>clos 0 xs | _=>False
theorem Pln.clo {d:D} (p:Pln d):clo 0 d:=by
 cases d<;>first | (simp only [Pln] at p;done) | (simp only [Pln] at p;simpa [MI.clo] using p) | simp [MI.clo]
theorem alj (l:List Nat) (h:Hd):a7v (.str (S l)) h = .ok ⟨l.map fun c=>.str (S [c]),fun _=>True⟩ h:=by
 show R.ok (⟨zq (S l),fun _=>True⟩:Itm) _=_
 unfold zq
 rw [a2w]
theorem ahg {f k:SE} {τ:Sd} {h h1:Hd} (e:f τ h = .ok (.bl false) h1):qw f k τ h = .ok (.bl false) h1:=by unfold qw;rw [e,dg]
theorem alk {f:SE} {τ:Sd} {h h1:Hd} {i:Int} (e:f τ h = .ok (.int i) h1):oS f τ h = .ok (some i) h1:=by unfold oS;rw [e];rfl
theorem alm {f:SE} {lo hi:SO} {τ:Sd} {h h1 h2 h3 h4:Hd} {d v:D} {a b:Option Int} (e:f τ h = .ok d h1) (e1:lo τ h1 = .ok a h2) (e2:hi τ h2 = .ok b h3) (e3:a92 d a b h3 = .ok v h4):a3e f lo hi τ h = .ok v h4:=by
 unfold a3e
 rw [e,dg,e1,dg,e2,dg,e3]
theorem ahe {h:Hd}:MI.a0i [] h = .ok (.tup []) h:=by unfold MI.a0i;rw [if_pos (ig (by simp))]
theorem aof {G:List D→Hd→R D} {k:SA} {τ:Sd} {h h1 h2:Hd} {ds:List D} {v:D} (e:k τ h = .ok ds h1) (e2:G ds h1 = .ok v h2):sA G k τ h = .ok v h2:=by
 unfold sA
 rw [e,dg,e2]
theorem a2z {f:SE} {τ:Sd} {h h':Hd} {xs:List D} (hl:h'.length=h.length) (e:f τ h = .ok (.ref h'.length) (h'++[.lst xs])) (cx:clos h.length xs) (c:∀ o∈h',v4 h.length o):sZ f τ h = .ok (.rol xs) h':=by
 unfold sZ
 rw [e,a1q (by omega) (by simp) cx (by rw [← hl];simpa [hl] using c)]
 rw [← hl]
 simp
end PAP
namespace SRC
open PySem PySem.Spec L2 MI AT HND EVX
end SRC
namespace BF
def walk (step:Nat→Nat→Nat) (r:Nat):List Nat→Nat
 | []=>r
 | c::p=>step (walk step r p) c
section
variable (s:Nat) (step:Nat→Nat→Nat) (K:Nat→Bool)
def fl:Nat→Nat→Bool
 | 0,r=>K r
 | k+1,r=>(List.range s).any fun c=>fl k (step r c)
variable {s step K}
end
end BF
namespace SRC
open PySem PySem.Spec L2 MI AT HND EVX
abbrev cst (l:List Nat):List Int:=l.map fun x:Nat=>(x:Int)
def pos (m:List Nat) (x:Nat):Nat:=(ixI (x:Int) (cst m)).getD 0
end SRC
namespace SRC
open PySem PySem.Spec L2 MI AT HND EVX
end SRC
namespace K21
open PySem PySem.Spec L2 MI
end K21
namespace K23
open PySem PySem.Spec L2 MI
end K23
namespace K22
open PySem PySem.Spec L2 MI
end K22
namespace K22
open PySem PySem.Spec L2 MI AT HND
section
variable (T:Table)
def knd (r:Nat):Bool:=decide ((T.ks[r]?).getD (-1) ≠ -1)
end
end K22
namespace K22
open PySem PySem.Spec L2 MI AT HND
end K22
namespace K22
open PySem PySem.Spec L2 MI AT HND
end K22
namespace K23
open PySem PySem.Spec L2 MI AT HND K22
section
variable {T:Table}
theorem ahz {g:D→List D→Hd→R D} {f:SE} {k:SA} {τ:Sd} {h h1 h2 h3:Hd} {z:Str} {ds:List D} {v:D} (e1:f τ h = .ok (.str z) h1) (e2:k τ h1 = .ok ds h2) (e3:g (.str z) ds h2 = .ok v h3):sMS g f k τ h = .ok v h3:=by
 unfold sMS
 rw [e1,dg]
 dsimp only
 rw [e2,dg,e3]
end
end K23
namespace K21
open PySem PySem.Spec L2 MI AT HND K22 K23 EVX
section
variable {T:Table}
theorem ajd {a b:D} (ha:MI.clo 0 a) (hb:MI.clo 0 b):∀ x∈[a,b],MI.clo 0 x:=by
 intro x hx
 simp only [List.mem_cons,List.not_mem_nil,or_false] at hx
 rcases hx with rfl | rfl
 ·exact ha
 ·exact hb
end
end K21
namespace K21
open PySem PySem.Spec L2 MI AT HND K22 K23 EVX
section
variable {T:Table}
abbrev ones (t:List Nat):List D:=t.map fun c=>.str (S [c])
theorem join_ones:∀ t:List Nat,Txt.join (S []) (t.map fun c=>S [c])=S t:=by
 have e:∀ zs:List Str,Txt.join (S []) zs=Str.join (S []) zs:=PySem.StrLaws.glued_eq_join (S [])
 have st:∀ (x y:Str) (r:List Str),Str.join (S []) (x::y::r)=x++S []++Str.join (S []) (y::r):=fun _ _ _=>rfl
 intro t
 rw [e]
 induction t with
 | nil=>rfl
 | cons a t ih =>
  cases t with
  | nil=>rfl
  | cons b t =>
   rw [List.map_cons,List.map_cons,st,show S [b]::t.map (fun c=>S [c])=(b::t).map (fun c=>S [c]) from rfl,ih,adu,adu]
   rfl
theorem a3a:∀ t:List Nat,a3u (ones t)=some (t.map fun c=>S [c])
 | []=>rfl
 | a::t=>by
  show (a3u (ones t)).map _=_
  rw [a3a t];rfl
theorem aar (t:List Nat):((t.map fun c=>S [c]).map (·.length)).sum=t.length:=by
 induction t with
 | nil=>rfl
 | cons a t ih=>rw [List.map_cons,List.map_cons,List.sum_cons,ih,a1s,List.length_cons];simp;omega
theorem a8t {t:List Nat} {h:Hd} (z:t.length≤1000000):a86 (.str (S [])) [.rol (ones t)] h = .ok (.str (S t)) h:=by
 unfold a86
 simp only [a3a,aar,a1s,List.length_nil,Nat.mul_zero,Nat.add_zero,join_ones]
 rw [if_pos (by omega)]
theorem aln {f:SE} {τ:Sd} {h h':Hd} {xs:List D} (hl:h'.length=h.length) (e:f τ h = .ok (.ref h'.length) (h'++[.lst xs])) (cx:clos h.length xs) (c:∀ o∈h',v4 h.length o):sZ f τ h = .ok (.rol xs) h':=by
 unfold sZ
 rw [e,a1q (by omega) (by simp) cx (by rw [← hl];simpa [hl] using c)]
 rw [← hl]
 simp
end
end K21
namespace SRC
open PySem PySem.Spec L2 MI AT HND EVX K22 K23 K21
end SRC
namespace PN
open PySem PySem.Spec L2 MI AT HND EVX K22 K23 K21
local macro_rules | `(tactic| walk_at "ev") => `(tactic| simp only [jj,uw,a0n,zy,a0o,kj,a6u,a68,sIf,ut,a05,a90,put,a6a,aej,aei,a5z,aeh,kN,sV,sC,s2,s1,sA,ak,dw,sNx,sT,asB,a0f,jh,xn,xq,xr,xu,a5y,sOr,a1b,qw,a8z,vf,sCh,aeg,dg,a09,MI.v8,MI.a00,MI.a0p,ad8,a07,gLt,gGt,gGe,gLe,a2x,a6n,a6o,a6p,a0r,qp,a6q,uq,aen,aeo,aep,aeq,oh,MI.uy,a06,a2n,a0q,AT.a6j,AT.p18,xf,xg,xj,a9u,xm,a3t,a66,a65,MI.a0i,MI.a0j,sML,isL,aek,oN,oS,a3e,sy,sIt,a7v,sRg,a91,yp,acu,adh,adg,aa5,aj4,ahv,srcOf,  List.length_map,List.length_cons,List.length_nil,List.length_append,List.getElem?_cons_zero,List.getElem?_cons_succ,List.set_cons_zero,List.set_cons_succ,List.nil_append,List.cons_append,AT.a6b,AT.a6c,AT.a6d,AT.a6e,AT.a6f,AT.a6g,AT.a6h,AT.a6i,AT.x10,AT.x20,AT.x21,AT.x30,AT.x31,AT.x32,AT.x40,AT.x41,AT.x42,AT.x43,AT.x50,AT.x51,AT.x52,AT.x53,AT.x54,AT.x60,AT.x61,AT.x62,AT.x63,AT.x64,AT.x65,AT.x70,AT.x71,AT.x72,AT.x73,AT.x74,AT.x75,AT.x76,decide_true,decide_false,reduceIte,Bool.true_and,Bool.and_self,Bool.not_true,Bool.not_false,and_self,true_and,and_true,beq_self_eq_true,Nat.reduceAdd,Nat.reduceLeDiff,Nat.reduceLT,Nat.reducePow,Int.reduceLT,Int.reduceLE,Int.reduceNeg,Int.reduceEq,Int.reduceBEq,Bool.false_eq_true,Bool.true_eq_false,ite_true,ite_false,if_true,if_false, *])
noncomputable def jo:SF:=lz (wz au) 6
theorem ae4 {o:O} {N most:Nat} {all:List Nat} (P:Pen o N) (hN:N≤999999000) (m1:1≤most) (m2:most≤all.length) (al:all.length≤95) (nd0:all.Nodup) :
  ∃ l o',1≤l.length∧l.length≤most∧l.Nodup∧(∀ c∈l,c∈all)∧Dr jo 3 [.str (S all),dz most] o (.str (S l)) o'∧Pen o' (N+1+most):=by
 obtain ⟨r0,o1,e1,r0a,r0b,P1⟩:=a3z (m:=(most:Int)) P (by omega) (by omega) (by omega)
 have lo:=yz (g:=kN 4) (b:=mq au) (fun i:Nat=>D.int (0+(i:Nat)))
  (fun pre τ h=>∃ (rest told:List Nat) (u:O) (t4 t5:Option D),τ=[some (.ref 0),some (.str (S rest)),some (dz most),some (.str (S told)),t4,t5]∧h=[u]∧Pen u (N+1+pre.length)∧told.length=pre.length∧(told++rest).length=all.length∧(told++rest).Nodup∧∀ c∈told++rest,c∈all)
  (List.range (1+r0).toNat) [some (.ref 0),some (.str (S all)),some (dz most),some (.str (S [])),none,none] [o1] ?_
  ⟨all,[],o1,none,none,rfl,rfl,P1,rfl,by simp,by simpa using nd0,by simp⟩
 ·obtain ⟨τ',h',e2,rest,told,u,t4,t5,rfl,rfl,P2,l1,l2,nd,sb⟩:=lo
  rw [List.length_range] at P2 l1
  refine ⟨told,u,by omega,by omega,(List.nodup_append.mp nd).1,fun c hc=>sb c (List.mem_append_left _ hc),Dr.of rfl (ajd (du _) (bu _)) P.clo (r:=.ok (.str (S told)) [u]) ?_ (km (du _) (by simpa using ww (by omega) P2.clo)) (du _) P2.clo,P2.up (by omega)⟩
  unfold jo
  rw [gq]
  unfold wz qi
  simp only [List.map_cons,List.map_nil,List.length_cons,List.length_nil,Nat.reduceSub,Nat.reduceAdd,List.replicate,List.cons_append,List.nil_append]
  have c2:jz false 2 au [.ref 0, .int (most:Nat)] [o]=_:=e1 0 [o] rfl
  have em:("" : Str)=S []:=rfl
  have bd:B62 (1+r0):=by unfold B62;omega
  have e2:forL (fun _=>True) (kN 4) (mq au) (rng 0 (1+r0).toNat) [some (D.ref 0),some (D.str (S all)),some (dz most),some (D.str (S [])),none,none] [o1]=_:=e2
  walk_at "ev"
 ·rintro pre i post τ h al' ⟨rest,told,u,t4,t5,rfl,rfl,P2,l1,l2,nd,sb⟩
  have hlen:pre.length<(1+r0).toNat:=by
   have:=congrArg List.length al'
   simp at this;omega
  rw [List.length_append] at l2
  obtain ⟨r,u',e2,ra,rb,P3⟩:=a3z (m:=(rest.length:Nat)) P2 (by omega) (by omega) (by omega)
  obtain ⟨j,rfl⟩:=Int.eq_ofNat_of_zero_le ra
  have hj:j<rest.length:=by omega
  have gx:rest[j]? = some rest[j]:=List.getElem?_eq_getElem hj
  have pp:=a8r told rest j rest[j] gx
  refine ⟨_,_,rfl,_,_,?_,rest.take j++rest.drop (j+1),told++[rest[j]],u',some (.int (0+(i:Nat))),some (.int (j:Nat)),rfl,rfl,by simpa [Nat.add_assoc] using P3,by simp [l1],?_,pp.nodup_iff.mp nd,fun c hc=>sb c (pp.mem_iff.mpr hc)⟩
  ·unfold mq
   have L:∀ n:Nat,n≤95→n≤LINE:=fun n hn=>by show n≤16777216;omega
   have c2:=e2 0 [u] rfl
   have x1:∀ h,gIx (.str (S rest)) (.int (j:Nat)) h = .ok (.str (S [rest[j]])) h:=fun h=>abn (L _ (by omega)) gx
   have x2:∀ h,qg [.str (S rest)] h = .ok (.int rest.length) h:=fun h=>yr (L _ (by omega))
   have x3:∀ h,gk (.str (S told)) (.str (S [rest[j]])) h = .ok (.str (S (told++[rest[j]]))) h:=fun h=>a6m (L _ (by simp;omega))
   have x4:∀ h,a92 (.str (S rest)) none (some (j:Int)) h = .ok (.str (S (rest.take j))) h:=fun h=>ajs j (L _ (by omega))
   have x5:∀ h,a92 (.str (S rest)) (some ((j:Int)+1)) none h = .ok (.str (S (rest.drop (j+1)))) h:=fun h=>agy (j+1) (L _ (by omega))
   have x6:∀ h,gk (.str (S (rest.take j))) (.str (S (rest.drop (j+1)))) h = .ok (.str (S (rest.take j++rest.drop (j+1)))) h:=fun h=>a6m (L _ (by simp;omega))
   clear al' hlen
   walk_at "ev"
  ·rw [← pp.length_eq];simpa using l2
end PN
namespace PN
open PySem PySem.Spec L2 MI AT HND EVX K22 K23 K21
end PN
namespace PN
open PySem PySem.Spec L2 MI AT HND EVX K22 K23 K21
end PN
namespace PN
open PySem PySem.Spec L2 MI AT HND EVX K22 K23 K21
abbrev HT (u:O) (is:List D) (ks:List Int) (t:Hd):Hd:=u::.lst is::.lst (ks.map D.int)::t
section
variable {u:O} {N n most:Nat} {tg:List Nat} {is:List D} {ks:List Int} {t:Hd} {road often:Int}
theorem tk {m:Int} (P:Pen u N) (hN:N≤999999000) (m0:0<m) (m1:m<1073741824):∃ (r:Int) (u':O),0≤r∧r<m∧Pen u' (N+1)∧∀ h:Hd,jz false 2 au [.ref 0, .int m] (u::h) = .ok (.int r) (u'::h):=by
 obtain ⟨r,u',e,r0,r1,P'⟩:=a3z P (by omega) m0 m1
 exact ⟨r,u',r0,r1,P',fun h=>e 0 _ rfl⟩
end
end PN
namespace PN
open PySem PySem.Spec L2 MI AT HND EVX K22 K23 K21
theorem a5i {n x:Nat} {pre post:List Nat} (e:List.range n=pre++x::post):x=pre.length∧pre.length<n:=by
 have h1:(List.range n)[pre.length]? = some x:=by rw [e];simp
 have h2:=List.getElem?_eq_some_iff.mp h1
 obtain ⟨h3,h4⟩:=h2
 rw [List.getElem_range] at h4
 rw [List.length_range] at h3
 exact ⟨h4.symm,h3⟩
end PN
namespace PN
open PySem PySem.Spec L2 MI AT HND EVX K22 K23 K21
end PN
namespace PN
open PySem PySem.Spec L2 MI AT HND EVX K22 K23 K21
end PN
namespace K20
open PySem PySem.Spec L2 MI
noncomputable def jb:SS :=
 (ut (qw (sA ie (ak (sV 0) (ak (sC (.ty "int")) dw))) (vf (sA ie (ak (sV 0) (ak (sC (.ty "bool")) dw))))))
end K20
namespace K20
open PySem PySem.Spec L2 MI AT HND EVX
open PAP hiding ahe a2z aof
def isInt:D→Bool | .int _=>true | _=>false
def a8u:D→Bool | .bl _=>true | _=>false
section
variable {d:D} {h:Hd}
theorem aje (p:Pln d):ie [d, .ty "int"] h = .ok (.bl (isInt d || a8u d)) h:=by
 cases d<;>first | (simp only [Pln] at p;done) | simp [ie,w6,tyD,vh,isInt,a8u]
theorem ajf (p:Pln d):ie [d, .ty "bool"] h = .ok (.bl (a8u d)) h:=by
 cases d<;>first | (simp only [Pln] at p;done) | simp [ie,w6,tyD,vh,a8u]
end
theorem ar1 {a:D} (ha:MI.clo 0 a):∀ x∈[a],MI.clo 0 x:=by intro x hx;rw [List.mem_singleton] at hx;subst hx;exact ha
theorem ar2 {a b:D} (ha:MI.clo 0 a) (hb:MI.clo 0 b):∀ x∈[a,b],MI.clo 0 x:=by
 intro x hx
 simp only [List.mem_cons,List.not_mem_nil,or_false] at hx
 rcases hx with rfl | rfl
 ·exact ha
 ·exact hb
theorem ar3 {a b c:D} (ha:MI.clo 0 a) (hb:MI.clo 0 b) (hc:MI.clo 0 c):∀ x∈[a,b,c],MI.clo 0 x:=by
 intro x hx
 rcases List.mem_cons.mp hx with rfl | hx
 ·exact ha
 ·exact ar2 hb hc x hx
theorem ar4 {a b c e:D} (ha:MI.clo 0 a) (hb:MI.clo 0 b) (hc:MI.clo 0 c) (he:MI.clo 0 e):∀ x∈[a,b,c,e],MI.clo 0 x:=by
 intro x hx
 rcases List.mem_cons.mp hx with rfl | hx
 ·exact ha
 ·exact ar3 hb hc he x hx
theorem a1w {F:SF} {n:Nat} {ds:List D} {b:Bool} {h':Hd} (hn:ds.length=n) (ca:∀ x∈ds,MI.clo 0 x) (e:F ds [] = .ok (.bl b) h'):Pu F n ds (.bl b):=Pu.of hn ca e (km (yj _) (by simp)) (yj _)
noncomputable def bh:SF:=lz jb 1
theorem zb {d:D} (p:Pln d):Pu bh 1 [d] (.bl (isInt d)):=by
 refine a1w rfl (ar1 p.clo) (h':=[]) ?_
 unfold bh
 rw [gq]
 show toR (jb [some d] [])=_
 unfold jb
 have a1:sA ie (ak (sV 0) (ak (sC (.ty "int")) dw)) [some d] [] = .ok (.bl (isInt d || a8u d)) []:=qu (dh rfl) (il _ _ _) (aje p)
 have a2:sA ie (ak (sV 0) (ak (sC (.ty "bool")) dw)) [some d] [] = .ok (.bl (a8u d)) []:=qu (dh rfl) (il _ _ _) (ajf p)
 cases hi:isInt d with
 | true =>
  rw [hi,Bool.true_or] at a1
  have:a8u d=false:=by cases d<;>first | rfl | simp [isInt] at hi
  rw [this] at a2
  exact congrArg toR (t8 (a2y a1 (EVX.a0s a2)))
 | false =>
  rw [hi,Bool.false_or] at a1
  cases hb:a8u d with
  | true=>rw [hb] at a1 a2;exact congrArg toR (t8 (a2y a1 (EVX.a0s a2)))
  | false=>rw [hb] at a1;exact congrArg toR (t8 (ahg a1))
end K20
namespace N03
def N (s:Nat) (ds:List Nat):Nat:=ds.foldl (fun a d=>a*s+d+1) 0
def V (s:Nat) (ds:List Nat):Nat:=ds.foldl (fun a d=>a*s+d) 0
def sh (s:Nat):Nat→Nat
 | 0=>0
 | l+1=>sh s l+s ^ l
theorem yo (s:Nat) (ds:List Nat) (d:Nat):N s (ds++[d])=N s ds*s+d+1:=by unfold N;rw [List.foldl_append];rfl
theorem a5j (s:Nat) (ds:List Nat) (d:Nat):V s (ds++[d])=V s ds*s+d:=by unfold V;rw [List.foldl_append];rfl
theorem abo (s:Nat):∀ l,sh s l*s+1=sh s (l+1)
 | 0=>by simp [sh]
 | l+1=>by
  have ih:=abo s l
  show (sh s l+s ^ l)*s+1=sh s (l+1)+s ^ (l+1)
  rw [← ih,Nat.add_mul,Nat.pow_succ]
  omega
theorem snoc_ind {P:List Nat→Prop} (h0:P []) (hs:∀ ds d,P ds→P (ds++[d])):∀ ds,P ds:=fun ds=>by
 have:∀ l:List Nat,P l.reverse:=fun l=>by
  induction l with
  | nil=>exact h0
  | cons d l ih=>rw [List.reverse_cons];exact hs _ _ ih
 have:=this ds.reverse
 rwa [List.reverse_reverse] at this
theorem ai0 (s:Nat):∀ ds,N s ds=sh s ds.length+V s ds:=snoc_ind rfl fun ds d ih=>by
 rw [yo,a5j,List.length_append,List.length_singleton,ih,← abo,Nat.add_mul]
 omega
theorem V_lt {s:Nat}:∀ ds,(∀ d∈ds,d<s)→V s ds<s ^ ds.length:=snoc_ind (fun _=>by simp [V]) fun ds d ih h=>by
 have h1:=ih fun x hx=>h x (List.mem_append_left _ hx)
 have h2:=h d (by simp)
 rw [a5j,List.length_append,List.length_singleton,Nat.pow_succ]
 have:(V s ds+1)*s≤s ^ ds.length*s:=Nat.mul_le_mul h1 (Nat.le_refl _)
 rw [Nat.add_mul] at this
 omega
theorem ak9 {s:Nat} {ds:List Nat} (h:∀ d∈ds,d<s):N s ds<sh s (ds.length+1):=by
 have:=V_lt ds h
 rw [ai0]
 show _<sh s ds.length+s ^ ds.length
 omega
theorem ae5 {s a b:Nat} (h:a≤b):sh s a≤sh s b:=by
 induction h with
 | refl=>exact Nat.le_refl _
 | step h ih=>exact Nat.le_trans ih (Nat.le_add_right _ _)
theorem alo (s:Nat) (ds:List Nat):sh s ds.length≤N s ds:=by rw [ai0];exact Nat.le_add_right _ _
theorem alp {s:Nat} (s1:1≤s):∀ n:Nat,∃ ds,(∀ d∈ds,d<s)∧N s ds=n:=fun n=>by
 induction n using Nat.strongRecOn with
 | ind n ih =>
  cases n with
  | zero=>exact ⟨[],by simp,rfl⟩
  | succ n =>
   obtain ⟨ds,h1,h2⟩:=ih (n / s) (Nat.lt_succ_of_le (Nat.div_le_self n s))
   refine ⟨ds++[n % s],fun d hd=>?_,?_⟩
   ·rcases List.mem_append.mp hd with q | q
    ·exact h1 d q
    ·rw [List.mem_singleton] at q;subst q;exact Nat.mod_lt _ s1
   ·rw [yo,h2]
    have:=Nat.div_add_mod n s
    rw [Nat.mul_comm] at this
    omega
theorem a1x {s d:Nat} {ds:List Nat} (hd:d<s):(N s (ds++[d]) - 1) % s=d∧(N s (ds++[d]) - 1) / s=N s ds∧0<N s (ds++[d]):=by
 rw [yo]
 have e:N s ds*s+d+1 - 1=d+s*N s ds:=by rw [Nat.mul_comm];omega
 rw [e]
 refine ⟨?_,?_,by omega⟩
 ·rw [Nat.add_mul_mod_self_left,Nat.mod_eq_of_lt hd]
 ·rw [Nat.add_mul_div_left _ _ (by omega),Nat.div_eq_of_lt hd,Nat.zero_add]
theorem a5k {s:Nat} (s1:1≤s) {x y:List Nat} (h:N s y=N s x+1):∀ k,N s (y++List.replicate k 0)=N s (x++List.replicate k (s - 1))+1
 | 0=>by simpa using h
 | k+1=>by
  have ih:=a5k s1 h k
  rw [show List.replicate (k+1) 0=List.replicate k 0++[0] from List.replicate_succ',show List.replicate (k+1) (s - 1)=List.replicate k (s - 1)++[s - 1] from List.replicate_succ',← List.append_assoc,← List.append_assoc,yo,yo,ih,Nat.add_mul]
  omega
theorem alq {s l:Nat} (hs:s≤6) (hl:l≤62):sh s l≤l*6 ^ 62:=by
 induction l with
 | zero=>simp [sh]
 | succ l ih =>
  have h1:=ih (by omega)
  have h2:s ^ l≤6 ^ l:=Nat.pow_le_pow_left hs l
  have h3:6 ^ l≤6 ^ 62:=Nat.pow_le_pow_right (by omega) (by omega)
  show sh s l+s ^ l≤(l+1)*6 ^ 62
  rw [Nat.add_mul]
  omega
theorem alr:62*6 ^ 62<10 ^ 60:=by decide +kernel
theorem aka:10 ^ 60<2 ^ 1000:=by decide +kernel
theorem ae6 {s l:Nat} (hs:s≤6) (hl:l≤62):sh s l<10 ^ 60:=by
 have h1:=alq hs hl
 have h2:l*6 ^ 62≤62*6 ^ 62:=Nat.mul_le_mul hl (Nat.le_refl _)
 exact Nat.lt_of_le_of_lt (Nat.le_trans h1 h2) alr
theorem abp {s l:Nat} (hs:s≤6) (hl:l≤61):s ^ l<10 ^ 60:=by
 have:=ae6 (s:=s) (l:=l+1) hs (by omega)
 have e:sh s (l+1)=sh s l+s ^ l:=rfl
 omega
end N03
namespace EVT
open PySem PySem.Spec L2 MI AT HND
section
variable {f g k f1 f2 f3:SE} {ka:SA} {c c1 c2:ST} {τ:Sd} {h h1 h2 h3:Hd} {a b d v:D} {i:Nat} {t u:Bool} {xs ys ds:List D}
theorem ahh {n:Nat} (hv:n<xs.length):gIx (.rol xs) (.int (n:Nat)) h = .ok (xs.getD n .non) h:=ala (by rw [List.getD_eq_getElem?_getD,List.getElem?_eq_getElem hv];rfl)
theorem ae7 {P:D→Prop} {n:Nat} (hv:n<xs.length) (al:∀ x∈xs,P x):P (xs.getD n .non):=by
 rw [List.getD_eq_getElem?_getD,List.getElem?_eq_getElem hv]
 exact al _ (List.getElem_mem hv)
theorem als (e:f τ h = .ok (.bl false) h1) (e':g τ h1 = .ok d h2):a8z f g τ h = .ok d h2:=by unfold a8z;rw [e,dg];exact e'
theorem akb (e:f τ h=R.ok (D.ref h1.length) (h1++[.lst xs])) (hl:h1.length=h.length) (cx:clos 0 xs) (co:∀ o∈h1,v4 0 o):sZ f τ h = .ok (.rol xs) h1 :=
 PAP.a2z hl e (qb (Nat.zero_le _) cx) fun o ho=>ww (Nat.zero_le _) (co o ho)
theorem a5l (e:ka τ h = .ok ds h1) (hl:h1.length=h.length) (cd:clos 0 ds) (co:∀ o∈h1,v4 0 o) (z:ds.length≤1000000):sZ (sA MI.a0j ka) τ h = .ok (.rol ds) h1:=by
 refine akb ?_ hl cd co
 unfold sA
 rw [e,dg]
 unfold MI.a0j
 exact if_pos (ig z)
theorem ahi (e1:f τ h = .ok (.rol xs) h1) (e2:g τ h1 = .ok (.rol ys) h2) (hl:h2.length=h.length) (c1:clos 0 xs) (c2:clos 0 ys) (co:∀ o∈h2,v4 0 o) (z:xs.length+ys.length≤1000000):sZ (s2 gk f g) τ h = .ok (.rol (xs++ys)) h2:=by
 refine akb (j7 e1 e2 ?_) hl (uo.mpr fun x hx=>(List.mem_append.mp hx).elim (uo.mp c1 x) (uo.mp c2 x)) co
 rw [a8c (xs:=xs) (ys:=ys) rfl rfl,if_pos (ig z)]
theorem alu {i:Int} (e1:f τ h = .ok (.int i) h) (e2:g τ h = .ok v h) (cv:clo 0 v) (co:∀ o∈h,v4 0 o):sZ (s2 gD1 f g) τ h = .ok (.rod [.inl i] [v]) h:=by
 unfold sZ
 have e:s2 gD1 f g τ h = .ok (.ref h.length) (h++[.dK [(.inl i,v)]]):=j7 e1 e2 rfl
 rw [e,a1p (d':=.rod [.inl i] [v]) ?_ ?_]
 ·simp
 ·unfold FU a08
  rw [if_neg (by simp only [MI.clo];omega)]
  simp only [List.getElem?_append_right (Nat.le_refl h.length),Nat.sub_self,List.getElem?_cons_zero,List.map_cons,List.map_nil]
  rw [a8e (a1o (abh (Nat.zero_le _) cv)) rfl]
  rfl
 ·simp only [List.take_left']
  exact fun o ho=>ww (Nat.zero_le _) (co o ho)
theorem xx {o:O} (c:v4 0 o):∀ u∈[o],v4 0 u:=fun u hu=>by rw [List.mem_singleton] at hu;subst hu;exact c
end
end EVT
namespace K03
open PySem PySem.Spec L2 MI AT HND EVX PN N03
open PAP hiding ahe a2z aof
open K20 (ar1 ar2 ar3 ar4 a1w isInt a8u)
def sg (tg:List Nat) (d:Nat):Nat:=(tg[d]?).getD 0
def w2 (tg:List Nat) (ds:List Nat):List Nat:=ds.map (sg tg)
theorem a0b {tg:List Nat} {d:Nat} (h:d<tg.length):tg[d]? = some (sg tg d):=by unfold sg;rw [List.getElem?_eq_getElem h];rfl
theorem ahj {tg:List Nat} {d:Nat} (h:d<tg.length):sg tg d∈tg:=List.mem_of_getElem? (a0b h)
theorem ahk {tg:List Nat} (nd:tg.Nodup) {d e:Nat} (hd:d<tg.length) (he:e<tg.length) (h:sg tg d=sg tg e):d=e:=by
 have h1:=a0b hd
 have h2:=a0b he
 rw [h] at h1
 exact (List.getElem?_inj hd nd).mp (h1.trans h2.symm)
theorem a8v {tg:List Nat} (nd:tg.Nodup) {d:Nat} (hd:d<tg.length):vy (S tg) (sg tg d)=(d:Int):=by
 obtain ⟨i,e1,e2,_⟩:=a4h (T:=S tg) (c:=sg tg d) (by rw [a2w];exact ahj hd)
 rw [a2w] at e2
 have hi:=(List.getElem?_eq_some_iff.mp e2).1
 have:=(List.getElem?_inj hi nd).mp (e2.trans (a0b hd).symm)
 rw [e1,this]
theorem jy (tg ds:List Nat):(w2 tg ds).length=ds.length:=List.length_map _
theorem a5m (tg a b:List Nat):w2 tg (a++b)=w2 tg a++w2 tg b:=List.map_append
theorem ahl {tg:List Nat} (nd:tg.Nodup) {d:Nat} (hd:d<tg.length) (h:Hd):a84 (.str (S tg)) [.str (S [sg tg d])] h = .ok (dz d) h:=by
 show R.ok (D.int (vy (S tg) (sg tg d))) h=_
 rw [a8v nd hd]
theorem ahm {tg:List Nat} (nd:tg.Nodup) {d:Nat} (hd:d<tg.length) (h:Hd):a4u (.str (S tg)) [.str (S [sg tg d])] h = .ok (dz d) h:=by
 show (if sg tg d∈(S tg).cps.toList then R.ok (D.int (vy (S tg) (sg tg d))) h else .no)=_
 rw [if_pos (by rw [a2w];exact ahj hd),a8v nd hd]
theorem akd (tg ds:List Nat) (h:Hd):a7v (.str (S (w2 tg ds))) h = .ok ⟨ds.map fun d=>.str (S [sg tg d]),fun _=>True⟩ h:=by
 rw [PAP.alj]
 unfold w2
 rw [List.map_map]
 rfl
theorem ai1 {a b:Nat} (ha:a<10 ^ 60) (hb:b≤10 ^ 60):aes (a:Int) (b:Int):=by
 have:=aka
 refine ⟨?_,?_⟩
 ·rw [Int.natAbs_natCast];exact Nat.lt_trans ha this
 ·rw [Int.natAbs_natCast];exact Nat.lt_of_le_of_lt hb this
theorem a4a {n:Nat} (h:n≤1000):n≤10 ^ 60:=Nat.le_trans h (by decide +kernel)
abbrev Ok (s:Nat) (ds:List Nat):Prop:=∀ d∈ds,d<s
theorem N_B {s:Nat} (s6:s≤6) {ds:List Nat} (h:Ok s ds) (l:ds.length≤61):N s ds<10 ^ 60:=Nat.lt_trans (ak9 h) (ae6 s6 (by omega))
section
variable {tg ds:List Nat}
noncomputable def jc:SF:=lz rm 4
theorem a3b (T1:Tongue tg) (h:Ok tg.length ds) (l:ds.length≤61):Pu jc 2 [.str (S tg), .str (S (w2 tg ds))] (dz (N tg.length ds)):=by
 have s6:=T1.hi
 refine Pu.of rfl (ar2 (du _) (du _)) (r:=.ok (dz (N tg.length ds)) []) ?_ (km (bu _) (by simp)) (bu _)
 unfold jc
 rw [gq]
 show toR (rm [some (.str (S tg)),some (.str (S (w2 tg ds))),none,none] [])=_
 unfold rm
 refine Eq.trans (congrArg toR (qd (il _ _ _))) ?_
 have lp:=yz (g:=kN 3) (b:=qe) (fun d:Nat=>D.str (S [sg tg d]))
  (fun pre τ hh=>∃ t3:Option D,τ=[some (.str (S tg)),some (.str (S (w2 tg ds))),some (dz (N tg.length pre)),t3]∧hh=[]) ds [some (.str (S tg)),some (.str (S (w2 tg ds))),some (.int 0),none] [] ?_ ⟨none,rfl,rfl⟩
 ·obtain ⟨τ',h',e,t3,rfl,rfl⟩:=lp
  refine Eq.trans (congrArg toR (adx (aju (dh rfl) (akd _ _ _)))) ?_
  refine Eq.trans (congrArg (fun z=>toR (MI.thn z _)) e) ?_
  rw [uw]
  exact congrArg toR (t8 (dh rfl))
 ·rintro pre d post τ hh all ⟨t3,rfl,rfl⟩
  have hd:d<tg.length:=h d (by rw [all];simp)
  have hp:Ok tg.length pre:=fun x hx=>h x (by rw [all];simp [hx])
  have lpre:pre.length≤61:=by rw [all,List.length_append] at l;omega
  refine ⟨_,_,rfl,[some (.str (S tg)),some (.str (S (w2 tg ds))),some (dz (N tg.length (pre++[d]))),some (.str (S [sg tg d]))],[],?_,_,rfl,rfl⟩
  unfold qe
  refine (aer (j7 (j7 (j7 (dh rfl) (a02 (dh rfl) (yr (ig (by omega)))) (a5h (ai1 (N_B s6 hp lpre) (a4a (by omega))))) (K23.ahz (dh rfl) (arg1 (dh rfl)) (ahm T1.nd hd _)) oh) (il _ _ _) oh)).trans ?_
  rw [yo]
  show Fl.nx _ _=Fl.nx _ _
  congr 3
noncomputable def d7:SF:=lz n8 5
theorem a0t (T1:Tongue tg) {l:Nat} (hl:l≤61):Pu d7 2 [.str (S tg),dz l] (.tup [dz (sh tg.length l),dz (tg.length ^ l)]):=by
 have s6:=T1.hi
 have cr:MI.clo 0 (.tup [dz (sh tg.length l),dz (tg.length ^ l)]):=a1m (bj (bu _) (bj (bu _) jk))
 refine Pu.of rfl (ar2 (du _) (bu _)) (r:=.ok (.tup [dz (sh tg.length l),dz (tg.length ^ l)]) []) ?_ (km cr (by simp)) cr
 unfold d7
 rw [gq]
 show toR (n8 [some (.str (S tg)),some (dz l),none,none,none] [])=_
 unfold n8
 refine Eq.trans (congrArg toR (qd (il _ _ _))) ?_
 refine Eq.trans (congrArg toR (qd (il _ _ _))) ?_
 have lp:=yz (g:=kN 4) (b:=mj) dz
  (fun pre τ hh=>∃ t4:Option D,τ=[some (.str (S tg)),some (dz l),some (dz (sh tg.length pre.length)),some (dz (tg.length ^ pre.length)),t4]∧hh=[]) (List.range l) [some (.str (S tg)),some (dz l),some (.int 0),some (.int 1),none] [] ?_ ⟨none,rfl,rfl⟩
 ·obtain ⟨τ',h',e,t4,rfl,rfl⟩:=lp
  refine Eq.trans (congrArg toR (adx (a8n (n:=l) (dh rfl) (ig (by omega))))) ?_
  refine Eq.trans (congrArg (fun z=>toR (MI.thn z _)) e) ?_
  rw [uw,List.length_range]
  exact congrArg toR (t8 (qu (dh rfl) (dh rfl) alb))
 ·rintro pre x post τ hh all ⟨t4,rfl,rfl⟩
  obtain ⟨rfl,hx⟩:=a5i all
  refine ⟨_,_,rfl,[some (.str (S tg)),some (dz l),some (dz (sh tg.length (pre.length+1))),some (dz (tg.length ^ (pre.length+1))),some (dz pre.length)],[],?_,_,by rw [List.length_append,List.length_singleton],rfl⟩
  unfold mj
  refine (qd (j7 (dh rfl) (dh rfl) oh)).trans ?_
  refine (aer (j7 (dh rfl) (a02 (dh rfl) (yr (ig (by omega)))) (a5h (ai1 (abp s6 (by omega)) (a4a (by omega)))))).trans ?_
  show Fl.nx _ _=Fl.nx _ _
  rw [Nat.pow_succ]
  rfl
noncomputable def jd:SF:=lz (p8 d7) 4
theorem V_B {s:Nat} (s6:s≤6) {ds:List Nat} (h:Ok s ds) (l:ds.length≤61):V s ds<10 ^ 60:=Nat.lt_trans (V_lt ds h) (abp s6 l)
theorem a6s (T1:Tongue tg) (h:Ok tg.length ds) (l:ds.length≤61):Pu jd 2 [.str (S tg), .str (S (w2 tg ds))] (dz (N tg.length ds)):=by
 have s6:=T1.hi
 refine Pu.of rfl (ar2 (du _) (du _)) (r:=.ok (dz (N tg.length ds)) []) ?_ (km (bu _) (by simp)) (bu _)
 unfold jd
 rw [gq]
 show toR (p8 d7 [some (.str (S tg)),some (.str (S (w2 tg ds))),none,none] [])=_
 unfold p8
 refine Eq.trans (congrArg toR (qd (il _ _ _))) ?_
 have lp:=yz (g:=kN 3) (b:=ou d7) (fun d:Nat=>D.str (S [sg tg d]))
  (fun pre τ hh=>∃ t3:Option D,τ=[some (.str (S tg)),some (.str (S (w2 tg ds))),some (dz (V tg.length pre)),t3]∧hh=[]) ds [some (.str (S tg)),some (.str (S (w2 tg ds))),some (.int 0),none] [] ?_ ⟨none,rfl,rfl⟩
 ·obtain ⟨τ',h',e,t3,rfl,rfl⟩:=lp
  refine Eq.trans (congrArg toR (adx (aju (dh rfl) (akd _ _ _)))) ?_
  refine Eq.trans (congrArg (fun z=>toR (MI.thn z _)) e) ?_
  rw [uw]
  have ln:qg [.str (S (w2 tg ds))] [] = .ok (dz ds.length) []:=by rw [yr (ig (by rw [jy];omega)),jy]
  have a1:s2 gIx (sA (jz false 2 d7) (ak (sV 0) (ak (sA qg (ak (sV 1) dw)) dw))) (sC (.int 0)) [some (.str (S tg)),some (.str (S (w2 tg ds))),some (dz (V tg.length ds)),t3] [] = .ok (dz (sh tg.length ds.length)) []:=j7 (qu (dh rfl) (a02 (dh rfl) ln) (a0t T1 l _)) (il _ _ _) (ajv (j:=0) rfl)
  rw [ai0]
  exact congrArg toR (t8 (j7 a1 (dh (i:=2) rfl) oh))
 ·rintro pre d post τ hh all ⟨t3,rfl,rfl⟩
  have hd:d<tg.length:=h d (by rw [all];simp)
  have hp:Ok tg.length pre:=fun x hx=>h x (by rw [all];simp [hx])
  have lpre:pre.length≤61:=by rw [all,List.length_append] at l;omega
  refine ⟨_,_,rfl,[some (.str (S tg)),some (.str (S (w2 tg ds))),some (dz (V tg.length (pre++[d]))),some (.str (S [sg tg d]))],[],?_,_,rfl,rfl⟩
  unfold ou
  refine (aer (j7 (j7 (dh rfl) (a02 (dh rfl) (yr (ig (by omega)))) (a5h (ai1 (V_B s6 hp lpre) (a4a (by omega))))) (K23.ahz (dh rfl) (arg1 (dh rfl)) (ahl T1.nd hd _)) oh)).trans ?_
  rw [a5j]
  show Fl.nx _ _=Fl.nx _ _
  congr 3
noncomputable def bh:SF:=lz K03.jb 1
theorem zb {d:D} (p:Pln d):Pu bh 1 [d] (.bl (isInt d)):=K20.zb p
noncomputable def bx:SF:=lz (m5 bh) 4
noncomputable abbrev W0:ST:=ym bh
noncomputable abbrev L1:SS:=p6 bh
theorem abq {c:ST} {f:SS} {n:Nat} {τ:Sd} {h:Hd} (e:c τ h = .ok false h):sWh c f (n+1) τ h = .nx τ h:=by rw [sWh,e];rfl
theorem ae8 {c:ST} {f:SS} {n:Nat} {τ τ2:Sd} {h h2:Hd} (e:c τ h = .ok true h) (e2:f τ h = .nx τ2 h2):sWh c f (n+1) τ h=sWh c f n τ2 h2:=by rw [sWh,e,a09,if_pos rfl,e2]
theorem ajg {c:ST} {f:SS} {n:Nat} {τ:Sd} {h h2:Hd} {x:Str} (e:c τ h = .ok true h) (e2:f τ h = .ex x h2):sWh c f (n+1) τ h = .ex x h2:=by rw [sWh,e,a09,if_pos rfl,e2]
abbrev τw (tg:List Nat) (num:D) (suf:List Nat) (left:Nat):Sd:=[some (.str (S tg)),some num,some (.str (S (w2 tg suf))),some (dz left)]
theorem a8w (T1:Tongue tg) {num:D} {ds suf:List Nat} {d:Nat} (hd:d<tg.length) (l:suf.length<60):L1 (τw tg num suf (N tg.length (ds++[d]))) [] = .nx (τw tg num (d::suf) (N tg.length ds)) []:=by
 have s1:=T1.lo
 have s6:=T1.hi
 obtain ⟨p1,p2,p3⟩:=a1x (ds:=ds) hd
 obtain ⟨m,hm⟩:∃ m,N tg.length (ds++[d])=m+1:=⟨N tg.length (ds++[d]) - 1,by omega⟩
 rw [hm] at p1 p2 ⊢
 rw [Nat.add_sub_cancel] at p1 p2
 unfold L1 p6
 have ln:qg [.str (S (w2 tg suf))] [] = .ok (dz suf.length) []:=by rw [yr (ig (by rw [jy];omega)),jy]
 rw [ifN (tof (j7 (a02 (dh rfl) ln) (il _ _ _) (ady (by omega))))]
 have sb:MI.uy (dz (m+1)) (.int 1) [] = .ok (dz m) []:=(a01 _ _).trans (by congr 2;omega)
 rw [a3x (ah3 rfl (il _ _ _) sb)]
 have lt:qg [.str (S tg)] [] = .ok (dz tg.length) []:=yr (ig (by omega))
 have md:a06 (dz m) (dz tg.length) [] = .ok (dz d) []:=by
  have:=ah4 (x:=(m:Int)) (y:=((tg.length:Nat):Int)) (h:=[]) (by omega)
  rw [← Int.natCast_emod,p1] at this
  exact this
 have dv:a2n (dz m) (dz tg.length) [] = .ok (dz (N tg.length ds)) []:=by
  have:=div_ii (x:=(m:Int)) (y:=((tg.length:Nat):Int)) (h:=[]) (by omega)
  rw [← Int.natCast_ediv,p2] at this
  exact this
 rw [qd (j7 (j7 (dh rfl) (j7 (dh rfl) (a02 (dh rfl) lt) md) (abn (ig (by omega)) (a0b hd))) (dh rfl) (a6m (a:=[sg tg d]) (ig (by rw [jy,List.length_singleton];omega))))]
 exact ah3 rfl (a02 (dh rfl) lt) dv
theorem ae9 (T1:Tongue tg) {num:D}:∀ ds:List Nat,∀ (suf:List Nat) (n:Nat),Ok tg.length ds→ds.length+suf.length≤60→ds.length<n→sWh W0 L1 n (τw tg num suf (N tg.length ds)) [] = .nx (τw tg num (ds++suf) 0) [] :=
 snoc_ind (fun suf n _ _ hn=>by
  obtain ⟨m,rfl⟩:∃ m,n=m+1:=⟨n - 1,by simp at hn;omega⟩
  exact abq (tof (j7 (dh rfl) (il _ _ _) (ajw (by show ¬ (0:Int)<((N tg.length []:Nat):Int);simp [N])))))
 fun ds d ih suf n h l hn=>by
  rw [List.length_append,List.length_singleton] at l hn
  have hd:d<tg.length:=h d (by simp)
  obtain ⟨m,rfl⟩:∃ m,n=m+1:=⟨n - 1,by omega⟩
  have c:W0 (τw tg num suf (N tg.length (ds++[d]))) [] = .ok true []:=tof (j7 (dh rfl) (il _ _ _) (ahw (by have:=(a1x (ds:=ds) hd).2.2;omega)))
  rw [ae8 c (a8w T1 hd (by omega))]
  rw [ih (d::suf) m (fun x hx=>h x (by simp [hx])) (by rw [List.length_cons];omega) (by omega),List.append_assoc]
  rfl
theorem aea (T1:Tongue tg) {num:D}:∀ ds:List Nat,∀ (suf:List Nat) (n:Nat),Ok tg.length ds→suf.length≤60→60<ds.length+suf.length→60<n+suf.length→sWh W0 L1 n (τw tg num suf (N tg.length ds)) [] = .ex "NoWord" [] :=
 snoc_ind (fun suf n _ l1 l2 hn=>by simp at l2;omega)
 fun ds d ih suf n h l1 l2 hn=>by
  rw [List.length_append,List.length_singleton] at l2
  have hd:d<tg.length:=h d (by simp)
  obtain ⟨m,rfl⟩:∃ m,n=m+1:=⟨n - 1,by omega⟩
  have c:W0 (τw tg num suf (N tg.length (ds++[d]))) [] = .ok true []:=tof (j7 (dh rfl) (il _ _ _) (ahw (by have:=(a1x (ds:=ds) hd).2.2;omega)))
  by_cases q:suf.length=60
  ·refine ajg c ?_
   unfold L1 p6
   have ln:qg [.str (S (w2 tg suf))] [] = .ok (dz suf.length) []:=by rw [yr (ig (by rw [jy];omega)),jy]
   exact aap (Eq.trans (ifT (tof (j7 (a02 (dh rfl) ln) (il _ _ _) (aaj (by omega))))) (a3y (arg1 (il _ _ _)) (by simp)))
  ·rw [ae8 c (a8w T1 hd (by omega))]
   exact ih (d::suf) m (fun x hx=>h x (by simp [hx])) (by rw [List.length_cons];omega) (by rw [List.length_cons];omega) (by rw [List.length_cons];omega)
theorem ph {d:D} (cd:MI.clo 0 d) (b:Bool) (h1:ie [d, .ty "int"] [] = .ok (.bl b) []) (h2:ie [d, .ty "bool"] [] = .ok (.bl b) []):Pu bh 1 [d] (.bl false):=by
 refine a1w rfl (ar1 cd) (h':=[]) ?_
 unfold bh
 rw [gq]
 show toR (K03.jb [some d] [])=_
 unfold K03.jb
 cases b with
 | true=>exact congrArg toR (t8 (a2y (qu (dh rfl) (il _ _ _) h1) (a0s (qu (dh rfl) (il _ _ _) h2))))
 | false=>exact congrArg toR (t8 (ahg (qu (dh rfl) (il _ _ _) h1)))
theorem pq {d:D} (p:Pu bh 1 [d] (.bl false)):bx [.str (S tg),d] [] = .ex "NoWord" []:=by
 unfold bx
 rw [gq]
 show toR (m5 bh [some (.str (S tg)),some d,none,none] [])=_
 unfold m5
 exact congrArg toR (aap (Eq.trans (ifT (orT (al9 (v6 (a02 (dh rfl) (p _)) (jh _))))) (a3y (arg1 (il _ _ _)) (by simp))))
theorem aas {i:Int} (h:i<0):bx [.str (S tg), .int i] [] = .ex "NoWord" []:=by
 unfold bx
 rw [gq]
 show toR (m5 bh [some (.str (S tg)),some (.int i),none,none] [])=_
 unfold m5
 have a1:sA (jz false 1 bh) (ak (sV 1) dw) [some (.str (S tg)),some (.int i),none,none] [] = .ok (.bl true) []:=a02 (dh rfl) (zb (d:=.int i) trivial _)
 exact congrArg toR (aap (Eq.trans (ifT (orF (aai (v6 a1 (jh _))) (tof (j7 (dh rfl) (il _ _ _) (ajx (by omega)))))) (a3y (arg1 (il _ _ _)) (by simp))))
theorem a0u (T1:Tongue tg) (n:Nat):bx [.str (S tg),dz n] []=toR (j6 (sWh W0 L1 100000) (ut (sV 2)) (τw tg (dz n) [] n) []):=by
 unfold bx
 rw [gq]
 show toR (m5 bh [some (.str (S tg)),some (dz n),none,none] [])=_
 unfold m5
 have a1:sA (jz false 1 bh) (ak (sV 1) dw) [some (.str (S tg)),some (dz n),none,none] [] = .ok (.bl true) []:=a02 (dh rfl) (zb (d:=dz n) trivial _)
 refine Eq.trans (congrArg toR (ifN (orF (aai (v6 a1 (jh _))) (tof (j7 (dh rfl) (il _ _ _) (ajy (by omega))))))) ?_
 refine Eq.trans (congrArg toR (qd (il _ _ _))) ?_
 exact congrArg toR (qd (dh rfl))
theorem aat (T1:Tongue tg) (h:Ok tg.length ds) (l:ds.length≤60):bx [.str (S tg),dz (N tg.length ds)] [] = .ok (.str (S (w2 tg ds))) []:=by
 rw [a0u T1]
 have e:=ae9 T1 (num:=dz (N tg.length ds)) ds [] 100000 h (by simpa using l) (by omega)
 rw [List.append_nil] at e
 exact congrArg toR ((a3x e).trans (t8 (dh rfl)))
theorem zc (T1:Tongue tg) {n:Nat} (h:sh tg.length 61≤n):bx [.str (S tg),dz n] [] = .ex "NoWord" []:=by
 obtain ⟨ds,hd,rfl⟩:=alp T1.lo n
 have l:60<ds.length:=by
  apply Classical.byContradiction
  intro q
  have h1:=ak9 hd
  have h2:=ae5 (s:=tg.length) (show ds.length+1≤61 by omega)
  omega
 rw [a0u T1]
 exact congrArg toR (aap (aea T1 (num:=dz (N tg.length ds)) ds [] 100000 hd (by simp) (by simpa using l) (by simp)))
end
end K03
namespace K03
open PySem PySem.Spec L2 MI AT HND EVX PN N03
open PAP hiding ahe a2z aof
open K20 (ar1 ar2 ar3 ar4 a1w isInt a8u)
section
variable {tg ds:List Nat}
theorem a6t {s:Nat}:∀ ds:List Nat,Ok s ds→∃ x k,ds=x++List.replicate k (s - 1)∧(x=[]∨∃ p d,x=p++[d]∧d+1<s) :=
 snoc_ind (fun _=>⟨[],0,rfl, .inl rfl⟩) fun ds d ih h=>by
  have hd:d<s:=h d (by simp)
  obtain ⟨x,k,e,q⟩:=ih fun z hz=>h z (by simp [hz])
  by_cases c:d=s - 1
  ·exact ⟨x,k+1,by rw [e,c,List.append_assoc,← List.replicate_succ'],q⟩
  ·exact ⟨ds++[d],0,by simp, .inr ⟨ds,d,rfl,by omega⟩⟩
theorem a8x {l:List Nat} {c:Nat} (hl:l.length≤1000000) (e:l[l.length - 1]? = some c) (h:Hd):gIx (.str (S l)) (.int (-1)) h = .ok (.str (S [c])) h:=by
 have lt:l.length - 1<l.length:=(List.getElem?_eq_some_iff.mp e).1
 have:ixN l.length (-1)=some (l.length - 1):=by
  unfold ixN
  rw [if_neg (by omega),if_pos (by omega)]
  congr 1
  omega
 unfold gIx
 simp only [a1s,if_pos (ig hl),a2w,atI,this,Option.bind_some,e]
noncomputable def jq:SF:=lz qt 4
theorem aeb {d i:Nat} (e:ds[i]? = some d):(w2 tg ds)[i]? = some (sg tg d):=by unfold w2;rw [List.getElem?_map,e];rfl
theorem a5n (k d:Nat):(List.replicate k [sg tg d]).flatten=w2 tg (List.replicate k d):=by
 unfold w2
 induction k with
 | zero=>rfl
 | succ k ih=>rw [List.replicate_succ,List.flatten_cons,ih,List.replicate_succ,List.map_cons];rfl
theorem sEq (a b:Nat) (h:Hd):hEq (.str (S [a])) (.str (S [b])) h = .ok (.bl (decide (a=b))) h:=by
 unfold hEq
 rw [if_pos ⟨rfl,rfl⟩]
 congr 2
 show (S [a] == S [b])=_
 by_cases e:a=b
 ·rw [e,decide_eq_true rfl];exact beq_self_eq_true _
 ·rw [decide_eq_false e]
  have:¬ S [a]=S [b]:=fun z=>e (by have:=aj9 z;simpa using this)
  exact beq_eq_false_iff_ne.mpr this
theorem aec (T1:Tongue tg) (h:Ok tg.length ds) (l:ds.length≤60):∃ nx,Ok tg.length nx∧nx.length≤61∧N tg.length nx=N tg.length ds+1∧Pu jq 2 [.str (S tg), .str (S (w2 tg ds))] (.str (S (w2 tg nx))):=by
 have s1:=T1.lo
 have s6:=T1.hi
 obtain ⟨x,k,e,q⟩:=a6t ds h
 have hl:ds.length=x.length+k:=by rw [e,List.length_append,List.length_replicate]
 have lw:∀ hh,qg [.str (S (w2 tg ds))] hh = .ok (dz ds.length) hh:=fun hh=>by rw [yr (ig (by rw [jy];omega)),jy]
 have zl:(w2 tg ds).length≤LINE:=ig (by rw [jy];omega)
 have lst:=a8x (l:=tg) (by omega) (a0b (d:=tg.length - 1) (by omega))
 have lp:∀ j,j≤k→∀ n,j<n→sWh jg nj n [some (.str (S tg)),some (.str (S (w2 tg ds))),some (dz (x.length+j)),none] [] = .nx [some (.str (S tg)),some (.str (S (w2 tg ds))),some (dz x.length),none] []:=fun j=>by
  induction j with
  | zero =>
   intro _ n hn
   obtain ⟨m,rfl⟩:∃ m,n=m+1:=⟨n - 1,by omega⟩
   refine abq ?_
   unfold jg
   rcases q with rfl | ⟨p,d,rfl,hd⟩
   ·exact al8 (tof (j7 (dh rfl) (il _ _ _) (ajw (by simp))))
   ·have sb:MI.uy (dz ((p++[d]).length+0)) (.int 1) [] = .ok (dz p.length) []:=(a01 _ _).trans (by congr 2;rw [List.length_append,List.length_singleton];omega)
    have at':ds[p.length]? = some d:=by rw [e,List.append_assoc,List.getElem?_append_right (Nat.le_refl _),Nat.sub_self];rfl
    refine ajt (tof (j7 (dh rfl) (il _ _ _) (ahw (by rw [List.length_append,List.length_singleton];omega)))) (tof (j7 (j7 (dh rfl) (j7 (dh rfl) (il _ _ _) sb) (abn zl (aeb at'))) (j7 (dh rfl) (ah2 (il _ _ _) (a8o _)) (lst _)) ((sEq _ _ _).trans ?_)))
    rw [decide_eq_false]
    intro z
    have:=ahk T1.nd (by omega) (by omega) z
    omega
  | succ j ih =>
   intro hj n hn
   obtain ⟨m,rfl⟩:∃ m,n=m+1:=⟨n - 1,by omega⟩
   have sb:MI.uy (dz (x.length+(j+1))) (.int 1) [] = .ok (dz (x.length+j)) []:=(a01 _ _).trans (by congr 2;omega)
   have at':ds[x.length+j]? = some (tg.length - 1):=by
    rw [e,List.getElem?_append_right (by omega),Nat.add_sub_cancel_left,List.getElem?_replicate,if_pos (by omega)]
   have c:jg [some (.str (S tg)),some (.str (S (w2 tg ds))),some (dz (x.length+(j+1))),none] [] = .ok true []:=by
    unfold jg
    refine ajt (tof (j7 (dh rfl) (il _ _ _) (ahw (by omega)))) (tof (j7 (j7 (dh rfl) (j7 (dh rfl) (il _ _ _) sb) (abn zl (aeb at'))) (j7 (dh rfl) (ah2 (il _ _ _) (a8o _)) (lst _)) ((sEq _ _ _).trans ?_)))
    rw [decide_eq_true rfl]
   have b:nj [some (.str (S tg)),some (.str (S (w2 tg ds))),some (dz (x.length+(j+1))),none] [] = .nx [some (.str (S tg)),some (.str (S (w2 tg ds))),some (dz (x.length+j)),none] []:=aer (j7 (dh rfl) (il _ _ _) sb)
   rw [ae8 c b]
   exact ih (by omega) m (by omega)
 have lp:=lp k (Nat.le_refl _) 100000 (by omega)
 rw [← hl] at lp
 have i0:gIx (.str (S tg)) (.int 0) [] = .ok (.str (S [sg tg 0])) []:=abn (i:=0) (ig (by omega)) (a0b (by omega))
 have fin:∀ nx:List Nat,toR (qt [some (.str (S tg)),some (.str (S (w2 tg ds))),none,none] []) = .ok (.str (S (w2 tg nx))) []→Pu jq 2 [.str (S tg), .str (S (w2 tg ds))] (.str (S (w2 tg nx))):=fun nx ee=>by
  refine Pu.of rfl (ar2 (du _) (du _)) (r:=.ok (.str (S (w2 tg nx))) []) ?_ (km (du _) (by simp)) (du _)
  unfold jq
  rw [gq]
  exact ee
 have st:∀ g:SS,j6 (kj 2 (sA qg (ak (sV 1) dw))) (j6 (sWh jg nj 100000) g) [some (.str (S tg)),some (.str (S (w2 tg ds))),none,none] []=g [some (.str (S tg)),some (.str (S (w2 tg ds))),some (dz x.length),none] []:=fun g=>by
  rw [qd (a02 (dh rfl) (lw _))]
  exact a3x lp
 rcases q with rfl | ⟨p,d,rfl,hd⟩
 ·rw [List.nil_append] at e
  have el:ds.length=k:=by rw [e,List.length_replicate]
  refine ⟨List.replicate (k+1) 0,fun z hz=>by rw [(List.mem_replicate.mp hz).2];omega,by rw [List.length_replicate];omega,?_,fin _ ?_⟩
  ·have:=a5k s1 (x:=[]) (y:=[0]) (show N tg.length [0]=N tg.length []+1 by simp [N]) k
   rw [List.nil_append,← e] at this
   rw [← this]
   rfl
  ·unfold qt
   rw [st]
   have ad:gk (dz ds.length) (.int 1) [] = .ok (dz (k+1)) []:=by show R.ok (D.int ((ds.length:Int)+1)) []=_;congr 2;omega
   refine congrArg toR (ah0 (Eq.trans (ifT (tof (j7 (dh rfl) (il _ _ _) (aaj rfl)))) (t8 (j7 (j7 (dh rfl) (il _ _ _) i0) (j7 (a02 (dh rfl) (lw _)) (il _ _ _) ad) ((a5g (by omega) (by simp)).trans ?_)))))
   rw [a5n]
 ·have xl:(p++[d]).length=p.length+1:=by rw [List.length_append,List.length_singleton]
  have at':ds[p.length]? = some d:=by rw [e,List.append_assoc,List.getElem?_append_right (Nat.le_refl _),Nat.sub_self];rfl
  have pO:Ok tg.length p:=fun z hz=>h z (by rw [e];simp [hz])
  refine ⟨p++[d+1]++List.replicate k 0,fun z hz=>?_,by simp only [List.length_append,List.length_singleton,List.length_replicate];omega,?_,fin _ ?_⟩
  ·simp only [List.mem_append,List.mem_singleton] at hz
   rcases hz with (hz | rfl) | hz
   ·exact pO z hz
   ·omega
   ·rw [(List.mem_replicate.mp hz).2];omega
  ·rw [e]
   exact a5k s1 (by rw [yo,yo];omega) k
  ·unfold qt
   rw [st]
   have sb:MI.uy (dz (p++[d]).length) (.int 1) [] = .ok (dz p.length) []:=(a01 _ _).trans (by congr 2;omega)
   rw [ifN (tof (j7 (dh rfl) (il _ _ _) (ady (by omega))))]
   have a1:s2 gIx (sV 1) (s2 MI.uy (sV 2) (sC (.int 1))) [some (.str (S tg)),some (.str (S (w2 tg ds))),some (dz (p++[d]).length),none] [] = .ok (.str (S [sg tg d])) []:=j7 (dh rfl) (j7 (dh rfl) (il _ _ _) sb) (abn zl (aeb at'))
   have ad:gk (dz d) (.int 1) [] = .ok (dz (d+1)) []:=rfl
   rw [qd (j7 (dh rfl) (j7 (K23.ahz (dh rfl) (arg1 a1) (ahl T1.nd (by omega) _)) (il _ _ _) ad) (abn (ig (by omega)) (a0b (by omega))))]
   have sk:MI.uy (dz ds.length) (dz (p++[d]).length) [] = .ok (dz k) []:=(a01 _ _).trans (by congr 2;omega)
   have tk':(w2 tg ds).take p.length=w2 tg p:=by
    rw [e,List.append_assoc,a5m]
    have:=List.take_left (l₁:=w2 tg p) (l₂:=w2 tg ([d]++List.replicate k (tg.length - 1)))
    rwa [jy] at this
   have sl:a92 (.str (S (w2 tg ds))) none (some (p.length:Int)) [] = .ok (.str (S (w2 tg p))) []:=by rw [ajs _ zl,tk']
   have mu:my (.str (S [sg tg 0])) (dz k) [] = .ok (.str (S (w2 tg (List.replicate k 0)))) []:=(a5g (by omega) (by simp)).trans (by rw [a5n])
   let τ':Sd:=[some (.str (S tg)),some (.str (S (w2 tg ds))),some (dz (p++[d]).length),some (.str (S [sg tg (d+1)]))]
   have b1:a3e (sV 1) oN (oS (s2 MI.uy (sV 2) (sC (.int 1)))) τ' [] = .ok (.str (S (w2 tg p))) []:=alm (dh rfl) rfl (alk (j7 (dh rfl) (il _ _ _) sb)) sl
   have b2:s2 my (s2 gIx (sV 0) (sC (.int 0))) (s2 MI.uy (sA qg (ak (sV 1) dw)) (sV 2)) τ' [] = .ok (.str (S (w2 tg (List.replicate k 0)))) []:=j7 (j7 (dh rfl) (il _ _ _) i0) (j7 (a02 (dh rfl) (lw _)) (dh rfl) sk) mu
   have b3:s2 gk (a3e (sV 1) oN (oS (s2 MI.uy (sV 2) (sC (.int 1))))) (sV 3) τ' [] = .ok (.str (S (w2 tg p++[sg tg (d+1)]))) []:=j7 b1 (dh rfl) (a6m (ig (by rw [jy,List.length_singleton];omega)))
   have b4:gk (.str (S (w2 tg p++[sg tg (d+1)]))) (.str (S (w2 tg (List.replicate k 0)))) [] = .ok (.str (S (w2 tg (p++[d+1]++List.replicate k 0)))) []:=(a6m (ig (by rw [List.length_append,jy,jy,List.length_replicate,List.length_singleton];omega))).trans (by rw [a5m,a5m];rfl)
   exact congrArg toR (t8 (j7 b3 b2 b4))
noncomputable def fj:SF:=lz K03.nq 4
theorem same_int (i:Int):Pu fj 2 [.int i, .int i] (.bl true):=by
 refine a1w rfl (ar2 (bu _) (bu _)) (h':=[]) ?_
 unfold fj
 rw [gq]
 show toR (K03.nq [some (.int i),some (.int i),none,none] [])=_
 unfold K03.nq
 have i1:ie [.int i, .ty "tuple"] [] = .ok (.bl false) []:=by simp [ie,w6,tyD,vh]
 have i2:ie [.int i, .ty "str"] [] = .ok (.bl false) []:=by simp [ie,w6,tyD,vh]
 have i3:ie [.int i, .ty "int"] [] = .ok (.bl true) []:=by simp [ie,w6,tyD,vh]
 have i4:ie [.int i, .ty "bool"] [] = .ok (.bl false) []:=by simp [ie,w6,tyD,vh]
 refine Eq.trans (congrArg toR (ifN (v6 (qu (dh rfl) (il _ _ _) i1) (jh _)))) ?_
 refine Eq.trans (congrArg toR (ifN (v6 (qu (dh rfl) (il _ _ _) i2) (jh _)))) ?_
 exact congrArg toR (t8 (a2y (qu (dh rfl) (il _ _ _) i3) (a2y (a0s (qu (dh rfl) (il _ _ _) i4)) (j7 (dh rfl) (dh rfl) (aaj rfl)))))
theorem same_str (x:Str):Pu fj 2 [.str x, .str x] (.bl true):=by
 refine a1w rfl (ar2 (du _) (du _)) (h':=[]) ?_
 unfold fj
 rw [gq]
 show toR (K03.nq [some (.str x),some (.str x),none,none] [])=_
 unfold K03.nq
 have i1:ie [.str x, .ty "tuple"] [] = .ok (.bl false) []:=by simp [ie,w6,tyD,vh]
 have i2:ie [.str x, .ty "str"] [] = .ok (.bl true) []:=by simp [ie,w6,tyD,vh]
 have eq:hEq (.str x) (.str x) [] = .ok (.bl true) []:=by
  unfold hEq
  rw [if_pos ⟨rfl,rfl⟩]
  show R.ok (D.bl (x == x)) []=_
  rw [beq_self_eq_true]
 refine Eq.trans (congrArg toR (ifN (v6 (qu (dh rfl) (il _ _ _) i1) (jh _)))) ?_
 exact congrArg toR (ah0 (Eq.trans (ifT (v6 (qu (dh rfl) (il _ _ _) i2) (jh _))) (t8 (a2y (qu (dh rfl) (il _ _ _) i2) (j7 (dh rfl) (dh rfl) eq)))))
noncomputable def je:SF:=lz p7 1
theorem a8y:Pu je 1 [.exc "NoWord"] (.bl false):=by
 refine a1w rfl (ar1 (by simp [MI.clo])) (h':=[]) ?_
 unfold je
 rw [gq]
 show toR (p7 [some (.exc "NoWord")] [])=_
 unfold p7
 refine Eq.trans (congrArg toR (ifN (v6 (aaq (c := "NoWord") rfl (b:=false) (by decide)) (jh _)))) ?_
 exact congrArg toR (t8 (EVT.als (aaq (c := "NoWord") rfl (b:=false) (by decide)) (a0s (aaq (c := "NoWord") rfl (b:=true) (by decide)))))
noncomputable def ik:SF:=lz (K03.n6 je bx) 4
theorem a0v {d:D} (cd:MI.clo 0 d) (h:bx [.str (S tg),d] [] = .ex "NoWord" []):Pu K03.ik 2 [.str (S tg),d] (.bl true):=by
 refine a1w rfl (ar2 (du _) cd) (h':=[]) ?_
 unfold K03.ik
 rw [gq]
 show toR (K03.n6 je bx [some (.str (S tg)),some d,none,none] [])=_
 unfold K03.n6
 refine Eq.trans (congrArg toR (qd (il _ _ _))) ?_
 refine Eq.trans (congrArg toR (a3x (ahc (c := "NoWord") (h1:=[]) ?_ (by decide) (aer (a2y (aaq (b:=true) rfl (by decide)) (a0s (a02 (dh rfl) (a8y _)))))))) ?_
 ·exact ahd ((alh (qof (jx (dh rfl) (jx (dh rfl) rfl)))).trans (ae2 rfl (ar2 (du _) cd) h))
 ·exact congrArg toR (t8 (dh rfl))
theorem a1y (T1:Tongue tg) (h:Ok tg.length ds) (l:ds.length≤60) (hh:Hd):t7 2 bx [.str (S tg),dz (N tg.length ds)] hh = .ok (.str (S (w2 tg ds))) hh:=by
 have r:=aat T1 h l
 exact ae3 (ar2 (du _) (bu _)) r (Pu.of rfl (ar2 (du _) (bu _)) r (km (du _) (by simp)) (du _))
end
end K03
namespace K03
open PySem PySem.Spec L2 MI AT HND EVX PN N03
open PAP hiding ahe a2z aof
open K20 (ar1 ar2 ar3 ar4 a1w isInt a8u)
section
variable {tg:List Nat}
noncomputable def jr:SF:=lz (ur PN.au) 4
theorem aau {o:O} {M most:Nat} (P:Pen o M) (hN:M≤999990000) (T1:Tongue tg) (hm:most≤60):∃ ds o',ds.length≤most∧Ok tg.length ds∧Dr jr 3 [.str (S tg),dz most] o (.str (S (w2 tg ds))) o'∧Pen o' (M+100):=by
 have lo:=T1.lo
 have hi:=T1.hi
 obtain ⟨x,o1,x0,x1,P1,c1⟩:=tk (m:=((most:Int)+1)) P (by omega) (by omega) (by omega)
 obtain ⟨n,rfl⟩:=Int.eq_ofNat_of_zero_le x0
 have one:∀ {u:O} {M:Nat},Pen u M→∀ x∈[u],v4 1 x:=fun Pu x hx=>by rw [List.mem_singleton] at hx;subst hx;exact ww (by omega) Pu.clo
 have mp:=a5a (f:=a3s t1 (mz PN.au) (frs' [0,1] [some (.ref 0),some (.str (S tg)),some (dz most),some (dz n)])) (fun i:Nat=>D.int (i:Nat))
  (fun pre ys h=>∃ (u:O) (ds:List Nat),h=[u]∧Pen u (M+1+pre.length)∧ys=K21.ones (w2 tg ds)∧ds.length=pre.length∧Ok tg.length ds)
  (List.range n) [] [] [o1] ?_ ⟨o1,[],rfl,P1,rfl,rfl,nofun⟩
 ·obtain ⟨zs,h',em,u',ds,rfl,P5,ez,tl,tt⟩:=mp
  rw [List.nil_append] at ez tl P5
  rw [List.length_range] at tl P5
  subst ez
  refine ⟨ds,u',by omega,tt,Dr.of rfl (ar2 (du _) (bu _)) P.clo (r:=.ok (.str (S (w2 tg ds))) [u']) ?_ (km (du _) (by simpa using one P5)) (du _) P5.clo,P5.up (by omega)⟩
  unfold jr
  rw [gq]
  show toR (ur PN.au [some (.ref 0),some (.str (S tg)),some (dz most),none] [o])=_
  unfold ur
  refine Eq.trans (congrArg toR (qd (qu (dh rfl) (j7 (dh rfl) (il _ _ _) oh) (c1 _)))) ?_
  have cz:sZ (a9q (sRg yp (ak (sV 3) dw)) t1 (mz PN.au) [0,1]) [some (.ref 0),some (.str (S tg)),some (dz most),some (dz n)] [o1] = .ok (.rol (K21.ones (w2 tg ds))) [u']:=by
   refine K21.aln rfl ?_ (yw fun l _=>du _) (one P5)
   unfold a9q
   rw [a8n (dh rfl) (ig (by omega)),dg]
   dsimp only
   rw [if_pos (by rw [List.length_map,List.length_range];exact ig (by omega)),em]
   rfl
  exact congrArg toR (t8 (K23.ahz (z:=S []) (il _ _ _) (arg1 cz) (K21.a8t (by rw [jy];omega))))
 ·rintro pre i post ys h all ⟨u,ds,rfl,Pu,rfl,tl,tt⟩
  rw [List.nil_append] at all
  obtain ⟨rfl,hx⟩:=a5i all
  obtain ⟨x,u',x0,x1,P5,c5⟩:=tk (m:=(tg.length:Int)) Pu (by omega) (by omega) (by omega)
  obtain ⟨q,rfl⟩:=Int.eq_ofNat_of_zero_le x0
  have hq:q<tg.length:=by omega
  refine ⟨.str (S [sg tg q]),[u'],?_,u',ds++[q],rfl,by rw [List.length_append,List.length_singleton];exact P5,by rw [a5m];simp [K21.ones,w2],by rw [List.length_append,List.length_append,tl];rfl,fun c hc=>?_⟩
  ·rw [adw]
   unfold mz
   exact j7 (dh rfl) (qu (dh rfl) (a02 (dh rfl) (yr (l:=tg) (ig (by omega)))) (c5 _)) (abn (ig (by omega)) (a0b hq))
  ·rcases List.mem_append.mp hc with z | z
   ·exact tt c z
   ·rw [List.mem_singleton] at z;rw [z];exact hq
theorem p60 (h:Hd):a4o (.int 10) (.int 60) h = .ok (dz (10 ^ 60)) h:=(agw ⟨by decide,by decide,by decide⟩).trans (by rw [show (10:Int) ^ (60:Int).toNat=((10 ^ 60:Nat):Int) from by decide +kernel])
theorem ahn {n:Nat} (h:n<10 ^ 60):(n:Int).natAbs.log2<1920:=by
 rw [Int.natAbs_natCast]
 by_cases z:n=0
 ·subst z;decide
 ·exact (Nat.log2_lt z).mpr (Nat.lt_trans h (Nat.lt_trans aka (by decide +kernel)))
theorem V_zero (s:Nat):∀ k,V s (List.replicate k 0)=0
 | 0=>rfl
 | k+1=>by rw [List.replicate_succ',a5j,V_zero s k,Nat.zero_mul]
theorem aed {s:Nat} (s1:1≤s):sh s 61=N s (List.replicate 60 (s - 1))+1:=by
 have:=a5k s1 (x:=[]) (y:=[0]) (show N s [0]=N s []+1 by simp [N]) 60
 rw [List.nil_append] at this
 rw [← this,ai0,show [0]++List.replicate 60 0=List.replicate 61 0 from rfl,V_zero,List.length_replicate]
 rfl
noncomputable def aav:SF:=lz (K03.aao jq jd PN.m7 K03.ik fj d7 PN.iw PN.jo PN.au jr jc bx) 10
theorem aho (ns:List Int):∃ h',K03.aav [.scr (ns.map D.int)] [] = .ok (.bl true) h':=by
 obtain ⟨o,P,e0⟩:=ahf ns []
 let sc:D:=.scr (ns.map D.int)
 have tkN:∀ {u:O} {M:Nat} (m:Int),Pen u M→M≤999999000→0<m→m<1073741824→∃ (v:Nat) (u':O),(v:Int)<m∧Pen u' (M+1)∧jz false 2 PN.au [.ref 0, .int m] [u] = .ok (dz v) [u']:=fun m P a b c=>by
  obtain ⟨r,u',r0,r1,P',c⟩:=tk P a b c
  obtain ⟨v,rfl⟩:=Int.eq_ofNat_of_zero_le r0
  exact ⟨v,u',r1,P',c []⟩
 obtain ⟨odd,o1,od,P1,c1⟩:=tkN 12 P (by omega) (by omega) (by omega)
 obtain ⟨tg,o2,t1',t6,nd,sb,D2,P2⟩:=ae4 (most:=6) (all:=sig) P1 (by omega) (by omega) (by rw [a8q];omega) (by rw [a8q];omega) ahb
 have T1:Tongue tg:=⟨t1',t6,nd,sb⟩
 have c2:jz false 3 PN.jo [.ref 0, .str (S sig), .int 6] [o1] = .ok (.str (S tg)) [o2]:=D2 0 _ rfl
 obtain ⟨j,o3,jl,P3,c3⟩:=tkN 5 P2 (by omega) (by omega) (by omega)
 have jl':j<5:=by omega
 have C2:=P2.clo
 have C3:=P3.clo
 obtain ⟨mo,mol,mo60⟩:∃ mo:Nat,([D.int 8, .int 60, .int 8, .int 60, .int 8]:List D).getD j .non=dz mo∧mo≤60:=by
  rcases (show j=0∨j=1∨j=2∨j=3∨j=4 by omega) with rfl | rfl | rfl | rfl | rfl
  ·exact ⟨8,rfl,by omega⟩
  ·exact ⟨60,rfl,by omega⟩
  ·exact ⟨8,rfl,by omega⟩
  ·exact ⟨60,rfl,by omega⟩
  ·exact ⟨8,rfl,by omega⟩
 obtain ⟨es,o4,el,eO,D4,P4⟩:=aau (most:=mo) P3 (by omega) T1 mo60
 have c4:jz false 3 jr [.ref 0, .str (S tg),dz mo] [o3] = .ok (.str (S (w2 tg es))) [o4]:=D4 0 _ rfl
 obtain ⟨z,o5,zl,P5,c5⟩:=tkN 8 P4 (by omega) (by omega) (by omega)
 obtain ⟨tt,o6,tl,P6,c6⟩:=tkN 1000 P5 (by omega) (by omega) (by omega)
 have C5:=P5.clo
 have C6:=P6.clo
 have s1:=T1.lo
 have s6:=T1.hi
 let ds:List Nat:=if z=0 then List.replicate es.length (tg.length - 1) else es
 have hds:Ok tg.length ds:=by
  show Ok tg.length (if z=0 then _ else _)
  split
  ·intro d hd
   rw [(List.mem_replicate.mp hd).2]
   omega
  ·exact eO
 have dl:ds.length≤60:=by
  show (if z=0 then _ else _:List Nat).length≤60
  split
  ·rw [List.length_replicate];omega
  ·omega
 have lw:∀ hh,qg [.str (S (w2 tg es))] hh = .ok (dz es.length) hh:=fun hh=>by rw [yr (ig (by rw [jy];omega)),jy]
 have lst:=a8x (l:=tg) (by omega) (a0b (d:=tg.length - 1) (by omega))
 let τ0:Sd:=[some sc,some (.ref 0),some (dz odd),some (.str (S tg)),some (.str (S (w2 tg es))),none,none,none,none,none]
 let τ1:Sd:=[some sc,some (.ref 0),some (dz odd),some (.str (S tg)),some (.str (S (w2 tg ds))),none,none,none,none,none]
 have wd:sIf (sT (s2 hEq (sA (jz false 2 PN.au) (ak (sV 1) (ak (sC (.int 8)) dw))) (sC (.int 0)))) (kj 4 (s2 my (s2 gIx (sV 3) (MI.s1 a3t (sC (.int 1)))) (sA qg (ak (sV 4) dw)))) sNx τ0 [o4] = .nx τ1 [o5]:=by
  by_cases q:z=0
  ·have e:ds=List.replicate es.length (tg.length - 1):=if_pos q
   have mu:my (.str (S [sg tg (tg.length - 1)])) (dz es.length) [o5] = .ok (.str (S (w2 tg ds))) [o5]:=(a5g (by omega) (by simp)).trans (by rw [a5n,e])
   exact Eq.trans (ifT (tof (j7 (qu (dh rfl) (il _ _ _) c5) (il _ _ _) (aaj (by omega))))) (aer (j7 (j7 (dh rfl) (ah2 (il _ _ _) (a8o _)) (lst _)) (a02 (dh rfl) (lw _)) mu))
  ·have e:ds=es:=if_neg q
   refine Eq.trans (ifF (tof (j7 (qu (dh rfl) (il _ _ _) c5) (il _ _ _) (ady (by omega))))) ?_
   show Fl.nx τ0 [o5]=Fl.nx τ1 [o5]
   show Fl.nx [some sc,some (.ref 0),some (dz odd),some (.str (S tg)),some (.str (S (w2 tg es))),none,none,none,none,none] [o5]=Fl.nx [some sc,some (.ref 0),some (dz odd),some (.str (S tg)),some (.str (S (w2 tg ds))),none,none,none,none,none] [o5]
   rw [e]
 clear_value ds
 obtain ⟨due,hdue⟩:∃ n,n=N tg.length ds:=⟨_,rfl⟩
 obtain ⟨mst,hmst⟩:∃ n,n=sh tg.length 61:=⟨_,rfl⟩
 have dB:due<10 ^ 60:=by rw [hdue];exact N_B s6 hds (by omega)
 have mB:mst<10 ^ 60:=by rw [hmst];exact ae6 s6 (by omega)
 have n1:=a6s T1 hds (by omega)
 have n2:=a3b T1 hds (by omega)
 have sh1:=a0t T1 (l:=61) (by omega)
 rw [← hdue] at n1 n2
 rw [← hmst] at sh1
 have wk:=fun hh=>a1y T1 hds dl hh
 rw [← hdue] at wk
 have sd:=same_int (due:Int)
 have sw:=same_str (S (w2 tg ds))
 have ad1:gk (dz mst) (dz tt) [o6] = .ok (dz (mst+tt)) [o6]:=rfl
 have mu1:my (dz due) (dz due) [o6] = .ok (dz (due*due)) [o6]:=a5h (ai1 dB (Nat.le_of_lt dB))
 have ad2:gk (dz (10 ^ 60)) (dz (due*due)) [o6] = .ok (dz (10 ^ 60+due*due)) [o6]:=by
  show R.ok (D.int (((10 ^ 60:Nat):Int)+((due*due:Nat):Int))) [o6]=_
  rw [← Int.natCast_add]
 have st1:agx [dz due] [o6] = .ok (.str (toString (due:Int))) [o6]:=if_pos (ahn dB)
 let L1':List D:=[dz mst,dz (mst+tt),dz (10 ^ 60+due*due), .int (-1 - (due:Int)), .bl true, .bl false, .non, .str (toString (due:Int))]
 let L2':List D:=[.tup [dz due], .rol [dz due], .rod [.inl (due:Int)] [dz due], .str (S (w2 tg ds))]
 have cl1:clos 0 L1':=bj (bu _) (bj (bu _) (bj (bu _) (bj (bu _) (bj (yj _) (bj (yj _) (bj a3v (bj (du _) jk)))))))
 have crd:MI.clo 0 (.rod [.inl (due:Int)] [dz due]):=by simp [MI.clo,clos]
 have cl2:clos 0 L2':=bj (a1m (bj (bu _) jk)) (bj (a1n (bj (bu _) jk)) (bj crd (bj (du _) jk)))
 have bad:=EVT.ae7 (xs:=L1'++L2') (n:=odd) (P:=fun d=>MI.clo 0 d∧bx [.str (S tg),d] [] = .ex "NoWord" []) (by show odd<12;omega) (by
  intro d hd
  simp only [L1',L2',List.mem_append,List.mem_cons,List.not_mem_nil,or_false] at hd
  rcases hd with (rfl | rfl | rfl | rfl | rfl | rfl | rfl | rfl) | (rfl | rfl | rfl | rfl)
  ·exact ⟨bu _,zc T1 (by omega)⟩
  ·exact ⟨bu _,zc T1 (by omega)⟩
  ·exact ⟨bu _,zc T1 (by omega)⟩
  ·exact ⟨bu _,aas (by omega)⟩
  ·exact ⟨yj _,pq (ph (yj _) true (by simp [ie,w6,tyD,vh]) (by simp [ie,w6,tyD,vh]))⟩
  ·exact ⟨yj _,pq (ph (yj _) true (by simp [ie,w6,tyD,vh]) (by simp [ie,w6,tyD,vh]))⟩
  ·exact ⟨a3v,pq (ph a3v false (by simp [ie,w6,tyD,vh]) (by simp [ie,w6,tyD,vh]))⟩
  ·exact ⟨du _,pq (ph (du _) false (by simp [ie,w6,tyD,vh]) (by simp [ie,w6,tyD,vh]))⟩
  ·exact ⟨a1m (bj (bu _) jk),pq (ph (a1m (bj (bu _) jk)) false (by simp [ie,w6,tyD,vh]) (by simp [ie,w6,tyD,vh]))⟩
  ·exact ⟨a1n (bj (bu _) jk),pq (ph (a1n (bj (bu _) jk)) false (by simp [ie,w6,tyD,vh]) (by simp [ie,w6,tyD,vh]))⟩
  ·exact ⟨crd,pq (ph crd false (by simp [ie,w6,tyD,vh]) (by simp [ie,w6,tyD,vh]))⟩
  ·exact ⟨du _,pq (ph (du _) false (by simp [ie,w6,tyD,vh]) (by simp [ie,w6,tyD,vh]))⟩)
 have ixb:gIx (.rol (L1'++L2')) (dz odd) [o6] = .ok ((L1'++L2').getD odd .non) [o6]:=EVT.ahh (by show odd<12;omega)
 generalize (L1'++L2').getD odd .non=bd at bad ixb
 have rf:=a0v bad.1 bad.2
 obtain ⟨nx,nO,nl,nN,nP⟩:=aec T1 hds dl
 have nE:dz (N tg.length nx) = .int ((due:Int)+1):=by rw [nN,← hdue];rfl
 have mo1:MI.uy (dz mst) (.int 1) [o6] = .ok (dz (N tg.length (List.replicate 60 (tg.length - 1)))) [o6]:=(a01 _ _).trans (by congr 2;rw [hmst,aed s1];omega)
 have rO:Ok tg.length (List.replicate 60 (tg.length - 1)):=fun d hd=>by rw [(List.mem_replicate.mp hd).2];omega
 have wl:=a1y T1 rO (by simp) [o6]
 have ml:my (.str (S [sg tg (tg.length - 1)])) (.int 60) [o6] = .ok (.str (S (w2 tg (List.replicate 60 (tg.length - 1))))) [o6]:=(a5g (k:=60) (by omega) (by simp)).trans (by rw [a5n])
 have w0:t7 2 bx [.str (S tg), .int 0] [o6] = .ok (.str (S [])) [o6]:=a1y (ds:=[]) T1 nofun (by simp) [o6]
 have ln:qg [.str (S (w2 tg nx))] [o6] = .ok (dz nx.length) [o6]:=by rw [yr (ig (by rw [jy];omega)),jy]
 have sn:=same_str (S (w2 tg nx))
 have sl:=same_str (S (w2 tg (List.replicate 60 (tg.length - 1))))
 have s0:=same_str (S [])
 refine ⟨[o6],?_⟩
 unfold K03.aav
 rw [gq]
 show toR (K03.aao jq jd PN.m7 K03.ik fj d7 PN.iw PN.jo PN.au jr jc bx [some sc,none,none,none,none,none,none,none,none,none] [])=_
 unfold K03.aao
 refine Eq.trans (congrArg toR (qd (a02 (dh rfl) e0))) ?_
 refine Eq.trans (congrArg toR (qd (qu (dh rfl) (il _ _ _) c1))) ?_
 refine Eq.trans (congrArg toR (qd (ajc (dh rfl) (al7 (PN.a1v _)) (il _ _ _) c2))) ?_
 have dsp:∀ τ:Sd,sZ (sA MI.a0j (ak (sC (.int 8)) (ak (sC (.int 60)) (ak (sC (.int 8)) (ak (sC (.int 60)) (ak (sC (.int 8)) dw)))))) τ [o2] = .ok (.rol [.int 8, .int 60, .int 8, .int 60, .int 8]) [o2]:=fun τ=>EVT.a5l (jx (il _ _ _) (jx (il _ _ _) (jx (il _ _ _) (jx (il _ _ _) (jx (il _ _ _) rfl))))) rfl (bj (bu _) (bj (bu _) (bj (bu _) (bj (bu _) (bj (bu _) jk))))) (EVT.xx C2) (by simp)
 have ix5:gIx (.rol [.int 8, .int 60, .int 8, .int 60, .int 8]) (dz j) [o3] = .ok (dz mo) [o3]:=(EVT.ahh (by simpa using jl')).trans (by rw [mol])
 refine Eq.trans (congrArg toR (qd (ajc (dh rfl) (dh rfl) (j7 (dsp _) (qu (dh rfl) (il _ _ _) c3) ix5) c4))) ?_
 refine Eq.trans (congrArg toR (a3x wd)) ?_
 refine Eq.trans (congrArg toR (qd (qu (dh rfl) (dh rfl) (n1 _)))) ?_
 refine Eq.trans (congrArg toR (qd (j7 (qu (dh rfl) (il _ _ _) (sh1 _)) (il _ _ _) (ajv (j:=0) rfl)))) ?_
 let τ2:Sd:=[some sc,some (.ref 0),some (dz odd),some (.str (S tg)),some (.str (S (w2 tg ds))),some (dz due),some (dz mst),none,none,none]
 have d1:ak (sV 6) (ak (s2 gk (sV 6) (sA (jz false 2 PN.au) (ak (sV 1) (ak (sC (.int 1000)) dw)))) (ak (s2 gk (s2 a4o (sC (.int 10)) (sC (.int 60))) (s2 my (sV 5) (sV 5))) (ak (s2 MI.uy (MI.s1 a3t (sC (.int 1))) (sV 5)) (ak (sC (.bl true)) (ak (sC (.bl false)) (ak (sC .non) (ak (sA agx (ak (sV 5) dw)) dw))))))) τ2 [o5] = .ok L1' [o6] :=
  jx (dh rfl) (jx (j7 (dh rfl) (qu (dh rfl) (il _ _ _) c6) ad1) (jx (j7 (j7 (il _ _ _) (il _ _ _) (p60 _)) (j7 (dh rfl) (dh rfl) mu1) ad2) (jx (j7 (ah2 (il _ _ _) (a8o _)) (dh rfl) (a01 _ _)) (jx (il _ _ _) (jx (il _ _ _) (jx (il _ _ _) (jx (a02 (dh rfl) st1) rfl)))))))
 refine Eq.trans (congrArg toR (qd (EVT.a5l d1 rfl cl1 (EVT.xx C6) (show 8≤1000000 by omega)))) ?_
 let τ3:Sd:=[some sc,some (.ref 0),some (dz odd),some (.str (S tg)),some (.str (S (w2 tg ds))),some (dz due),some (dz mst),some (.rol L1'),none,none]
 have d2:sZ (sA MI.a0j (ak (sA MI.a0i (ak (sV 5) dw)) (ak (sZ (sA MI.a0j (ak (sV 5) dw))) (ak (sZ (s2 gD1 (sV 5) (sV 5))) (ak (sV 4) dw))))) τ3 [o6] = .ok (.rol L2') [o6] :=
  EVT.a5l (jx (a02 (dh rfl) EVX.ali) (jx (EVT.a5l (arg1 (dh rfl)) rfl (bj (bu _) jk) (EVT.xx C6) (by simp)) (jx (EVT.alu (dh rfl) (dh rfl) (bu _) (EVT.xx C6)) (jx (dh rfl) rfl)))) rfl cl2 (EVT.xx C6) (show 4≤1000000 by omega)
 have d3:s2 gIx (sZ (s2 gk (sV 7) (sZ (sA MI.a0j (ak (sA MI.a0i (ak (sV 5) dw)) (ak (sZ (sA MI.a0j (ak (sV 5) dw))) (ak (sZ (s2 gD1 (sV 5) (sV 5))) (ak (sV 4) dw)))))))) (sV 2) τ3 [o6] = .ok bd [o6]:=j7 (EVT.ahi (dh rfl) d2 rfl cl1 cl2 (EVT.xx C6) (show 8+4≤1000000 by omega)) (dh rfl) ixb
 refine Eq.trans (congrArg toR (qd d3)) ?_
 refine Eq.trans (congrArg toR (ifN (orF (aai (v6 (qu (qu (dh rfl) (dh rfl) (n2 _)) (dh rfl) (sd _)) (jh _))) (aai (v6 (qu (qu (dh rfl) (dh rfl) (wk _)) (dh rfl) (sw _)) (jh _)))))) ?_
 refine Eq.trans (congrArg toR (ifN (orF (aai (v6 (qu (dh rfl) (dh rfl) (rf _)) (jh _))) (aai (v6 (qu (qu (dh rfl) (dh rfl) (wk _)) (dh rfl) (sw _)) (jh _)))))) ?_
 refine Eq.trans (congrArg toR (qd (qu (dh rfl) (dh rfl) (nP _)))) ?_
 have tail:∀ g:SS,∀ τ:Sd,τ[3]? = some (some (.str (S tg)))→τ[6]? = some (some (dz mst))→ut (qw (sA (jz false 2 fj) (ak (sA (t7 2 bx) (ak (sV 3) (ak (s2 MI.uy (sV 6) (sC (.int 1))) dw))) (ak (s2 my (s2 gIx (sV 3) (MI.s1 a3t (sC (.int 1)))) (sC (.int 60))) dw))) (sA (jz false 2 fj) (ak (sA (t7 2 bx) (ak (sV 3) (ak (sC (.int 0)) dw))) (ak (sC (.str "")) dw)))) τ [o6] = .rt (.bl true) [o6]:=fun g τ h3 h6 =>
  t8 (a2y (qu (qu (dh h3) (j7 (dh h6) (il _ _ _) mo1) wl) (j7 (j7 (dh h3) (ah2 (il _ _ _) (a8o _)) (lst _)) (il _ _ _) ml) (sl _)) (qu (qu (dh h3) (il _ _ _) w0) (il _ _ _) (s0 _)))
 by_cases q:nx.length<61
 ·have wn:=a1y T1 nO (by omega) [o6]
  have nn:=a3b T1 nO (by omega)
  have si:=same_int ((due:Int)+1)
  rw [nE] at wn nn
  refine Eq.trans (congrArg toR (a3x (Eq.trans (ifT (tof (j7 (a02 (dh rfl) ln) (il _ _ _) (ajx (by omega))))) (Eq.trans (ifF (orF (aai (v6 (qu (qu (dh rfl) (j7 (dh rfl) (il _ _ _) oh) wn) (dh rfl) (sn _)) (jh _))) (aai (v6 (qu (qu (dh rfl) (dh rfl) (nn _)) (j7 (dh rfl) (il _ _ _) oh) (si _)) (jh _))))) rfl)))) ?_
  exact congrArg toR (tail sNx _ rfl rfl)
 ·have e61:nx.length=61:=by omega
  have fr:=zc T1 (n:=N tg.length nx) (by have:=alo tg.length nx;rw [e61] at this;exact this)
  rw [nE] at fr
  have rf2:=a0v (bu _) fr
  refine Eq.trans (congrArg toR (a3x (Eq.trans (ifF (tof (j7 (a02 (dh rfl) ln) (il _ _ _) (ajy (by omega))))) (Eq.trans (ifF (aai (v6 (qu (dh rfl) (j7 (dh rfl) (il _ _ _) oh) (rf2 _)) (jh _)))) rfl)))) ?_
  exact congrArg toR (tail sNx _ rfl rfl)
end
end K03
namespace L2
open PySem PySem.Spec PySem.W PyProof.Rows
theorem aee {K:Frag} {C:Addr} (q:excIn K C [.type "ValueError", .type "Exception", .type "BaseException", .type "object"] "ValueError.__new__" = true):XCls K C:=by
 unfold excIn at q
 split at q
 ·rename_i dd cd sl lo
  split at q
  ·rename_i C' bm k0 k1 k2 k3 n k5 mo ss
   simp only [Bool.and_eq_true,beq_iff_eq,Bool.not_eq_true'] at q
   obtain ⟨⟨⟨⟨⟨e1,e2⟩,nd⟩,tl⟩,no⟩,ni⟩:=q
   subst e1 e2
   cases cd
   dsimp only at mo nd no ni
   subst mo nd
   obtain ⟨l⟩:=sl
   simp only at ss
   subst ss
   exact ⟨_,_,_,_,bm,_,_,_,_,_,dd,k0,k1,k2,k3,k5,lo,no,ni,tl⟩
  ·cases q
 ·cases q
end L2
namespace K03
open PySem PySem.Spec L2 MI
def aaw (K:PySem.W.Frag):Sp:=fun vs H Q _=>∃ (a:Addr) (ns:List Int),vs=[.ref a]∧SqF K H a (ns.map V.int)∧ns.length≤63∧∀ H',Q (.bl true) H'
theorem a3c {K:PySem.W.Frag} {ι:List Addr} {H:Hp}:∀ ns:List Int,Reps K ι H (ns.map V.int) (ns.map D.int)
 | []=>.nil
 | n::ns=>.cons (.int n) (a3c ns)
theorem ahp {K:PySem.W.Frag} (vs:List V) (H:Hp) (Q:VK) (E:XK) (h:aaw K vs H Q E):qx K 1 K03.aav vs H Q E:=by
 obtain ⟨a,ns,rfl,hS,hl,q⟩:=h
 obtain ⟨h',e⟩:=K03.aho ns
 refine ⟨rfl,[],[.scr (ns.map D.int)],[], .cons (.scr hS (a3c ns)) .nil,⟨List.nodup_nil,rfl,fun i a o z=>by simp at z⟩,?_⟩
 rw [e]
 intro ι' H' b g r hr
 cases r
 exact q H'
theorem ahq {K:PySem.W.Frag} {H:Hp} {a:Addr} {vs:List V} (hO:Only H) (hS:SqL K H a vs):SqF K H a vs:=by
 rcases hS with r | r
 ·rcases r with r | ⟨o,r⟩
  ·rcases hO a with z | ⟨o,xs,z⟩<;>rw [z] at r<;>cases r
  ·exact .inl ⟨o,r⟩
 ·exact .inr (.inr r)
abbrev fo (x:Str) (t:Stmt) (kV dc pm:Value) (an:Option Addr) (cd ct:Value):=PySem.W.fnOf x x (vq t) (gj t) (ao t) .none kV dc pm an cd ct
theorem ahr {l:PySem.W.OpenLaw} {w:World} {K:PySem.W.Frag} {h:Heap} {mg:Str→Option Value} {fa f1 f2 f3 f4 f5 f6 f7 f8 f9 f10 f11 f12 f13 f14 f15:Addr} (X:K.In h) (G:h.Ns mainGlobals mg) (hfa:mg "law" = some (.ref fa))
  {od1 an1 od2 an2 od3 an3 od4 an4 od5 an5 od6 an6 od7 an7 od8 an8 od9 an9 od10 an10 od11 an11 od12 an12 od13 an13 od14 an14 od15 an15:Option Addr} {sl1 sl2 sl3 sl4 sl5 sl6 sl7 sl8 sl9 sl10 sl11 sl12 sl13 sl14 sl15:Array (Option Value)} {oc1 kV1 dc1 pm1 cd1 ct1 oc2 kV2 dc2 pm2 cd2 ct2 oc3 kV3 dc3 pm3 cd3 ct3 oc4 kV4 dc4 pm4 cd4 ct4 oc5 kV5 dc5 pm5 cd5 ct5 oc6 kV6 dc6 pm6 cd6 ct6 oc7 kV7 dc7 pm7 cd7 ct7 oc8 kV8 dc8 pm8 cd8 ct8 oc9 kV9 dc9 pm9 cd9 ct9 oc10 kV10 dc10 pm10 cd10 ct10 oc11 kV11 dc11 pm11 cd11 ct11 oc12 kV12 dc12 pm12 cd12 ct12 oc13 kV13 dc13 pm13 cd13 ct13 oc14 kV14 dc14 pm14 cd14 ct14 oc15 kV15 dc15 pm15 cd15 ct15:Value}
  (a1:PySem.W.nsIn K mainGlobals "is_number" = some (some (.ref f1))) (l1:K.lookup f1=some ⟨oc1,od1, .func (fo "is_number" (top 17) kV1 dc1 pm1 an1 cd1 ct1),sl1⟩) (c1:PySem.W.codeIn K cd1 "is_number" = true) (k1:PySem.W.keepIn K (.ref f1)=true)
  (a2:PySem.W.nsIn K mainGlobals "number_of" = some (some (.ref f2))) (l2:K.lookup f2=some ⟨oc2,od2, .func (fo "number_of" (top 20) kV2 dc2 pm2 an2 cd2 ct2),sl2⟩) (c2:PySem.W.codeIn K cd2 "number_of" = true) (k2:PySem.W.keepIn K (.ref f2)=true)
  (a3:PySem.W.nsIn K mainGlobals "word_at" = some (some (.ref f3))) (l3:K.lookup f3=some ⟨oc3,od3, .func (fo "word_at" (top 21) kV3 dc3 pm3 an3 cd3 ct3),sl3⟩) (c3:PySem.W.codeIn K cd3 "word_at" = true) (k3:PySem.W.keepIn K (.ref f3)=true)
  (a4:PySem.W.nsIn K mainGlobals "_law_pen" = some (some (.ref f4))) (l4:K.lookup f4=some ⟨oc4,od4, .func (fo "_law_pen" (top 23) kV4 dc4 pm4 an4 cd4 ct4),sl4⟩) (c4:PySem.W.codeIn K cd4 "_law_pen" = true) (k4:PySem.W.keepIn K (.ref f4)=true)
  (a5:PySem.W.nsIn K mainGlobals "_law_take" = some (some (.ref f5))) (l5:K.lookup f5=some ⟨oc5,od5, .func (fo "_law_take" (top 24) kV5 dc5 pm5 an5 cd5 ct5),sl5⟩) (c5:PySem.W.codeIn K cd5 "_law_take" = true) (k5:PySem.W.keepIn K (.ref f5)=true)
  (a6:PySem.W.nsIn K mainGlobals "_law_signs" = some (some (.ref f6))) (l6:K.lookup f6=some ⟨oc6,od6, .func (fo "_law_signs" (top 25) kV6 dc6 pm6 an6 cd6 ct6),sl6⟩) (c6:PySem.W.codeIn K cd6 "_law_signs" = true) (k6:PySem.W.keepIn K (.ref f6)=true)
  (a7:PySem.W.nsIn K mainGlobals "_law_some" = some (some (.ref f7))) (l7:K.lookup f7=some ⟨oc7,od7, .func (fo "_law_some" (top 26) kV7 dc7 pm7 an7 cd7 ct7),sl7⟩) (c7:PySem.W.codeIn K cd7 "_law_some" = true) (k7:PySem.W.keepIn K (.ref f7)=true)
  (a8:PySem.W.nsIn K mainGlobals "_law_word" = some (some (.ref f8))) (l8:K.lookup f8=some ⟨oc8,od8, .func (fo "_law_word" (top 27) kV8 dc8 pm8 an8 cd8 ct8),sl8⟩) (c8:PySem.W.codeIn K cd8 "_law_word" = true) (k8:PySem.W.keepIn K (.ref f8)=true)
  (a9:PySem.W.nsIn K mainGlobals "_law_same" = some (some (.ref f9))) (l9:K.lookup f9=some ⟨oc9,od9, .func (fo "_law_same" (top 28) kV9 dc9 pm9 an9 cd9 ct9),sl9⟩) (c9:PySem.W.codeIn K cd9 "_law_same" = true) (k9:PySem.W.keepIn K (.ref f9)=true)
  (a10:PySem.W.nsIn K mainGlobals "_law_others" = some (some (.ref f10))) (l10:K.lookup f10=some ⟨oc10,od10, .func (fo "_law_others" (top 29) kV10 dc10 pm10 an10 cd10 ct10),sl10⟩) (c10:PySem.W.codeIn K cd10 "_law_others" = true) (k10:PySem.W.keepIn K (.ref f10)=true)
  (a11:PySem.W.nsIn K mainGlobals "_law_refused" = some (some (.ref f11))) (l11:K.lookup f11=some ⟨oc11,od11, .func (fo "_law_refused" (top 30) kV11 dc11 pm11 an11 cd11 ct11),sl11⟩) (c11:PySem.W.codeIn K cd11 "_law_refused" = true) (k11:PySem.W.keepIn K (.ref f11)=true)
  (a12:PySem.W.nsIn K mainGlobals "_law_shorter" = some (some (.ref f12))) (l12:K.lookup f12=some ⟨oc12,od12, .func (fo "_law_shorter" (top 31) kV12 dc12 pm12 an12 cd12 ct12),sl12⟩) (c12:PySem.W.codeIn K cd12 "_law_shorter" = true) (k12:PySem.W.keepIn K (.ref f12)=true)
  (a13:PySem.W.nsIn K mainGlobals "_law_number" = some (some (.ref f13))) (l13:K.lookup f13=some ⟨oc13,od13, .func (fo "_law_number" (top 32) kV13 dc13 pm13 an13 cd13 ct13),sl13⟩) (c13:PySem.W.codeIn K cd13 "_law_number" = true) (k13:PySem.W.keepIn K (.ref f13)=true)
  (a14:PySem.W.nsIn K mainGlobals "_law_next" = some (some (.ref f14))) (l14:K.lookup f14=some ⟨oc14,od14, .func (fo "_law_next" (top 33) kV14 dc14 pm14 an14 cd14 ct14),sl14⟩) (c14:PySem.W.codeIn K cd14 "_law_next" = true) (k14:PySem.W.keepIn K (.ref f14)=true)
  (a15:PySem.W.nsIn K mainGlobals "law" = some (some (.ref f15))) (l15:K.lookup f15=some ⟨oc15,od15, .func (fo "law" (top 34) kV15 dc15 pm15 an15 cd15 ct15),sl15⟩) (c15:PySem.W.codeIn K cd15 "law" = true) (k15:PySem.W.keepIn K (.ref f15)=true)
  {y_NoWord y_Closed y_NoBook y_NoLine y_NoModes y_NoPlace y_NoQuote y_NoShape y_NoTable y_NoText y_Stopped y_TooHeavy y_TooMany y_Unlike y_ReachError:Addr}
  (xg_NoWord:PySem.W.nsIn K mainGlobals "NoWord" = some (some (.ref y_NoWord)))
  (xg_Closed:PySem.W.nsIn K mainGlobals "Closed" = some (some (.ref y_Closed)))
  (xg_NoBook:PySem.W.nsIn K mainGlobals "NoBook" = some (some (.ref y_NoBook)))
  (xg_NoLine:PySem.W.nsIn K mainGlobals "NoLine" = some (some (.ref y_NoLine)))
  (xg_NoModes:PySem.W.nsIn K mainGlobals "NoModes" = some (some (.ref y_NoModes)))
  (xg_NoPlace:PySem.W.nsIn K mainGlobals "NoPlace" = some (some (.ref y_NoPlace)))
  (xg_NoQuote:PySem.W.nsIn K mainGlobals "NoQuote" = some (some (.ref y_NoQuote)))
  (xg_NoShape:PySem.W.nsIn K mainGlobals "NoShape" = some (some (.ref y_NoShape)))
  (xg_NoTable:PySem.W.nsIn K mainGlobals "NoTable" = some (some (.ref y_NoTable)))
  (xg_NoText:PySem.W.nsIn K mainGlobals "NoText" = some (some (.ref y_NoText)))
  (xg_Stopped:PySem.W.nsIn K mainGlobals "Stopped" = some (some (.ref y_Stopped)))
  (xg_TooHeavy:PySem.W.nsIn K mainGlobals "TooHeavy" = some (some (.ref y_TooHeavy)))
  (xg_TooMany:PySem.W.nsIn K mainGlobals "TooMany" = some (some (.ref y_TooMany)))
  (xg_Unlike:PySem.W.nsIn K mainGlobals "Unlike" = some (some (.ref y_Unlike)))
  (xg_ReachError:PySem.W.nsIn K mainGlobals "ReachError" = some (some (.ref y_ReachError)))
  (xc_NoWord:XCls K y_NoWord)
  (xk_NoWord:XKit K y_NoWord)
  (xe_NoWord_ReachError:PySem.W.exmOne K (.ref y_NoWord) (.ref y_ReachError)=some true)
  (xi_NoWord_Closed_NoBook_NoLine_NoModes_NoPlace_NoQuote_NoShape_NoTable:PySem.W.kitAny K (.ref y_NoWord) [.ref y_Closed, .ref y_NoBook, .ref y_NoLine, .ref y_NoModes, .ref y_NoPlace, .ref y_NoQuote, .ref y_NoShape, .ref y_NoTable]=some false)
  (xi_NoWord_ValueError:PySem.W.kitOne K (.ref y_NoWord) (.type "ValueError")=some true)
  (xi_NoWord_NoText_Stopped_TooHeavy_TooMany_Unlike:PySem.W.kitAny K (.ref y_NoWord) [.ref y_NoText, .ref y_Stopped, .ref y_TooHeavy, .ref y_TooMany, .ref y_Unlike]=some false)
  (xi_NoWord_NoWord:PySem.W.kitOne K (.ref y_NoWord) (.ref y_NoWord)=some true)
  (z1:PySem.W.nsIn K mainGlobals "ValueError" = some none) (z2:PySem.W.nsIn K mainGlobals "abs" = some none) (z3:PySem.W.nsIn K mainGlobals "bool" = some none) (z4:PySem.W.nsIn K mainGlobals "int" = some none) (z5:PySem.W.nsIn K mainGlobals "isinstance" = some none) (z6:PySem.W.nsIn K mainGlobals "len" = some none) (z7:PySem.W.nsIn K mainGlobals "range" = some none) (z8:PySem.W.nsIn K mainGlobals "str" = some none) (z9:PySem.W.nsIn K mainGlobals "tuple" = some none) {ty1:Tok} (y1:PySem.W.nsIn K mainGlobals "LONGEST" = some (some (.int 60 ty1))) :
  ∃ fd:FuncData,(∀ (s:Shared) (v:Value),BindsTo s fd ⟨[v],[]⟩ [("_law_script",v)])∧∀ base:Heap,K.In base→base.Ns mainGlobals mg→FnOk l.prog w K mg base CX0 4 fa fd ["_law_script"] (aaw K):=by
 have e:=hfa.symm.trans (PySem.W.mg_of X G a15)
 cases e
 have F1:=o8 (st:=top 17) l1 c1 k1
 have b1:=F1.binds (ps:=["thing"]) fun _ _ _ _ _ _ us hl=>match us,hl with | [_],_=>rfl
 have F2:=o8 (st:=top 20) l2 c2 k2
 have b2:=F2.binds (ps:=["tongue", "word"]) fun _ _ _ _ _ _ us hl=>match us,hl with | [_,_],_=>rfl
 have F3:=o8 (st:=top 21) l3 c3 k3
 have b3:=F3.binds (ps:=["tongue", "number"]) fun _ _ _ _ _ _ us hl=>match us,hl with | [_,_],_=>rfl
 have F4:=o8 (st:=top 23) l4 c4 k4
 have b4:=F4.binds (ps:=["_law_script"]) fun _ _ _ _ _ _ us hl=>match us,hl with | [_],_=>rfl
 have F5:=o8 (st:=top 24) l5 c5 k5
 have b5:=F5.binds (ps:=["_law_pen_here", "_law_many"]) fun _ _ _ _ _ _ us hl=>match us,hl with | [_,_],_=>rfl
 have F6:=o8 (st:=top 25) l6 c6 k6
 have b6:=F6.binds (ps:=[]) fun _ _ _ _ _ _ us hl=>match us,hl with | [],_=>rfl
 have F7:=o8 (st:=top 26) l7 c7 k7
 have b7:=F7.binds (ps:=["_law_pen_here", "_law_rest", "_law_most"]) fun _ _ _ _ _ _ us hl=>match us,hl with | [_,_,_],_=>rfl
 have F8:=o8 (st:=top 27) l8 c8 k8
 have b8:=F8.binds (ps:=["_law_pen_here", "_law_tongue", "_law_most"]) fun _ _ _ _ _ _ us hl=>match us,hl with | [_,_,_],_=>rfl
 have F9:=o8 (st:=top 28) l9 c9 k9
 have b9:=F9.binds (ps:=["_law_found", "_law_due"]) fun _ _ _ _ _ _ us hl=>match us,hl with | [_,_],_=>rfl
 have F10:=o8 (st:=top 29) l10 c10 k10
 have b10:=F10.binds (ps:=["_law_e"]) fun _ _ _ _ _ _ us hl=>match us,hl with | [_],_=>rfl
 have F11:=o8 (st:=top 30) l11 c11 k11
 have b11:=F11.binds (ps:=["_law_tongue", "_law_number_here"]) fun _ _ _ _ _ _ us hl=>match us,hl with | [_,_],_=>rfl
 have F12:=o8 (st:=top 31) l12 c12 k12
 have b12:=F12.binds (ps:=["_law_tongue", "_law_size"]) fun _ _ _ _ _ _ us hl=>match us,hl with | [_,_],_=>rfl
 have F13:=o8 (st:=top 32) l13 c13 k13
 have b13:=F13.binds (ps:=["_law_tongue", "_law_word_here"]) fun _ _ _ _ _ _ us hl=>match us,hl with | [_,_],_=>rfl
 have F14:=o8 (st:=top 33) l14 c14 k14
 have b14:=F14.binds (ps:=["_law_tongue", "_law_word_here"]) fun _ _ _ _ _ _ us hl=>match us,hl with | [_,_],_=>rfl
 have F15:=o8 (st:=top 34) l15 c15 k15
 have b15:=F15.binds (ps:=["_law_script"]) fun _ _ _ _ _ _ us hl=>match us,hl with | [_],_=>rfl
 have M:Nm mg:=⟨PySem.W.mg_none_of X G z1,PySem.W.mg_none_of X G z2,PySem.W.mg_none_of X G z3,PySem.W.mg_none_of X G z4,PySem.W.mg_none_of X G z5,PySem.W.mg_none_of X G z6,PySem.W.mg_none_of X G z7,PySem.W.mg_none_of X G z8,PySem.W.mg_none_of X G z9⟩
 have C:Cn mg:=⟨⟨_,PySem.W.mg_of X G y1⟩⟩
 have Z:Xn K mg y_NoWord y_Closed y_NoBook y_NoLine y_NoModes y_NoPlace y_NoQuote y_NoShape y_NoTable y_NoText y_Stopped y_TooHeavy y_TooMany y_Unlike y_ReachError:=⟨PySem.W.mg_of X G xg_NoWord,PySem.W.mg_of X G xg_Closed,PySem.W.mg_of X G xg_NoBook,PySem.W.mg_of X G xg_NoLine,PySem.W.mg_of X G xg_NoModes,PySem.W.mg_of X G xg_NoPlace,PySem.W.mg_of X G xg_NoQuote,PySem.W.mg_of X G xg_NoShape,PySem.W.mg_of X G xg_NoTable,PySem.W.mg_of X G xg_NoText,PySem.W.mg_of X G xg_Stopped,PySem.W.mg_of X G xg_TooHeavy,PySem.W.mg_of X G xg_TooMany,PySem.W.mg_of X G xg_Unlike,PySem.W.mg_of X G xg_ReachError,xg_NoWord,xc_NoWord,xk_NoWord,xe_NoWord_ReachError,xi_NoWord_Closed_NoBook_NoLine_NoModes_NoPlace_NoQuote_NoShape_NoTable,xi_NoWord_ValueError,xi_NoWord_NoText_Stopped_TooHeavy_TooMany_Unlike,xi_NoWord_NoWord⟩
 refine ⟨PySem.W.fnOf "law" "law" (vq (top 34)) (gj (top 34)) (ao (top 34)) .none kV15 dc15 pm15 an15 cd15 ct15,fun s v=>.of_eq rfl,fun base _ _=>?_⟩
 have D_0:Dn l.prog w K mg base 1 "is_number" ["thing"] (qx K 1 (K03.bh)) _ _:=⟨ql F1 ajz (m_0 M),PySem.W.mg_of X G a1,k1,b1⟩
 have D_1:Dn l.prog w K mg base 1 "number_of" ["tongue", "word"] (qx K 2 (K03.jc)) _ _:=⟨ql F2 ak0 (m_1 M),PySem.W.mg_of X G a2,k2,b2⟩
 have D_2:DnX l.prog w K mg base 2 "word_at" ["tongue", "number"] (spX K mg 2 (K03.bx)) _ _:=⟨adl F3 ak1 (m_2 M C Z D_0 (by decide)),PySem.W.mg_of X G a3,k3,b3⟩
 have D_3:Dn l.prog w K mg base 1 "_law_pen" ["_law_script"] (qx K 1 (PN.m7)) _ _:=⟨ql F4 ak2 (m_3 ),PySem.W.mg_of X G a4,k4,b4⟩
 have D_4:Dn l.prog w K mg base 1 "_law_take" ["_law_pen_here", "_law_many"] (qx K 2 (PN.au)) _ _:=⟨ql F5 ak3 (m_4 M),PySem.W.mg_of X G a5,k5,b5⟩
 have D_5:Dn l.prog w K mg base 1 "_law_signs" [] (qx K 0 (PN.iw)) _ _:=⟨ql F6 ak4 (m_5 ),PySem.W.mg_of X G a6,k6,b6⟩
 have D_6:Dn l.prog w K mg base 2 "_law_some" ["_law_pen_here", "_law_rest", "_law_most"] (qx K 3 (PN.jo)) _ _:=⟨ql F7 ak5 (m_6 M D_4 (by decide)),PySem.W.mg_of X G a7,k7,b7⟩
 have D_7:Dn l.prog w K mg base 2 "_law_word" ["_law_pen_here", "_law_tongue", "_law_most"] (qx K 3 (K03.jr)) _ _:=⟨ql F8 ak6 (m_7 M D_4 (by decide)),PySem.W.mg_of X G a8,k8,b8⟩
 have D_8:Dn l.prog w K mg base 1 "_law_same" ["_law_found", "_law_due"] (qx K 2 (K03.fj)) _ _:=⟨ql F9 ak7 (m_8 M),PySem.W.mg_of X G a9,k9,b9⟩
 have D_9:DnN l.prog w K mg base 1 "_law_others" ["_law_e"] (qx K 1 (K03.je)) _ _:=⟨ae1 F10 ak8 (m_9 M Z),PySem.W.mg_of X G a10,k10,b10⟩
 have D_10:Dn l.prog w K mg base 3 "_law_refused" ["_law_tongue", "_law_number_here"] (qx K 2 (K03.ik)) _ _:=⟨ql F11 ah6 (alc M Z D_9 (by decide) D_2 (by decide)),PySem.W.mg_of X G a11,k11,b11⟩
 have D_11:Dn l.prog w K mg base 1 "_law_shorter" ["_law_tongue", "_law_size"] (qx K 2 (K03.d7)) _ _:=⟨ql F12 ah7 (ald M),PySem.W.mg_of X G a12,k12,b12⟩
 have D_12:Dn l.prog w K mg base 2 "_law_number" ["_law_tongue", "_law_word_here"] (qx K 2 (K03.jd)) _ _:=⟨ql F13 ah8 (ale M D_11 (by decide)),PySem.W.mg_of X G a13,k13,b13⟩
 have D_13:Dn l.prog w K mg base 1 "_law_next" ["_law_tongue", "_law_word_here"] (qx K 2 (K03.jq)) _ _:=⟨ql F14 ah9 (alf M),PySem.W.mg_of X G a14,k14,b14⟩
 have D_14:Dn l.prog w K mg base 4 "law" ["_law_script"] (qx K 1 (K03.aav)) _ _:=⟨ql F15 aha (alg M D_13 (by decide) D_12 (by decide) D_3 (by decide) D_10 (by decide) D_8 (by decide) D_11 (by decide) D_5 (by decide) D_6 (by decide) D_4 (by decide) D_7 (by decide) D_1 (by decide) D_2 (by decide)),PySem.W.mg_of X G a15,k15,b15⟩
 exact D_14.ok.imp ahp
theorem walk {l:PySem.W.OpenLaw} {q:Program} {loose:List Str} {XP:(Str→Option Value)→Heap→Prop} {YP:World→Heap→Prop} {d:DefRec} {K:Params→PySem.W.Frag} (hn:l.most=some 63) (hdf:d.params.defaults=[])
  (hY:∀ (w:World) (h:Heap),YP w h→(K w.params).In h)
  (F:∀ (w:World) (mg:Str→Option Value) (fa:Addr) (h:Heap),(K w.params).In h→h.Ns mainGlobals mg→mg d.name=some (.ref fa) →
   ∃ fd:FuncData,(∀ (s:Shared) (u:Value),BindsTo s fd ⟨[u],[]⟩ [("_law_script",u)])∧∀ base:Heap,(K w.params).In base→base.Ns mainGlobals mg→FnOk l.prog w (K w.params) mg base CX0 4 fa fd ["_law_script"] (aaw (K w.params))) :
  PySem.W.WalkO q loose XP YP l.row.toRowW d [] (fun f vs=>PySem.call f vs) :=
 L2.acf (n:=63) (k:=4) (x := "_law_script") (CX:=fun _=>CX0) (sp:=fun w=>aaw (K w.params)) hn (by decide) hdf ⟨rfl,by decide,by decide,rfl⟩ hY F (fun _ _ a ns hl hO hS=>⟨a,ns,rfl,ahq hO hS,hl,fun _=>rfl⟩) fun _ _ _ _ _ z=>z
end K03
open PySem PySem.W PyProof.Rows
local macro_rules | `(tactic| o_head $H) => `(tactic| refine PySem.W.holds_open (q:=K03.hq) (loose:=K03.hl) (Xt:=fun _=>true) (XP:=fun _ _=>True) (Yf:=Hook.obs $H) (Ya:=Hook.val $H) (YP:=Hook.says $H) (N:=20000) ?hl (Hook.of $H) (Hook.keeps $H) (fun _ _=>trivial) (fun _ _ _ _ _=>trivial) (by rfl) (by rfl) (by rfl) (fun _ _=>recFacts_nil rfl) (by rfl) (by assumption) (by decide +kernel) ⟨rfl,rfl,rfl,rfl,rfl,by decide +kernel⟩ ?hw ?hc)
set_option maxRecDepth 100000 in
set_option maxHeartbeats 0 in
theorem PySem.Challenge.cw_nearreach_k03_numbers_of_words_holds : PySem.Challenge.rw_nearreach_k03_numbers_of_words.Holds := by
 w_on;refine holds_law K03.said fun said=>?_;o_head (kHook K03.A.heap_1 [2,3,15,22,23,24,25,28,35,36,37,40,47,48,49,52,59,60,61,64,71,72,73,76,83,84,85,88,95,96,97,100,107,108,109,112,119,120,121,124,131,132,133,136,143,144,145,148,155,156,157,160,167,168,169,172,179,180,181,184,191,193,194,196,197,198,199,200,203,205,206,208,209,210,212,213,215,216,217,219,220,222,223,224,226,227,229,230,231,233,234,236,237,238,240,241,243,244,245,247,248,250,251,252,255,256,257,259,260,262,263,264,266,267,269,270,271,273,274,276,277,278,280,281,283,284,285,287,288,290,291,292,294,295,297,298,299,301,302,304,305] (fun _=>by kernel_rfl))
 (case hw=>w_witness2)
 (case hl=>exact K03.hlok)
 k_fill
 refine K03.walk (l:=PySem.Challenge.rw_nearreach_k03_numbers_of_words) rfl rfl (fun w h Y=>PySem.W.kIn_of Y) ?F
 case F =>
  intro w mg fa h KX G hmg
  refine' K03.ahr KX G hmg ?a1 ?l1 ?c1 ?k1 ?a2 ?l2 ?c2 ?k2 ?a3 ?l3 ?c3 ?k3 ?a4 ?l4 ?c4 ?k4 ?a5 ?l5 ?c5 ?k5 ?a6 ?l6 ?c6 ?k6 ?a7 ?l7 ?c7 ?k7 ?a8 ?l8 ?c8 ?k8 ?a9 ?l9 ?c9 ?k9 ?a10 ?l10 ?c10 ?k10 ?a11 ?l11 ?c11 ?k11 ?a12 ?l12 ?c12 ?k12 ?a13 ?l13 ?c13 ?k13 ?a14 ?l14 ?c14 ?k14 ?a15 ?l15 ?c15 ?k15 ?xg_NoWord ?xg_Closed ?xg_NoBook ?xg_NoLine ?xg_NoModes ?xg_NoPlace ?xg_NoQuote ?xg_NoShape ?xg_NoTable ?xg_NoText ?xg_Stopped ?xg_TooHeavy ?xg_TooMany ?xg_Unlike ?xg_ReachError ?xc_NoWord ?xk_NoWord ?xe_NoWord_ReachError ?xi_NoWord_Closed_NoBook_NoLine_NoModes_NoPlace_NoQuote_NoShape_NoTable ?xi_NoWord_ValueError ?xi_NoWord_NoText_Stopped_TooHeavy_TooMany_Unlike ?xi_NoWord_NoWord ?z1 ?z2 ?z3 ?z4 ?z5 ?z6 ?z7 ?z8 ?z9 ?y1
  (case a1=>k_is);(case l1=>k_is);(case c1=>k_is);(case k1=>k_is)
  (case a2=>k_is);(case l2=>k_is);(case c2=>k_is);(case k2=>k_is)
  (case a3=>k_is);(case l3=>k_is);(case c3=>k_is);(case k3=>k_is)
  (case a4=>k_is);(case l4=>k_is);(case c4=>k_is);(case k4=>k_is)
  (case a5=>k_is);(case l5=>k_is);(case c5=>k_is);(case k5=>k_is)
  (case a6=>k_is);(case l6=>k_is);(case c6=>k_is);(case k6=>k_is)
  (case a7=>k_is);(case l7=>k_is);(case c7=>k_is);(case k7=>k_is)
  (case a8=>k_is);(case l8=>k_is);(case c8=>k_is);(case k8=>k_is)
  (case a9=>k_is);(case l9=>k_is);(case c9=>k_is);(case k9=>k_is)
  (case a10=>k_is);(case l10=>k_is);(case c10=>k_is);(case k10=>k_is)
  (case a11=>k_is);(case l11=>k_is);(case c11=>k_is);(case k11=>k_is)
  (case a12=>k_is);(case l12=>k_is);(case c12=>k_is);(case k12=>k_is)
  (case a13=>k_is);(case l13=>k_is);(case c13=>k_is);(case k13=>k_is)
  (case a14=>k_is);(case l14=>k_is);(case c14=>k_is);(case k14=>k_is)
  (case a15=>k_is);(case l15=>k_is);(case c15=>k_is);(case k15=>k_is)
  (case xg_NoWord=>k_is)
  (case xg_Closed=>k_is)
  (case xg_NoBook=>k_is)
  (case xg_NoLine=>k_is)
  (case xg_NoModes=>k_is)
  (case xg_NoPlace=>k_is)
  (case xg_NoQuote=>k_is)
  (case xg_NoShape=>k_is)
  (case xg_NoTable=>k_is)
  (case xg_NoText=>k_is)
  (case xg_Stopped=>k_is)
  (case xg_TooHeavy=>k_is)
  (case xg_TooMany=>k_is)
  (case xg_Unlike=>k_is)
  (case xg_ReachError=>k_is)
  (case xc_NoWord=>exact L2.aee (by kernel_rfl))
  (case xk_NoWord=>constructor<;>first | k_is | kernel_rfl)
  (case xe_NoWord_ReachError=>kernel_rfl)
  (case xi_NoWord_Closed_NoBook_NoLine_NoModes_NoPlace_NoQuote_NoShape_NoTable=>kernel_rfl)
  (case xi_NoWord_ValueError=>kernel_rfl)
  (case xi_NoWord_NoText_Stopped_TooHeavy_TooMany_Unlike=>kernel_rfl)
  (case xi_NoWord_NoWord=>kernel_rfl)
  (case z1=>k_is)
  (case z2=>k_is)
  (case z3=>k_is)
  (case z4=>k_is)
  (case z5=>k_is)
  (case z6=>k_is)
  (case z7=>k_is)
  (case z8=>k_is)
  (case z9=>k_is)
  (case y1=>k_is)
