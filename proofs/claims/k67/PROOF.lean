import PyProof.Rows.All
import Wide.All
import OpenK.AllK
import Wide.FinOn
import Lean
import PyProof.EqAt
import PyProof.EqKinds
import PyProof.TupleCall
import PyProof.ListStr
import PyProof.TupleOfStr
import PyProof.ConsumeWalk
import PyProof.SliceStr2
import PyProof.CompUse
import PyProof.Rows.SetFrom
import PyProof.SetRoads
import PyProof.StrLawsIn
import PyProof.Rows.StrIndexOr
import PyProof.Rows.StrJoin2
import PyProof.Rows.SumAny
import PyProof.WalkInts
import PyProof.SeqI3
import PyProof.Draws
import PyProof.ZipIter
import PyProof.EnumMake
import Wide.Txt2
import PyProof.Rows.SortWalk
import PyProof.ListRange
import PyProof.Rows.Range3
import KE.KStateDown
import PyProof.ReprRoads
import PyProof.CallFns
import PyProof.WalksMore
import KE.KTryDeep
import PyProof.ExcBaseAll.ValueError
import KE.KTryMore
import KE.KIsNot
import PyProof.ExcAttrAll.ValueError
import PyProof.NsDelKeeps
import PySem.Challenge.RW_nearreach_k67_machines_of_anything
set_option Elab.async false
set_option linter.all false
set_option maxRecDepth 100000
set_option maxHeartbeats 4000000
section
open PySem PySem.W PyProof.Rows
theorem K67.said:PySem.Challenge.rw_nearreach_k67_machines_of_anything.wellSaid=true:=by kernel_rfl
noncomputable def K67.hq:Program:=view PySem.Challenge.pw_nearreach_k67_machines_of_anything [PySem.Challenge.pw_nearreach_k67_machines_of_anything.main.body.length - 1]
noncomputable def K67.hl:List Str:=PySem.Challenge.pw_nearreach_k67_machines_of_anything.boundNames
local macro_rules | `(tactic| o_head $H) => `(tactic| refine PySem.W.holds_open (q:=K67.hq) (loose:=K67.hl) (Xt:=fun _=>true) (XP:=fun _ _=>True) (Yf:=Hook.obs $H) (Ya:=Hook.val $H) (YP:=Hook.says $H) (N:=20000) ?hl (Hook.of $H) (Hook.keeps $H) (fun _ _=>trivial) (fun _ _ _ _ _=>trivial) (by rfl) (by rfl) (by rfl) (fun _ _=>recFacts_nil rfl) (by rfl) (by assumption) (by decide +kernel) ⟨rfl,rfl,rfl,rfl,rfl,by decide +kernel⟩ ?hw ?hc)
set_option maxRecDepth 100000 in
set_option maxHeartbeats 0 in
theorem K67.A (hyp:∀ p:Prop,p):PySem.Challenge.rw_nearreach_k67_machines_of_anything.Holds:=by
 w_on;refine holds_law K67.said fun said=>?_;k_head
 all_goals exact hyp _
set_option maxRecDepth 100000 in
set_option maxHeartbeats 0 in
theorem K67.hlok:LeftO PySem.Challenge.rw_nearreach_k67_machines_of_anything.row.prog K67.hq K67.hl (fun _=>true) (Hook.obs (kHook K67.A.heap_1 [2,3,15,17,18,20,21,22,24,25,27,28,29,31,32,34,35,36,38,39,41,42,43,46,47,48,55,56,57,58,61,68,69,70,73,80,81,82,85,92,93,94,97,104,105,106,109,116,117,118,121,128,129,130,133,140,141,142,145,152,153,154,157,164,165,166,169,171,172,174,175,176,179,180,181,184,185,186,189,190,191,193,194,196,197,198,200,201,203,204,205,207,208,210,211,212,215,216,217,220,221,222,224,225,227,228,229,231,232,234,235,236,238,239,241,242,243,245,246,248,249,250,253,254,255,258,259,260,262,263,265,266,267,269,270,272,273,274,276,277,279,280,281,283,284,286,287,288,290,291,293,294,295,297,298,300,301,302,304,305,307,308,309,312,313,314,316,317,319,320,321,324,325,326,328,329,331,332] (fun _=>by kernel_rfl))) (Hook.val (kHook K67.A.heap_1 [2,3,15,17,18,20,21,22,24,25,27,28,29,31,32,34,35,36,38,39,41,42,43,46,47,48,55,56,57,58,61,68,69,70,73,80,81,82,85,92,93,94,97,104,105,106,109,116,117,118,121,128,129,130,133,140,141,142,145,152,153,154,157,164,165,166,169,171,172,174,175,176,179,180,181,184,185,186,189,190,191,193,194,196,197,198,200,201,203,204,205,207,208,210,211,212,215,216,217,220,221,222,224,225,227,228,229,231,232,234,235,236,238,239,241,242,243,245,246,248,249,250,253,254,255,258,259,260,262,263,265,266,267,269,270,272,273,274,276,277,279,280,281,283,284,286,287,288,290,291,293,294,295,297,298,300,301,302,304,305,307,308,309,312,313,314,316,317,319,320,321,324,325,326,328,329,331,332] (fun _=>by kernel_rfl))) 20000:=by
 intro w
 kernel_rfl
end
namespace L2
open PySem PySem.Spec PyProof.Rows
abbrev Key:=Sum Int Str
def ae2:Key→Value→Bool
 | .inl k,v=>Value.isInt k v
 | .inr x,v=>Value.isStrOf x v
def ayj (w:World):Key→Int
 | .inl k=>hashInt k
 | .inr x=>hashStr w x
theorem uf:∀ {k:Key} {v:Value},ae2 k v=true→(∃ i t,k=Sum.inl i∧v=Value.int i t)∨(∃ x t,k=Sum.inr x∧v=Value.str x t)
 | .inl i,v,h=>by
  obtain ⟨t,e⟩:=Value.isInt_shape (k:=i) (v:=v) h
  exact .inl ⟨i,t,rfl,e⟩
 | .inr x,v,h=>by
  obtain ⟨t,e⟩:=Value.isStrOf_shape (x:=x) (v:=v) h
  exact .inr ⟨x,t,rfl,e⟩
theorem afc (i:Int) (t:Tok):ae2 (.inl i) (.int i t)=true:=by simp [ae2,Value.isInt]
theorem afd (x:Str) (t:Tok):ae2 (.inr x) (.str x t)=true:=by simp [ae2,Value.isStrOf]
theorem aqk (a b:Int):decide ((Sum.inl a:Key)=Sum.inl b)=(a == b):=by
 by_cases e:a=b
 ·subst e;simp
 ·have h:¬ (Sum.inl a:Key)=Sum.inl b:=fun q=>e (Sum.inl.inj q)
  rw [decide_eq_false h]
  exact (beq_eq_false_iff_ne.mpr e).symm
theorem aql (a b:Str):decide ((Sum.inr a:Key)=Sum.inr b)=decide (a=b):=by
 by_cases e:a=b
 ·subst e;simp
 ·have h:¬ (Sum.inr a:Key)=Sum.inr b:=fun q=>e (Sum.inr.inj q)
  rw [decide_eq_false h,decide_eq_false e]
theorem aqm (a:Int) (b:Str):decide ((Sum.inl a:Key)=Sum.inr b)=false:=decide_eq_false (fun q=>nomatch q)
theorem aqn (a:Str) (b:Int):decide ((Sum.inr a:Key)=Sum.inl b)=false:=decide_eq_false (fun q=>nomatch q)
def vq (prog:Program) (w:World):PySem.KeyKind prog w Key where
 is:=ae2
 hash:=ayj w
 inj:=fun v a b ha hb=>by
  rcases uf ha with ⟨i,t,rfl,rfl⟩ | ⟨x,t,rfl,rfl⟩
  ·rcases uf hb with ⟨j,u,rfl,e⟩ | ⟨y,u,rfl,e⟩
   ·injection e with e1 _;rw [e1]
   ·exact nomatch e
  ·rcases uf hb with ⟨j,u,rfl,e⟩ | ⟨y,u,rfl,e⟩
   ·exact nomatch e
   ·injection e with e1 _;rw [e1]
 byValue:=fun k v h=>by
  rcases uf h with ⟨i,t,rfl,rfl⟩ | ⟨x,t,rfl,rfl⟩<;>rfl
 pyHash:=fun hv h=>by
  rcases uf hv with ⟨i,t,rfl,rfl⟩ | ⟨x,t,rfl,rfl⟩
  ·exact wpAny_pyHash_int h
  ·exact wpAny_pyHash_str h
 eqBool:=fun hu hv h=>by
  rcases uf hu with ⟨i,t,rfl,rfl⟩ | ⟨x,t,rfl,rfl⟩
  ·rcases uf hv with ⟨j,u,rfl,rfl⟩ | ⟨y,u,rfl,rfl⟩
   ·rw [aqk] at h;exact wpAny_eqBool_int h
   ·rw [aqm] at h;exact SeqAt.EqAt.int_str i t y u _ _ _ _ h
  ·rcases uf hv with ⟨j,u,rfl,rfl⟩ | ⟨y,u,rfl,rfl⟩
   ·rw [aqn] at h;exact SeqAt.EqAt.str_int x t j u _ _ _ _ h
   ·rw [aql] at h;exact wpAny_eqBool_str h
 «strs»:=fun k x t v h=>by
  rcases uf h with ⟨i,u,rfl,e⟩ | ⟨y,u,rfl,e⟩
  ·exact nomatch e
  ·injection e with e1 _
   subst e1
   cases v<;>rfl
theorem abd (prog:Program) (w:World) (i:Int) (t:Tok):(vq prog w).is (.inl i) (.int i t)=true:=afc i t
theorem abe (prog:Program) (w:World) (x:Str) (t:Tok):(vq prog w).is (.inr x) (.str x t)=true:=afd x t
end L2
namespace L2
open PySem PySem.Spec PyProof.Rows
inductive V where
 | non | bl (b:Bool) | int (i:Int) | str (x:Str) | byt (b:Array UInt8) | flt (b:UInt64) | ref (a:Addr) | ty (n:String)
 deriving DecidableEq
def RelV:V→Value→Prop
 | .non,u=>u=Value.none
 | .bl b,u=>u=Value.bool b
 | .int i,u=>∃ t,u=Value.int i t
 | .str x,u=>∃ t,u=Value.str x t
 | .byt b,u=>∃ t,u=Value.bytes b t
 | .flt b,u=>∃ t,u=Value.float b t
 | .ref a,u=>u=Value.ref a
 | .ty n,u=>u=Value.type n
abbrev Vals:List V→List Value→Prop:=Paired RelV
theorem Vals.length {xs:List V} {us:List Value} (r:Vals xs us):xs.length=us.length:=Paired.length r
theorem Vals.get:∀ {xs:List V} {us:List Value} {i:Nat} {x:V},Vals xs us→xs[i]? = some x→∃ u,us[i]? = some u∧RelV x u
 | _,_,_,_, .nil,e=>by simp at e
 | _,_,0,_, .cons r _,e=>by simp at e;subst e;exact ⟨_,rfl,r⟩
 | _,_,i+1,x, .cons _ t,e=>by
  obtain ⟨u,h1,h2⟩:=Vals.get (i:=i) (x:=x) t (by simpa using e)
  exact ⟨u,by simpa using h1,h2⟩
theorem Vals.set {x:V} {u:Value} (r:RelV x u):∀ {xs:List V} {us:List Value} (i:Nat),Vals xs us→Vals (xs.set i x) (us.set i u)
 | _,_,_, .nil=>.nil
 | _,_,0, .cons _ t=>.cons r t
 | _,_,i+1, .cons q t=>.cons q (Vals.set r i t)
theorem Vals.append:∀ {xs ys:List V} {us ws:List Value},Vals xs us→Vals ys ws→Vals (xs++ys) (us++ws)
 | _,_,_,_, .nil,s=>s
 | _,_,_,_, .cons r t,s=>.cons r (Vals.append t s)
theorem Vals.take:∀ {xs:List V} {us:List Value} (n:Nat),Vals xs us→Vals (xs.take n) (us.take n)
 | _,_,0,_=>.nil
 | _,_,_+1, .nil=>.nil
 | _,_,n+1, .cons r t=>.cons r (Vals.take n t)
theorem Vals.drop:∀ {xs:List V} {us:List Value} (n:Nat),Vals xs us→Vals (xs.drop n) (us.drop n)
 | _,_,0,r=>r
 | _,_,_+1, .nil=>.nil
 | _,_,n+1, .cons _ t=>Vals.drop n t
def RelO:Option V→Option Value→Prop
 | some v,some u=>RelV v u
 | none,none=>True
 | _,_=>False
def KV {κ:Type}:List (κ × V)→List (κ × Value)→Prop:=Paired fun (p:κ × V) (q:κ × Value)=>p.1=q.1∧RelV p.2 q.2
def kV:Key→V
 | .inl i=>.int i
 | .inr x=>.str x
inductive HO where
 | lst (xs:List V)
 | tup (xs:List V)
 | dK (kvs:List (Key × V)) | dT (kvs:List (List Key × V))
 | set (S:Int→Bool) (n:Nat)
 | ins (C dx:Addr) (fs:List (Str × V))
 | own (x:Addr)
 | xd (fs:List (Str × V))
 | met (f x:Addr)
 | rng (lo hi:Int)
 | frz (o:Obj) (u:HO)
 | tbl (ps:Array Value)
 | ext (φ:Heap→Prop)
abbrev Hp:=Addr→Option HO
def upd (H:Hp) (a:Addr) (o:HO):Hp:=fun b=>if b=a then some o else H b
theorem ou {H:Hp} {a:Addr} {o:HO}:upd H a o a=some o:=by unfold upd;rw [if_pos rfl]
theorem jn {H:Hp} {a b:Addr} {o:HO} (h:b≠a):upd H a o b=H b:=by unfold upd;rw [if_neg h]
theorem avv {H:Hp} {a b:Addr} {o u:HO} (h:H a=some o) (h':H b=some u) (d:o≠u):a≠b:=by
 intro e;subst e;rw [h] at h';exact d (Option.some.inj h')
theorem jw {H:Hp} {a b:Addr} {o:HO} (h:H a=some o) (h':H b=none):a≠b:=by
 intro e;subst e;rw [h] at h';cases h'
section
variable (P:Program) (w:World)
def ObjOk (H:Hp) (h:Heap) (a:Addr):HO→Prop
 | .lst xs=>xs.length≤sizeLine∧∃ (its:List Value) (n:Nat),Vals xs its∧h.get? a=some { cls:=.type "list",data:=.seq its.toArray n }
 | .tup xs=>xs.length≤sizeLine∧∃ its:List Value,Vals xs its∧IsTup h a its.toArray
 | .dK kvs=>kvs.length≤sizeLine∧(a == sysModules)=false∧∃ vs,KV kvs vs∧h.DictOf (vq P w) a vs
 | .dT kvs=>kvs.length≤sizeLine∧(a == sysModules)=false∧∃ xs:List (List Key × Addr × Value),
   Paired (fun (p:List Key × V) (q:List Key × Addr × Value)=>p.1=q.1∧H q.2.1=some (.tup (p.1.map kV))∧RelV p.2 q.2.2) kvs xs ∧
   ∃ o es ep,h.get? a=some o∧o.ExactDict∧o.data = .dict es ep∧es.toList=xs.map (entryOfKey (tupleKind (vq P w)))∧(xs.map (·.1)).Nodup
 | .set S n=>h.SetOf (intKind P w) a S n
 | .ins C dx fs=>H dx=some (.own a)∧fs.length≤1000∧dx≠a∧h.get? a=some (PySem.W.instObj C dx) ∧
   ∃ mA,h.Ns1 dx mA∧(∀ f,RelO (fs.lookup f) (mA f))∧PySem.Within mA (fs.map (·.1))
 | .own _=>∃ o,h.get? a=some o
 | .xd fs=>∃ mA,h.Ns1 a mA∧∀ f,RelO (fs.lookup f) (mA f)
 | .rng lo hi=>∃ t u v,h.get? a=some { cls:=.type "range",data:=.fields #[.int lo t, .int hi u, .int 1 v] }
 | .frz o u=>h.get? a=some o∧ObjOk H h a u
 | .tbl ps=>h.get? a=some { cls:=.none,data:=.fields ps }
 | .met f x=>h.get? a=some (PySem.W.methodObj (.ref f) (.ref x))
 | .ext φ=>φ h∧(∃ o,h.get? a=some o)∧∀ h1 h2:Heap,φ h1→(∀ o,h1.get? a=some o→h2.get? a=some o)→φ h2
def HOk (H:Hp) (h:Heap):Prop:=∀ a o,H a=some o→ObjOk P w H h a o
end
section
variable {P:Program} {w:World} {H H':Hp} {h h':Heap} {a:Addr} {o:HO}
theorem ObjOk.lt (x:ObjOk P w H h a o):a<h.objs.size:=by
 cases o with
 | lst xs=>obtain ⟨_,_,_,_,e⟩:=x;exact Heap.lt_size e
 | tup xs=>obtain ⟨_,_,_,p⟩:=x;exact p.lt
 | dK kvs=>obtain ⟨_,_,_,_,o,_,_,e,_⟩:=x;exact Heap.lt_size e
 | dT kvs=>obtain ⟨_,_,_,_,o,_,_,e,_⟩:=x;exact Heap.lt_size e
 | set S n=>obtain ⟨o,_,_,_,e,_⟩:=x;exact Heap.lt_size e
 | ins C dx fs=>obtain ⟨_,_,_,e,_⟩:=x;exact Heap.lt_size e
 | own y=>obtain ⟨_,e⟩:=x;exact Heap.lt_size e
 | xd fs=>obtain ⟨_,⟨_,_,_,e,_⟩,_⟩:=x;exact Heap.lt_size e
 | rng lo hi=>obtain ⟨_,_,_,e⟩:=x;exact Heap.lt_size e
 | frz ob u=>obtain ⟨e,_⟩:=x;exact Heap.lt_size e
 | tbl ps=>exact Heap.lt_size (show h.get? a=some _ from x)
 | met f y=>exact Heap.lt_size (show h.get? a=some _ from x)
 | ext φ=>obtain ⟨_,⟨_,e⟩,_⟩:=x;exact Heap.lt_size e
theorem Paired.mapP {α β:Type} {F G:α→β→Prop}:∀ {l₁:List α} {l₂:List β},Paired F l₁ l₂→(∀ a b,F a b→G a b)→Paired G l₁ l₂
 | _,_, .nil,_=>.nil
 | _,_, .cons r t,f=>.cons (f _ _ r) (Paired.mapP t f)
theorem ObjOk.stay (x:ObjOk P w H h a o) (k:∀ b u,(b=a∨H b=some (.own a))→h.get? b=some u→h'.get? b=some u)
  (ho:∀ b,H b=some (.own a)→H' b=some (.own a)) (ht:∀ b xs,H b=some (.tup xs)→H' b=some (.tup xs)):ObjOk P w H' h' a o:=by
 induction o with
 | lst xs=>obtain ⟨z,its,n,r,e⟩:=x;exact ⟨z,its,n,r,k _ _ (.inl rfl) e⟩
 | tup xs=>obtain ⟨z,its,r,ob,e,c⟩:=x;exact ⟨z,its,r,ob,k _ _ (.inl rfl) e,c⟩
 | dK kvs=>obtain ⟨z,y,vs,r,ob,es,ep,e,c⟩:=x;exact ⟨z,y,vs,r,ob,es,ep,k _ _ (.inl rfl) e,c⟩
 | dT kvs =>
  obtain ⟨z,y,xs,r,ob,es,ep,e,c⟩:=x
  exact ⟨z,y,xs,Paired.mapP r fun p q z=>⟨z.1,ht _ _ z.2.1,z.2.2⟩,ob,es,ep,k _ _ (.inl rfl) e,c⟩
 | set S n=>obtain ⟨ob,es,ep,t,e,c⟩:=x;exact ⟨ob,es,ep,t,k _ _ (.inl rfl) e,c⟩
 | ins C dx fs =>
  obtain ⟨d,z,ne,e,mA,⟨od,es,ep,e2,c⟩,r⟩:=x
  exact ⟨ho _ d,z,ne,k _ _ (.inl rfl) e,mA,⟨od,es,ep,k _ _ (.inr d) e2,c⟩,r⟩
 | own y=>obtain ⟨ob,e⟩:=x;exact ⟨ob,k _ _ (.inl rfl) e⟩
 | xd fs=>obtain ⟨mA,⟨od,es,ep,e,c⟩,r⟩:=x;exact ⟨mA,⟨od,es,ep,k _ _ (.inl rfl) e,c⟩,r⟩
 | rng lo hi=>obtain ⟨t,u,v,e⟩:=x;exact ⟨t,u,v,k _ _ (.inl rfl) e⟩
 | frz ob u ih=>obtain ⟨e,q⟩:=x;exact ⟨k _ _ (.inl rfl) e,ih q⟩
 | tbl ps =>
  have e:h.get? a=some { cls:=.none,data:=.fields ps }:=x
  show h'.get? a=some { cls:=.none,data:=.fields ps }
  exact k a _ (.inl rfl) e
 | met f y =>
  have e:h.get? a=some (PySem.W.methodObj (.ref f) (.ref y)):=x
  show h'.get? a=some (PySem.W.methodObj (.ref f) (.ref y))
  exact k a _ (.inl rfl) e
 | ext φ=>obtain ⟨p,⟨o,e⟩,st⟩:=x;exact ⟨st _ _ p fun o q=>k _ _ (.inl rfl) q,⟨o,k _ _ (.inl rfl) e⟩,st⟩
theorem HOk.lt (x:HOk P w H h) (e:H a=some o):a<h.objs.size:=(x a o e).lt
theorem HOk.fresh (x:HOk P w H h) (e:h.objs.size≤a):H a=none:=by
 cases q:H a with
 | none=>rfl
 | some u=>exact absurd (Nat.lt_of_lt_of_le (x.lt q) e) (Nat.lt_irrefl _)
theorem HOk.kept (x:HOk P w H h) (k:∀ b u,h.get? b=some u→h'.get? b=some u):HOk P w H h':=fun a o e =>
 (x a o e).stay (fun b u _ q=>k b u q) (fun _ q=>q) fun _ _ q=>q
theorem HOk.laid (x:HOk P w H h) (k:∀ b u,h.get? b=some u→h'.get? b=some u) (hp:h.objs.size≤a) (new:ObjOk P w (upd H a o) h' a o):HOk P w (upd H a o) h':=fun b u e=>by
 have hn:=x.fresh hp
 by_cases hb:b=a
 ·subst hb;rw [ou] at e;cases e;exact new
 ·rw [jn hb] at e
  exact (x b u e).stay (fun c v _ q=>k c v q) (fun c q=>by rw [jn (jw q hn)];exact q) fun c xs q=>by rw [jn (jw q hn)];exact q
end
def Rd (H:Hp) (a:Addr) (u:HO):Prop:=H a=some u∨∃ o,H a=some (.frz o u)
theorem Rd.of {H:Hp} {a:Addr} {u:HO} (h:H a=some u):Rd H a u:=.inl h
theorem Rd.ok {P:Program} {w:World} {H:Hp} {h:Heap} {a:Addr} {u:HO} (r:Rd H a u) (x:HOk P w H h):ObjOk P w H h a u:=by
 rcases r with r | ⟨o,r⟩
 ·exact x a u r
 ·obtain ⟨_,q⟩:=x a _ r
  exact q
def Mut:Option HO→Prop
 | some (.lst _)=>True
 | some (.dK _)=>True
 | some (.dT _)=>True
 | some (.set _ _)=>True
 | some (.ins _ _ _)=>True
 | some (.ext _)=>True
 | _=>False
section
variable {P:Program} {w:World} {H:Hp} {h h':Heap} {x e:Addr} {o':HO}
theorem HOk.write (ok:HOk P w H h) (mu:Mut (H x)) (he:e=x∨H e=some (.own x)) (k:∀ b u,b≠e→h.get? b=some u→h'.get? b=some u) (heo:∃ u,h'.get? e=some u)
  (new:ObjOk P w (upd H x o') h' x o'):HOk P w (upd H x o') h':=fun b u q=>by
 have nown:∀ c y,H c=some (.own y)→c≠x:=fun c y r z=>by subst z;rw [r] at mu;exact mu
 have ntup:∀ c xs,H c=some (.tup xs)→c≠x:=fun c xs r z=>by subst z;rw [r] at mu;exact mu
 by_cases hb:b=x
 ·subst hb;rw [ou] at q;cases q;exact new
 ·rw [jn hb] at q
  by_cases hbe:b=e
  ·have q':H b=some (.own x):=by
    rcases he with z | z
    ·exact absurd (hbe.trans z) hb
    ·rw [hbe];exact z
   rw [q] at q';cases q'
   obtain ⟨v,hv⟩:=heo
   exact ⟨v,by rw [hbe];exact hv⟩
  ·refine (ok b u q).stay (fun c v hc r=>k c v ?_ r) (fun c r=>by rw [jn (nown c b r)];exact r) fun c xs r=>by rw [jn (ntup c xs r)];exact r
   rcases hc with rfl | hc
   ·exact hbe
   ·rintro rfl
    rcases he with z | z
    ·exact nown c b hc z
    ·rw [hc] at z;cases z;exact hb rfl
end
structure Un (fs ex:List Addr) (H H':Hp) (h h':Heap):Prop where
 keep:∀ b o,h.get? b=some o→H b=none→b ∉ fs→b ∉ ex→h'.get? b=some o
 slot:∀ b o,h.get? b=some o→H b=none→b∈fs→b ∉ ex→∃ sl,h'.get? b=some { o with slots:=sl }
 free:∀ b o,h.get? b=some o→H b=none→b ∉ ex→H' b=none
 there:∀ b o,h.get? b=some o→b ∉ ex→∃ o',h'.get? b=some o'
 tups:∀ b xs,H b=some (.tup xs)→H' b=some (.tup xs)
 frzs:∀ b o u,H b=some (.frz o u)→H' b=some (.frz o u)
 tbls:∀ b ps,H b=some (.tbl ps)→∃ more,H' b=some (.tbl (ps++more))
section
variable {fs fs' ex ex':List Addr} {H H1 H2:Hp} {h h1 h2 h':Heap} {a x e:Addr} {o:HO}
theorem Un.any (u:Un fs ex H H1 h h1) {b:Addr} {ob:Obj} (q:h.get? b=some ob) (n:H b=none) (hx:b ∉ ex):∃ sl,h1.get? b=some { ob with slots:=sl }:=by
 by_cases hb:b∈fs
 ·exact u.slot b ob q n hb hx
 ·exact ⟨ob.slots,u.keep b ob q n hb hx⟩
theorem Un.kept (k:∀ b u,h.get? b=some u→h'.get? b=some u):Un fs ex H H h h' :=
 ⟨fun b ob q _ _ _=>k b ob q,fun b ob q _ _ _=>⟨ob.slots,k b ob q⟩,fun _ _ _ n _=>n,fun b ob q _=>⟨ob,k b ob q⟩,fun _ _ q=>q,fun _ _ _ q=>q,fun _ ps q=>⟨#[],by rw [q];simp⟩⟩
theorem Un.refl:Un fs ex H H h h:=Un.kept fun _ _ q=>q
theorem Un.laid (k:∀ b u,h.get? b=some u→h'.get? b=some u) (hp:h.objs.size≤a) (hn:H a=none):Un fs ex H (upd H a o) h h' where
 keep:=fun b u q _ _ _=>k b u q
 slot:=fun b u q _ _ _=>⟨u.slots,k b u q⟩
 free:=fun b u q n _=>by rw [jn (Nat.ne_of_lt (Nat.lt_of_lt_of_le (Heap.lt_size q) hp))];exact n
 there:=fun b u q _=>⟨u,k b u q⟩
 tups:=fun b xs q=>by rw [jn (jw q hn)];exact q
 frzs:=fun b u xs q=>by rw [jn (jw q hn)];exact q
 tbls:=fun b ps q=>⟨#[],by rw [jn (jw q hn),q];simp⟩
theorem Un.write (mu:Mut (H x)) (he:e=x∨H e=some (.own x)) (k:∀ b u,b≠e→h.get? b=some u→h'.get? b=some u) (heo:∃ u,h'.get? e=some u):Un fs ex H (upd H x o) h h':=by
 have hx:∀ b,H b=none→b≠x:=fun b n z=>by subst z;rw [n] at mu;exact mu
 have hb:∀ b,H b=none→b≠e:=fun b n z=>by
  subst z
  rcases he with r | r
  ·exact hx b n r
  ·rw [n] at r;cases r
 have hm:∀ b u,H b=some u→¬ Mut (some u)→b≠x:=fun b u q nm z=>by subst z;rw [q] at mu;exact nm mu
 refine ⟨fun b u q n _ _=>k b u (hb b n) q,fun b u q n _ _=>⟨u.slots,k b u (hb b n) q⟩,fun b u q n _=>by rw [jn (hx b n)];exact n,fun b u q _=>?_,
  fun b xs q=>by rw [jn (hm b _ q fun z=>z)];exact q,fun b u xs q=>by rw [jn (hm b _ q fun z=>z)];exact q,fun b ps q=>⟨#[],by rw [jn (hm b _ q fun z=>z),q];simp⟩⟩
 by_cases hbe:b=e
 ·subst hbe;exact heo
 ·exact ⟨u,k b u hbe q⟩
end
def trk (h:Heap) (H:Hp):List Addr:=(List.range h.objs.size).filter fun a=>(H a).isSome
def ais (h:Heap) (H:Hp):Heap:=PySem.W.hideAll h (trk h H)
theorem afe (h:Heap) (H:Hp):(ais h H).objs.size=h.objs.size:=PySem.W.hideAll_size _ _
theorem ait {h:Heap} {H:Hp} {b:Addr} {o:Obj} (e:h.get? b=some o) (n:H b=none):(ais h H).get? b=some o :=
 PySem.W.hideAll_get _ e fun hm=>by
  have q:(H b).isSome=true:=(List.mem_filter.mp hm).2
  rw [n] at q;simp at q
theorem amq {h:Heap} {H:Hp} {b:Addr} {o:Obj} (e:(ais h H).get? b=some o):h.get? b=some o∧H b=none:=by
 have e':h.get? b=some o:=PySem.W.of_hideAll (trk h H) e
 refine ⟨e',?_⟩
 cases q:H b with
 | none=>rfl
 | some x =>
  have hm:b∈trk h H:=List.mem_filter.mpr ⟨List.mem_range.mpr (Heap.lt_size e'),by simp [q]⟩
  have z:(ais h H).get? b=none:=PySem.W.hideAll_none (trk h H) hm
  rw [z] at e;cases e
def amr (g h:Heap) (L:Addr):List (Addr × Obj):=(List.range h.objs.size).filterMap fun a=>if a=L∨(g.get? a).isSome=true then none else (h.get? a).map fun o=>(a,o)
def rest (g h:Heap) (L d:Addr):List (Addr × Obj):=(amr g h L).filter fun p=>decide (p.1≠d)
end L2
namespace L2
open PySem PySem.Spec PyProof.Rows
structure Mod (K:PySem.W.Frag) (mg:Str→Option Value) (base:Heap):Prop where
 kin:K.In base
 glob:base.Ns mainGlobals mg
 blt:∃ mb,base.Ns builtinsNs mb∧∀ x:Str,x ≠ "__name__"→mb x=bootBuiltins x
 nolimit:base.NoLimit
structure Cx where
 prog:Program
 w:World
 K:PySem.W.Frag
 mg:Str→Option Value
 base:Heap
 A:Around
 N:List Str
 s₀:Shared
 H₀:Hp
 env:Env
 outer:List Env
 stack:List Env
 ex:List Addr
 fn:Str→Bool
 calm:Bool
 pn:List (Addr × Obj)
 xe:Value→Shared→Prop
def frs (l:List Env):List Addr:=l.filterMap (·.frame)
abbrev Cx.fs (X:Cx):List Addr:=frs X.outer
def Vis (sc:Scope) (x:Str):Prop:=sc.names.lookup x=some .local∨sc.names.lookup x=some .cell∨sc.names.lookup x=some .free
def Loc (sc:Scope) (x:Str):Prop:=sc.names.lookup x=some .local∨sc.names.lookup x=some .cell
def Look (env:Env) (h:Heap) (m:Str→Option Value) (x:Str) (u:Value):Prop :=
 (env.kindOf x=some .local∧m x=some u)∨((env.kindOf x=some .cell∨env.kindOf x=some .free)∧∃ c,env.cells.lookup x=some c∧h.IsCell c (some u))
structure Cx.Ok (X:Cx):Prop where
 mod:Mod X.K X.mg X.base
 kind:X.env.scope.kind = .function
 glob:X.env.globals=mainGlobals
 blt:X.env.builtins=builtinsNs
 above:X.s₀.heap.objs.size≤X.env.locals
 inj:∀ x y c,X.env.cells.lookup x=some c→X.env.cells.lookup y=some c→x=y
 has:∀ x,(X.env.kindOf x=some .cell∨X.env.kindOf x=some .free)→∃ c,X.env.cells.lookup x=some c
 cab:∀ x c,X.fn x=true→X.env.cells.lookup x=some c→X.s₀.heap.objs.size≤c
 hd:X.calm=true→X.A.handled=none
 frames:X.A.frames=some X.stack
 stk:X.stack=X.outer∨(X.stack=X.env::X.outer∧X.env.frame=some X.env.locals)
 exf:∀ b∈X.ex,b≠X.env.locals∧∀ x c,X.env.cells.lookup x=some c→c≠b
 bs:∀ b o,X.base.get? b=some o→X.s₀.heap.get? b=some o∧X.H₀ b=none
 bsz:X.base.objs.size≤X.s₀.heap.objs.size
 noex:∀ b o,X.base.get? b=some o→b ∉ X.ex
 exfs:∀ b∈X.ex,b ∉ X.fs
 funs:X.s₀.heap.FunFrames X.base X.outer
 frf:∀ b∈X.fs,X.H₀ b=none
structure Inv (X:Cx) (pins:List (Addr × Obj)) (σ:List (Option V)) (H:Hp) (s:Shared):Prop where
 ok:X.Ok
 os:s.os=X.s₀.os
 bare:AllBare s.gens
 base:Un X.fs X.ex X.H₀ H X.s₀.heap s.heap
 loc:∃ m,s.heap.Ns X.env.locals m∧∀ (i:Nat) (x:Str) (v:V),X.N[i]? = some x→σ[i]? = some (some v)→Vis X.env.scope x→∃ u,RelV v u∧Look X.env s.heap m x u
 cell:∀ x c,X.env.cells.lookup x=some c→∃ v,s.heap.IsCell c v
 free:H X.env.locals=none
 freeC:∀ x c,X.env.cells.lookup x=some c→H c=none
 pin:∀ p∈X.pn++pins,s.heap.get? p.1=some p.2∧H p.1=none∧p.1≠X.env.locals∧p.1 ∉ X.fs∧∀ v,p.2.data≠.cell v
 hok:HOk X.prog X.w H s.heap
 len:σ.length=X.N.length
section
variable {X:Cx} {pins:List (Addr × Obj)} {σ:List (Option V)} {H H':Hp} {s:Shared} {h':Heap}
theorem Cx.Ok.nofr (ok:X.Ok) {b:Addr} {o:Obj} (e:X.base.get? b=some o):b ∉ X.fs:=fun hb=>by
 have:=(ok.funs.mem hb).1
 rw [e] at this;cases this
theorem Inv.bs (I:Inv X pins σ H s):∀ b o,X.base.get? b=some o→s.heap.get? b=some o∧H b=none:=fun b o e =>
 ⟨I.base.keep b o (I.ok.bs b o e).1 (I.ok.bs b o e).2 (I.ok.nofr e) (I.ok.noex b o e),I.base.free b o (I.ok.bs b o e).1 (I.ok.bs b o e).2 (I.ok.noex b o e)⟩
theorem Inv.bk (I:Inv X pins σ H s):∀ b o,X.base.get? b=some o→s.heap.get? b=some o:=fun b o e=>(I.bs b o e).1
theorem Inv.mod (I:Inv X pins σ H s):Mod X.K X.mg X.base:=I.ok.mod
theorem Inv.kIn (I:Inv X pins σ H s):X.K.In s.heap:=I.ok.mod.kin.keeps I.bk
theorem Inv.fr (I:Inv X pins σ H s):∃ m,Fr X.base X.env.locals s.heap m :=
 let ⟨m,hn,_⟩:=I.loc
 ⟨m,hn,I.bk,Nat.le_trans I.ok.bsz I.ok.above⟩
theorem Inv.lt (I:Inv X pins σ H s):X.env.locals<s.heap.objs.size:=let ⟨_,hn,_⟩:=I.loc;hn.lt
theorem Inv.sz (I:Inv X pins σ H s):X.s₀.heap.objs.size≤s.heap.objs.size:=Nat.le_trans I.ok.above (Nat.le_of_lt I.lt)
theorem Inv.nofs (I:Inv X pins σ H s) {a:Addr} (h:s.heap.objs.size≤a):a ∉ X.fs:=fun hb=>by
 obtain ⟨_,o,ho,_⟩:=I.ok.funs.mem hb
 exact absurd (Nat.lt_of_lt_of_le (Heap.lt_size ho) (Nat.le_trans I.sz h)) (Nat.lt_irrefl _)
theorem Inv.cne (I:Inv X pins σ H s):∀ x c,X.env.cells.lookup x=some c→c≠X.env.locals:=fun x c e z=>by
 obtain ⟨v,o,ho,hd⟩:=I.cell x c e
 obtain ⟨m,⟨o',es,ep,ho',hd',_⟩,_⟩:=I.loc
 rw [z,ho'] at ho;cases ho;rw [hd'] at hd;cases hd
theorem Inv.funs (I:Inv X pins σ H s):s.heap.FunFrames X.base X.outer:=by
 have all:∀ (l:List Env),(∀ b∈frs l,b∈X.fs)→X.s₀.heap.FunFrames X.base l→s.heap.FunFrames X.base l:=by
  intro l
  induction l with
  | nil=>intro _ _;trivial
  | cons env r ih =>
   intro hs hl
   obtain ⟨hk,⟨L,o,hf,hn,ho,hd⟩,hr⟩:=hl
   have hL:L∈X.fs:=hs L (by unfold frs;rw [List.filterMap_cons,hf];exact List.mem_cons_self)
   obtain ⟨sl,e⟩:=I.base.slot L o ho (I.ok.frf L hL) hL fun z=>I.ok.exfs L z hL
   exact ⟨hk,⟨L,_,hf,hn,e,hd⟩,ih (fun b hb=>hs b (by unfold frs;rw [List.filterMap_cons,hf];exact List.mem_cons_of_mem _ hb)) hr⟩
 exact all X.outer (fun _ hb=>hb) I.ok.funs
theorem Inv.stack (I:Inv X pins σ H s):s.heap.FunFrames X.base X.stack:=by
 rcases I.ok.stk with e | ⟨e,hf⟩
 ·rw [e];exact I.funs
 ·rw [e]
  obtain ⟨m,hn,_⟩:=I.loc
  refine .cons (by rw [I.ok.kind];decide) hf hn ?_ I.funs
  exact Heap.get?_none_of_le (Nat.le_trans I.ok.bsz I.ok.above)
theorem Inv.stkSub (I:Inv X pins σ H s):∀ b∈frs X.stack,b∈X.env.locals::X.fs:=fun b hb=>by
 rcases I.ok.stk with e | ⟨e,hf⟩
 ·rw [e] at hb;exact List.mem_cons_of_mem _ hb
 ·rw [e] at hb
  unfold frs at hb
  rw [List.filterMap_cons,hf] at hb
  exact hb
theorem Inv.stkFree (I:Inv X pins σ H s):∀ b∈frs X.stack,H b=none:=fun b hb=>by
 rcases List.mem_cons.mp (I.stkSub b hb) with e | hb
 ·rw [e];exact I.free
 ·obtain ⟨_,o,ho,_⟩:=I.ok.funs.mem hb
  exact I.base.free b o ho (I.ok.frf b hb) fun z=>I.ok.exfs b z hb
theorem Inv.step {g':Array GenState} {t':Nat} {d':Drawn} {ch:List Addr} (I:Inv X pins σ H s)
  (hch:∀ b∈ch,(b∈X.ex∨X.s₀.heap.objs.size≤b)∧b≠X.env.locals∧(∀ x c,X.env.cells.lookup x=some c→c≠b)∧∀ p∈X.pn++pins,p.1≠b)
  (keep:∀ b o,b≠X.env.locals→b ∉ X.fs→b ∉ ch→s.heap.get? b=some o→H b=none→h'.get? b=some o)
  (slot:∀ b o,b≠X.env.locals→b∈X.fs→b ∉ ch→s.heap.get? b=some o→H b=none→∃ sl,h'.get? b=some { o with slots:=sl }) (free:∀ b o,b ∉ ch→s.heap.get? b=some o→H b=none→H' b=none)
  (there:∀ b o,b ∉ ch→s.heap.get? b=some o→∃ o',h'.get? b=some o')
  (tups:∀ b xs,H b=some (.tup xs)→H' b=some (.tup xs)) (frzs:∀ b o u,H b=some (.frz o u)→H' b=some (.frz o u)) (tbls:∀ b ps,H b=some (.tbl ps)→∃ more,H' b=some (.tbl (ps++more)))
  (ns:∀ m,s.heap.Ns X.env.locals m→h'.Ns X.env.locals m) (hok:HOk X.prog X.w H' h') (hg:AllBare g') :
  Inv X pins σ H' { s with heap:=h',gens:=g',drawn:=d',toks:=t' }:=by
 have neL:∀ b o,X.s₀.heap.get? b=some o→b≠X.env.locals:=fun b o e=>Nat.ne_of_lt (Nat.lt_of_lt_of_le (Heap.lt_size e) I.ok.above)
 have neC:∀ b o,X.s₀.heap.get? b=some o→b ∉ X.ex→b ∉ ch:=fun b o e hx hb=>by
  rcases (hch b hb).1 with z | z
  ·exact hx z
  ·exact absurd (Nat.lt_of_lt_of_le (Heap.lt_size e) z) (Nat.lt_irrefl _)
 have cellK:∀ x c,X.env.cells.lookup x=some c→∀ v,s.heap.IsCell c v→h'.IsCell c v:=fun x c e v ⟨o,ho,hd⟩=>by
  have nch:c ∉ ch:=fun z=>(hch c z).2.2.1 x c e rfl
  by_cases hc:c∈X.fs
  ·obtain ⟨sl,q⟩:=slot c o (I.cne x c e) hc nch ho (I.freeC x c e)
   exact ⟨_,q,hd⟩
  ·exact ⟨o,keep c o (I.cne x c e) hc nch ho (I.freeC x c e),hd⟩
 refine ⟨I.ok,I.os,hg,⟨fun b o e n hb hx=>?_,fun b o e n hb hx=>?_,fun b o e n hx=>?_,fun b o e hx=>?_,fun b xs e=>tups b xs (I.base.tups b xs e),fun b o xs e=>frzs b o xs (I.base.frzs b o xs e),fun b ps e=>?_⟩,?_,fun x c e=>?_,?_,fun x c e=>?_,fun p hp=>?_,hok,I.len⟩
 ·exact keep b o (neL b o e) hb (neC b o e hx) (I.base.keep b o e n hb hx) (I.base.free b o e n hx)
 ·obtain ⟨sl,e1⟩:=I.base.slot b o e n hb hx
  obtain ⟨sl',e2⟩:=slot b _ (neL b o e) hb (neC b o e hx) e1 (I.base.free b o e n hx)
  exact ⟨sl',e2⟩
 ·obtain ⟨o',e1⟩:=I.base.there b o e hx
  exact free b o' (neC b o e hx) e1 (I.base.free b o e n hx)
 ·obtain ⟨o',e1⟩:=I.base.there b o e hx
  exact there b o' (neC b o e hx) e1
 ·obtain ⟨m1,e1⟩:=I.base.tbls b ps e
  obtain ⟨m2,e2⟩:=tbls b _ e1
  exact ⟨m1++m2,by rw [e2,Array.append_assoc]⟩
 ·obtain ⟨m,hn,hl⟩:=I.loc
  refine ⟨m,ns m hn,fun i x v e1 e2 e3=>?_⟩
  obtain ⟨u,r,l⟩:=hl i x v e1 e2 e3
  refine ⟨u,r,?_⟩
  rcases l with l | ⟨k,c,e,z⟩
  ·exact .inl l
  ·exact .inr ⟨k,c,e,cellK x c e _ z⟩
 ·obtain ⟨v,z⟩:=I.cell x c e
  exact ⟨v,cellK x c e v z⟩
 ·obtain ⟨m,⟨o,_,_,ho,_⟩,_⟩:=I.loc
  exact free _ o (fun z=>(hch _ z).2.1 rfl) ho I.free
 ·obtain ⟨v,o,ho,hd⟩:=I.cell x c e
  exact free c o (fun z=>(hch c z).2.2.1 x c e rfl) ho (I.freeC x c e)
 ·obtain ⟨e,n,ne,nf,d⟩:=I.pin p hp
  have nch:p.1 ∉ ch:=fun z=>(hch p.1 z).2.2.2 p hp rfl
  exact ⟨keep p.1 p.2 ne nf nch e n,free p.1 p.2 nch e n,ne,nf,d⟩
theorem Inv.un {t':Nat} (I:Inv X pins σ H s) (u:Un X.fs [] H H' s.heap h') (hok:HOk X.prog X.w H' h'):Inv X pins σ H' { s with heap:=h',toks:=t' }:=by
 obtain ⟨m,⟨o,es,ep,ho,r⟩,_⟩:=id I.loc
 obtain ⟨sl,hL⟩:=u.any ho I.free (by simp)
 exact I.step (g':=s.gens) (d':=s.drawn) (ch:=[]) (fun _ z=>nomatch z) (fun b o _ hb _ e n=>u.keep b o e n hb (by simp)) (fun b o _ hb _ e n=>u.slot b o e n hb (by simp)) (fun b o _ e n=>u.free b o e n (by simp)) (fun b o _ e=>u.there b o e (by simp)) u.tups u.frzs u.tbls (fun m' hm=>by
  obtain ⟨o',es',ep',ho',r'⟩:=hm
  rw [ho] at ho';cases ho'
  exact ⟨_,es',ep',hL,r'⟩) hok I.bare
theorem Inv.call {g':Array GenState} {t':Nat} {d':Drawn} {ch:List Addr} (I:Inv X pins σ H s) (u:Un (frs X.stack) ch H H' s.heap h') (hok:HOk X.prog X.w H' h') (hg:AllBare g')
  (hch:∀ b∈ch,(b∈X.ex∨X.s₀.heap.objs.size≤b)∧b≠X.env.locals∧(∀ x c,X.env.cells.lookup x=some c→c≠b)∧∀ p∈X.pn++pins,p.1≠b) :
  Inv X pins σ H' { s with heap:=h',gens:=g',drawn:=d',toks:=t' }:=by
 obtain ⟨m,⟨o,es,ep,ho,r⟩,_⟩:=id I.loc
 obtain ⟨sl,hL⟩:=u.any ho I.free fun z=>(hch _ z).2.1 rfl
 exact I.step (ch:=ch) hch (fun b o hL hb hc e n=>u.keep b o e n (fun z=>(List.mem_cons.mp (I.stkSub b z)).elim hL hb) hc) (fun b o _ _ hc e n=>u.any e n hc) (fun b o hc e n=>u.free b o e n hc) (fun b o hc e=>u.there b o e hc) u.tups u.frzs u.tbls (fun m' hm=>by
  obtain ⟨o',es',ep',ho',r'⟩:=hm
  rw [ho] at ho';cases ho'
  exact ⟨_,es',ep',hL,r'⟩) hok hg
theorem Inv.turned {t':Nat} {it:Addr} (I:Inv X pins σ H s) (k:∀ b o,b≠it→s.heap.get? b=some o→h'.get? b=some o) (hn:H it=none) (hL:it≠X.env.locals)
  (h1:it∈X.ex∨X.s₀.heap.objs.size≤it) (h2:∀ x c,X.env.cells.lookup x=some c→c≠it) (h3:∀ p∈X.pn++pins,p.1≠it):Inv X pins σ H { s with heap:=h',toks:=t' }:=by
 have nit:∀ b u,H b=some u→b≠it:=fun b u e z=>by rw [z,hn] at e;cases e
 refine I.step (g':=s.gens) (d':=s.drawn) (ch:=[it]) (fun b hb=>?_) (fun b o _ _ hc e _=>k b o (fun z=>hc (by simp [z])) e) (fun b o _ _ hc e _=>⟨o.slots,k b o (fun z=>hc (by simp [z])) e⟩) (fun _ _ _ _ n=>n)
  (fun b o hc e=>⟨o,k b o (fun z=>hc (by simp [z])) e⟩) (fun _ _ e=>e) (fun _ _ _ e=>e) (fun b ps e=>⟨#[],by rw [e];simp⟩) (fun m hm=>?_) (fun b u e=>?_) I.bare
 ·have e:b=it:=by simpa using hb
  subst e
  exact ⟨h1,hL,h2,h3⟩
 ·obtain ⟨o,es,ep,ho,r⟩:=hm
  exact ⟨o,es,ep,k _ o (Ne.symm hL) ho,r⟩
 ·refine (I.hok b u e).stay (fun c v hc q=>k c v ?_ q) (fun _ q=>q) fun _ _ q=>q
  rcases hc with z | z
  ·rw [z];exact nit b u e
  ·exact nit c _ z
theorem Inv.tok (I:Inv X pins σ H s) (t:Nat):Inv X pins σ H { s with toks:=t }:=I.un (h':=s.heap) (t':=t) Un.refl I.hok
theorem Inv.kept {t':Nat} (I:Inv X pins σ H s) (k:∀ b u,s.heap.get? b=some u→h'.get? b=some u):Inv X pins σ H { s with heap:=h',toks:=t' }:=I.un (Un.kept k) (I.hok.kept k)
theorem Inv.laid {a:Addr} {o:HO} {t':Nat} (I:Inv X pins σ H s) (k:∀ b u,s.heap.get? b=some u→h'.get? b=some u) (hp:s.heap.objs.size≤a) (new:ObjOk X.prog X.w (upd H a o) h' a o) :
  Inv X pins σ (upd H a o) { s with heap:=h',toks:=t' }:=I.un (Un.laid k hp (I.hok.fresh hp)) (I.hok.laid k hp new)
theorem Inv.write {x e:Addr} {o:HO} {t':Nat} (I:Inv X pins σ H s) (mu:Mut (H x)) (he:e=x∨H e=some (.own x)) (k:∀ b u,b≠e→s.heap.get? b=some u→h'.get? b=some u) (heo:∃ u,h'.get? e=some u)
  (new:ObjOk X.prog X.w (upd H x o) h' x o):Inv X pins σ (upd H x o) { s with heap:=h',toks:=t' }:=I.un (Un.write mu he k heo) (I.hok.write mu he k heo new)
theorem Inv.weak {σ':List (Option V)} (I:Inv X pins σ H s) (hl:σ'.length=σ.length) (w:∀ (i:Nat) v,σ'[i]? = some (some v)→σ[i]? = some (some v)):Inv X pins σ' H s :=
 ⟨I.ok,I.os,I.bare,I.base,let ⟨m,hn,hl'⟩:=I.loc; ⟨m,hn,fun i x v e1 e2 e3=>hl' i x v e1 (w i v e2) e3⟩,I.cell,I.free,I.freeC,I.pin,I.hok,hl.trans I.len⟩
theorem Inv.pins_of {pins':List (Addr × Obj)} (I:Inv X pins σ H s) (h:∀ p∈pins',s.heap.get? p.1=some p.2∧H p.1=none∧p.1≠X.env.locals∧p.1 ∉ X.fs∧∀ v,p.2.data≠.cell v):Inv X pins' σ H s :=
 ⟨I.ok,I.os,I.bare,I.base,I.loc,I.cell,I.free,I.freeC,fun p hp=>(List.mem_append.mp hp).elim (fun z=>I.pin p (List.mem_append_left _ z)) (h p),I.hok,I.len⟩
theorem a8d {N:List Str} (hN:N.Nodup) {i j:Nat} {x:Str} (a:N[i]? = some x) (b:N[j]? = some x):i=j:=by
 obtain ⟨h1,e1⟩:=List.getElem?_eq_some_iff.mp a
 obtain ⟨h2,e2⟩:=List.getElem?_eq_some_iff.mp b
 exact (List.getElem_inj hN).mp (e1.trans e2.symm)
theorem a9r {M:Model} {A:Around} {E:Value→Shared→Prop} {i:Nat} {x:Str} {v:V} {u:Value} {Q:Unit→Shared→Prop} (I:Inv X pins σ H s) (hN:X.N.Nodup) (hi:X.N[i]? = some x) (hx:Loc X.env.scope x) (r:RelV v u)
  (h:∀ s',Inv X pins (σ.set i (some v)) H s'→(∃ a,Heap.SameBut a s.heap s'.heap∧(a=X.env.locals∨X.env.cells.lookup x=some a))→Q () s') (hf:X.fn x=true∨X.env.scope.names.lookup x=some .local:=by first | exact .inl rfl | exact .inr rfl | assumption):wpAny M A (storeName X.env x u) Q E s:=by
 obtain ⟨m,hn,hl⟩:=id I.loc
 have hcls:(X.env.scope.kind == .class || (X.env.scope.kind == .module && X.env.locals != X.env.globals))=false:=by rw [I.ok.kind];rfl
 have hiσ:i<σ.length:=by rw [I.len];exact (List.getElem?_eq_some_iff.mp hi).1
 have cne:=I.cne
 have tracked:∀ {a:Addr} {h':Heap},(∃ o,s.heap.get? a=some o∧H a=none)→Heap.SameBut a s.heap h'→HOk X.prog X.w H h':=fun {a h'} ha hs b ob e=>by
  obtain ⟨_,_,hfree⟩:=ha
  refine (I.hok b ob e).stay (fun c w' hc q=>(hs.2 c ?_).trans q) (fun _ q=>q) fun _ _ q=>q
  rintro rfl
  rcases hc with rfl | hc
  ·rw [hfree] at e;cases e
  ·rw [hfree] at hc;cases hc
 rcases hx with hk | hk
 ·refine wpAny_storeName_local hk hn (fun h' hn' hs=>?_) hcls
  obtain ⟨oL,_,_,hoL,_⟩:=id hn
  refine h _ ⟨I.ok,I.os,I.bare,⟨fun b o e n hb hx=>?_,fun b o e n hb hx=>?_,I.base.free,fun b o e hx=>?_,I.base.tups,I.base.frzs,I.base.tbls⟩,⟨_,hn',fun j y v' e1 e2 e3=>?_⟩,fun y c e=>?_,I.free,I.freeC,fun p hp=>?_,tracked ⟨oL,hoL,I.free⟩ hs,by simpa using I.len⟩ ⟨_,hs, .inl rfl⟩
  ·exact (hs.2 b (Nat.ne_of_lt (Nat.lt_of_lt_of_le (Heap.lt_size e) I.ok.above))).trans (I.base.keep b o e n hb hx)
  ·obtain ⟨sl,e1⟩:=I.base.slot b o e n hb hx
   exact ⟨sl,(hs.2 b (Nat.ne_of_lt (Nat.lt_of_lt_of_le (Heap.lt_size e) I.ok.above))).trans e1⟩
  ·obtain ⟨o',e1⟩:=I.base.there b o e hx
   exact ⟨o',(hs.2 b (Nat.ne_of_lt (Nat.lt_of_lt_of_le (Heap.lt_size e) I.ok.above))).trans e1⟩
  ·by_cases hj:j=i
   ·subst hj
    rw [hi] at e1;cases e1
    rw [List.getElem?_set_self hiσ] at e2
    cases e2
    exact ⟨u,r, .inl ⟨hk,by simp⟩⟩
   ·rw [List.getElem?_set_ne (Ne.symm hj)] at e2
    obtain ⟨u',r',q⟩:=hl j y v' e1 e2 e3
    refine ⟨u',r',?_⟩
    rcases q with ⟨k,e⟩ | ⟨k,c,e,z⟩
    ·refine .inl ⟨k,?_⟩
     have:y≠x:=fun e=>hj (a8d hN e1 (e ▸ hi))
     simp [this,e]
    ·exact .inr ⟨k,c,e,z.sameBut hs (cne y c e)⟩
  ·obtain ⟨w',z⟩:=I.cell y c e
   exact ⟨w',z.sameBut hs (cne y c e)⟩
  ·obtain ⟨e,n,ne,nf,d⟩:=I.pin p hp
   exact ⟨(hs.2 p.1 ne).trans e,n,ne,nf,d⟩
 ·have hfn:X.fn x=true:=by
   rcases hf with z | z
   ·exact z
   ·rw [z] at hk;cases hk
  obtain ⟨c,hc⟩:=I.ok.has x (.inl hk)
  obtain ⟨w',z⟩:=I.cell x c hc
  refine wpAny_storeName_cell I.ok.kind hk hc z (fun h' hc' hs=>?_)
  obtain ⟨oc,hoc,hocd⟩:=id z
  refine h { s with heap:=h' } ⟨I.ok,I.os,I.bare,⟨fun b o e n hb hx=>?_,fun b o e n hb hx=>?_,I.base.free,fun b o e hx=>?_,I.base.tups,I.base.frzs,I.base.tbls⟩,⟨m,hn.sameBut hs (Ne.symm (cne x c hc)),fun j y v' e1 e2 e3=>?_⟩,fun y c' e=>?_,I.free,I.freeC,fun p hp=>?_,tracked ⟨oc,hoc,I.freeC x c hc⟩ hs,by simpa using I.len⟩ ⟨c,hs, .inr hc⟩
  ·exact (hs.2 b (Nat.ne_of_lt (Nat.lt_of_lt_of_le (Heap.lt_size e) (I.ok.cab x c hfn hc)))).trans (I.base.keep b o e n hb hx)
  ·obtain ⟨sl,e1⟩:=I.base.slot b o e n hb hx
   exact ⟨sl,(hs.2 b (Nat.ne_of_lt (Nat.lt_of_lt_of_le (Heap.lt_size e) (I.ok.cab x c hfn hc)))).trans e1⟩
  ·obtain ⟨o',e1⟩:=I.base.there b o e hx
   exact ⟨o',(hs.2 b (Nat.ne_of_lt (Nat.lt_of_lt_of_le (Heap.lt_size e) (I.ok.cab x c hfn hc)))).trans e1⟩
  ·by_cases hj:j=i
   ·subst hj
    rw [hi] at e1;cases e1
    rw [List.getElem?_set_self hiσ] at e2
    cases e2
    exact ⟨u,r, .inr ⟨.inl hk,c,hc,hc'⟩⟩
   ·rw [List.getElem?_set_ne (Ne.symm hj)] at e2
    obtain ⟨u',r',q⟩:=hl j y v' e1 e2 e3
    refine ⟨u',r',?_⟩
    rcases q with q | ⟨k,c',e,z'⟩
    ·exact .inl q
    ·refine .inr ⟨k,c',e,z'.sameBut hs ?_⟩
     rintro rfl
     exact hj (a8d hN e1 (I.ok.inj _ _ _ e hc ▸ hi))
  ·by_cases hcc:c'=c
   ·subst hcc;exact ⟨_,hc'⟩
   ·obtain ⟨w2,z2⟩:=I.cell y c' e
    exact ⟨w2,z2.sameBut hs hcc⟩
  ·obtain ⟨e,n,ne,nf,d⟩:=I.pin p hp
   refine ⟨(hs.2 p.1 ?_).trans e,n,ne,nf,d⟩
   intro q
   rw [q,hoc] at e
   have q':oc=p.2:=Option.some.inj e
   exact d w' (by rw [← q'];exact hocd)
theorem a5z {M:Model} {A:Around} {E:Value→Shared→Prop} {i:Nat} {x:Str} {v:V} {u:Value} {Q:Unit→Shared→Prop} (I:Inv X pins σ H s) (hN:X.N.Nodup) (hi:X.N[i]? = some x) (hx:Loc X.env.scope x) (r:RelV v u)
  (h:∀ s',Inv X pins (σ.set i (some v)) H s'→Q () s') (hf:X.fn x=true∨X.env.scope.names.lookup x=some .local:=by first | exact .inl rfl | exact .inr rfl | assumption):wpAny M A (storeName X.env x u) Q E s :=
 a9r I hN hi hx r (fun s' I' _=>h s' I') hf
theorem Inv.call' {s':Shared} {ch:List Addr} (I:Inv X pins σ H s) (ho:s'.os=s.os) (u:Un (frs X.stack) ch H H' s.heap s'.heap) (hok:HOk X.prog X.w H' s'.heap) (hg:AllBare s'.gens)
  (hch:∀ b∈ch,(b∈X.ex∨X.s₀.heap.objs.size≤b)∧b≠X.env.locals∧(∀ x c,X.env.cells.lookup x=some c→c≠b)∧∀ p∈X.pn++pins,p.1≠b):Inv X pins σ H' s':=by
 obtain ⟨h',g',d',t',o'⟩:=s'
 have e:o'=s.os:=ho
 subst e
 exact I.call (g':=g') (t':=t') (d':=d') u hok hg hch
end
abbrev XK:=Value→Option Addr→Hp→Prop
abbrev St:=List (Option V)
abbrev VK:=V→Hp→Prop
abbrev TE:=St→Hp→VK→Prop
abbrev TT:=St→Hp→(Bool→Hp→Prop)→Prop
abbrev TA:=St→Hp→(List V→Hp→Prop)→Prop
structure Ends where
 nx:St→Hp→Prop
 rt:VK
 bk:St→Hp→Prop:=fun _ _=>False
 ct:St→Hp→Prop:=fun _ _=>False
abbrev TS:=Ends→St→Hp→Prop
def EP (X:Cx) (pins:List (Addr × Obj)) (σ:St) (Q:VK) (u:Value) (s':Shared):Prop:=∃ v H',Inv X pins σ H' s'∧RelV v u∧Q v H'
def TP (X:Cx) (pins:List (Addr × Obj)) (σ:St) (Q:Bool→Hp→Prop) (b:Bool) (s':Shared):Prop:=∃ H',Inv X pins σ H' s'∧Q b H'
def AP (X:Cx) (pins:List (Addr × Obj)) (σ:St) (Q:List V→Hp→Prop) (us:List Value) (s':Shared):Prop:=∃ vs H',Inv X pins σ H' s'∧Vals vs us∧Q vs H'
def SP (X:Cx) (pins:List (Addr × Obj)) (D:Ends) (f:Flow) (s':Shared):Prop :=
 match f with
 | .next=>∃ σ' H',Inv X pins σ' H' s'∧D.nx σ' H'
 | .brk=>∃ σ' H',Inv X pins σ' H' s'∧D.bk σ' H'
 | .cont=>∃ σ' H',Inv X pins σ' H' s'∧D.ct σ' H'
 | .ret u=>∃ v σ' H',Inv X pins σ' H' s'∧RelV v u∧D.rt v H'
def PE (X:Cx) (e:Expr) (t:TE):Prop :=
 ∀ (pins:List (Addr × Obj)) (s:Shared) (σ:St) (H:Hp) (Q:VK),Inv X pins σ H s→t σ H Q→wpAny (model X.prog X.w) X.A (eval e X.env) (EP X pins σ Q) X.xe s
def PT (X:Cx) (e:Expr) (t:TT):Prop :=
 ∀ (pins:List (Addr × Obj)) (s:Shared) (σ:St) (H:Hp) (Q:Bool→Hp→Prop),Inv X pins σ H s→t σ H Q→wpAny (model X.prog X.w) X.A (isTrue e X.env (eval e X.env)) (TP X pins σ Q) X.xe s
def PW (X:Cx) (e:Expr) (t:TT):Prop :=
 ∀ (whole:Sem Value) (pins:List (Addr × Obj)) (s:Shared) (σ:St) (H:Hp) (Q:Bool→Hp→Prop),Inv X pins σ H s→t σ H Q→wpAny (model X.prog X.w) X.A (isTrue e X.env whole) (TP X pins σ Q) X.xe s
theorem PW.pt {X:Cx} {e:Expr} {t:TT} (h:PW X e t):PT X e t:=h _
def PA (X:Cx) (es:List Expr) (t:TA):Prop :=
 ∀ (pos:Pos) (pins:List (Addr × Obj)) (s:Shared) (σ:St) (H:Hp) (Q:List V→Hp→Prop),Inv X pins σ H s→t σ H Q→wpAny (model X.prog X.w) X.A (spliced (backTo pos (starEach es X.env))) (AP X pins σ Q) X.xe s
def PS (X:Cx) (st:Stmt) (t:TS):Prop :=
 ∀ (pins:List (Addr × Obj)) (s:Shared) (σ:St) (H:Hp) (D:Ends),Inv X pins σ H s→t D σ H→wpAny (model X.prog X.w) X.A (exec st X.env) (SP X pins D) X.xe s
def PSs (X:Cx) (st:List Stmt) (t:TS):Prop :=
 ∀ (pins:List (Addr × Obj)) (s:Shared) (σ:St) (H:Hp) (D:Ends),Inv X pins σ H s→t D σ H→wpAny (model X.prog X.w) X.A (execs st X.env) (SP X pins D) X.xe s
theorem thn {α:Type} {t:Sem α} {Q Q':α→Shared→Prop} {M:Model} {A:Around} {E:Value→Shared→Prop} {s:Shared} (h:wpAny M A t Q E s) (hQ:∀ a s,Q a s→Q' a s):wpAny M A t Q' E s:=wpAny_mono h hQ fun _ _ x=>x
end L2
namespace L2
open PySem PySem.Spec PyProof.Rows
section
variable {X:Cx}
def ayk (i:Nat):TE:=fun σ H Q=>∃ v,σ[i]? = some (some v)∧Q v H
def tC (v:V):TE:=fun _ H Q=>Q v H
theorem afg {i:Nat} {x:Str} {pos:Pos} (hN:X.N[i]? = some x) (hv:Vis X.env.scope x) (hd:(x == ("__debug__" : Str))=false:=by decide) (hcd:(x == ("__classdict__" : Str))=false:=by decide):PE X (.Name x pos) (ayk i):=by
 intro pins s σ H Q I h
 obtain ⟨v,e,h⟩:=h
 obtain ⟨m,hn,hl⟩:=I.loc
 obtain ⟨u,r,l⟩:=hl i x v hN e hv
 have fin:EP X pins σ Q u s:=⟨v,H,I,r,h⟩
 rcases l with ⟨hk,hm⟩ | ⟨hk,c,hc,hcell⟩
 ·exact wpAny_Name (wpAny_loadName_local I.ok.kind hk hn hm fin) hd
 ·rcases hk with hk | hk
  ·exact wpAny_Name (wpAny_loadName_cell I.ok.kind hk hc hcell fin) hd
  ·exact wpAny_Name (wpAny_loadName_free I.ok.kind hk hc hcell fin hcd) hd
theorem aqo {i j pos}:PE X (.Constant (.int i) j pos) (tC (.int i)):=fun _ _ _ H _ I h=>wpAny_Constant_int ⟨.int i,H,I.tok _,⟨_,rfl⟩,h⟩
theorem avw {b j pos}:PE X (.Constant (.bool b) j pos) (tC (.bl b)):=fun _ _ _ H _ I h=>Constant_bool ⟨.bl b,H,I,rfl,h⟩
theorem aqp {j pos}:PE X (.Constant .none j pos) (tC .non):=fun _ _ _ H _ I h=>Constant_none ⟨.non,H,I,rfl,h⟩
theorem aqq {x j pos}:PE X (.Constant (.str x) j pos) (tC (.str x)):=fun _ _ _ H _ I h=>Calls.Constant_str ⟨.str x,H,I.tok _,⟨_,rfl⟩,h⟩
def Gl (X:Cx) (x:Str):Prop:=X.env.kindOf x=some .globalImplicit
theorem a4l {E:Value→Shared→Prop} {pins:List (Addr × Obj)} {s:Shared} {σ:St} {H:Hp} {x:Str} {u:Value} {pos:Pos} {Q:Value→Shared→Prop} (I:Inv X pins σ H s) (hg:Gl X x) (hm:X.mg x=some u) (h:Q u s)
  (hd:(x == ("__debug__" : Str))=false:=by decide):wpAny (model X.prog X.w) X.A (eval (.Name x pos) X.env) Q E s :=
 Calls.Name_function_global I.ok.kind hg (Calls.loadGlobal_global (by rw [I.ok.glob];exact I.mod.glob.keeps I.bk) hm h) hd
theorem a9s {E:Value→Shared→Prop} {pins:List (Addr × Obj)} {s:Shared} {σ:St} {H:Hp} {x:Str} {u:Value} {pos:Pos} {Q:Value→Shared→Prop} (I:Inv X pins σ H s) (hg:Gl X x) (hm:X.mg x=none) (hv:bootBuiltins x=some u) (h:Q u s)
  (hn:x ≠ "__name__":=by decide) (hd:(x == ("__debug__" : Str))=false:=by decide):wpAny (model X.prog X.w) X.A (eval (.Name x pos) X.env) Q E s:=by
 obtain ⟨mb,h1,h2⟩:=I.mod.blt
 exact Calls.Name_function_global I.ok.kind hg (Calls.loadGlobal_builtin (by rw [I.ok.glob];exact I.mod.glob.keeps I.bk) hm (by rw [I.ok.blt];exact h1.keeps I.bk) ((h2 x hn).trans hv) h) hd
theorem a0s {x:Str} {v:V} {u:Value} {pos:Pos} (hg:Gl X x) (hm:X.mg x=some u) (r:RelV v u) (hd:(x == ("__debug__" : Str))=false:=by decide):PE X (.Name x pos) (tC v) :=
 fun _ _ _ H _ I h=>a4l I hg hm ⟨v,H,I,r,h⟩ hd
theorem afh {x:Str} {v:V} {u:Value} {pos:Pos} (hg:Gl X x) (hm:X.mg x=none) (hv:bootBuiltins x=some u) (r:RelV v u) (hn:x ≠ "__name__":=by decide) (hd:(x == ("__debug__" : Str))=false:=by decide):PE X (.Name x pos) (tC v) :=
 fun _ _ _ H _ I h=>a9s I hg hm hv ⟨v,H,I,r,h⟩ hn hd
variable {a b:Expr} {ta tb:TE} {pos:Pos}
variable {tA tB':TT} {rest:List Expr}
def ayl (t u:TT):TT:=fun σ H Q=>t σ H fun c H1=>if c=true then u σ H1 Q else Q false H1
def tOr (t u:TT):TT:=fun σ H Q=>t σ H fun c H1=>if c=true then Q true H1 else u σ H1 Q
def aym (t:TT):TT:=fun σ H Q=>t σ H fun c H1=>Q (!c) H1
theorem ams (ha:PT X a tA):PW X (.BoolOp .And [a] pos) tA:=by
 intro wh pins s σ H Q I h
 refine isTrue_and (thn (ha pins s σ H Q I h) fun c s1 e=>?_)
 cases c with
 | true=>exact isTrue_and_nil e
 | false=>exact e
theorem aqr (ha:PT X a tA):PW X (.BoolOp .Or [a] pos) tA:=by
 intro wh pins s σ H Q I h
 refine isTrue_or (thn (ha pins s σ H Q I h) fun c s1 e=>?_)
 cases c with
 | false=>exact isTrue_or_nil e
 | true=>exact e
theorem aqs (ha:PT X a tA) (hb:PW X (.BoolOp .And (b::rest) pos) tB'):PW X (.BoolOp .And (a::b::rest) pos) (ayl tA tB'):=by
 intro wh pins s σ H Q I h
 refine isTrue_and (thn (ha pins s σ H _ I h) fun c s1 ⟨H1,I1,q1⟩=>?_)
 cases c with
 | true=>exact hb wh pins s1 σ H1 Q I1 q1
 | false=>exact ⟨H1,I1,q1⟩
theorem avx (ha:PT X a tA) (hb:PW X (.BoolOp .Or (b::rest) pos) tB'):PW X (.BoolOp .Or (a::b::rest) pos) (tOr tA tB'):=by
 intro wh pins s σ H Q I h
 refine isTrue_or (thn (ha pins s σ H _ I h) fun c s1 ⟨H1,I1,q1⟩=>?_)
 cases c with
 | true=>exact ⟨H1,I1,q1⟩
 | false=>exact hb wh pins s1 σ H1 Q I1 q1
theorem aqt (ha:PT X a tA):PT X (.UnaryOp .Not a pos) (aym tA):=by
 intro pins s σ H Q I h
 exact isTrue_not (ha pins s σ H (fun c H1=>Q (!c) H1) I h)
def avy (ta tb:TE):TE:=fun σ H Q=>ta σ H fun x H1=>∃ c,x = .bl c∧if c=true then tb σ H1 Q else Q (.bl false) H1
def avz (ta:TE):TE:=fun σ H Q=>ta σ H fun x H1=>∃ c,x = .bl c∧Q (.bl (!c)) H1
theorem aqu {op} {t:TE} (h:PE X a t):PE X (.BoolOp op [a] pos) t:=fun pins s σ H Q I hw=>BoolOp_one (h pins s σ H Q I hw)
theorem aqv (ha:PE X a ta) (hb:PE X (.BoolOp .And (b::rest) pos) tb):PE X (.BoolOp .And (a::b::rest) pos) (avy ta tb):=by
 intro pins s σ H Q I h
 refine BoolOp_and (thn (ha pins s σ H _ I h) fun v s1 ⟨x,H1,I1,r1,q1⟩=>?_)
 obtain ⟨c,rfl,q1⟩:=q1
 cases r1
 refine wpAny_truthy_bool ?_
 cases c with
 | true=>exact hb pins s1 σ H1 Q I1 q1
 | false=>exact ⟨.bl false,H1,I1,rfl,q1⟩
theorem aqw (ha:PE X a ta):PE X (.UnaryOp .Not a pos) (avz ta):=by
 intro pins s σ H Q I h
 refine UnaryOp_ (thn (ha pins s σ H _ I h) fun v s1 ⟨x,H1,I1,r1,q1⟩=>?_)
 obtain ⟨c,rfl,q1⟩:=q1
 cases r1
 exact not_of (wpAny_truthy_bool ⟨.bl (!c),H1,I1,rfl,q1⟩)
end
end L2
namespace L2
open PySem PySem.Spec PyProof.Rows
def SqL (K:PySem.W.Frag) (H:Hp) (a:Addr) (xs:List V):Prop :=
 Rd H a (.lst xs) ∨
  ∃ (o:Obj) (its:Array Value) (n:Nat),K.lookup a=some o∧o.cls = .type "list"∧o.dict=none∧o.data = .seq its n∧its.size≤sizeLine∧Vals xs its.toList
def SqT (K:PySem.W.Frag) (H:Hp) (a:Addr) (xs:List V):Prop :=
 Rd H a (.tup xs) ∨
  ∃ (o:Obj) (its:Array Value) (n:Nat),K.lookup a=some o∧o.cls = .type "tuple"∧o.data = .seq its n∧its.size≤sizeLine∧Vals xs its.toList
def ayn:Value→Option V
 | .none=>some .non
 | .bool b=>some (.bl b)
 | .int i _=>some (.int i)
 | .str x _=>some (.str x)
 | .bytes b _=>some (.byt b)
 | .float b _=>some (.flt b)
 | .ref a=>some (.ref a)
 | .type n=>some (.ty n)
 | _=>none
theorem RelV.abs {x:V} {u:Value} (r:RelV x u):ayn u=some x:=by
 cases x with
 | non=>cases r;rfl
 | bl _=>cases r;rfl
 | int _=>obtain ⟨t,rfl⟩:=r;rfl
 | str _=>obtain ⟨t,rfl⟩:=r;rfl
 | byt _=>obtain ⟨t,rfl⟩:=r;rfl
 | flt _=>obtain ⟨t,rfl⟩:=r;rfl
 | ref _=>cases r;rfl
 | ty _=>cases r;rfl
theorem RelV.inj {x y:V} {u:Value} (r:RelV x u) (q:RelV y u):x=y:=Option.some.inj (r.abs.symm.trans q.abs)
theorem Vals.inj:∀ {xs ys:List V} {us:List Value},Vals xs us→Vals ys us→xs=ys
 | _,_,_, .nil, .nil=>rfl
 | _,_,_, .cons r t, .cons r' t'=>by rw [r.inj r',Vals.inj t t']
section
variable {X:Cx} {pins:List (Addr × Obj)} {σ:St} {H:Hp} {s:Shared} {a:Addr} {xs ys:List V}
theorem SqL.of {K:PySem.W.Frag} (h:H a=some (.lst xs)):SqL K H a xs:=.inl (.inl h)
theorem SqT.of {K:PySem.W.Frag} (h:H a=some (.tup xs)):SqT K H a xs:=.inl (.inl h)
theorem Inv.list (I:Inv X pins σ H s) (h:SqL X.K H a xs):∃ its:List Value,Vals xs its∧PlainL s.heap a its.toArray∧xs.length≤sizeLine:=by
 rcases h with h | ⟨o,its,n,hk,hc,hd,hs,hz,r⟩
 ·obtain ⟨z,its,n,r,e⟩:=h.ok I.hok
  exact ⟨its,r,⟨_,n,e,rfl,rfl,rfl⟩,z⟩
 ·refine ⟨its.toList,r,⟨o,n,I.kIn a o hk,hc,hd,by simpa using hs⟩,?_⟩
  have e:=r.length
  simp only [Array.length_toList] at e
  omega
theorem Inv.tuple (I:Inv X pins σ H s) (h:SqT X.K H a xs):∃ its:List Value,Vals xs its∧IsTup s.heap a its.toArray∧xs.length≤sizeLine:=by
 rcases h with h | ⟨o,its,n,hk,hc,hs,hz,r⟩
 ·obtain ⟨z,its,r,p⟩:=h.ok I.hok
  exact ⟨its,r,p,z⟩
 ·refine ⟨its.toList,r,⟨o,I.kIn a o hk,hc,n,by simpa using hs⟩,?_⟩
  have e:=r.length
  simp only [Array.length_toList] at e
  omega
theorem Inv.list_inj (I:Inv X pins σ H s) (h:SqL X.K H a xs) (h':SqL X.K H a ys):xs=ys:=by
 obtain ⟨its,r,⟨o,n,e,_,_,d⟩,_⟩:=I.list h
 obtain ⟨its',r',⟨o',n',e',_,_,d'⟩,_⟩:=I.list h'
 rw [e] at e';cases e'
 rw [d] at d'
 injection d' with d1 _
 have:its=its':=by simpa using congrArg Array.toList d1
 subst this
 exact r.inj r'
theorem Inv.tuple_inj (I:Inv X pins σ H s) (h:SqT X.K H a xs) (h':SqT X.K H a ys):xs=ys:=by
 obtain ⟨its,r,⟨o,e,_,n,d⟩,_⟩:=I.tuple h
 obtain ⟨its',r',⟨o',e',_,n',d'⟩,_⟩:=I.tuple h'
 rw [e] at e';cases e'
 rw [d] at d'
 injection d' with d1 _
 have:its=its':=by simpa using congrArg Array.toList d1
 subst this
 exact r.inj r'
end
abbrev Cx.wish (X:Cx) (E:Value→Shared→Prop):Cx:={ X with xe:=E }
abbrev Cx.nox (X:Cx):Cx:=X.wish fun _ _=>False
theorem Cx.Ok.wish {X:Cx} (ok:X.Ok) (E:Value→Shared→Prop):(X.wish E).Ok :=
 ⟨ok.mod,ok.kind,ok.glob,ok.blt,ok.above,ok.inj,ok.has,ok.cab,ok.hd,ok.frames,ok.stk,ok.exf,ok.bs,ok.bsz,ok.noex,ok.exfs,ok.funs,ok.frf⟩
theorem Cx.Ok.unwish {X:Cx} {E:Value→Shared→Prop} (ok:(X.wish E).Ok):X.Ok :=
 ⟨ok.mod,ok.kind,ok.glob,ok.blt,ok.above,ok.inj,ok.has,ok.cab,ok.hd,ok.frames,ok.stk,ok.exf,ok.bs,ok.bsz,ok.noex,ok.exfs,ok.funs,ok.frf⟩
section
variable {X:Cx} {pins:List (Addr × Obj)} {σ:St} {H:Hp} {s:Shared} {E:Value→Shared→Prop}
theorem Inv.wish (I:Inv X pins σ H s) (E:Value→Shared→Prop):Inv (X.wish E) pins σ H s:=⟨I.ok.wish E,I.os,I.bare,I.base,I.loc,I.cell,I.free,I.freeC,I.pin,I.hok,I.len⟩
theorem Inv.unwish (I:Inv (X.wish E) pins σ H s):Inv X pins σ H s:=⟨I.ok.unwish,I.os,I.bare,I.base,I.loc,I.cell,I.free,I.freeC,I.pin,I.hok,I.len⟩
theorem SP.unwish {D:Ends} {f:Flow} {s':Shared} (h:SP (X.wish E) pins D f s'):SP X pins D f s':=by
 cases f with
 | next=>obtain ⟨σ',H',I,q⟩:=h;exact ⟨σ',H',I.unwish,q⟩
 | brk=>obtain ⟨σ',H',I,q⟩:=h;exact ⟨σ',H',I.unwish,q⟩
 | cont=>obtain ⟨σ',H',I,q⟩:=h;exact ⟨σ',H',I.unwish,q⟩
 | ret u=>obtain ⟨v,σ',H',I,r,q⟩:=h;exact ⟨v,σ',H',I.unwish,r,q⟩
theorem PSs.nox {st:List Stmt} {t:TS} (h:PSs X.nox st t):PSs X st t:=fun pins s σ H D I hw =>
 wpAny_mono (h pins s σ H D (I.wish _) hw) (fun _ _ q=>q.unwish) fun _ _ z=>False.elim z
end
section
variable {X:Cx} {st:Stmt} {rest:List Stmt} {t u:TS} {e:Expr} {te:TE} {pos:Pos}
def aw0:TS:=fun D σ H=>D.nx σ H
def ayo (t u:TS):TS:=fun D σ H=>t { D with nx:=u D } σ H
theorem amt:PSs X [] aw0:=fun _ _ σ H _ I h=>wpAny_execs_nil ⟨σ,H,I,h⟩
theorem aiu (h1:PS X st t) (h2:PSs X rest u):PSs X (st::rest) (ayo t u):=by
 intro pins s σ H D I h
 refine wpAny_execs_cons (thn (h1 pins s σ H { D with nx:=u D } I h) fun f s1 q=>?_)
 cases f with
 | next =>
  obtain ⟨σ',H',I',q⟩:=q
  exact h2 pins s1 σ' H' D I' q
 | ret v=>exact q
 | brk=>exact q
 | cont=>exact q
theorem amu (h1:PS X st t):PSs X [st] t:=by
 intro pins s σ H D I h
 refine wpAny_execs_cons (thn (h1 pins s σ H D I h) fun f s1 q=>?_)
 cases f with
 | next=>exact wpAny_execs_nil q
 | ret v=>exact q
 | brk=>exact q
 | cont=>exact q
theorem Inv.quiet {pins:List (Addr × Obj)} {σ:St} {H:Hp} {s:Shared} (I:Inv X pins σ H s):interactive X.env=false:=by simp [interactive,I.ok.kind]
def aw1 (te:TE):TS:=fun D σ H=>te σ H fun _ H1=>D.nx σ H1
theorem amv (he:PE X e te) (hs:swapsWith e none pos.line X.env=pure false:=by rfl):PS X (.Expr e pos) (aw1 te):=by
 intro pins s σ H D I h
 exact wpAny_Expr_any (thn (he pins s σ H _ I h) fun v s1 ⟨x,H1,I1,r1,q1⟩=>⟨σ,H1,I1,q1⟩) I.quiet hs
def ayp (te:TE):TS:=fun D σ H=>te σ H D.rt
theorem aqx (he:PE X e te):PS X (.Return (some e) pos) (ayp te):=by
 intro pins s σ H D I h
 exact wpAny_Return_some (thn (he pins s σ H _ I h) fun v s1 ⟨x,H1,I1,r1,q1⟩=>⟨x,σ,H1,I1,r1,q1⟩)
def ayq (c:TT) (t u:TS):TS:=fun D σ H=>c σ H fun b H1=>if b=true then t D σ H1 else u D σ H1
theorem aw2 {c:Expr} {a b:List Stmt} {tc:TT} (hc:PT X c tc) (ha:PSs X a t) (hb:PSs X b u):PS X (.If c a b pos) (ayq tc t u):=by
 intro pins s σ H D I h
 refine wpAny_If (thn (hc pins s σ H _ I h) fun d s1 ⟨H1,I1,q1⟩=>?_)
 cases d with
 | true=>exact ha pins s1 σ H1 D I1 q1
 | false=>exact hb pins s1 σ H1 D I1 q1
end
abbrev TG:=V→St→Hp→(St→Hp→Prop)→Prop
abbrev TGs:=List V→St→Hp→(St→Hp→Prop)→Prop
def PG (X:Cx) (target:Expr) (t:TG):Prop :=
 ∀ (pins:List (Addr × Obj)) (s:Shared) (σ:St) (H:Hp) (v:V) (u:Value) (Q:St→Hp→Prop),Inv X pins σ H s→RelV v u→t v σ H Q →
  wpAny (model X.prog X.w) X.A (assign target X.env u) (fun _ s'=>∃ σ' H',Inv X pins σ' H' s'∧Q σ' H') X.xe s
def PGs (X:Cx) (ts:List Expr) (t:TGs):Prop :=
 ∀ (pins:List (Addr × Obj)) (s:Shared) (σ:St) (H:Hp) (vs:List V) (us:List Value) (Q:St→Hp→Prop),Inv X pins σ H s→Vals vs us→t vs σ H Q →
  wpAny (model X.prog X.w) X.A (assignInOrder ((assignEach ts X.env).map (·.2)) us) (fun _ s'=>∃ σ' H',Inv X pins σ' H' s'∧Q σ' H') X.xe s
abbrev aw3:=V→V→V→Hp→(Hp→Prop)→Prop
def axo (X:Cx) (t:aw3):Prop :=
 ∀ (pins:List (Addr × Obj)) (s:Shared) (σ:St) (H:Hp) (o i v:V) (ov iv u:Value) (Q:Hp→Prop),Inv X pins σ H s→RelV o ov→RelV i iv→RelV v u→t o i v H Q →
  wpAny (model X.prog X.w) X.A (setItem ov iv u) (fun _ s'=>∃ H',Inv X pins σ H' s'∧Q H') X.xe s
abbrev TIp:=V→V→Hp→VK→Prop
def PIp (X:Cx) (op:Operator) (t:TIp):Prop :=
 ∀ (pins:List (Addr × Obj)) (s:Shared) (σ:St) (H:Hp) (x y:V) (v u:Value) (Q:VK),Inv X pins σ H s→RelV x v→RelV y u→t x y H Q →
  wpAny (model X.prog X.w) X.A (inplaceOp op v u) (EP X pins σ Q) X.xe s
section
variable {X:Cx} {pos:Pos}
def ae3 (i:Nat):TG:=fun v σ H Q=>Q (σ.set i (some v)) H
theorem xu {i:Nat} {x:Str} (hN:X.N.Nodup) (hi:X.N[i]? = some x) (hx:Loc X.env.scope x) (hf:X.fn x=true∨X.env.scope.names.lookup x=some .local:=by first | exact .inl rfl | exact .inr rfl | assumption):PG X (.Name x pos) (ae3 i):=by
 intro pins s σ H v u Q I r h
 exact wpAny_assign_Name (a5z I hN hi hx r (fun s' I'=>⟨_,H,I',h⟩) hf)
def ayr:TGs:=fun vs σ H Q=>vs=[]∧Q σ H
def aqy (t:TG) (u:TGs):TGs:=fun vs σ H Q=>∃ v r,vs=v::r∧t v σ H fun σ' H'=>u r σ' H' Q
theorem amw:PGs X [] ayr:=by
 intro pins s σ H vs us Q I r h
 obtain ⟨e,h⟩:=h
 subst e
 cases r
 exact assignInOrder_nil ⟨σ,H,I,h⟩
theorem aiv {e:Expr} {es:List Expr} {t:TG} {u:TGs} (h1:PG X e t) (h2:PGs X es u)
  (hs:(assignEach (e::es) X.env).map (·.2)=assign e X.env::(assignEach es X.env).map (·.2):=by rfl):PGs X (e::es) (aqy t u):=by
 intro pins s σ H vs us Q I r h
 obtain ⟨v,vr,e1,h⟩:=h
 subst e1
 cases r with
 | cons r rr =>
  rw [hs]
  refine assignInOrder_cons (thn (h1 pins s σ H _ _ _ I r h) fun _ s1 ⟨σ1,H1,I1,q1⟩=>?_)
  exact h2 pins s1 σ1 H1 _ _ Q I1 rr q1
def kh (K:PySem.W.Frag) (n:Nat) (t:TGs):TG:=fun v σ H Q=>∃ a xs,v = .ref a∧SqT K H a xs∧xs.length=n∧t xs σ H Q
theorem aqz {es:List Expr} {k:Nat} {t:TGs} {n:Nat} (hc:X.calm=true) (h:PGs X es t)
  (hn:(assignEach es X.env).length=n:=by rfl) (hst:(assignEach es X.env).findIdx? (·.1)=none:=by rfl):PG X (.Tuple es k pos) (kh X.K n t):=by
 intro pins s σ H v u Q I r hw
 obtain ⟨a,xs,e1,hq,hl,hw⟩:=hw
 subst e1
 cases r
 obtain ⟨its,rv,ht,hz⟩:=I.tuple hq
 refine assign_Tuple_tuple (I.ok.hd hc) ht (by simp [hn,← hl,rv.length]) hst fun h' hx=>?_
 have I1:Inv X pins σ H { s with heap:=h' }:=I.kept (t':=s.toks) fun b o e=>hx b o (Nat.ne_of_lt (Heap.lt_size e)) e
 exact h pins _ σ H xs _ Q I1 (by simpa using rv) hw
def a7f (to ti:TE) (t:aw3):TG:=fun v σ H Q=>to σ H fun o H1=>ti σ H1 fun i H2=>t o i v H2 fun H3=>Q σ H3
theorem ar0 {o i:Expr} {to ti:TE} {t:aw3} (ho:PE X o to) (hi:PE X i ti) (hs:axo X t)
  (ha:∀ v,assign (.Subscript o i pos) X.env v=(do
   let ov ← holding [v] (eval o X.env)
   let iv ← holding [v,ov] (eval i X.env)
   standAt pos
   holding [v,ov,iv] (setItem ov iv v)
   release [v,ov,iv] []):=by intro _;rfl):PG X (.Subscript o i pos) (a7f to ti t):=by
 intro pins s σ H v u Q I r h
 rw [ha]
 refine wpAny_bind (wpAny_holding (thn (ho pins s σ H _ I h) fun ov s1 ⟨x,H1,I1,r1,q1⟩=>?_))
 refine wpAny_bind (wpAny_holding (thn (hi pins s1 σ H1 _ I1 q1) fun iv s2 ⟨y,H2,I2,r2,q2⟩=>?_))
 refine wpAny_bind (wpAny_standAt (wpAny_bind (wpAny_holding (thn (hs pins s2 σ H2 x y v ov iv u _ I2 r1 r2 r q2) fun _ s3 ⟨H3,I3,q3⟩=>?_))))
 exact wpAny_release ⟨σ,H3,I3,q3⟩
def avi (te:TE) (g:TG):TS:=fun D σ H=>te σ H fun x H1=>g x σ H1 D.nx
theorem alb {tg e:Expr} {te:TE} {g:TG} (he:PE X e te) (hg:PG X tg g) (hs:swapsWithSole [tg] e pos.line X.env=pure false:=by rfl) (hw:swappedStores [tg] e X.env=pure none:=by rfl)
  (h1:(assignEach [tg] X.env).map (·.2)=[assign tg X.env]:=by rfl):PS X (.Assign [tg] e pos) (avi te g):=by
 intro pins s σ H D I h
 refine wpAny_Assign_stores (thn (he pins s σ H _ I h) fun v s1 ⟨x,H1,I1,r1,q1⟩=>?_) hs hw
 rw [h1]
 exact thn (hg pins s1 σ H1 x v _ I1 r1 q1) fun _ s2 q=>q
theorem ar5 {i:Nat} {x:Str} {e:Expr} {te:TE} {pos':Pos} (hN:X.N.Nodup) (hi:X.N[i]? = some x) (hx:Loc X.env.scope x) (he:PE X e te) (hs:swapsWith e (some (.Name x pos')) pos.line X.env=pure false:=by rfl) (hf:X.fn x=true∨X.env.scope.names.lookup x=some .local:=by first | exact .inl rfl | exact .inr rfl | assumption) :
  PS X (.Assign [.Name x pos'] e pos) (avi te (ae3 i)):=by
 intro pins s σ H D I h
 refine wpAny_Assign_Name (thn (he pins s σ H _ I h) fun v s1 ⟨y,H1,I1,r1,q1⟩=>?_) hs
 exact a5z I1 hN hi hx r1 (fun s2 I2=>⟨_,H1,I2,q1⟩) hf
def ays (i:Nat) (te:TE) (ti:TIp):TS:=fun D σ H=>∃ x,σ[i]? = some (some x)∧te σ H fun y H1=>ti x y H1 fun z H2=>D.nx (σ.set i (some z)) H2
theorem ar6 {i:Nat} {x:Str} {e:Expr} {te:TE} {op:Operator} {ti:TIp} {pos':Pos} (hN:X.N.Nodup) (hi:X.N[i]? = some x) (hx:Loc X.env.scope x) (he:PE X e te) (ho:PIp X op ti) (hf:X.fn x=true∨X.env.scope.names.lookup x=some .local:=by first | exact .inl rfl | exact .inr rfl | assumption) :
  PS X (.AugAssign (.Name x pos') op e pos) (ays i te ti):=by
 intro pins s σ H D I h
 obtain ⟨v,e1,h⟩:=h
 obtain ⟨m,hn,hl⟩:=I.loc
 have vis:Vis X.env.scope x:=by rcases hx with k | k;exact .inl k;exact .inr (.inl k)
 obtain ⟨u,r,l⟩:=hl i x v hi e1 vis
 refine wpAny_AugAssign_Name ?_
 have go:wpAny (model X.prog X.w) X.A (eval e X.env) (fun w s₂=>wpAny (model X.prog X.w) X.A (inplaceOp op u w) (fun r s₃=>wpAny (model X.prog X.w) X.A (storeName X.env x r) (fun _=>SP X pins D .next) X.xe s₃) X.xe s₂) X.xe s:=by
  refine thn (he pins s σ H _ I h) fun w s1 ⟨y,H1,I1,r1,q1⟩=>?_
  refine thn (ho pins s1 σ H1 v y u w _ I1 r r1 q1) fun z s2 ⟨zv,H2,I2,r2,q2⟩=>?_
  exact a5z I2 hN hi hx r2 (fun s3 I3=>⟨_,H2,I3,q2⟩) hf
 rcases l with ⟨hk,hm⟩ | ⟨hk,c,hc,hcell⟩
 ·exact wpAny_loadName_local I.ok.kind hk hn hm go
 ·rcases hk with hk | hk
  ·exact wpAny_loadName_cell I.ok.kind hk hc hcell go
  ·rcases hx with k | k
   ·have:X.env.scope.names.lookup x=some .free:=hk
    rw [k] at this;cases this
   ·have:X.env.scope.names.lookup x=some .free:=hk
    rw [k] at this;cases this
end
section
variable {X:Cx} {pos:Pos}
def ar7 (c:TT) (tb:TS):TS:=fun D σ H=>∃ W:Nat→St→Hp→Prop,(∃ m,W m σ H)∧∀ m σ H,W m σ H →
 c σ H fun b H1=>if b=true then ∃ N:St→Hp→Prop,(∀ σ' H',N σ' H'→∃ m',m'<m∧W m' σ' H')∧tb { D with nx:=N,ct:=N,bk:=D.nx } σ H1 else D.nx σ H1
theorem aiw {c:Expr} {body:List Stmt} {tc:TT} {tb:TS} (hp:PassesOwn (model X.prog X.w) X.A X.env X.xe) (hc:PT X c tc) (hb:PSs X body tb):PS X (.While c body [] pos) (ar7 tc tb):=by
 intro pins s σ H D I h
 obtain ⟨W,⟨m0,w0⟩,turn⟩:=h
 refine wpAny_While (codeAny_whileLoop (fun n s'=>∃ σ' H',Inv X pins σ' H' s'∧W n σ' H') ?_ m0 ⟨σ,H,I,w0⟩)
 rintro n s1 ⟨σ1,H1,I1,w1⟩
 refine wpAny_passesOwn hp (thn (hc pins s1 σ1 H1 _ I1 (turn n σ1 H1 w1)) fun b s2 ⟨H2,I2,q2⟩=>?_)
 cases b with
 | true =>
  obtain ⟨N,hN,q2⟩:=q2
  rw [if_pos rfl]
  refine wpAny_passesOwn hp (thn (hb pins s2 σ1 H2 _ I2 q2) fun f s3 q3=>?_)
  cases f with
  | next =>
   obtain ⟨σ3,H3,I3,n3⟩:=q3
   obtain ⟨m',hm,w3⟩:=hN σ3 H3 n3
   exact ⟨m',hm,σ3,H3,I3,w3⟩
  | cont =>
   obtain ⟨σ3,H3,I3,n3⟩:=q3
   obtain ⟨m',hm,w3⟩:=hN σ3 H3 n3
   exact ⟨m',hm,σ3,H3,I3,w3⟩
  | brk=>exact q3
  | ret v=>exact q3
 | false =>
  rw [if_neg Bool.false_ne_true]
  exact wpAny_execs_nil ⟨σ1,H2,I2,q2⟩
end
structure It where
 go:Nat→Hp→Prop
 yld:Nat→Hp→V→Hp→Prop
 stop:Nat→Hp→Prop
def aba (X:Cx) (pins:List (Addr × Obj)) (H:Hp) (b:Addr):Prop :=
 H b=none∧b≠X.env.locals∧b ∉ X.fs∧(b∈X.ex∨X.s₀.heap.objs.size≤b)∧(∀ x c,X.env.cells.lookup x=some c→c≠b)∧∀ p∈X.pn++pins,p.1≠b
theorem Inv.fpOk {X:Cx} {pins:List (Addr × Obj)} {σ:St} {H H':Hp} {s:Shared} {b:Addr} (I:Inv X pins σ H s) (hb:s.heap.objs.size≤b) (hn:H' b=none):aba X pins H' b:=by
 refine ⟨hn,Nat.ne_of_gt (Nat.lt_of_lt_of_le I.lt hb),I.nofs hb, .inr (Nat.le_trans I.sz hb),fun x c e z=>?_,fun p hp z=>?_⟩
 ·obtain ⟨v,q⟩:=I.cell x c e
  exact absurd (Nat.lt_of_lt_of_le q.lt (by rw [z];exact hb)) (Nat.lt_irrefl _)
 ·exact absurd (Nat.lt_of_lt_of_le (Heap.lt_size (I.pin p hp).1) (by rw [z];exact hb)) (Nat.lt_irrefl _)
structure Turn (P:Program) (w:World) (K:PySem.W.Frag) (tg:Expr) (J:It) (fp:List Addr) (it:Addr) (tn:Nat→Heap→Prop):Prop where
 mem:it∈fp
 obj:∀ i h,tn i h→∀ b∈fp,∃ o,h.get? b=some o∧∀ v,o.data≠.cell v
 keep:∀ i h h',tn i h→(∀ b∈fp,∀ o,h.get? b=some o→h'.get? b=some o)→tn i h'
 item:∀ (X:Cx),X.prog=P→X.w=w→X.K=K→X.calm=true→∀ (i:Nat) (pins:List (Addr × Obj)) (s:Shared) (σ:St) (H:Hp) (E:Value→Shared→Prop),Inv X pins σ H s→(∀ b∈fp,aba X pins H b)→tn i s.heap→J.go i H →
  wpAny (model P w) X.A (pyNext (.ref it)) (fun r s1=>∃ u,r=some u ∧
   wpAny (model P w) X.A (letOwnedTupleGo tg (.ref it) u) (fun _ s2=>∃ x H',Inv X pins σ H' s2∧RelV x u∧J.yld i H x H'∧tn (i+1) s2.heap∧∀ b∈fp,H' b=none) E s1) E s
 done:∀ (X:Cx),X.prog=P→X.w=w→X.K=K→X.calm=true→∀ (i:Nat) (pins:List (Addr × Obj)) (s:Shared) (σ:St) (H:Hp) (E:Value→Shared→Prop),Inv X pins σ H s→(∀ b∈fp,aba X pins H b)→tn i s.heap→J.stop i H →
  wpAny (model P w) X.A (pyNext (.ref it)) (fun r s1=>r=none∧Inv X pins σ H s1) E s
 self:∀ (A:Around) (i:Nat) (s:Shared) (Q:Value→Shared→Prop) (E:Value→Shared→Prop),tn i s.heap→Q (.ref it) s→wpAny (model P w) A (pyIter (.ref it)) Q E s
abbrev TI:=St→Hp→(It→Hp→Prop)→Prop
def PIE (X:Cx) (pins:List (Addr × Obj)) (σ:St) (tg:Expr) (R:It→Hp→Prop) (itv:Value) (s2:Shared):Prop :=
 ∃ (it:Addr) (fp:List Addr) (tn:Nat→Heap→Prop) (J:It) (H':Hp),itv = .ref it∧Inv X pins σ H' s2∧Turn X.prog X.w X.K tg J fp it tn∧tn 0 s2.heap∧(∀ b∈fp,aba X pins H' b)∧R J H'
def PI (X:Cx) (tg iter:Expr) (wi:TI):Prop :=
 ∀ (pins:List (Addr × Obj)) (s:Shared) (σ:St) (H:Hp) (R:It→Hp→Prop),Inv X pins σ H s→wi σ H R →
  wpAny (model X.prog X.w) X.A (eval iter X.env) (fun v s1=>wpAny (model X.prog X.w) X.A (pyIter v) (PIE X pins σ tg R) X.xe s1) X.xe s
theorem aix {M:Model} {A:Around} {E:Value→Shared→Prop} {s:Shared} {tg:Expr} {it:Addr} {u:Value} {o:Obj} {n:String} {vs:Array Value} {Q:Unit→Shared→Prop} (ho:s.heap.get? it=some o) (hc:o.cls = .type n) (hd:o.data = .fields vs)
  (hn:["enumerate", "zip", "dict_itemiterator", "dict_reverseitemiterator", "odict_iterator", "itertools.zip_longest", "itertools.pairwise"].contains n=false) (hQ:Q () s):wpAny M A (letOwnedTupleGo tg (.ref it) u) Q E s:=by
 unfold letOwnedTupleGo
 cases tg<;>first
  | exact wpAny_pure hQ
  | (cases u<;>first
    | exact wpAny_pure hQ
    | (refine wpAny_bind (wpAny_load ho ?_)
       rw [hc,hd]
       show wpAny M A (if (["enumerate", "zip", "dict_itemiterator", "dict_reverseitemiterator", "odict_iterator", "itertools.zip_longest", "itertools.pairwise"].contains n && vs[0]? == some (rawInt _))=true then _ else _) Q E s
       rw [if_neg (by intro h;rw [hn,Bool.false_and] at h;cases h)]
       exact wpAny_pure hQ))
def Itl (K:PySem.W.Frag) (a:Addr):It :=
 ⟨fun i H=>∃ xs x,SqL K H a xs∧xs[i]? = some x,fun i H x H'=>H'=H∧∀ xs,SqL K H a xs→xs[i]? = some x,fun i H=>∃ xs,SqL K H a xs∧xs.length≤i⟩
def Itt (K:PySem.W.Frag) (a:Addr):It :=
 ⟨fun i H=>∃ xs x,SqT K H a xs∧xs[i]? = some x,fun i H x H'=>H'=H∧∀ xs,SqT K H a xs→xs[i]? = some x,fun i H=>∃ xs,SqT K H a xs∧xs.length≤i⟩
def Itr (lo:Int) (n:Nat):It:=⟨fun i _=>i<n,fun i H x H'=>H'=H∧x = .int (lo+i),fun i _=>n≤i⟩
theorem afi {P:Program} {w:World} {K:PySem.W.Frag} {tg:Expr} (a it:Addr):Turn P w K tg (Itl K a) [it] it (fun i h=>h.IsListIter it a i) where
 mem:=by simp
 obj:=fun i h st b hb=>by
  have e:b=it:=by simpa using hb
  subst e
  obtain ⟨o,e,c,d⟩:=st
  exact ⟨o,e,fun v z=>by rw [d] at z;cases z⟩
 keep:=fun i h h' st k=>st.at fun o e=>k it (by simp) o e
 item:=by
  intro X hP hw hK hc i pins s σ H E I hf st hg
  subst hP hw hK
  obtain ⟨xs,x,hq,hx⟩:=hg
  obtain ⟨its,rv,p,hz⟩:=I.list hq
  obtain ⟨u,hu,ru⟩:=rv.get hx
  obtain ⟨f0,f1,f2,f3,f4,f5⟩:=hf it (by simp)
  refine wpAny_pyNext_list_item st p.isList (x:=u) (by simpa using hu) fun h' st' sb=>?_
  have I1:Inv X pins σ H { s with heap:=h' }:=I.turned (t':=s.toks) (fun b o hb e=>(sb.2 b hb).trans e) f0 f1 f3 f4 f5
  obtain ⟨o,e,c,d⟩:=id st'
  exact ⟨u,rfl,aix (s:={ s with heap:=h' }) e c d (by decide) ⟨x,H,I1,ru,⟨rfl,fun ys hy=>by rw [I.list_inj hy hq];exact hx⟩,st',fun b hb=>(hf b hb).1⟩⟩
 done:=by
  intro X hP hw hK hc i pins s σ H E I hf st hg
  subst hP hw hK
  obtain ⟨xs,hq,hx⟩:=hg
  obtain ⟨its,rv,p,hz⟩:=I.list hq
  obtain ⟨f0,f1,f2,f3,f4,f5⟩:=hf it (by simp)
  have hl:=rv.length
  exact wpAny_pyNext_list_end (I.ok.hd hc) st p.isList (by simp;omega) fun h' eb=>⟨rfl,I.turned (t':=s.toks) (fun b o hb e=>eb b o hb e) f0 f1 f3 f4 f5⟩
 self:=fun _ _ _ _ _ st h=>wpAny_pyIter_listiter st h
theorem ae4 {P:Program} {w:World} {K:PySem.W.Frag} {tg:Expr} (a it:Addr):Turn P w K tg (Itt K a) [it] it (fun i h=>h.IsTupleIter it a i) where
 mem:=by simp
 obj:=fun i h st b hb=>by
  have e:b=it:=by simpa using hb
  subst e
  obtain ⟨o,e,c,d⟩:=st
  exact ⟨o,e,fun v z=>by rw [d] at z;cases z⟩
 keep:=fun i h h' st k=>st.at fun o e=>k it (by simp) o e
 item:=by
  intro X hP hw hK hc i pins s σ H E I hf st hg
  subst hP hw hK
  obtain ⟨xs,x,hq,hx⟩:=hg
  obtain ⟨its,rv,p,hz⟩:=I.tuple hq
  obtain ⟨u,hu,ru⟩:=rv.get hx
  obtain ⟨f0,f1,f2,f3,f4,f5⟩:=hf it (by simp)
  refine wpAny_pyNext_tuple_item st (show s.heap.IsTuple a its.toArray from p) (x:=u) (by simpa using hu) fun h' st' sb=>?_
  have I1:Inv X pins σ H { s with heap:=h' }:=I.turned (t':=s.toks) (fun b o hb e=>(sb.2 b hb).trans e) f0 f1 f3 f4 f5
  obtain ⟨o,e,c,d⟩:=id st'
  exact ⟨u,rfl,aix (s:={ s with heap:=h' }) e c d (by decide) ⟨x,H,I1,ru,⟨rfl,fun ys hy=>by rw [I.tuple_inj hy hq];exact hx⟩,st',fun b hb=>(hf b hb).1⟩⟩
 done:=by
  intro X hP hw hK hc i pins s σ H E I hf st hg
  subst hP hw hK
  obtain ⟨xs,hq,hx⟩:=hg
  obtain ⟨its,rv,p,hz⟩:=I.tuple hq
  obtain ⟨f0,f1,f2,f3,f4,f5⟩:=hf it (by simp)
  have hl:=rv.length
  exact wpAny_pyNext_tuple_end (I.ok.hd hc) st (show s.heap.IsTuple a its.toArray from p) (by simp;omega) fun h' eb=>⟨rfl,I.turned (t':=s.toks) (fun b o hb e=>eb b o hb e) f0 f1 f3 f4 f5⟩
 self:=fun _ _ _ _ _ st h=>wpAny_pyIter_tupleiter st h
theorem ae5 {P:Program} {w:World} {K:PySem.W.Frag} {tg:Expr} (it:Addr) (lo:Int) (n:Nat):Turn P w K tg (Itr lo n) [it] it (fun i h=>IsRangeIter h it (lo+(i:Nat)*1) ((n:Int) - (i:Nat)) 1) where
 mem:=by simp
 obj:=fun i h st b hb=>by
  have e:b=it:=by simpa using hb
  subst e
  exact ⟨_,st,fun v z=>by
   have z':Data.fields _=Data.cell v:=z
   cases z'⟩
 keep:=fun i h h' st k=>k it (by simp) _ st
 item:=by
  intro X hP hw hK hc i pins s σ H E I hf st hg
  subst hP hw hK
  obtain ⟨f0,f1,f2,f3,f4,f5⟩:=hf it (by simp)
  have W:=Walks.range (prog:=X.prog) (w:=X.w) (I.ok.hd hc) it lo 1 n
  refine W.item i s _ _ hg st fun v h' tk hv st' kk=>?_
  obtain ⟨t,rfl⟩:=hv
  have I1:Inv X pins σ H { s with heap:=h',toks:=tk }:=I.turned (fun b o hb e=>kk b o (by simpa using hb) e) f0 f1 f3 f4 f5
  refine ⟨_,rfl,aix (s:={ s with heap:=h',toks:=tk }) (n := "range_iterator") st' rfl rfl (by decide) ⟨.int (lo+i),H,I1,⟨t,?_⟩,⟨rfl,rfl⟩,st',fun b hb=>(hf b hb).1⟩⟩
  rw [Int.mul_one]
 done:=by
  intro X hP hw hK hc i pins s σ H E I hf st hg
  subst hP hw hK
  obtain ⟨f0,f1,f2,f3,f4,f5⟩:=hf it (by simp)
  exact wpAny_pyNext_range_end (I.ok.hd hc) st (by have:n≤i:=hg;omega) fun h' eb=>⟨rfl,I.turned (t':=s.toks) (fun b o hb e=>eb b o hb e) f0 f1 f3 f4 f5⟩
 self:=fun _ _ _ _ _ st h=>wpAny_pyIter_rangeiter st h
end L2
namespace L2
open PySem PySem.Spec PyProof.Rows
section
variable {X:Cx} {tg:Expr}
def aw4 (K:PySem.W.Frag) (tl:TE):TI:=fun σ H R=>tl σ H fun x H1=>∃ a,x = .ref a∧(∃ xs,SqL K H1 a xs)∧R (Itl K a) H1
def ayt (K:PySem.W.Frag) (tl:TE):TI:=fun σ H R=>tl σ H fun x H1=>∃ a,x = .ref a∧(∃ xs,SqT K H1 a xs)∧R (Itt K a) H1
theorem afj {l:Expr} {tl:TE} (hl:PE X l tl):PI X tg l (aw4 X.K tl):=by
 intro pins s σ H R I h
 refine thn (hl pins s σ H _ I h) fun v s1 ⟨x,H1,I1,r1,q1⟩=>?_
 obtain ⟨a,e,⟨xs,hq⟩,q⟩:=q1
 subst e
 cases r1
 obtain ⟨its,rv,p,hz⟩:=I1.list hq
 refine wpAny_pyIter_list p.isList ?_
 refine ⟨s1.heap.objs.size,[s1.heap.objs.size],_,_,H1,rfl,I1.kept (t':=s1.toks) fun b o e=>Heap.get?_push_of_some _ e,afi a _,⟨_,Heap.get?_push_size _ rfl,rfl,rfl⟩,fun b hb=>?_,q⟩
 have e:b=s1.heap.objs.size:=by simpa using hb
 subst e
 exact I1.fpOk (Nat.le_refl _) (I1.hok.fresh (Nat.le_refl _))
theorem ar8 {l:Expr} {tl:TE} (hl:PE X l tl):PI X tg l (ayt X.K tl):=by
 intro pins s σ H R I h
 refine thn (hl pins s σ H _ I h) fun v s1 ⟨x,H1,I1,r1,q1⟩=>?_
 obtain ⟨a,e,⟨xs,hq⟩,q⟩:=q1
 subst e
 cases r1
 obtain ⟨its,rv,p,hz⟩:=I1.tuple hq
 refine wpAny_pyIter_tuple (show s1.heap.IsTuple a its.toArray from p) ?_
 refine ⟨s1.heap.objs.size,[s1.heap.objs.size],_,_,H1,rfl,I1.kept (t':=s1.toks) fun b o e=>Heap.get?_push_of_some _ e,ae4 a _,⟨_,Heap.get?_push_size _ rfl,rfl,rfl⟩,fun b hb=>?_,q⟩
 have e:b=s1.heap.objs.size:=by simpa using hb
 subst e
 exact I1.fpOk (Nat.le_refl _) (I1.hok.fresh (Nat.le_refl _))
theorem aiy {pins:List (Addr × Obj)} {σ:St} {H:Hp} {s:Shared} {R:It→Hp→Prop} {E:Value→Shared→Prop} {lo hi:Int} {t u v:Tok} {tk:Nat} (I:Inv X pins σ H s) (h1 : -(2 ^ 62)≤lo) (h2:lo<2 ^ 62) (h3 : -(2 ^ 62)≤hi) (h4:hi<2 ^ 62)
  (q:R (Itr lo (hi - lo).toNat) H):wpAny (model X.prog X.w) X.A (pyIter (.ref s.heap.objs.size)) (PIE X pins σ tg R) E { s with heap:=s.heap.push { cls:=.type "range",data:=.fields #[.int lo t, .int hi u, .int 1 v] },toks:=tk }:=by
 refine wpAny_pyIter_range (IsRange.new ..) (small_one h1 h2 h3 h4) ?_
 have I1:Inv X pins σ H { s with heap:=s.heap.push { cls:=.type "range",data:=.fields #[.int lo t, .int hi u, .int 1 v] },toks:=tk }:=I.kept fun b o e=>Heap.get?_push_of_some _ e
 refine ⟨(s.heap.push { cls:=.type "range",data:=.fields #[.int lo t, .int hi u, .int 1 v] }).objs.size,[(s.heap.push { cls:=.type "range",data:=.fields #[.int lo t, .int hi u, .int 1 v] }).objs.size],_,_,H,rfl,
  I1.kept (t':=tk) fun b o e=>Heap.get?_push_of_some _ e,ae5 _ lo (hi - lo).toNat,?_,fun b hb=>?_,q⟩
 ·have e1:lo+((0:Nat):Int)*1=lo:=by simp
  have e2:(((hi - lo).toNat:Nat):Int) - ((0:Nat):Int)=Builtin.Range.rangeSize lo hi 1:=by rw [rangeSize_one];split<;>omega
  show IsRangeIter _ _ (lo+((0:Nat):Int)*1) ((((hi - lo).toNat:Nat):Int) - ((0:Nat):Int)) 1
  rw [e1,e2]
  exact Heap.get?_push_size _ rfl
 ·have e:b=(s.heap.push { cls:=.type "range",data:=.fields #[.int lo t, .int hi u, .int 1 v] }).objs.size:=by simpa using hb
  subst e
  exact I1.fpOk (Nat.le_refl _) (I1.hok.fresh (Nat.le_refl _))
def aw5 (ta:TA):TI:=fun σ H R=>ta σ H fun vs H1=>∃ j:Int,vs=[.int j] ∧ -(2 ^ 62)≤j∧j<2 ^ 62∧R (Itr 0 j.toNat) H1
theorem afk {a:Expr} {ta:TA} {p pos:Pos} (hg:Gl X "range") (hm:X.mg "range" = none) (ha:PA X [a] ta) (hs:starEach [a] X.env=[(false,eval a X.env)]:=by rfl):PI X tg (.Call (.Name "range" p) [a] [] pos) (aw5 ta):=by
 intro pins s σ H R I h
 refine Call_ (a9s I hg hm boot_range (PyProof.Rows.callWith_type1 (thn (ha pos pins s σ H _ I h) fun us s1 ⟨vs,H1,I1,r1,q1⟩=>?_) hs rfl))
 obtain ⟨j,e,q1,q2,q⟩:=q1
 subst e
 cases r1 with
 | cons r rr =>
  cases rr
  obtain ⟨t,rfl⟩:=r
  exact call_range_1 (aiy I1 (by omega) (by omega) q1 q2 (by simpa using q))
def ayu (wi:TI) (g:TG) (tb:TS):TS:=fun D σ H=>wi σ H fun J H1=>∃ W:Nat→Nat→St→Hp→Prop,(∃ m,W 0 m σ H1)∧∀ i m σ H,W i m σ H →
 (J.stop i H∧D.nx σ H)∨(J.go i H∧∃ N:St→Hp→Prop,(∀ σ' H',N σ' H'→∃ m',m'<m∧W (i+1) m' σ' H')∧∀ x H',J.yld i H x H'→g x σ H' fun σ2 H2=>tb { D with nx:=N,ct:=N,bk:=D.nx } σ2 H2)
def a7o (fp:List Addr) (h:Heap):List (Addr × Obj):=fp.filterMap fun b=>(h.get? b).map fun o=>(b,o)
theorem xg {fp:List Addr} {h:Heap} {b:Addr} {o:Obj} (hb:b∈fp) (e:h.get? b=some o):(b,o)∈a7o fp h:=List.mem_filterMap.mpr ⟨b,hb,by rw [e];rfl⟩
theorem afl {fp:List Addr} {h:Heap} {p:Addr × Obj} (hp:p∈a7o fp h):p.1∈fp∧h.get? p.1=some p.2:=by
 obtain ⟨b,hb,e⟩:=List.mem_filterMap.mp hp
 cases q:h.get? b with
 | none=>rw [q] at e;cases e
 | some o =>
  rw [q] at e
  have e':(b,o)=p:=Option.some.inj e
  subst e'
  exact ⟨hb,q⟩
theorem Inv.pinned {pins:List (Addr × Obj)} {σ:St} {H:Hp} {s:Shared} {fp:List Addr} (I:Inv X pins σ H s) (hf:∀ b∈fp,aba X pins H b) (ho:∀ b∈fp,∃ o,s.heap.get? b=some o∧∀ v,o.data≠.cell v):Inv X (pins++a7o fp s.heap) σ H s :=
 I.pins_of fun p hp=>(List.mem_append.mp hp).elim (fun z=>I.pin p (List.mem_append_right _ z)) fun z=>by
  obtain ⟨hb,e⟩:=afl z
  obtain ⟨f0,f1,f2,_⟩:=hf p.1 hb
  obtain ⟨o,e',d⟩:=ho p.1 hb
  rw [e] at e';cases e'
  exact ⟨e,f0,f1,f2,d⟩
theorem Inv.unpinned {pins pl:List (Addr × Obj)} {σ:St} {H:Hp} {s:Shared} (I:Inv X (pins++pl) σ H s):Inv X pins σ H s:=I.pins_of fun p hp=>I.pin p (List.mem_append_right _ (List.mem_append_left _ hp))
theorem ar9 {iter:Expr} {body:List Stmt} {wi:TI} {g:TG} {tb:TS} {pos:Pos} (hp:PassesOwn (model X.prog X.w) X.A X.env X.xe) (hc:X.calm=true) (hi:PI X tg iter wi) (hg:PG X tg g) (hb:PSs X body tb)
  (hs:∀ x,foldedSetIterable iter X.env x=pure x:=by intro _;rfl):PS X (.For tg iter body [] pos) (ayu wi g tb):=by
 intro pins s σ H D I h
 refine wpAny_For (thn (hi pins s σ H _ I h) fun v s1 h1=>thn h1 fun itv s2 h2=>?_) hs
 obtain ⟨it,fp,tn,J,H2,e,I2,T,st2,f2,W,⟨m0,w0⟩,turn⟩:=h2
 subst e
 have stat:∀ {H':Hp},(∀ b∈fp,H' b=none)→∀ b∈fp,aba X pins H' b:=fun hn b hb=>⟨hn b hb,(f2 b hb).2⟩
 refine codeAny_forLoop_any (fun n s'=>∃ i σ' H',Inv X pins σ' H' s'∧tn i s'.heap∧(∀ b∈fp,H' b=none)∧W i n σ' H') ?_ m0 ⟨0,σ,H2,I2,st2,fun b hb=>(f2 b hb).1,w0⟩
 rintro n s3 ⟨i,σ3,H3,I3,st3,fr3,w3⟩
 rcases turn i n σ3 H3 w3 with ⟨stop,qn⟩ | ⟨go,N,hN,step⟩
 ·refine wpAny_passesOwn hp (thn (T.done X rfl rfl rfl hc i pins s3 σ3 H3 X.xe I3 (stat fr3) st3 stop) fun r s4 ⟨hr,I4⟩=>?_)
  subst hr
  exact wpAny_execs_nil ⟨σ3,H3,I4,qn⟩
 ·refine wpAny_passesOwn hp (thn (T.item X rfl rfl rfl hc i pins s3 σ3 H3 X.xe I3 (stat fr3) st3 go) fun r s4 ⟨u,hr,h4⟩=>?_)
  subst hr
  refine wpAny_passesOwn hp (thn h4 fun _ s5 ⟨x,H5,I5,r5,y5,st5,fr5⟩=>?_)
  have I5':=I5.pinned (stat fr5) (T.obj _ _ st5)
  refine wpAny_passesOwn hp (thn (hg _ s5 σ3 H5 x u _ I5' r5 (step x H5 y5)) fun _ s6 ⟨σ6,H6,I6,q6⟩=>?_)
  refine wpAny_passesOwn hp (thn (hb _ s6 σ6 H6 _ I6 q6) fun f s7 q7=>?_)
  have again:∀ {σ7:St} {H7:Hp},Inv X (pins++a7o fp s5.heap) σ7 H7 s7→N σ7 H7→∃ m,m<n∧∃ i σ' H',Inv X pins σ' H' s7∧tn i s7.heap∧(∀ b∈fp,H' b=none)∧W i m σ' H':=fun {σ7 H7} I7 n7=>by
   obtain ⟨m',hm,w7⟩:=hN σ7 H7 n7
   refine ⟨m',hm,i+1,σ7,H7,I7.unpinned,T.keep _ _ _ st5 fun b hb o e=>(I7.pin (b,o) (List.mem_append_right _ (List.mem_append_right _ (xg hb e)))).1,fun b hb=>?_,w7⟩
   obtain ⟨o,e,d⟩:=T.obj _ _ st5 b hb
   exact (I7.pin (b,o) (List.mem_append_right _ (List.mem_append_right _ (xg hb e)))).2.1
  cases f with
  | next=>obtain ⟨σ7,H7,I7,n7⟩:=q7;exact again I7 n7
  | cont=>obtain ⟨σ7,H7,I7,n7⟩:=q7;exact again I7 n7
  | brk=>obtain ⟨σ7,H7,I7,q7⟩:=q7;exact ⟨σ7,H7,I7.unpinned,q7⟩
  | ret v=>obtain ⟨x7,σ7,H7,I7,r7,q7⟩:=q7;exact ⟨x7,σ7,H7,I7.unpinned,r7,q7⟩
end
end L2
namespace L2
open PySem PySem.Spec PyProof.Rows
abbrev R2:=V→V→Hp→VK→Prop
def OpR (X:Cx) (f:Value→Value→Sem Value) (r:R2):Prop :=
 ∀ (pins:List (Addr × Obj)) (s:Shared) (σ:St) (H:Hp) (x y:V) (v u:Value) (Q:VK),Inv X pins σ H s→RelV x v→RelV y u→r x y H Q →
  wpAny (model X.prog X.w) X.A (f v u) (EP X pins σ Q) X.xe s
def UnR (X:Cx) (f:Value→Sem Value) (r:V→Hp→VK→Prop):Prop :=
 ∀ (pins:List (Addr × Obj)) (s:Shared) (σ:St) (H:Hp) (x:V) (v:Value) (Q:VK),Inv X pins σ H s→RelV x v→r x H Q →
  wpAny (model X.prog X.w) X.A (f v) (EP X pins σ Q) X.xe s
def CallR (X:Cx) (f:Value) (r:List V→Hp→VK→Prop):Prop :=
 ∀ (pins:List (Addr × Obj)) (s:Shared) (σ:St) (H:Hp) (xs:List V) (us:List Value) (Q:VK),Inv X pins σ H s→Vals xs us→r xs H Q →
  wpAny (model X.prog X.w) X.A (call f us) (EP X pins σ Q) X.xe s
def ayv (X:Cx) (r:V→Hp→(Bool→Hp→Prop)→Prop):Prop :=
 ∀ (pins:List (Addr × Obj)) (s:Shared) (σ:St) (H:Hp) (x:V) (v:Value) (Q:Bool→Hp→Prop),Inv X pins σ H s→RelV x v→r x H Q →
  wpAny (model X.prog X.w) X.A (truthy v) (TP X pins σ Q) X.xe s
def tOp (r:R2) (ta tb:TE):TE:=fun σ H Q=>ta σ H fun x H1=>tb σ H1 fun y H2=>r x y H2 Q
def tUn (r:V→Hp→VK→Prop) (ta:TE):TE:=fun σ H Q=>ta σ H fun x H1=>r x H1 Q
def rI (C:Int→Int→Prop) (g:Int→Int→V):R2:=fun x y H Q=>∃ i j,x = .int i∧y = .int j∧C i j∧Q (g i j) H
def rI0 (g:Int→Int→V):R2:=fun x y H Q=>∃ i j,x = .int i∧y = .int j∧Q (g i j) H
def rU (g:Int→V):V→Hp→VK→Prop:=fun x H Q=>∃ i,x = .int i∧Q (g i) H
section
variable {X:Cx} {a b c:Expr} {ta tb tc:TE} {pos:Pos}
theorem aw6 (ha:PE X a ta) (hb:PE X b tb) {pins:List (Addr × Obj)} {s:Shared} {σ:St} {H:Hp} {R:V→V→Hp→Prop} (I:Inv X pins σ H s)
  (h:ta σ H fun x H1=>tb σ H1 fun y H2=>R x y H2) {Q:Value→Shared→Prop} {f:Value→Value→Sem Value}
  (hf:∀ v u s2 x y H2,Inv X pins σ H2 s2→RelV x v→RelV y u→R x y H2→wpAny (model X.prog X.w) X.A (f v u) Q X.xe s2) :
  wpAny (model X.prog X.w) X.A (eval a X.env) (fun v s₁=>wpAny (model X.prog X.w) X.A (eval b X.env) (fun u s₂=>wpAny (model X.prog X.w) X.A (f v u) Q X.xe s₂) X.xe s₁) X.xe s:=by
 refine thn (ha pins s σ H _ I h) fun v s1 ⟨x,H1,I1,r1,q1⟩=>?_
 refine thn (hb pins s1 σ H1 _ I1 q1) fun u s2 ⟨y,H2,I2,r2,q2⟩=>?_
 exact hf v u s2 x y H2 I2 r1 r2 q2
theorem aw7 {op:Operator} {r:R2} (ho:OpR X (binaryOp op) r) (ha:PE X a ta) (hb:PE X b tb):PE X (.BinOp a op b pos) (tOp r ta tb):=by
 intro pins s σ H Q I h
 exact wpAny_BinOp (aw6 ha hb I h fun v u s2 x y H2 I2 rx ry q=>ho pins s2 σ H2 x y v u Q I2 rx ry q)
theorem aw8 {op:UnaryOp} {r:V→Hp→VK→Prop} (ho:UnR X (unaryOp op) r) (ha:PE X a ta):PE X (.UnaryOp op a pos) (tUn r ta):=by
 intro pins s σ H Q I h
 exact UnaryOp_ (thn (ha pins s σ H _ I h) fun v s1 ⟨x,H1,I1,r1,q1⟩=>ho pins s1 σ H1 x v Q I1 r1 q1)
theorem opI {f:Value→Value→Sem Value} {C:Int→Int→Prop} {g:Int→Int→Int}
  (rule:∀ (i j:Int) (t u:Tok) (s:Shared) (Q:Value→Shared→Prop) (E:Value→Shared→Prop),C i j→Q (.int (g i j) s.toks) { s with toks:=s.toks+1 }→wpAny (model X.prog X.w) X.A (f (.int i t) (.int j u)) Q E s) :
  OpR X f (rI C fun i j=>.int (g i j)):=by
 intro pins s σ H x y v u Q I rx ry h
 obtain ⟨i,j,rfl,rfl,hc,q⟩:=h
 obtain ⟨t,rfl⟩:=rx
 obtain ⟨t',rfl⟩:=ry
 exact rule i j t t' s _ _ hc ⟨.int (g i j),H,I.tok _,⟨_,rfl⟩,q⟩
theorem aw9 {f:Value→Value→Sem Value} {g:Int→Int→Int}
  (rule:∀ (i j:Int) (t u:Tok) (s:Shared) (Q:Value→Shared→Prop) (E:Value→Shared→Prop),Q (.int (g i j) s.toks) { s with toks:=s.toks+1 }→wpAny (model X.prog X.w) X.A (f (.int i t) (.int j u)) Q E s) :
  OpR X f (rI0 fun i j=>.int (g i j)):=by
 intro pins s σ H x y v u Q I rx ry h
 obtain ⟨i,j,rfl,rfl,q⟩:=h
 obtain ⟨t,rfl⟩:=rx
 obtain ⟨t',rfl⟩:=ry
 exact rule i j t t' s _ _ ⟨.int (g i j),H,I.tok _,⟨_,rfl⟩,q⟩
theorem avj {f:Value→Value→Sem Value} {g:Int→Int→Bool}
  (rule:∀ (i j:Int) (t u:Tok) (s:Shared) (Q:Value→Shared→Prop) (E:Value→Shared→Prop),Q (.bool (g i j)) s→wpAny (model X.prog X.w) X.A (f (.int i t) (.int j u)) Q E s) :
  OpR X f (rI0 fun i j=>.bl (g i j)):=by
 intro pins s σ H x y v u Q I rx ry h
 obtain ⟨i,j,rfl,rfl,q⟩:=h
 obtain ⟨t,rfl⟩:=rx
 obtain ⟨t',rfl⟩:=ry
 exact rule i j t t' s _ _ ⟨.bl (g i j),H,I,rfl,q⟩
def axp (i j:Int):Prop:=0<j∧j<1073741824
def axq (i j:Int):Prop:=0≤j∧j≤1000000∧i.natAbs<2 ^ 64
def CMul (i j:Int):Prop:=(-(2 ^ 64)<i∧i<2 ^ 64)∨(-(2 ^ 64)<j∧j<2 ^ 64)
theorem CMul.ok {i j:Int} (h:CMul i j):IntMulOk i j:=by
 rcases h with ⟨h1,h2⟩ | ⟨h1,h2⟩
 ·exact .of_left (intBits_le_64 h1 h2)
 ·exact .of_right (intBits_le_64 h1 h2)
theorem ara:OpR X (binaryOp .Add) (rI0 fun i j=>.int (i+j)):=aw9 fun _ _ _ _ _ _ _ q=>add_int q
theorem arb:OpR X (binaryOp .Sub) (rI0 fun i j=>.int (i - j)):=aw9 fun _ _ _ _ _ _ _ q=>sub_int q
theorem alc:OpR X (binaryOp .Mult) (rI CMul fun i j=>.int (i*j)):=opI fun _ _ _ _ _ _ _ hc q=>mul_int q hc.ok
theorem amx:OpR X (binaryOp .FloorDiv) (rI axp fun i j=>.int (i / j)):=opI fun i j _ _ _ _ _ hc q=>by
 have h1:(0:Int)<j:=hc.1
 have h2:j<1073741824:=hc.2
 exact floordiv_int (by omega) (by rw [Int.fdiv_eq_ediv_of_nonneg i (by omega)];exact q) (.inl (PyProof.noPylong_small (by omega)))
theorem arc:OpR X (binaryOp .Mod) (rI (fun _ j=>0<j) fun i j=>.int (i % j)):=opI fun i j _ _ _ _ _ hc q=>by
 have h1:(0:Int)<j:=hc
 exact mod_int' (by omega) (by rw [Int.fmod_eq_emod_of_nonneg i (by omega)];exact q)
theorem ard:OpR X (binaryOp .Pow) (rI axq fun i j=>.int (i ^ j.toNat)):=opI fun _ _ _ _ _ _ _ hc q=>pow_int_small hc.1 hc.2.1 hc.2.2 q
theorem amy:OpR X (inplaceOp .Add) (rI0 fun i j=>.int (i+j)):=aw9 fun _ _ _ _ _ _ _ q=>iadd_int q
theorem unI {f:Value→Sem Value} {g:Int→Int}
  (rule:∀ (i:Int) (t:Tok) (s:Shared) (Q:Value→Shared→Prop) (E:Value→Shared→Prop),Q (.int (g i) s.toks) { s with toks:=s.toks+1 }→wpAny (model X.prog X.w) X.A (f (.int i t)) Q E s) :
  UnR X f (rU fun i=>.int (g i)):=by
 intro pins s σ H x v Q I rx h
 obtain ⟨i,rfl,q⟩:=h
 obtain ⟨t,rfl⟩:=rx
 exact rule i t s _ _ ⟨.int (g i),H,I.tok _,⟨_,rfl⟩,q⟩
theorem arf:UnR X (unaryOp .USub) (rU fun i=>.int (-i)):=unI fun _ _ _ _ _ q=>neg_int q
end
section
variable {X:Cx} {a b c:Expr} {ta tb tc:TE} {pos:Pos}
theorem a7p {pins:List (Addr × Obj)} {σ:St} {H:Hp} {s:Shared} {Q:VK} {k k':Bool} (I:Inv X pins σ H s) (q:Q (.bl k) H) (e:k=k'):EP X pins σ Q (.bool k') s:=by
 subst e
 exact ⟨.bl k,H,I,rfl,q⟩
theorem a9t:OpR X (compareOp .Lt) (rI0 fun i j=>.bl (decide (i<j))):=avj fun _ _ _ _ _ _ _ q=>lt_int q
theorem a9u:OpR X (compareOp .LtE) (rI0 fun i j=>.bl (decide (i≤j))):=avj fun _ _ _ _ _ _ _ q=>le_int q
theorem abf:OpR X (compareOp .Gt) (rI0 fun i j=>.bl (decide (j<i))):=avj fun _ _ _ _ _ _ _ q=>gt_int q
theorem awa:OpR X (compareOp .GtE) (rI0 fun i j=>.bl (decide (j≤i))):=avj fun _ _ _ _ _ _ _ q=>ge_int q
theorem zj:OpR X (compareOp .Lt) (fun x y H Q=>∃ i j,x = .str i∧y = .str j∧Q (.bl (decide (i.cps.toList<j.cps.toList))) H):=by
 intro pins s σ H x y v u Q I rx ry h
 obtain ⟨i,j,rfl,rfl,q⟩:=h
 obtain ⟨t,rfl⟩:=rx
 obtain ⟨t',rfl⟩:=ry
 exact lt_str (a7p I q rfl)
theorem afm:OpR X (compareOp .In) (fun x y H Q=>∃ i j,x = .str i∧y = .str j∧Q (.bl (!(Builtin.Str.occurrences j i 0 j.length 1).isEmpty)) H):=by
 intro pins s σ H x y v u Q I rx ry h
 obtain ⟨i,j,rfl,rfl,q⟩:=h
 obtain ⟨t,rfl⟩:=rx
 obtain ⟨t',rfl⟩:=ry
 exact in_str (a7p I q rfl)
theorem arh:OpR X (compareOp .Is) (fun x y H Q=>y = .non∧Q (.bl (decide (x = .non))) H):=by
 intro pins s σ H x y v u Q I rx ry h
 obtain ⟨rfl,q⟩:=h
 cases ry
 refine is_none_gen (a7p I q ?_)
 cases x<;>first
  | (cases rx;rfl)
  | (obtain ⟨t,rfl⟩:=rx;rfl)
theorem a9v:OpR X (compareOp .NotIn) (fun x y H Q=>∃ i j,x = .str i∧y = .str j∧Q (.bl (!(!(Builtin.Str.occurrences j i 0 j.length 1).isEmpty))) H):=by
 intro pins s σ H x y v u Q I rx ry h
 obtain ⟨i,j,rfl,rfl,q⟩:=h
 obtain ⟨t,rfl⟩:=rx
 obtain ⟨t',rfl⟩:=ry
 exact notIn_str (a7p I q rfl)
theorem OpR.or {f:Value→Value→Sem Value} {r r':R2} (h:OpR X f r) (h':OpR X f r'):OpR X f (fun x y H Q=>r x y H Q∨r' x y H Q):=by
 intro pins s σ H x y v u Q I rx ry q
 rcases q with q | q
 ·exact h pins s σ H x y v u Q I rx ry q
 ·exact h' pins s σ H x y v u Q I rx ry q
theorem qt (b:Expr) {op:CmpOp} (h:op≠.In:=by decide) (h2:op≠.NotIn:=by decide):behindInMarks op b=false:=by
 have e1:(op == CmpOp.In)=false:=by cases op<;>first | rfl | exact absurd rfl h
 have e2:(op == CmpOp.NotIn)=false:=by cases op<;>first | rfl | exact absurd rfl h2
 cases b<;>simp [behindInMarks,e1,e2]
theorem amz {op:CmpOp} {r:R2} (ho:OpR X (compareOp op) r) (ha:PE X a ta) (hb:PE X b tb) (hm:behindInMarks op b=false):PE X (.Compare a [op] [b] pos) (tOp r ta tb):=by
 intro pins s σ H Q I h
 exact wpAny_Compare1 (aw6 ha hb I h fun v u s2 x y H2 I2 rx ry q=>ho pins s2 σ H2 x y v u Q I2 rx ry q) hm
def an0 (t:TE):TT:=fun σ H Q=>t σ H fun x H'=>∃ k,x = .bl k∧Q k H'
theorem ana {op:CmpOp} {r:R2} (ho:OpR X (compareOp op) r) (ha:PE X a ta) (hb:PE X b tb) (hm:behindInMarks op b=false):PT X (.Compare a [op] [b] pos) (an0 (tOp r ta tb)):=by
 intro pins s σ H Q I h
 refine wpAny_isTrue_Compare1 (thn (ha pins s σ H _ I h) fun v s1 ⟨x,H1,I1,r1,q1⟩=>thn (hb pins s1 σ H1 _ I1 q1) fun u s2 ⟨y,H2,I2,r2,q2⟩ =>
  thn (ho pins s2 σ H2 x y v u _ I2 r1 r2 q2) fun c s3 ⟨z,H3,I3,r3,k,e,q3⟩=>?_) hm
 subst e
 cases r3
 exact wpAny_truthy_bool ⟨H3,I3,q3⟩
def afn (r r':R2) (ta tb tc:TE):TE:=fun σ H Q=>ta σ H fun x H1=>tb σ H1 fun y H2=>r x y H2 fun z H3=>∃ k,z = .bl k ∧
 (if k=true then tc σ H3 fun w' H4=>r' y w' H4 Q else Q (.bl false) H3)
theorem aiz {op op':CmpOp} {r r':R2} (ho:OpR X (compareOp op) r) (ho':OpR X (compareOp op') r') (ha:PE X a ta) (hb:PE X b tb) (hc:PE X c tc)
  (hm:lastMarks [op,op'] [b,c]=false:=by with_unfolding_all rfl):PE X (.Compare a [op,op'] [b,c] pos) (afn r r' ta tb tc):=by
 intro pins s σ H Q I h
 refine Compare_chain (thn (ha pins s σ H _ I h) fun v s1 ⟨x,H1,I1,r1,q1⟩=>chain_link (thn (hb pins s1 σ H1 _ I1 q1) fun u s2 ⟨y,H2,I2,r2,q2⟩ =>
  thn (ho pins s2 σ H2 x y v u _ I2 r1 r2 q2) fun d s3 ⟨z,H3,I3,r3,k,e,q3⟩=>?_)) hm
 subst e
 cases r3
 refine wpAny_truthy_bool ?_
 cases k with
 | false=>exact ite_ff ⟨.bl false,H3,I3,rfl,q3⟩
 | true=>exact ite_tt (chain_last (thn (hc pins s3 σ H3 _ I3 q3) fun w' s4 ⟨z',H4,I4,r4,q4⟩=>ho' pins s4 σ H4 y z' u w' Q I4 r2 r4 q4))
theorem aj0 {op op':CmpOp} {r r':R2} (ho:OpR X (compareOp op) r) (ho':OpR X (compareOp op') r') (ha:PE X a ta) (hb:PE X b tb) (hc:PE X c tc)
  (hm:lastMarks [op,op'] [b,c]=false:=by with_unfolding_all rfl):PT X (.Compare a [op,op'] [b,c] pos) (an0 (afn r r' ta tb tc)):=by
 intro pins s σ H Q I h
 refine isTrue_chain (thn (ha pins s σ H _ I h) fun v s1 ⟨x,H1,I1,r1,q1⟩=>test_link (thn (hb pins s1 σ H1 _ I1 q1) fun u s2 ⟨y,H2,I2,r2,q2⟩ =>
  thn (ho pins s2 σ H2 x y v u _ I2 r1 r2 q2) fun d s3 ⟨z,H3,I3,r3,k,e,q3⟩=>?_)) hm
 subst e
 cases r3
 refine wpAny_truthy_bool ?_
 cases k with
 | false =>
  obtain ⟨k',e',q'⟩:=q3
  cases e'
  exact ite_ff ⟨H3,I3,q'⟩
 | true =>
  refine ite_tt (test_last (thn (hc pins s3 σ H3 _ I3 q3) fun w' s4 ⟨z',H4,I4,r4,q4⟩=>thn (ho' pins s4 σ H4 y z' u w' _ I4 r2 r4 q4) fun d' s5 ⟨z2,H5,I5,r5,k2,e2,q5⟩=>?_))
  subst e2
  cases r5
  exact wpAny_truthy_bool ⟨H5,I5,q5⟩
def awb (K:PySem.W.Frag) (x:V) (H:Hp) (k:Bool):Prop :=
 match x with
 | .non=>k=false
 | .bl b=>k=b
 | .int i=>k=(i != 0)
 | .str y=>y.length≤sizeLine∧k=((y.length:Int) != 0)
 | .byt y=>y.size≤sizeLine∧k=((y.size:Int) != 0)
 | .ref p=>(∃ xs,SqL K H p xs∧k = !xs.isEmpty)∨(∃ xs,SqT K H p xs∧k = !xs.isEmpty)∨∃ kvs,H p=some (.dK kvs)∧k = !kvs.isEmpty
 | _=>False
theorem ae6 {κ:Type} {kvs:List (κ × V)} {vs:List (κ × Value)} (r:KV kvs vs):(!vs.isEmpty) = !kvs.isEmpty:=by
 cases r<;>rfl
theorem a7q {xs:List V} {its:List Value} (r:Vals xs its):(!its.toArray.isEmpty) = !xs.isEmpty:=by
 cases r<;>simp
theorem a6c:(sizeLine:Nat)<2 ^ 63:=by rw [sizeLine_eq];decide
theorem ari:ayv X (fun x H Q=>∃ k,awb X.K x H k∧Q k H):=by
 intro pins s σ H x v Q I rx h
 obtain ⟨k,e,q⟩:=h
 have hl:=a6c
 have hs:sizeLine=16777216:=sizeLine_eq
 cases x with
 | non =>
  cases rx
  have e':k=false:=e
  subst e'
  exact truthy_none ⟨H,I,q⟩
 | bl b =>
  cases rx
  have e':k=b:=e
  subst e'
  exact wpAny_truthy_bool ⟨H,I,q⟩
 | int i =>
  obtain ⟨t,rfl⟩:=rx
  have e':k=(i != 0):=e
  subst e'
  exact PySem.P.truthy_int ⟨H,I,q⟩
 | str y =>
  obtain ⟨t,rfl⟩:=rx
  obtain ⟨hy,e'⟩:y.length≤sizeLine∧k=((y.length:Int) != 0):=e
  subst e'
  exact PySem.P.truthy_str (by omega) ⟨H,I.tok _,q⟩
 | byt y =>
  obtain ⟨t,rfl⟩:=rx
  obtain ⟨hy,e'⟩:y.size≤sizeLine∧k=((y.size:Int) != 0):=e
  subst e'
  exact PySem.W.truthy_bytes (by omega) ⟨H,I.tok _,q⟩
 | ref p =>
  cases rx
  have e':(∃ xs,SqL X.K H p xs∧k = !xs.isEmpty)∨(∃ xs,SqT X.K H p xs∧k = !xs.isEmpty)∨∃ kvs,H p=some (.dK kvs)∧k = !kvs.isEmpty:=e
  rcases e' with ⟨xs,hx,e'⟩ | ⟨xs,hx,e'⟩ | ⟨kvs,hx,e'⟩
  ·subst e'
   obtain ⟨its,r,pl,hz⟩:=I.list hx
   have hlen:=r.length
   exact wpAny_truthy_list pl.isList (by simp only [List.size_toArray];omega) ⟨H,I.tok _,by rw [a7q r];exact q⟩
  ·subst e'
   obtain ⟨its,r,pl,hz⟩:=I.tuple hx
   have hlen:=r.length
   exact truthy_tuple pl (by simp only [List.size_toArray];omega) ⟨H,I.tok _,by rw [a7q r];exact q⟩
  ·subst e'
   obtain ⟨hz,hS,vs,r,m⟩:kvs.length≤sizeLine∧(p == sysModules)=false∧∃ vs,KV kvs vs∧s.heap.DictOf (vq X.prog X.w) p vs:=I.hok p _ hx
   have hlen:kvs.length=vs.length:=Paired.length r
   exact wpAny_truthy_dict hS m (by omega) ⟨H,I.tok _,by rw [ae6 r];exact q⟩
 | _=>exact (show False from e).elim
theorem aj1 (ha:PE X a ta) (he:∀ whole,isTrue a X.env whole=(do let v ← whole;standAt a.pos;holding [v] (truthy v))) :
  PT X a (fun σ H Q=>ta σ H fun x H'=>∃ k,awb X.K x H' k∧Q k H'):=by
 intro pins s σ H Q I h
 exact isTrue_plain (thn (ha pins s σ H _ I h) fun v s1 ⟨x,H1,I1,r1,q1⟩=>ari pins s1 σ H1 x v Q I1 r1 q1) (he _)
theorem ae7:OpR X (binaryOp .Add) (fun x y H Q=>∃ i j,x = .str i∧y = .str j∧i.length+j.length≤sizeLine∧Q (.str (i++j)) H):=by
 intro pins s σ H x y v u Q I rx ry h
 obtain ⟨i,j,rfl,rfl,hz,q⟩:=h
 obtain ⟨t,rfl⟩:=rx
 obtain ⟨t',rfl⟩:=ry
 exact add_str (fun t' tk=>⟨.str (i++j),H,I.tok _,⟨_,rfl⟩,q⟩) hz
theorem abg:OpR X (inplaceOp .Add) (fun x y H Q=>∃ i j,x = .str i∧y = .str j∧i.length+j.length≤sizeLine∧Q (.str (i++j)) H):=by
 intro pins s σ H x y v u Q I rx ry h
 obtain ⟨i,j,rfl,rfl,hz,q⟩:=h
 obtain ⟨t,rfl⟩:=rx
 obtain ⟨t',rfl⟩:=ry
 exact iadd_str (fun t' tk=>⟨.str (i++j),H,I.tok _,⟨_,rfl⟩,q⟩) hz
theorem vals1 {x:V} {us:List Value} (r:Vals [x] us):∃ u,us=[u]∧RelV x u:=by
 cases r with
 | cons r1 r2=>cases r2;exact ⟨_,rfl,r1⟩
theorem vals2 {x y:V} {us:List Value} (r:Vals [x,y] us):∃ u w',us=[u,w']∧RelV x u∧RelV y w':=by
 cases r with
 | cons r1 r2 =>
  cases r2 with
  | cons r3 r4=>cases r4;exact ⟨_,_,rfl,r1,r3⟩
theorem ach:CallR X (.builtin "abs") (fun xs H Q=>∃ i,xs=[.int i]∧Q (.int (if i<0 then -i else i)) H):=by
 intro pins s σ H xs us Q I r h
 obtain ⟨i,rfl,q⟩:=h
 obtain ⟨u,rfl,t,rfl⟩:=vals1 r
 exact call_abs_int fun u tk=>⟨.int (if i<0 then -i else i),H,I.tok _,⟨_,rfl⟩,q⟩
theorem a9w (hc:X.calm=true):CallR X (.builtin "min") (fun xs H Q=>∃ i j,xs=[.int i, .int j]∧Q (.int (if j<i then j else i)) H):=by
 intro pins s σ H xs us Q I r h
 obtain ⟨i,j,rfl,q⟩:=h
 obtain ⟨u,w',rfl,⟨t,rfl⟩,⟨t',rfl⟩⟩:=vals2 r
 refine min_two_ints (I.ok.hd hc) fun h' tk k=>⟨_,H,I.kept k,?_,q⟩
 by_cases hj:j<i
 ·rw [if_pos hj,if_pos hj];exact ⟨_,rfl⟩
 ·rw [if_neg hj,if_neg hj];exact ⟨_,rfl⟩
theorem a9x:CallR X (.type "int") (fun xs H Q=>(∃ i,xs=[.int i]∧Q (.int i) H)∨∃ k,xs=[.bl k]∧Q (.int (if k then 1 else 0)) H):=by
 intro pins s σ H xs us Q I r h
 rcases h with ⟨i,rfl,q⟩ | ⟨k,rfl,q⟩
 ·obtain ⟨u,rfl,t,rfl⟩:=vals1 r
  exact call_int_int ⟨.int i,H,I,⟨_,rfl⟩,q⟩
 ·obtain ⟨u,rfl,r1⟩:=vals1 r
  cases r1
  exact call_int_bool ⟨.int (if k then 1 else 0),H,I.tok _,⟨_,rfl⟩,q⟩
theorem aj2:CallR X (.builtin "ord") (fun xs H Q=>∃ x,xs=[.str x]∧x.length=1∧Q (.int (x.cps.getD 0 0:Nat)) H):=by
 intro pins s σ H xs us Q I r h
 obtain ⟨x,rfl,hz,q⟩:=h
 obtain ⟨u,rfl,t,rfl⟩:=vals1 r
 exact ord_of_one hz ⟨.int _,H,I.tok _,⟨_,rfl⟩,q⟩
end
end L2
namespace L2
open PySem PySem.Spec PyProof.Rows
structure ObjM (h:Heap) (x dx C:Addr) (mA:Str→Option Value):Prop where
 obj:h.get? x=some (PySem.W.instObj C dx)
 ns:h.Ns1 dx mA
 ne:dx≠x
theorem afo {h:Heap} {dx:Addr} {mA:Str→Option Value} (n:h.Ns1 dx mA):∃ od,h.get? dx=some od∧∀ name,PySem.W.lookIn name od=some (mA name):=by
 obtain ⟨o,es,ep,ho,hd,hk,_,hm⟩:=n
 refine ⟨o,ho,fun name=>?_⟩
 have e:=hm name
 unfold nsFind findBy at e
 rw [← Array.find?_toList] at e
 unfold PySem.W.lookIn
 rw [hd]
 dsimp only
 split
 ·rename_i y q
  rw [q] at e
  exact congrArg some e
 ·rename_i q
  rw [q] at e
  have a:es.toList.any (·.refKey)=false:=by
   rw [List.any_eq_false]
   intro y hy
   obtain ⟨z,t,hkey⟩:=hk y (Array.mem_toList_iff.mp hy)
   simp [DictEntry.refKey,hkey]
  have a':¬ es.toList.any (·.refKey)=true:=by rw [a];exact Bool.false_ne_true
  rw [if_neg a']
  exact congrArg some e
theorem ObjM.look {h:Heap} {x dx C:Addr} {mA:Str→Option Value} (I:ObjM h x dx C mA):∃ od,PySem.W.InstAt h x (PySem.W.instObj C dx) C (some od)∧∀ name,PySem.W.lookIn name od=some (mA name) :=
 let ⟨od,ho,hl⟩:=afo I.ns
 ⟨od,⟨I.obj,rfl,rfl,ho⟩,hl⟩
section
variable {P:Program} {w:World} {H H':Hp} {h h':Heap} {a C dx:Addr} {fs fs':List (Str × V)}
theorem anb (hok:HOk P w H h) (e:H a=some (.ins C dx fs)):∃ mA,ObjM h a dx C mA∧(∀ f,RelO (fs.lookup f) (mA f))∧PySem.Within mA (fs.map (·.1))∧fs.length≤1000∧H dx=some (.own a):=by
 obtain ⟨d,z,ne,ob,mA,n,r,q⟩:=(show ObjOk P w H h a (.ins C dx fs) from hok a _ e)
 exact ⟨mA,⟨ob,n,ne⟩,r,q,z,d⟩
end
structure Cls (K:PySem.W.Frag) (C:Addr):Prop where
 pg:PySem.W.plainGet K C Str.empty=true
 hd:PySem.W.hasDictIn K C=true
 po:PySem.W.plainOver K C=true
 sa:PySem.W.findIn K (.ref C) "__setattr__" = some (some (.builtin "object.__setattr__"))
theorem Cls.get {K:PySem.W.Frag} {C:Addr} (c:Cls K C) (f:Str):PySem.W.plainGet K C f=true:=c.pg
section
variable {X:Cx} {pins:List (Addr × Obj)} {σ:St} {H:Hp} {s:Shared} {A:Around} {E:Value→Shared→Prop} {Q:Value→Shared→Prop} {c:Value} {b:Bool}
inductive TyOf (K:PySem.W.Frag) (H:Hp):V→Value→Prop where
 | non:TyOf K H .non (.type "NoneType")
 | bl (x:Bool):TyOf K H (.bl x) (.type "bool")
 | int (i:Int):TyOf K H (.int i) (.type "int")
 | str (x:Str):TyOf K H (.str x) (.type "str")
 | flt (x:UInt64):TyOf K H (.flt x) (.type "float")
 | lst {a:Addr} {xs:List V} (e:H a=some (.lst xs)):TyOf K H (.ref a) (.type "list")
 | frz {a:Addr} {o:Obj} {xs:List V} (e:H a=some (.frz o (.lst xs))):TyOf K H (.ref a) (.type "list")
 | tup {a:Addr} {xs:List V} (e:H a=some (.tup xs)):TyOf K H (.ref a) (.type "tuple")
 | dK {a:Addr} {kvs:List (Key × V)} (e:H a=some (.dK kvs)):TyOf K H (.ref a) (.type "dict")
 | dT {a:Addr} {kvs:List (List Key × V)} (e:H a=some (.dT kvs)):TyOf K H (.ref a) (.type "dict")
 | ins {a C dx:Addr} {fs:List (Str × V)} (e:H a=some (.ins C dx fs)) (cl:Cls K C) (ha:PySem.W.findIn K (.ref C) "__class__" = some (some (.builtin "object.__class__")))
   (hn:PySem.W.specialIn K (.builtin "object.__class__") "__get__" = some (some (.builtin "getset_descriptor.__get__"))) (htk:PySem.W.takesIn K (.builtin "object.__class__")=some true)
   (hm:PySem.W.mroIn K C (.type "object")=some true):TyOf K H (.ref a) (.ref C)
theorem afp {x:V} {u t:Value} (I:Inv X pins σ H s) (rx:RelV x u) (ty:TyOf X.K H x t) (e:PySem.W.kitOne X.K t c=some b) (h:∀ tk,Q (.bool b) { s with toks:=tk }) :
  wpAny (model X.prog X.w) A (call (.builtin "isinstance") [u,c]) Q E s:=by
 cases ty with
 | non=>cases (show u=Value.none from rx);exact PySem.W.kia_one PySem.W.kitx_none I.kIn True.intro e (fun z=>nomatch z) h
 | bl y=>cases (show u=Value.bool y from rx);exact PySem.W.kia_one PySem.W.kitx_bool I.kIn True.intro e (fun z=>nomatch z) h
 | int i=>obtain ⟨t,q⟩:=(show ∃ t,u=Value.int i t from rx);cases q;exact PySem.W.kia_one PySem.W.kitx_int I.kIn True.intro e (fun z=>nomatch z) h
 | str y=>obtain ⟨t,q⟩:=(show ∃ t,u=Value.str y t from rx);cases q;exact PySem.W.kia_one PySem.W.kitx_str I.kIn True.intro e (fun z=>nomatch z) h
 | flt y=>obtain ⟨t,q⟩:=(show ∃ t,u=Value.float y t from rx);cases q;exact PySem.W.kia_one PySem.W.kitx_float I.kIn True.intro e (fun z=>nomatch z) h
 | @lst a xs ea =>
  cases (show u=Value.ref a from rx)
  obtain ⟨_,_,n,_,h1⟩:=(show ObjOk X.prog X.w H s.heap a (.lst xs) from I.hok a _ ea)
  exact PySem.W.kia_one PySem.W.kitx_list I.kIn ⟨_,h1,rfl⟩ e (fun z=>nomatch z) h
 | @frz a ob xs ea =>
  cases (show u=Value.ref a from rx)
  obtain ⟨_,_,_,n,_,h1⟩:=(show ObjOk X.prog X.w H s.heap a (.frz ob (.lst xs)) from I.hok a _ ea)
  exact PySem.W.kia_one PySem.W.kitx_list I.kIn ⟨_,h1,rfl⟩ e (fun z=>nomatch z) h
 | @tup a xs ea =>
  cases (show u=Value.ref a from rx)
  obtain ⟨_,_,_,p⟩:=(show ObjOk X.prog X.w H s.heap a (.tup xs) from I.hok a _ ea)
  obtain ⟨o,h1,h2,_⟩:=p
  exact PySem.W.kia_one PySem.W.kitx_tuple I.kIn ⟨o,h1,h2⟩ e (fun z=>nomatch z) h
 | @dK a kvs ea =>
  cases (show u=Value.ref a from rx)
  obtain ⟨_,_,vs,_,p⟩:=(show ObjOk X.prog X.w H s.heap a (.dK kvs) from I.hok a _ ea)
  obtain ⟨o,es,ep,h1,h2,_⟩:=p
  exact PySem.W.kia_one PySem.W.kitx_dict I.kIn ⟨o,h1,h2.1⟩ e (fun z=>nomatch z) h
 | @dT a kvs ea =>
  cases (show u=Value.ref a from rx)
  obtain ⟨_,_,xs,_,o,es,ep,h1,h2,_⟩:=(show ObjOk X.prog X.w H s.heap a (.dT kvs) from I.hok a _ ea)
  exact PySem.W.kia_one PySem.W.kitx_dict I.kIn ⟨o,h1,h2.1⟩ e (fun z=>nomatch z) h
 | @ins a C dx fs ea cl ha hn htk hm =>
  cases (show u=Value.ref a from rx)
  obtain ⟨mA,O,_⟩:=anb I.hok ea
  obtain ⟨od,J,_⟩:=O.look
  exact PySem.W.kia_one (PySem.W.kitx_own (cl.get _) cl.hd ha hn htk hm) I.kIn J e (fun z=>nomatch z) h
end
end L2
namespace L2
open PySem PySem.Spec PyProof.Rows
structure Room (k:Nat) (A:Around):Prop where
 hd:A.handled=none
 dp:A.depth+3*k+5<recursionLimit
 un:A.units+16*k+200<cLine
 gd:A.guards=some []
theorem Room.mono {j k:Nat} {A:Around} (r:Room k A) (h:j≤k):Room j A:=⟨r.hd,by have:=r.dp;omega,by have:=r.un;omega,r.gd⟩
theorem Room.deeper {k:Nat} {A:Around} (r:Room (k+1) A) (env:Env):Room k (A.deeper env) :=
 ⟨r.hd,by have:=r.dp;show A.depth+1+3*k+5<_;omega,by have:=r.un;show A.units+3+16*k+200<_;omega,r.gd⟩
theorem Room.depth {k:Nat} {A:Around} (r:Room k A):A.depth<recursionLimit:=by have:=r.dp;omega
theorem Room.units {k:Nat} {A:Around} (r:Room k A):A.units+64<cLine:=by have:=r.un;omega
def axr:TA:=fun _ H Q=>Q [] H
def awc (ta:TE) (tr:TA):TA:=fun σ H Q=>ta σ H fun x H1=>tr σ H1 fun xs H2=>Q (x::xs) H2
section
variable {X:Cx} {e:Expr} {es:List Expr} {te:TE} {t:TA} {pos:Pos}
theorem a6d:PA X [] axr:=fun _ _ _ _ H Q I h=>Calls.spliced_nil ⟨[],H,I, .nil,h⟩
theorem v4 (ha:PE X e te) (hr:PA X es t) (hs:starEach (e::es) X.env=(false,eval e X.env)::starEach es X.env:=by rfl):PA X (e::es) (awc te t):=by
 intro pos pins s σ H Q I h
 rw [hs]
 show wpAny _ _ (spliced ((false,eval e X.env)::backTo pos (starEach es X.env))) _ _ s
 refine Calls.spliced_cons (thn (ha pins s σ H _ I h) fun u s1 ⟨x,H1,I1,r1,q1⟩=>?_)
 exact thn (hr pos pins s1 σ H1 _ I1 q1) fun us s2 ⟨xs,H2,I2,r2,q2⟩=>⟨x::xs,H2,I2, .cons r1 r2,q2⟩
def ayw (t:TA):TE:=fun σ H Q=>t σ H fun xs H1=>xs.length≤sizeLine∧∀ p,H1 p=none→Q (.ref p) (upd H1 p (.tup xs))
def ayx (t:TA):TE:=fun σ H Q=>t σ H fun xs H1=>xs.length≤sizeLine∧∀ p,H1 p=none→Q (.ref p) (upd H1 p (.lst xs))
theorem ald {x1} (h:PA X es t):PE X (.Tuple es x1 pos) (ayw t):=by
 intro pins s σ H Q I hq
 refine wpAny_Tuple_spliced (thn (h pos pins s σ H _ I hq) fun us s1 ⟨xs,H1,I1,r,z,q⟩=>⟨by rw [← r.length];exact z,?_⟩)
 have hf:H1 s1.heap.objs.size=none:=I1.hok.fresh (Nat.le_refl _)
 refine ⟨.ref s1.heap.objs.size,upd H1 s1.heap.objs.size (.tup xs),I1.laid (t':=s1.toks) (fun b u e=>Heap.get?_push_of_some _ e) (Nat.le_refl _) ?_,rfl,q _ hf⟩
 exact ⟨z,us,r,⟨_,Heap.get?_push_size _ rfl,rfl,_,rfl⟩⟩
theorem arj (h:PA X es t):PE X (.List es pos) (ayx t):=by
 intro pins s σ H Q I hq
 refine wpAny_List_spliced (thn (h pos pins s σ H _ I hq) fun us s1 ⟨xs,H1,I1,r,z,q⟩=>⟨by rw [← r.length];exact z,?_⟩)
 have hf:H1 s1.heap.objs.size=none:=I1.hok.fresh (Nat.le_refl _)
 refine ⟨.ref s1.heap.objs.size,upd H1 s1.heap.objs.size (.lst xs),I1.laid (t':=s1.toks) (fun b u e=>Heap.get?_push_of_some _ e) (Nat.le_refl _) ?_,rfl,q _ hf⟩
 exact ⟨z,us,0,r,Heap.get?_push_size _ rfl⟩
end
abbrev Sp:=List V→Hp→VK→XK→Prop
abbrev CXT:=List Env→Hp→Shared→XK→Value→Shared→Prop
structure Env0 (P:Program) (w:World) (K:PySem.W.Frag) (mg:Str→Option Value) (base:Heap) (A:Around) (outer:List Env) (s:Shared) (H:Hp):Prop where
 frames:A.frames=some outer
 mod:Mod K mg base
 bs:∀ b o,base.get? b=some o→s.heap.get? b=some o∧H b=none
 bsz:base.objs.size≤s.heap.objs.size
 funs:s.heap.FunFrames base outer
 frf:∀ b∈frs outer,H b=none
 hok:HOk P w H s.heap
 bare:AllBare s.gens
def CE (outer:List Env) (P:Program) (w:World) (H:Hp) (s:Shared) (Q:VK) (u:Value) (s':Shared):Prop :=
 ∃ v H',s'.os=s.os∧AllBare s'.gens∧Un (frs outer) [] H H' s.heap s'.heap∧HOk P w H' s'.heap∧RelV v u∧Q v H'
def CR (CX:CXT) (outer:List Env) (P:Program) (w:World) (H:Hp) (s:Shared) (Q:VK) (E:XK) (r:Result) (s':Shared):Prop :=
 match r with
 | .ok (.ret u)=>CE outer P w H s Q u s'
 | .ok _=>False
 | .error e=>CX outer H s E e s'
structure FnOk (P:Program) (w:World) (K:PySem.W.Frag) (mg:Str→Option Value) (base:Heap) (CX:CXT) (k:Nat) (f:Addr) (fd:FuncData) (ps:List Str) (sp:Sp):Prop where
 len:∀ vs H Q E,sp vs H Q E→vs.length=ps.length
 run:∀ (A:Around) (outer:List Env) (s:Shared) (H:Hp) (args:Args) (us:List Value) (vs:List V) (Q:VK) (E:XK),Room k A→Env0 P w K mg base A outer s H→BindsTo s fd args (ps.zip us)→Vals vs us→sp vs H Q E →
  codeAny (model P w) A (.call (.ref f) args) (CR CX outer P w H s Q E) s
theorem FnOk.imp {P:Program} {w:World} {K:PySem.W.Frag} {mg:Str→Option Value} {base:Heap} {CX:CXT} {k:Nat} {f:Addr} {fd:FuncData} {ps:List Str} {sp sp':Sp} (F:FnOk P w K mg base CX k f fd ps sp)
  (h:∀ vs H Q E,sp' vs H Q E→sp vs H Q E):FnOk P w K mg base CX k f fd ps sp' :=
 ⟨fun vs H Q E q=>F.len vs H Q E (h _ _ _ _ q),fun A outer s H args us vs Q E hr he hb hv hs=>F.run A outer s H args us vs Q E hr he hb hv (h _ _ _ _ hs)⟩
section
variable {X:Cx} {pins:List (Addr × Obj)} {σ:St} {H:Hp} {s s':Shared}
theorem Inv.env0 (I:Inv X pins σ H s):Env0 X.prog X.w X.K X.mg X.base X.A X.stack s H :=
 ⟨I.ok.frames,I.ok.mod,I.bs,Nat.le_trans I.ok.bsz I.sz,I.stack,I.stkFree,I.hok,I.bare⟩
theorem Inv.after {Q:VK} {u:Value} (I:Inv X pins σ H s) (h:CE X.stack X.prog X.w H s Q u s'):EP X pins σ Q u s':=by
 obtain ⟨v,H',os,bare,un,hok,r,q⟩:=h
 obtain ⟨hh,g,d,t,os'⟩:=s'
 obtain rfl:os'=s.os:=os
 exact ⟨v,H',I.call (h':=hh) (g':=g) (d':=d) (t':=t) (ch:=[]) un hok bare (fun b z=>absurd z (by simp)),r,q⟩
end
def ark (sp:Sp) (dvs:List V) (E:XK) (t:TA):TE:=fun σ H Q=>t σ H fun vs H1=>sp (vs++dvs) H1 Q E
def Binds (K:PySem.W.Frag) (fd:FuncData) (ps:List Str) (ds:List Value):Prop :=
 ∀ (s:Shared) (us:List Value),K.In s.heap→(us++ds).length=ps.length→BindsTo s fd ⟨us,[]⟩ (ps.zip (us++ds))
theorem Binds.all {K:PySem.W.Frag} {fd:FuncData} {ps:List Str} (h:∀ us:List Value,us.length=ps.length→bindArgs fd ⟨us,[]⟩=pure (ps.zip us)):Binds K fd ps []:=fun s us _ hl=>by
 rw [List.append_nil] at hl ⊢
 exact .of_eq (h us hl)
def a9y (CX:CXT) (X:Cx) (E:XK):Prop:=∀ (pins:List (Addr × Obj)) (σ:St) (H:Hp) (s:Shared) (e:Value) (s':Shared),Inv X pins σ H s→CX X.stack H s E e s'→X.xe e s'
section
variable {X:Cx} {CX:CXT} {k:Nat} {f C:Addr} {fd:FuncData} {ps:List Str} {sp:Sp} {dvs:List V} {ds:List Value} {E:XK} {x m:Str} {p pos apos:Pos} {e o:Expr} {es:List Expr} {ta:TE} {t:TA}
theorem ale {pins:List (Addr × Obj)} {σ:St} {H:Hp} {s:Shared} {Q:VK} {us:List Value} {vs:List V} (F:FnOk X.prog X.w X.K X.mg X.base CX k f fd ps sp) (hr:Room k X.A) (hb:Binds X.K fd ps ds) (hd:Vals dvs ds) (hx:a9y CX X E)
  (I:Inv X pins σ H s) (r:Vals vs us) (h:sp (vs++dvs) H Q E):wpAny (model X.prog X.w) X.A (call (.ref f) us) (EP X pins σ Q) X.xe s:=by
 have r2:Vals (vs++dvs) (us++ds):=r.append hd
 have hl:(us++ds).length=ps.length:=by rw [← r2.length];exact F.len _ _ _ _ h
 refine wpAny_call (codeAny_mono (F.run X.A X.stack s H ⟨us,[]⟩ (us++ds) (vs++dvs) Q E hr I.env0 (hb s us I.kIn hl) r2 h) fun r s' hq=>?_)
 cases r with
 | error e=>exact hx pins σ H s e s' I hq
 | ok fl =>
  cases fl with
  | ret u=>exact I.after hq
  | next=>exact False.elim hq
  | brk=>exact False.elim hq
  | cont=>exact False.elim hq
theorem a8e (F:FnOk X.prog X.w X.K X.mg X.base CX k f fd ps sp) (hr:Room k X.A) (hg:Gl X x) (hm:X.mg x=some (.ref f)) (hk:PySem.W.keepIn X.K (.ref f)=true) (hb:Binds X.K fd ps ds) (hd:Vals dvs ds) (hx:a9y CX X E)
  (ha:PA X (e::es) t) (hdb:(x == ("__debug__" : Str))=false:=by decide) (he:starEach (e::es) X.env=(false,eval e X.env)::starEach es X.env:=by rfl) (hpl:(backTo pos (starEach es X.env)).any (·.1)=false:=by rfl) :
  PE X (.Call (.Name x p) (e::es) [] pos) (ark sp dvs E t):=by
 intro pins s σ H Q I h
 refine wpAny_Call_Name_kw (a4l I hg hm ?_ hdb)
 refine PySem.W.callWith_K (h₀:=X.base) I.ok.mod.kin hk (thn (ha pos pins s σ H _ I h) fun us s1 ⟨vs,H1,I1,r,q⟩=>⟨I1.kIn,?_⟩) he hpl
 exact ale F hr hb hd hx I1 r q
theorem aj3 (F:FnOk X.prog X.w X.K X.mg X.base CX k f fd ps sp) (hr:Room k X.A) (hg:Gl X x) (hm:X.mg x=some (.ref f)) (hk:PySem.W.keepIn X.K (.ref f)=true) (hb:Binds X.K fd ps ds) (hd:Vals dvs ds) (hx:a9y CX X E)
  (hdb:(x == ("__debug__" : Str))=false:=by decide):PE X (.Call (.Name x p) [] [] pos) (ark sp dvs E axr):=by
 intro pins s σ H Q I h
 refine wpAny_Call_Name_kw (a4l I hg hm ?_ hdb)
 exact PySem.W.callWith_K0 I.kIn hk (ale (us:=[]) F hr hb hd hx I .nil h)
end
structure FnScope (N P:List Str) (sc:Scope):Prop where
 kind:sc.kind = .function
 co:sc.isCoroutine=false
 gen:sc.isGenerator=false
 nd:N.Nodup
 pre:N.take P.length=P
 par:∀ x∈P,sc.names.lookup x=some .local∨sc.names.lookup x=some .cell
 nofree:∀ y∈sc.names,y.2≠.free
theorem a9z {kindOf:Str→Option NameKind} {x:Str}:∀ {binds:List (Str × Value)} {m:Str→Option Value},(∀ v,(x,v) ∉ binds)→bindL kindOf binds m x=m x
 | [],_,_=>rfl
 | (n,v)::r,m,h=>by
  unfold bindL
  rw [a9z fun w hw=>h w (List.mem_cons_of_mem _ hw)]
  split
  ·have:x≠n:=by rintro rfl;exact h v List.mem_cons_self
   simp [this]
  ·rfl
theorem aa0 {kindOf:Str→Option NameKind} {x:Str}:∀ {binds:List (Str × Value)} {m:Str→Option Value},(∀ v,(x,v) ∉ binds)→bindC kindOf binds m x=m x
 | [],_,_=>rfl
 | (n,v)::r,m,h=>by
  unfold bindC
  rw [aa0 fun w hw=>h w (List.mem_cons_of_mem _ hw)]
  split
  ·rfl
  ·have:x≠n:=by rintro rfl;exact h v List.mem_cons_self
   simp [this]
theorem aa1 {kindOf:Str→Option NameKind} {x:Str} {v:Value}:∀ {P:List Str} {vs:List Value} {i:Nat} {m:Str→Option Value},P.Nodup→P[i]? = some x→vs[i]? = some v→kindOf x=some .local →
  bindL kindOf (P.zip vs) m x=some v
 | [],_,_,_,_,h,_,_=>by simp at h
 | _::_,[],_,_,_,_,h,_=>by simp at h
 | p::P,w::vs,0,m,nd,h1,h2,hk=>by
  simp at h1 h2;subst h1;subst h2
  show bindL kindOf ((p,w)::P.zip vs) m p=_
  unfold bindL
  rw [a9z fun v hv=>(List.nodup_cons.mp nd).1 (List.of_mem_zip hv).1,if_pos hk]
  simp
 | p::P,w::vs,i+1,m,nd,h1,h2,hk=>by
  show bindL kindOf ((p,w)::P.zip vs) m x=_
  unfold bindL
  exact aa1 (i:=i) (List.nodup_cons.mp nd).2 (by simpa using h1) (by simpa using h2) hk
theorem aa2 {kindOf:Str→Option NameKind} {x:Str} {v:Value}:∀ {P:List Str} {vs:List Value} {i:Nat} {m:Str→Option Value},P.Nodup→P[i]? = some x→vs[i]? = some v→kindOf x≠some .local →
  bindC kindOf (P.zip vs) m x=some v
 | [],_,_,_,_,h,_,_=>by simp at h
 | _::_,[],_,_,_,_,h,_=>by simp at h
 | p::P,w::vs,0,m,nd,h1,h2,hk=>by
  simp at h1 h2;subst h1;subst h2
  show bindC kindOf ((p,w)::P.zip vs) m p=_
  unfold bindC
  rw [aa0 fun v hv=>(List.nodup_cons.mp nd).1 (List.of_mem_zip hv).1,if_neg hk]
  simp
 | p::P,w::vs,i+1,m,nd,h1,h2,hk=>by
  show bindC kindOf ((p,w)::P.zip vs) m x=_
  unfold bindC
  exact aa2 (i:=i) (List.nodup_cons.mp nd).2 (by simpa using h1) (by simpa using h2) hk
def start (N:List Str) (vs:List V):St:=vs.map some++List.replicate (N.length - vs.length) none
def a1k (CX:CXT) (P:Program) (w:World) (K:PySem.W.Frag) (mg:Str→Option Value) (base:Heap) (N:List Str) (qual:Str) (scope:Scope) (f:Addr) (cd:Value) (A:Around) (outer:List Env) (s:Shared) (H:Hp) (E:XK):Cx where
 prog:=P
 w:=w
 K:=K
 mg:=mg
 base:=base
 A:=A.deeper (envOfC qual scope s.heap.objs.size f cd)
 N:=N
 s₀:=s
 H₀:=H
 env:=envOfC qual scope s.heap.objs.size f cd
 outer:=outer
 stack:=envOfC qual scope s.heap.objs.size f cd::outer
 ex:=[]
 calm:=true
 fn:=fun _=>true
 pn:=[]
 xe:=fun e s'=>wpAny (model P w) (A.deeper (envOfC qual scope s.heap.objs.size f cd)) (leaving (envOfC qual scope s.heap.objs.size f cd) e) (fun _ s''=>CX outer H s E e s'') (fun e' s''=>CX outer H s E e' s'') s'
theorem aci {sc:Scope} {n:Nat} {x:Str} (h:sc.names.lookup x=some .cell):∃ c,(cellsFrom n sc.names []).lookup x=some c:=by
 have q:=PySem.W.cellsFrom_some sc.names n [] (.inl h)
 exact Option.isSome_iff_exists.mp q
theorem afq {CX:CXT} {P:Program} {w:World} {K:PySem.W.Frag} {mg:Str→Option Value} {base:Heap} {N ps:List Str} {qual:Str} {scope:Scope} {f:Addr} {cd:Value} {A:Around} {outer:List Env} {s s1:Shared} {H:Hp} {E:XK} {us:List Value} {vs:List V}
  (S:FnScope N ps scope) (hd:A.handled=none) (e0:Env0 P w K mg base A outer s H) (hl:vs.length=ps.length) (r:Vals vs us)
  (x:InCallC s s.heap.objs.size (bindL (envOfC qual scope s.heap.objs.size f cd).kindOf (ps.zip us) fun _=>none) (cellsFrom (s.heap.objs.size+1) scope.names []) (bindC (envOfC qual scope s.heap.objs.size f cd).kindOf (ps.zip us) fun _=>none) s1) :
  Inv (a1k CX P w K mg base N qual scope f cd A outer s H E) [] (start N vs) H s1:=by
 have hpl:ps.length≤N.length:=by have:=congrArg List.length S.pre;rw [List.length_take] at this;omega
 obtain ⟨h1,tk,rfl,hk⟩:=x.done
 have noA:∀ b:Addr,b ∉ (a1k CX P w K mg base N qual scope f cd A outer s H E).ex:=fun b z=>absurd (show b∈([]:List Addr) from z) (by simp)
 refine ⟨⟨e0.mod,S.kind,rfl,rfl,Nat.le_refl _,fun y z c h1 h2=>?_,fun y hy=>?_,fun y c _ h=>?_,fun _=>hd,Around.frames_deeper e0.frames, .inr ⟨rfl,rfl⟩,fun b z=>absurd z (noA b),e0.bs,e0.bsz,fun b _ _=>noA b,fun b z=>absurd z (noA b),e0.funs,e0.frf⟩,
  rfl,e0.bare,Un.kept hk,⟨_,x.toInCall.ns,fun i y v h1 h2 h3=>?_⟩,fun y c h=>⟨_,x.cell y c h⟩,e0.hok.fresh (Nat.le_refl _),fun y c h=>?_,fun p hp=>absurd (show p∈([]:List (Addr × Obj)) from hp) (by simp),e0.hok.kept hk,?_⟩
 ·exact name_of_addr x.apart (PySem.mem_of_lookup h1) (PySem.mem_of_lookup h2)
 ·have hy:scope.names.lookup y=some .cell∨scope.names.lookup y=some .free:=hy
  rcases hy with hy | hy
  ·exact aci hy
  ·exact absurd rfl (S.nofree _ (PySem.mem_of_lookup hy))
 ·exact Nat.le_of_lt (x.above y c (PySem.mem_of_lookup h))
 ·have hi:i<vs.length:=by
   unfold start at h2
   by_cases hi:i<vs.length
   ·exact hi
   ·rw [List.getElem?_append_right (by simpa using hi)] at h2
    rw [List.getElem?_replicate] at h2
    split at h2<;>cases h2
  have ha:vs[i]? = some v:=by
   unfold start at h2
   rw [List.getElem?_append_left (by simpa using hi),List.getElem?_map] at h2
   cases e:vs[i]? with
   | none=>rw [e] at h2;cases h2
   | some a=>rw [e] at h2;cases h2;rfl
  obtain ⟨u,hu,rv⟩:=r.get ha
  have hp:ps[i]? = some y:=by
   rw [← S.pre,List.getElem?_take_of_lt (by omega)];exact h1
  have ndP:ps.Nodup:=by rw [← S.pre];exact S.nd.sublist (List.take_sublist _ _)
  refine ⟨u,rv,?_⟩
  rcases S.par y (List.mem_of_getElem? hp) with k | k
  ·exact .inl ⟨k,aa1 ndP hp hu k⟩
  ·obtain ⟨c,e⟩:=aci (n:=s.heap.objs.size+1) k
   refine .inr ⟨.inl k,c,e,?_⟩
   have q:=x.cell y c e
   rw [aa2 ndP hp hu (by show scope.names.lookup y≠_;rw [k];decide)] at q
   exact q
 ·exact e0.hok.fresh (Nat.le_of_lt (x.above y c (PySem.mem_of_lookup h)))
 ·unfold start
  show _=N.length
  rw [List.length_append,List.length_map,List.length_replicate]
  omega
theorem arl {CX:CXT} {P:Program} {w:World} {K:PySem.W.Frag} {mg:Str→Option Value} {base:Heap} {k:Nat} {f:Addr} {name qual:Str} {params:Arguments} {body:List Stmt} {scope:Scope} {dV kV doc pm cdv ct oc:Value} {an od:Option Addr}
  {osl:Array (Option Value)} {N ps:List Str} {sp:Sp} (lk:K.lookup f=some ⟨oc,od, .func (PySem.W.fnOf name qual params body scope dV kV doc pm an cdv ct),osl⟩) (hcd:PySem.W.codeIn K cdv qual=true) (S:FnScope N ps scope)
  (len:∀ vs H Q E,sp vs H Q E→vs.length=ps.length)
  (hbody:∀ (A:Around) (outer:List Env) (s:Shared) (H:Hp) (vs:List V) (Q:VK) (E:XK),Room k (A.deeper (envOfC qual scope s.heap.objs.size f cdv))→sp vs H Q E →
   ∃ t,PSs (a1k CX P w K mg base N qual scope f cdv A outer s H E) body t∧t { nx:=fun _ H'=>Q .non H',rt:=Q } (start N vs) H) :
  FnOk P w K mg base CX (k+1) f (PySem.W.fnOf name qual params body scope dV kV doc pm an cdv ct) ps sp:=by
 refine ⟨len,fun A outer s H args us vs Q E hr e0 hb r hsp=>?_⟩
 have hl:=len _ _ _ _ hsp
 have KX:K.In s.heap:=e0.mod.kin.keeps fun b o e=>(e0.bs b o e).1
 have lim:s.heap.NoLimit:=e0.mod.nolimit.keeps fun b o e=>(e0.bs b o e).1
 have hkind:∀ y∈ps.zip us,scope.names.lookup y.1=some .local∨(scope.names.lookup y.1=some .cell∧((cellsFrom (s.heap.objs.size+1) scope.names []).lookup y.1).isSome=true):=fun ⟨n,v⟩ hy=>by
  rcases S.par n (List.of_mem_zip hy).1 with q | q
  ·exact .inl q
  ·exact .inr ⟨q,PySem.W.cellsFrom_some _ _ _ (.inl q)⟩
 refine codeAny_call_function hr.depth (KX _ _ lk) rfl S.co S.gen rfl (PySem.W.codeRec_of KX hcd) (hb _ _ _ _ ?_)
 refine wpAny_newFunctionEnv_cells S.kind hkind fun env he s1 x=>?_
 subst he
 refine ⟨lim.keeps x.toInCall.keep,codeAny_func ?_⟩
 obtain ⟨t,ht,hq⟩:=hbody A outer s H vs Q E (hr.deeper _) hsp
 have I:Inv (a1k CX P w K mg base N qual scope f cdv A outer s H E) [] (start N vs) H s1:=afq S hr.hd e0 hl r x
 refine wpAny_mono (ht [] s1 (start N vs) H _ I hq) (fun fl s' hs=>?_) fun e s' hs=>hs
 have fin:∀ {σ':St} {H':Hp} {v:V} {u:Value},Inv (a1k CX P w K mg base N qual scope f cdv A outer s H E) [] σ' H' s'→RelV v u→Q v H'→CE outer P w H s Q u s' :=
  fun {σ' H' v u} J rv q=>⟨v,H',J.os,J.bare,J.base,J.hok,rv,q⟩
 cases fl with
 | ret u =>
  obtain ⟨v,σ',H',J,rv,q⟩:=hs
  exact fin J rv q
 | next =>
  obtain ⟨σ',H',J,q⟩:=hs
  exact fin (v:=V.non) (u:=Value.none) J rfl q
 | brk =>
  obtain ⟨_,_,_,q⟩:=hs
  exact False.elim q
 | cont =>
  obtain ⟨_,_,_,q⟩:=hs
  exact False.elim q
end L2
namespace L2
open PySem PySem.Spec PyProof.Rows
section
variable {X:Cx} {x:Str} {p pos:Pos} {e:Expr} {es:List Expr} {t:TA} {id T:String} {r:List V→Hp→VK→Prop}
def tCB (r:List V→Hp→VK→Prop) (t:TA):TE:=fun σ H Q=>t σ H fun vs H1=>r vs H1 Q
theorem a65 (hc:CallR X (.builtin id) r) (hg:Gl X x) (hm:X.mg x=none) (hv:bootBuiltins x=some (.builtin id)) (ha:PA X (e::es) t) (hn:x ≠ "__name__":=by decide) (hdb:(x == ("__debug__" : Str))=false:=by decide)
  (he:starEach (e::es) X.env=(false,eval e X.env)::starEach es X.env:=by rfl) (hpl:(backTo pos (starEach es X.env)).any (·.1)=false:=by rfl):PE X (.Call (.Name x p) (e::es) [] pos) (tCB r t):=by
 intro pins s σ H Q I h
 refine wpAny_Call_Name_kw (a9s I hg hm hv ?_ hn hdb)
 exact PyProof.Rows.callWith_builtin1 (thn (ha pos pins s σ H _ I h) fun us s1 ⟨vs,H1,I1,r1,q1⟩=>hc pins s1 σ H1 vs us Q I1 r1 q1) he hpl
theorem aa3 (hc:CallR X (.type T) r) (hg:Gl X x) (hm:X.mg x=none) (hv:bootBuiltins x=some (.type T)) (ha:PA X (e::es) t) (hn:x ≠ "__name__":=by decide) (hdb:(x == ("__debug__" : Str))=false:=by decide)
  (he:starEach (e::es) X.env=(false,eval e X.env)::starEach es X.env:=by rfl) (hpl:(backTo pos (starEach es X.env)).any (·.1)=false:=by rfl):PE X (.Call (.Name x p) (e::es) [] pos) (tCB r t):=by
 intro pins s σ H Q I h
 refine wpAny_Call_Name_kw (a9s I hg hm hv ?_ hn hdb)
 exact PyProof.Rows.callWith_type1 (thn (ha pos pins s σ H _ I h) fun us s1 ⟨vs,H1,I1,r1,q1⟩=>hc pins s1 σ H1 vs us Q I1 r1 q1) he hpl
end
end L2
namespace HT
open PySem PyProof.Rows
section
variable {prog:Program} {w:World} {A:Around} {E:Value→Shared→Prop} {s:Shared}
theorem anc {t b:Addr} {vs ws:List Value} {Q:Value→Shared→Prop} (ht:IsTup s.heap t vs.toArray) (hb:IsTup s.heap b ws.toArray) (hv:vs≠[])
  (h1:ws=[]→Q (.ref t) s) (h2:ws≠[]→Q (.ref s.heap.objs.size) { s with heap:=s.heap.push { cls:=.type "tuple",data:=.seq (vs++ws).toArray } })
  (hsz:vs.length+ws.length≤sizeLine):wpAny (model prog w) A (binaryOp .Add (.ref t) (.ref b)) Q E s:=by
 obtain ⟨⟨cls,dd,data,sl⟩,ho,hc,n,hd⟩:=id ht
 obtain ⟨⟨cls2,dd2,data2,sl2⟩,ho2,hc2,n2,hd2⟩:=id hb
 simp only at hc hd hc2 hd2
 subst hc hd hc2 hd2
 have e:vs.toArray++ws.toArray=(vs++ws).toArray:=by simp
 by_cases hw:ws=[]
 ·exact concat_meets ⟨_,ho,rfl⟩ ⟨_,ho2,rfl⟩ noFill_tuple_add seq_tuple_add PySem.F.slot_tuple_add PySem.F.entry_tuple_add (PySem.F.args_tuple_add_2 _ _)
   (tuple_addW1 t b vs.toArray ws.toArray n n2 dd dd2 sl sl2 (by simpa using hv) (by simp [hw])) ⟨ho,ho2,h1 hw⟩
 ·refine concat_meets ⟨_,ho,rfl⟩ ⟨_,ho2,rfl⟩ noFill_tuple_add seq_tuple_add PySem.F.slot_tuple_add PySem.F.entry_tuple_add (PySem.F.args_tuple_add_2 _ _)
   (tuple_addW2 t b vs.toArray ws.toArray n n2 dd dd2 sl sl2 (by simpa using hv) (by simpa using hw) (by rw [List.size_toArray,List.size_toArray];exact hsz)) ⟨ho,ho2,?_⟩
  rw [e]
  exact h2 hw
def sIx (n d:Nat):Option Int→Nat
 | none=>d
 | some v=>if v<0 then (v+(n:Int)).toNat else min v.toNat n
theorem a8f (n d:Nat):sIx n d none=d:=rfl
theorem a8g (n d k:Nat):sIx n d (some (k:Int))=min k n:=by
 show (if (k:Int)<0 then ((k:Int)+(n:Int)).toNat else min (k:Int).toNat n)=min k n
 rw [if_neg (by omega),Int.toNat_natCast]
theorem afr (n d:Nat) (hd:d≤n) (o:Option Int):sIx n d o≤n:=by
 cases o with
 | none=>exact hd
 | some v =>
  show (if v<0 then (v+(n:Int)).toNat else min v.toNat n)≤n
  by_cases hv:v<0
  ·rw [if_pos hv];omega
  ·rw [if_neg hv];exact Nat.min_le_right _ _
theorem afs (v:Int) (n d:Nat):(if v<0 then max (v+(n:Int)) 0 else min v (n:Int))=((sIx n d (some v):Nat):Int):=by
 show (if v<0 then max (v+(n:Int)) 0 else min v (n:Int))=(((if v<0 then (v+(n:Int)).toNat else min v.toNat n):Nat):Int)
 by_cases hv:v<0
 ·simp only [if_pos hv];omega
 ·simp only [if_neg hv];omega
theorem ae8 (lo hi:Option Int) (n:Nat):Builtin.Slice.sliceAdjust lo hi 1 (n:Int)=(((sIx n 0 lo:Nat):Int),((sIx n n hi:Nat):Int)):=by
 have h1:¬ ((1:Int)<0):=by omega
 unfold Builtin.Slice.sliceAdjust
 simp only [h1,if_false]
 refine Prod.ext ?_ ?_
 ·cases lo with
  | none=>rfl
  | some v=>exact afs v n 0
 ·cases hi with
  | none=>rfl
  | some v=>exact afs v n n
theorem ae9 (i j:Nat):Builtin.Slice.slicePlaces (i:Int) (j:Int) 1=j - i:=by
 unfold Builtin.Slice.slicePlaces
 have h1:(1:Int) > 0:=by omega
 simp only [h1,if_true,Int.ediv_one]
 split<;>omega
theorem a7r {v:Value} {o:Option Int} {Q:Option Int→Shared→Prop} (p:IsPart v o) (h:Q o s):wpAny (model prog w) A (Builtin.Slice.slicePartIndex v) Q E s:=by
 cases p with
 | none=>exact slicePart_none h
 | int i t=>exact slicePart_int h
theorem a1q {sl:Addr} {vl vu:Value} {lo hi:Option Int} {n:Nat} {Q:Int × Int × Nat→Shared→Prop} (hs:s.heap.IsSliceOf sl vl vu .none) (pl:IsPart vl lo) (pu:IsPart vu hi)
  (h:Q (((sIx n 0 lo:Nat):Int),1,sIx n n hi - sIx n 0 lo) s):wpAny (model prog w) A (Builtin.Slice.sliceApplied (.ref sl) (pure (n:Int))) Q E s:=by
 obtain ⟨os,hos,hcs,hds⟩:=id hs
 unfold Builtin.Slice.sliceApplied Builtin.Slice.sliceFields
 refine wpAny_bind (wpAny_bind (wpAny_field hos hds (x:=vl) rfl (wpAny_bind (wpAny_field hos hds (x:=vu) rfl (wpAny_bind (wpAny_field hos hds (x:=.none) rfl (wpAny_pure ?_)))))))
 refine wpAny_bind (slicePart_none ?_)
 show wpAny _ _ (if ((1:Int) == 0)=true then _ else _) _ _ s
 rw [if_neg (by decide)]
 refine wpAny_bind (a7r pl (wpAny_bind (a7r pu (wpAny_bind (wpAny_pure ?_)))))
 show wpAny _ _ (match Builtin.Slice.sliceAdjust lo hi 1 (n:Int) with | (lo,hi)=>pure (lo,(1:Int),Builtin.Slice.slicePlaces lo hi 1)) _ _ s
 rw [ae8 lo hi n]
 show wpAny _ _ (pure (((sIx n 0 lo:Nat):Int),(1:Int),Builtin.Slice.slicePlaces ((sIx n 0 lo:Nat):Int) ((sIx n n hi:Nat):Int) 1)) _ _ s
 rw [ae9]
 exact wpAny_pure h
theorem aj4 (xs:Array Value) (i k:Nat):((List.range k).filterMap fun (m:Nat)=>xs[((i:Int)+(m:Int)*1).toNat]?).toArray=((xs.toList.drop i).take k).toArray:=by
 have e:(fun (m:Nat)=>xs[((i:Int)+(m:Int)*1).toNat]?)=fun m=>xs[i+m]?:=by
  funext m
  have:((i:Int)+(m:Int)*1).toNat=i+m:=by omega
  rw [this]
 rw [e]
 have:=pick_run xs i k
 rw [List.filterMap_map] at this
 have e2:((fun x=>xs[x]?) ∘ fun x=>i+x)=fun m=>xs[i+m]?:=rfl
 rw [e2] at this
 rw [this]
theorem a4m {t sl:Addr} {items:Array Value} {vl vu:Value} {lo hi:Option Int} {Q:Value→Shared→Prop} (ht:IsTup s.heap t items) (hs:s.heap.IsSliceOf sl vl vu .none) (pl:IsPart vl lo) (pu:IsPart vu hi)
  (hw:¬ (sIx items.size 0 lo=0∧sIx items.size items.size hi=items.size))
  (h:Q (.ref s.heap.objs.size) { s with heap:=s.heap.push { cls:=.type "tuple",data:=.seq ((items.toList.drop (sIx items.size 0 lo)).take (sIx items.size items.size hi - sIx items.size 0 lo)).toArray } })
  (hsz:items.size≤sizeLine):wpAny (model prog w) A (getItem (.ref t) (.ref sl)) Q E s:=by
 have htake:sizeOk (.seq ((items.toList.drop (sIx items.size 0 lo)).take (sIx items.size items.size hi - sIx items.size 0 lo)).toArray):=by
  show ((items.toList.drop (sIx items.size 0 lo)).take (sIx items.size items.size hi - sIx items.size 0 lo)).toArray.size≤sizeLine
  rw [List.size_toArray,List.length_take,List.length_drop,Array.length_toList]
  omega
 have hj:sIx items.size items.size hi≤items.size:=afr _ _ (Nat.le_refl _) hi
 obtain ⟨os,hos,hcs,hds⟩:=id hs
 have hTs:s.TypeIs (.ref sl) "slice":=⟨os,hos,hcs⟩
 unfold getItem
 try with_reducible refine wpAny_holding ?_
 first | refine wpAny_bind (wpAny_pure ?_) | skip
 refine wpAny_bind (wpAny_sequenceKey ht.typeIs (by decide) ?_)
 refine wpAny_bind (wpAny_callSpecial?_slot (name:=Str.ofString "__getitem__") ht.typeIs PyProof.Rows.slot_tuple_getitem
  (wpAny_call_entry PyProof.Rows.slot_tuple_getitem ht.typeIs entry_tuple_getitem ?_ (args_tuple_getitem _ _)))
 show wpAny _ _ (Builtin.Tuple.tupleItemsOf (.ref t)>>=_) _ _ s
 refine wpAny_bind (tupleItemsOf_ ht ?_)
 refine wpAny_bind (wpAny_typeOf hTs ?_)
 rw [if_pos (by decide)]
 refine wpAny_bind (a1q hs pl pu ?_)
 have hno:¬ ((((sIx items.size 0 lo:Nat):Int) == 0 && (1:Int) == 1 && (sIx items.size items.size hi - sIx items.size 0 lo) == items.size)=true):=by
  intro q
  rw [Bool.and_eq_true,Bool.and_eq_true] at q
  have q1:((sIx items.size 0 lo:Nat):Int)=0:=eq_of_beq q.1.1
  have q2:sIx items.size items.size hi - sIx items.size 0 lo=items.size:=eq_of_beq q.2
  exact hw ⟨by omega,by omega⟩
 show wpAny _ _ (if (((sIx items.size 0 lo:Nat):Int) == 0 && (1:Int) == 1 && (sIx items.size items.size hi - sIx items.size 0 lo) == items.size)=true then _ else _) _ _ s
 rw [if_neg hno,aj4]
 first
  | exact wpAny_bind (m:=Builtin.Tuple.tupleExact _) (wpAny_newObj_type (wpAny_pure ⟨_,rfl,wpAny_pure h⟩) htake)
  | exact wpAny_bind (m:=Builtin.Tuple.tupleExact _) (wpAny_newObj_type (wpAny_bind (wpAny_pure (wpAny_pure ⟨_,rfl,wpAny_pure h⟩))) htake)
  | exact wpAny_bind (wpAny_bind (m:=Builtin.Tuple.tupleExact _) (wpAny_newObj_type (wpAny_pure (wpAny_pure ⟨_,rfl,wpAny_pure h⟩)) htake))
  | exact wpAny_bind (wpAny_bind (m:=Builtin.Tuple.tupleExact _) (wpAny_newObj_type (wpAny_pure ⟨_,rfl,wpAny_pure h⟩) htake))
end
end HT
namespace L2
open PySem PySem.Spec PyProof.Rows
abbrev TO:=St→Hp→(Option Int→Hp→Prop)→Prop
def PO (X:Cx) (e:Option Expr) (t:TO):Prop :=
 ∀ (pins:List (Addr × Obj)) (s:Shared) (σ:St) (H:Hp) (Q:Option Int→Hp→Prop),Inv X pins σ H s→t σ H Q →
  wpAny (model X.prog X.w) X.A (evalPart e X.env) (fun u s'=>∃ o H',Inv X pins σ H' s'∧IsPart u o∧Q o H') X.xe s
def ane:TO:=fun _ H Q=>Q none H
def awd (t:TE):TO:=fun σ H Q=>t σ H fun x H1=>∃ i,x = .int i∧Q (some i) H1
theorem intsAre_of {ns:List Int}:∀ {us:List Value},Vals (ns.map V.int) us→IntsAre us ns:=by
 induction ns with
 | nil=>intro us r;rw [List.map_nil] at r;cases r;exact .nil
 | cons n ns ih =>
  intro us r
  rw [List.map_cons] at r
  cases r with
  | cons r1 r2 =>
   obtain ⟨t,e⟩:=r1
   subst e
   exact .cons n t (ih r2)
section
variable {X:Cx} {e:Expr} {te:TE} {lo hi:Option Expr} {tl th:TO} {pos p2:Pos}
theorem anf:PO X none ane:=by
 intro pins s σ H Q I h
 rw [evalPart_none]
 exact wpAny_pure ⟨none,H,I, .none,h⟩
theorem ang (h:PE X e te):PO X (some e) (awd te):=by
 intro pins s σ H Q I hw
 rw [evalPart_some]
 refine thn (h pins s σ H _ I hw) fun u s1 ⟨x,H1,I1,r1,q1⟩=>?_
 obtain ⟨i,rfl,q⟩:=q1
 obtain ⟨t,rfl⟩:=r1
 exact ⟨some i,H1,I1, .int i t,q⟩
def SlR (X:Cx) (r:V→Option Int→Option Int→Hp→VK→Prop):Prop :=
 ∀ (pins:List (Addr × Obj)) (s:Shared) (σ:St) (H:Hp) (x:V) (v vl vu:Value) (lo hi:Option Int) (sl:Addr) (Q:VK),Inv X pins σ H s→RelV x v→s.heap.IsSliceOf sl vl vu .none→IsPart vl lo→IsPart vu hi→r x lo hi H Q →
  ∃ T id,typeLookup (.type T) "__getitem__" = pure (some (.builtin id))∧s.TypeIs v T∧wpAny (model X.prog X.w) X.A (getItem v (.ref sl)) (EP X pins σ Q) X.xe s
theorem SlR.or {r r':V→Option Int→Option Int→Hp→VK→Prop} (h:SlR X r) (h':SlR X r'):SlR X (fun x lo hi H Q=>r x lo hi H Q∨r' x lo hi H Q):=by
 intro pins s σ H x v vl vu lo hi sl Q I rx hs pl pu q
 rcases q with q | q
 ·exact h pins s σ H x v vl vu lo hi sl Q I rx hs pl pu q
 ·exact h' pins s σ H x v vl vu lo hi sl Q I rx hs pl pu q
def tSl (r:V→Option Int→Option Int→Hp→VK→Prop) (te:TE) (tl th:TO):TE:=fun σ H Q=>te σ H fun x H1=>tl σ H1 fun l H2=>th σ H2 fun u H3=>r x l u H3 Q
theorem aj5 {r:V→Option Int→Option Int→Hp→VK→Prop} (hr:SlR X r) (he:PE X e te) (hl:PO X lo tl) (hu:PO X hi th):PE X (.Subscript e (.Slice lo hi none p2) pos) (tSl r te tl th):=by
 intro pins s σ H Q I h
 refine Subscript_ (thn (he pins s σ H _ I h) fun v s1 ⟨x,H1,I1,r1,q1⟩=>?_)
 refine wpAny_Slice (thn (hl pins s1 σ H1 _ I1 q1) fun vl s2 ⟨l,H2,I2,pl,q2⟩=>thn (hu pins s2 σ H2 _ I2 q2) fun vu s3 ⟨u,H3,I3,pu,q3⟩=>?_)
 rw [evalPart_none]
 refine wpAny_pure ?_
 have I4:Inv X pins σ H3 { s3 with heap:=s3.heap.push { cls:=.type "slice",data:=.fields #[vl,vu, .none] } }:=I3.kept (t':=s3.toks) fun b ob q=>Heap.get?_push_of_some _ q
 obtain ⟨T,id,hT,ht,hg⟩:=hr pins { s3 with heap:=s3.heap.push { cls:=.type "slice",data:=.fields #[vl,vu, .none] } } σ H3 x v vl vu l u s3.heap.objs.size Q I4 r1 (Heap.IsSliceOf.new ..) pl pu q3
 show wpAny (model X.prog X.w) X.A (subscriptTail e (.Slice lo hi none p2) v (.ref s3.heap.objs.size)) (EP X pins σ Q) X.xe { s3 with heap:=s3.heap.push { cls:=.type "slice",data:=.fields #[vl,vu, .none] } }
 exact tail_any (ops:=[.ref s3.heap.objs.size,v]) ht hT hg (by with_unfolding_all rfl)
def alf (xs:List V) (lo hi:Option Int):List V:=(xs.drop (HT.sIx xs.length 0 lo)).take (HT.sIx xs.length xs.length hi - HT.sIx xs.length 0 lo)
theorem a6e (xs:List V) (lo hi:Option Int):(alf xs lo hi).length≤xs.length:=by
 unfold alf
 rw [List.length_take,List.length_drop]
 omega
def awe (K:PySem.W.Frag):V→Option Int→Option Int→Hp→VK→Prop:=fun x lo hi H Q=>∃ a xs,x = .ref a∧SqT K H a xs ∧
 ¬ (HT.sIx xs.length 0 lo=0∧HT.sIx xs.length xs.length hi=xs.length)∧∀ p,H p=none→Q (.ref p) (upd H p (.tup (alf xs lo hi)))
theorem arn:SlR X (awe X.K):=by
 intro pins s σ H x v vl vu lo hi sl Q I rx hs pl pu h
 obtain ⟨a,xs,rfl,hx,hw,q⟩:=h
 cases rx
 obtain ⟨its,r,ht,hz⟩:=I.tuple hx
 have hlen:its.toArray.size=xs.length:=by rw [List.size_toArray];exact r.length.symm
 refine ⟨"tuple",_,PyProof.Rows.slot_tuple_getitem.lookup,ht.typeIs,?_⟩
 refine HT.a4m ht hs pl pu (by rw [hlen];exact hw) ?_ (by rw [hlen];exact hz)
 rw [hlen]
 refine ⟨.ref s.heap.objs.size,_,I.laid (t':=s.toks) (o:=.tup (alf xs lo hi)) (fun b ob q=>Heap.get?_push_of_some _ q) (Nat.le_refl _) ?_,rfl,q _ (I.hok.fresh (Nat.le_refl _))⟩
 exact ⟨Nat.le_trans (a6e xs lo hi) hz,_,(r.drop (HT.sIx xs.length 0 lo)).take (HT.sIx xs.length xs.length hi - HT.sIx xs.length 0 lo),IsTup.new _ _⟩
def aro (K:PySem.W.Frag):R2:=fun x y H Q=>∃ a b xs ys,x = .ref a∧y = .ref b∧SqT K H a xs∧SqT K H b ys∧xs≠[]∧xs.length+ys.length≤sizeLine ∧
 (ys=[]→Q (.ref a) H)∧(ys≠[]→∀ p,H p=none→Q (.ref p) (upd H p (.tup (xs++ys))))
theorem Vals.nil_iff {xs:List V} {us:List Value} (r:Vals xs us):us=[]↔xs=[]:=by
 cases r with
 | nil=>simp
 | cons _ _=>simp
theorem anh:OpR X (binaryOp .Add) (aro X.K):=by
 intro pins s σ H x y v u Q I rx ry h
 obtain ⟨a,b,xs,ys,rfl,rfl,ha,hb,hx,hz,q1,q2⟩:=h
 cases rx
 cases ry
 obtain ⟨its,r1,p1,_⟩:=I.tuple ha
 obtain ⟨its2,r2,p2,_⟩:=I.tuple hb
 refine HT.anc p1 p2 (fun z=>hx (r1.nil_iff.mp z)) (fun z=>⟨.ref a,H,I,rfl,q1 (r2.nil_iff.mp z)⟩) (fun z=>?_) (by rw [← r1.length,← r2.length];exact hz)
 refine ⟨.ref s.heap.objs.size,_,I.laid (t':=s.toks) (o:=.tup (xs++ys)) (fun b ob q=>Heap.get?_push_of_some _ q) (Nat.le_refl _) ?_,rfl,q2 (fun w=>z (r2.nil_iff.mpr w)) _ (I.hok.fresh (Nat.le_refl _))⟩
 exact ⟨by rw [List.length_append];exact hz,_,r1.append r2,IsTup.new _ _⟩
end
end L2
namespace L2
open PySem PySem.Spec PyProof.Rows
def ixN (n:Nat) (i:Int):Option Nat:=if 0≤i then (if i<n then some i.toNat else none) else if -(n:Int)≤i then some (i+n).toNat else none
def atI {α:Type} (xs:List α) (i:Int):Option α:=(ixN xs.length i).bind fun j=>xs[j]?
theorem aft {n:Nat} {i:Int} {j:Nat} (h:ixN n i=some j):seqIndex? i n=some j∧j<n ∧ -(n:Int)≤i∧i<n:=by
 unfold ixN at h
 by_cases h0:0≤i
 ·rw [if_pos h0] at h
  by_cases h1:i<n
  ·rw [if_pos h1] at h
   have e:i.toNat=j:=Option.some.inj h
   exact ⟨by rw [seqIndex_of h0 h1,e],by omega,by omega,h1⟩
  ·rw [if_neg h1] at h;cases h
 ·rw [if_neg h0] at h
  by_cases h1 : -(n:Int)≤i
  ·rw [if_pos h1] at h
   have e:(i+n).toNat=j:=Option.some.inj h
   exact ⟨by rw [seqIndex_neg (by omega) h1,e],by omega,h1,by omega⟩
  ·rw [if_neg h1] at h;cases h
theorem abh {α:Type} {xs:List α} {i:Int} {v:α} (h:atI xs i=some v):∃ j,seqIndex? i xs.length=some j∧xs[j]? = some v∧j<xs.length ∧ -(xs.length:Int)≤i∧i<xs.length:=by
 unfold atI at h
 cases e:ixN xs.length i with
 | none=>rw [e] at h;cases h
 | some j =>
  rw [e] at h
  obtain ⟨h1,h2,h3,h4⟩:=aft e
  exact ⟨j,h1,h,h2,h3,h4⟩
theorem yo {α:Type} {xs:List α} {j:Nat} {v:α} (h:xs[j]? = some v):atI xs (j:Int)=some v:=by
 have hj:j<xs.length:=(List.getElem?_eq_some_iff.mp h).1
 have e:ixN xs.length (j:Int)=some j:=by
  unfold ixN
  rw [if_pos (by omega),if_pos (by omega)];simp
 unfold atI;rw [e];exact h
def abi (b:Expr):Prop:=∀ o i,subscripted b false o i=operate [o,i] (getItem o i)
def IxR (X:Cx) (r:R2):Prop :=
 ∀ (value slice:Expr) (pins:List (Addr × Obj)) (s:Shared) (σ:St) (H:Hp) (x y:V) (v u:Value) (Q:VK),Inv X pins σ H s→RelV x v→RelV y u→r x y H Q →
  subscripted slice false v u=operate [v,u] (getItem v u)→wpAny (model X.prog X.w) X.A (subscriptTail value slice v u) (EP X pins σ Q) X.xe s
def MtR (X:Cx) (id:String) (r:V→List V→Hp→VK→Prop):Prop :=
 ∀ (pins:List (Addr × Obj)) (s:Shared) (σ:St) (H:Hp) (x:V) (xs:List V) (v:Value) (us:List Value) (Q:VK),Inv X pins σ H s→RelV x v→Vals xs us→r x xs H Q →
  wpAny (model X.prog X.w) X.A (call (.builtin id) (v::us)) (EP X pins σ Q) X.xe s
section
variable {X:Cx} {a b:Expr} {ta tb:TE} {pos:Pos}
theorem IxR.or {r r':R2} (h:IxR X r) (h':IxR X r'):IxR X (fun x y H Q=>r x y H Q∨r' x y H Q):=by
 intro value slice pins s σ H x y v u Q I rx ry q hs
 rcases q with q | q
 ·exact h value slice pins s σ H x y v u Q I rx ry q hs
 ·exact h' value slice pins s σ H x y v u Q I rx ry q hs
theorem awf {r:R2} (hr:IxR X r) (ha:PE X a ta) (hb:PE X b tb) (hs:abi b):PE X (.Subscript a b pos) (tOp r ta tb):=by
 intro pins s σ H Q I h
 exact Subscript_ (aw6 ha hb I h fun v u s2 x y H2 I2 rx ry q=>hr a b pins s2 σ H2 x y v u Q I2 rx ry q (hs _ _))
def axs (K:PySem.W.Frag):R2:=fun x y H Q=>∃ p xs i v,x = .ref p∧y = .int i∧SqL K H p xs∧atI xs i=some v∧Q v H
def axt (K:PySem.W.Frag):R2:=fun x y H Q=>∃ p xs i v,x = .ref p∧y = .int i∧SqT K H p xs∧atI xs i=some v∧Q v H
def axu:R2:=fun x y H Q=>∃ z i c,x = .str z∧y = .int i∧z.length≤sizeLine∧atI z.cps.toList i=some c∧Q (.str ⟨#[c]⟩) H
theorem ani:IxR X (axs X.K):=by
 intro value slice pins s σ H x y v u Q I rx ry h hs
 obtain ⟨p,xs,i,z,rfl,rfl,hq,he,q⟩:=h
 cases rx
 obtain ⟨t,rfl⟩:=ry
 obtain ⟨its,r,pl,hz⟩:=I.list hq
 obtain ⟨j,h1,h2,h3,h4,h5⟩:=abh he
 obtain ⟨w,ew,rw'⟩:=r.get h2
 have hl:=r.length
 have hn:=a6c
 have fin:EP X pins σ Q w s:=⟨z,H,I,rw',q⟩
 by_cases h0:0≤i
 ·have hj:i.toNat=j:=by
   rw [seqIndex_of h0 h5] at h1
   exact Option.some.inj h1
  exact item_listR pl.isList h0 (by omega) (by rw [hj];simpa using ew) fin hs
 ·have hj:(i+(its.toArray.size:Int)).toNat=j:=by
   rw [seqIndex_neg (by omega) h4] at h1
   rw [List.size_toArray,← hl]
   exact Option.some.inj h1
  exact subscriptTail_builtinR (x:=w) pl.isList.typeIs slot_list_getitem.lookup
   (wpAny_getItem_list_neg (Q:=fun r s'=>r=w∧EP X pins σ Q r s') pl.isList (by omega) (by rw [List.size_toArray]<;>omega) (by omega) (by rw [hj];simpa using ew) ⟨rfl,fin⟩) hs
theorem a3w:IxR X (axt X.K):=by
 intro value slice pins s σ H x y v u Q I rx ry h hs
 obtain ⟨p,xs,i,z,rfl,rfl,hq,he,q⟩:=h
 cases rx
 obtain ⟨t,rfl⟩:=ry
 obtain ⟨its,r,pl,hz⟩:=I.tuple hq
 obtain ⟨j,h1,h2,h3,h4,h5⟩:=abh he
 obtain ⟨w,ew,rw'⟩:=r.get h2
 have hl:=r.length
 have hn:=a6c
 have fin:EP X pins σ Q w s:=⟨z,H,I,rw',q⟩
 exact subscriptTail_builtinR (x:=w) pl.typeIs slot_tuple_getitem.lookup
  (getItem_tuple (j:=j) (Q:=fun r s'=>r=w∧EP X pins σ Q r s') pl (by omega) (by omega) (by rw [List.size_toArray,← hl];exact h1) (by simpa using ew) ⟨rfl,fin⟩) hs
theorem arp:IxR X axu:=by
 intro value slice pins s σ H x y v u Q I rx ry h hs
 obtain ⟨z,i,c,rfl,rfl,hz,he,q⟩:=h
 obtain ⟨t,rfl⟩:=rx
 obtain ⟨t',rfl⟩:=ry
 obtain ⟨j,h1,h2,h3,h4,h5⟩:=abh he
 have hl:z.cps.toList.length=z.length:=by simp [Str.length]
 rw [hl] at h1 h4 h5
 have hn:=a6c
 exact tail_any (typeIs_str s z t) slot_str_getitem.lookup (getItem_str (c:=c) (by
  have e1:decide (i < -(2 ^ 63:Int))=false:=decide_eq_false (by omega)
  have e2:decide (i≥2 ^ 63)=false:=decide_eq_false (by omega)
  rw [e1,e2,Bool.or_false]) (by rw [h1];simpa using h2) ⟨.str ⟨#[c]⟩,H,I.tok _,⟨_,rfl⟩,q⟩) hs
def rIx (K:PySem.W.Frag):R2:=fun x y H Q=>axs K x y H Q∨axt K x y H Q∨axu x y H Q
theorem arq:IxR X (rIx X.K):=ani.or (a3w.or arp)
theorem aea (its:List Value) (n j:Nat) (u:Value):Obj.mapSeq (·.setIfInBounds j u) { cls:=.type "list",data:=.seq its.toArray n }={ cls:=.type "list",data:=.seq (its.set j u).toArray n }:=by
 simp [Obj.mapSeq]
theorem Inv.lst {pins:List (Addr × Obj)} {σ:St} {H:Hp} {s:Shared} {p:Addr} {xs:List V} (I:Inv X pins σ H s) (h:H p=some (.lst xs)) :
  ∃ (its:List Value) (n:Nat),Vals xs its∧s.heap.get? p=some { cls:=.type "list",data:=.seq its.toArray n }∧xs.length≤sizeLine:=by
 obtain ⟨z,its,n,r,e⟩:=I.hok p _ h
 exact ⟨its,n,r,e,z⟩
theorem Inv.lstUpd {pins:List (Addr × Obj)} {σ:St} {H:Hp} {s:Shared} {p:Addr} {xs ys:List V} {its its':List Value} {n n':Nat} {f:Obj→Obj} (I:Inv X pins σ H s) (h:H p=some (.lst xs))
  (ho:s.heap.get? p=some { cls:=.type "list",data:=.seq its.toArray n }) (hf:f { cls:=.type "list",data:=.seq its.toArray n }={ cls:=.type "list",data:=.seq its'.toArray n' }) (r:Vals ys its') (hz:ys.length≤sizeLine) (t:Nat) :
  Inv X pins σ (upd H p (.lst ys)) { s with heap:=s.heap.update p f,toks:=t }:=by
 have e:(s.heap.update p f).get? p=some { cls:=.type "list",data:=.seq its'.toArray n' }:=by
  rw [Heap.get?_update_self f ho (by rw [hf]<;>rfl),hf]
 refine I.write (x:=p) (e:=p) (by rw [h];trivial) (.inl rfl) (fun b u hb q=>(Heap.get?_update_other _ _ (Ne.symm hb)).trans q) ⟨_,e⟩ ?_
 exact ⟨hz,its',n',r,e⟩
def ars:V→V→V→Hp→(Hp→Prop)→Prop:=fun o i v H Q=>∃ p xs k j,o = .ref p∧i = .int k∧H p=some (.lst xs)∧ixN xs.length k=some j∧Q (upd H p (.lst (xs.set j v)))
theorem set_list:axo X ars:=by
 intro pins s σ H o i v ov iv u Q I ro ri rv h
 obtain ⟨p,xs,k,j,rfl,rfl,hp,hj,q⟩:=h
 cases ro
 obtain ⟨t,rfl⟩:=ri
 obtain ⟨its,n,r,ho,hz⟩:=I.lst hp
 obtain ⟨h1,h2,h3,h4⟩:=aft hj
 have hl:=r.length
 have hn:=a6c
 have I':Inv X pins σ (upd H p (.lst (xs.set j v))) { s with heap:=s.heap.update p (Obj.mapSeq (·.setIfInBounds j u)) } :=
  I.lstUpd hp ho (aea its n j u) (r.set rv j) (by rw [List.length_set];exact hz) s.toks
 by_cases h0:0≤k
 ·have hk:k.toNat=j:=by
   rw [seqIndex_of h0 h4] at h1
   exact Option.some.inj h1
  exact PySem.W.ki_setAt ho h0 (by omega) (by rw [List.size_toArray,← hl];exact h4) (by rw [hk];exact ⟨_,I',q⟩)
 ·have hk:(k+(its.toArray.size:Int)).toNat=j:=by
   rw [seqIndex_neg (by omega) h3] at h1
   rw [List.size_toArray,← hl]
   exact Option.some.inj h1
  exact PySem.W.ki_setBack ho (by omega) (by rw [List.size_toArray,← hl];exact h3) (by omega) (by rw [hk];exact ⟨_,I',q⟩)
theorem aa4 (lo hi:Option Int) (n:Nat):(sliceBounds lo hi none n).1=((HT.sIx n 0 lo:Nat):Int)∧(sliceBounds lo hi none n).2.1=((HT.sIx n n hi:Nat):Int)∧(sliceBounds lo hi none n).2.2=1:=by
 refine ⟨?_,?_,rfl⟩
 ·cases lo with
  | none=>simp [sliceBounds,HT.sIx]
  | some i =>
   simp only [sliceBounds,HT.sIx,Option.getD_none,show (1:Int) > 0 by decide,if_true]
   by_cases h:i<0
   ·simp only [h,if_true]<;>omega
   ·simp only [h,if_false]<;>omega
 ·cases hi with
  | none=>simp [sliceBounds,HT.sIx]
  | some i =>
   simp only [sliceBounds,HT.sIx,Option.getD_none,show (1:Int) > 0 by decide,if_true]
   by_cases h:i<0
   ·simp only [h,if_true]<;>omega
   ·simp only [h,if_false]<;>omega
theorem a8h (its:List Value) (lo hi:Option Int):slicePick its.toArray lo hi none=((its.drop (HT.sIx its.length 0 lo)).take (HT.sIx its.length its.length hi - HT.sIx its.length 0 lo)).toArray:=by
 obtain ⟨h1,h2,h3⟩:=aa4 lo hi its.toArray.size
 unfold slicePick
 rw [h1,h2,h3]
 simp only [sliceRange_one,pick_run,List.size_toArray]<;>rfl
def awg (K:PySem.W.Frag):V→Option Int→Option Int→Hp→VK→Prop:=fun x lo hi H Q=>∃ a xs,x = .ref a∧SqL K H a xs∧∀ p,H p=none→Q (.ref p) (upd H p (.lst (alf xs lo hi)))
theorem anj:SlR X (awg X.K):=by
 intro pins s σ H x v vl vu lo hi sl Q I rx hs pl pu h
 obtain ⟨a,xs,rfl,hx,q⟩:=h
 cases rx
 obtain ⟨its,r,ht,hz⟩:=I.list hx
 have hlen:=r.length
 refine ⟨"list",_,slot_list_getitem.lookup,ht.isList.typeIs,?_⟩
 refine wpAny_getItem_list_slice ht.isList hs pl pu .none (by simp) ?_ (by rw [List.size_toArray]<;>omega)
 rw [a8h,← hlen]
 refine ⟨.ref s.heap.objs.size,_,I.laid (t':=s.toks) (o:=.lst (alf xs lo hi)) (fun b ob q=>Heap.get?_push_of_some _ q) (Nat.le_refl _) ?_,rfl,q _ (I.hok.fresh (Nat.le_refl _))⟩
 exact ⟨Nat.le_trans (a6e xs lo hi) hz,_,0,(r.drop (HT.sIx xs.length 0 lo)).take (HT.sIx xs.length xs.length hi - HT.sIx xs.length 0 lo),Heap.get?_push_size _ rfl⟩
def a3g:V→Bool
 | .non=>true
 | .bl _=>true
 | .int _=>true
 | .str _=>true
 | _=>false
def eqV:V→V→Bool
 | .non, .non=>true
 | .bl a, .bl b=>a == b
 | .bl a, .int b=>(if a then 1 else 0) == b
 | .int a, .bl b=>a == (if b then 1 else 0)
 | .int a, .int b=>a == b
 | .str a, .str b=>a == b
 | _,_=>false
theorem afu {A:Around} {s:Shared} {y x:V} {u v:Value} (ry:RelV y u) (rx:RelV x v) (fy:a3g y=true) (fx:a3g x=true):SeqAt.EqAt A s u v (eqV y x):=by
 cases y with
 | non =>
  cases ry
  cases x with
  | non=>cases rx;exact SeqAt.EqAt.same _
  | bl b=>cases rx;exact SeqAt.EqAt.none_bool b
  | int b=>obtain ⟨t,rfl⟩:=rx;exact SeqAt.EqAt.none_int b t
  | str b=>obtain ⟨t,rfl⟩:=rx;exact SeqAt.EqAt.none_str b t
  | _=>exact absurd (show false=true from fx) Bool.false_ne_true
 | bl a =>
  cases ry
  cases x with
  | non=>cases rx;exact SeqAt.EqAt.bool_none a
  | bl b=>cases rx;exact SeqAt.EqAt.bool_bool a b
  | int b=>obtain ⟨t,rfl⟩:=rx;exact SeqAt.EqAt.bool_int a b t
  | str b=>obtain ⟨t,rfl⟩:=rx;exact SeqAt.EqAt.bool_str a b t
  | _=>exact absurd (show false=true from fx) Bool.false_ne_true
 | int a =>
  obtain ⟨t',rfl⟩:=ry
  cases x with
  | non=>cases rx;exact SeqAt.EqAt.int_none a t'
  | bl b=>cases rx;exact SeqAt.EqAt.int_bool a t' b
  | int b=>obtain ⟨t,rfl⟩:=rx;exact SeqAt.EqAt.int_int a t' b t
  | str b=>obtain ⟨t,rfl⟩:=rx;exact SeqAt.EqAt.int_str a t' b t
  | _=>exact absurd (show false=true from fx) Bool.false_ne_true
 | str a =>
  obtain ⟨t',rfl⟩:=ry
  cases x with
  | non=>cases rx;exact SeqAt.EqAt.str_none a t'
  | bl b=>cases rx;exact SeqAt.EqAt.str_bool a t' b
  | int b=>obtain ⟨t,rfl⟩:=rx;exact SeqAt.EqAt.str_int a t' b t
  | str b=>obtain ⟨t,rfl⟩:=rx;exact SeqAt.EqAt.str_str a t' b t
  | _=>exact absurd (show false=true from fx) Bool.false_ne_true
 | _=>exact absurd (show false=true from fy) Bool.false_ne_true
def eqU (x:V) (u:Value):Bool:=match u with
 | .none=>eqV .non x
 | .bool b=>eqV (.bl b) x
 | .int i _=>eqV (.int i) x
 | .str z _=>eqV (.str z) x
 | _=>false
theorem alg {x y:V} {u:Value} (r:RelV y u) (f:a3g y=true):eqU x u=eqV y x:=by
 cases y with
 | non=>cases r;rfl
 | bl b=>cases r;rfl
 | int i=>obtain ⟨t,rfl⟩:=r;rfl
 | str z=>obtain ⟨t,rfl⟩:=r;rfl
 | _=>exact absurd (show false=true from f) Bool.false_ne_true
theorem a6f {x:V}:∀ {xs:List V} {us:List Value},Vals xs us→xs.all a3g=true→us.any (eqU x)=xs.any fun y=>eqV y x
 | _,_, .nil,_=>rfl
 | y::xs,u::us, .cons r t,f=>by
  rw [List.all_cons,Bool.and_eq_true] at f
  rw [List.any_cons,List.any_cons,alg r f.1,a6f t f.2]
theorem a3x {A:Around} {s:Shared} {x:V} {v:Value} (rx:RelV x v) (fx:a3g x=true):∀ {xs:List V} {us:List Value},Vals xs us→xs.all a3g=true→∀ u∈us,SeqAt.EqAt A s u v (eqU x u)
 | _,_, .nil,_=>fun u hu=>by cases hu
 | y::xs,u::us, .cons r t,f=>fun u' hu=>by
  rw [List.all_cons,Bool.and_eq_true] at f
  rcases List.mem_cons.mp hu with rfl | hu
  ·rw [alg r f.1];exact afu r rx f.1 fx
  ·exact a3x rx fx t f.2 u' hu
def inV (x:V) (xs:List V):Bool:=xs.any fun y=>eqV y x
def rIn (K:PySem.W.Frag) (neg:Bool):R2:=fun x y H Q=>∃ p xs,y = .ref p∧(SqL K H p xs∨SqT K H p xs)∧a3g x=true∧xs.all a3g=true∧Q (.bl (if neg then !inV x xs else inV x xs)) H
theorem aa5:OpR X (compareOp .In) (rIn X.K false):=by
 intro pins s σ H x y v u Q I rx ry h
 obtain ⟨p,xs,rfl,hq,fx,fs,q⟩:=h
 cases ry
 rcases hq with hq | hq
 ·obtain ⟨its,r,pl,hz⟩:=I.list hq
  refine SeqAt.in_listAt (eqU x) pl.isList (fun w hw=>a3x rx fx r fs w (by simpa using hw)) ⟨.bl _,H,I,rfl,?_⟩
  rw [show its.toArray.any (eqU x)=its.any (eqU x) by simp,a6f r fs]
  exact q
 ·obtain ⟨its,r,pl,hz⟩:=I.tuple hq
  refine SeqAt.in_tupleAt (eqU x) pl (fun w hw=>a3x rx fx r fs w (by simpa using hw)) ⟨.bl _,H,I,rfl,?_⟩
  rw [show its.toArray.any (eqU x)=its.any (eqU x) by simp,a6f r fs]
  exact q
theorem a5n:OpR X (compareOp .NotIn) (rIn X.K true):=by
 intro pins s σ H x y v u Q I rx ry h
 obtain ⟨p,xs,rfl,hq,fx,fs,q⟩:=h
 cases ry
 rcases hq with hq | hq
 ·obtain ⟨its,r,pl,hz⟩:=I.list hq
  refine SeqAt.notIn_listAt (eqU x) pl.isList (fun w hw=>a3x rx fx r fs w (by simpa using hw)) ⟨.bl _,H,I,rfl,?_⟩
  rw [show its.toArray.any (eqU x)=its.any (eqU x) by simp,a6f r fs]
  exact q
 ·obtain ⟨its,r,pl,hz⟩:=I.tuple hq
  refine SeqAt.notIn_tupleAt (eqU x) pl (fun w hw=>a3x rx fx r fs w (by simpa using hw)) ⟨.bl _,H,I,rfl,?_⟩
  rw [show its.toArray.any (eqU x)=its.any (eqU x) by simp,a6f r fs]
  exact q
theorem cu:CallR X (.builtin "len") (fun xs H Q=>∃ p ys,xs=[.ref p]∧(SqL X.K H p ys∨SqT X.K H p ys)∧Q (.int ys.length) H):=by
 intro pins s σ H xs us Q I r h
 obtain ⟨p,ys,rfl,hq,q⟩:=h
 obtain ⟨u,rfl,rx⟩:=vals1 r
 cases rx
 have hn:=a6c
 rcases hq with hq | hq
 ·obtain ⟨its,r',pl,hz⟩:=I.list hq
  have hlen:=r'.length
  exact Calls.call_len_list pl.isList (by simp only [List.size_toArray]<;>omega) ⟨.int ys.length,H,I.tok _,⟨s.toks+1,by rw [List.size_toArray,hlen]⟩,q⟩
 ·obtain ⟨its,r',pl,hz⟩:=I.tuple hq
  have hlen:=r'.length
  exact len_tuple pl (by simp only [List.size_toArray]<;>omega) ⟨.int ys.length,H,I.tok _,⟨s.toks+1,by rw [List.size_toArray,hlen]⟩,q⟩
theorem d7:CallR X (.builtin "len") (fun xs H Q=>∃ z,xs=[.str z]∧z.length≤sizeLine∧Q (.int z.length) H):=by
 intro pins s σ H xs us Q I r h
 obtain ⟨z,rfl,hz,q⟩:=h
 obtain ⟨u,rfl,t,rfl⟩:=vals1 r
 have hn:=a6c
 exact len_str (by omega) ⟨.int z.length,H,I.tok _,⟨_,rfl⟩,q⟩
theorem CallR.or {f:Value} {r r':List V→Hp→VK→Prop} (h:CallR X f r) (h':CallR X f r'):CallR X f (fun xs H Q=>r xs H Q∨r' xs H Q):=by
 intro pins s σ H xs us Q I rs q
 rcases q with q | q
 ·exact h pins s σ H xs us Q I rs q
 ·exact h' pins s σ H xs us Q I rs q
theorem xj:CallR X (.type "list") (fun xs H Q=>∃ p ys,xs=[.ref p]∧(SqL X.K H p ys∨SqT X.K H p ys)∧∀ l,H l=none→Q (.ref l) (upd H l (.lst ys))):=by
 intro pins s σ H xs us Q I r h
 obtain ⟨p,ys,rfl,hq,q⟩:=h
 obtain ⟨u,rfl,rx⟩:=vals1 r
 cases rx
 have fin:∀ (its:List Value),Vals ys its→ys.length≤sizeLine→∀ (h':Heap) (c':Nat),(∀ b o',s.heap.get? b=some o'→h'.get? b=some o') →
   h'.get? s.heap.objs.size=some { cls:=.type "list",dict:=none,data:=.seq its.toArray c',slots := #[] }→EP X pins σ Q (.ref s.heap.objs.size) { s with heap:=h' }:=fun its r' hz h' c' kp e =>
  ⟨.ref s.heap.objs.size,_,I.laid (t':=s.toks) kp (Nat.le_refl _) (show ObjOk X.prog X.w _ h' _ (.lst ys) from ⟨hz,its,c',r',e⟩),rfl,q _ (I.hok.fresh (Nat.le_refl _))⟩
 rcases hq with hq | hq
 ·obtain ⟨its,r',pl,hz⟩:=I.list hq
  have hlen:=r'.length
  obtain ⟨o,ho,hc,n,hd⟩:=pl.isList
  exact call_list_seq p (.inl rfl) ho hc hd (fun h' c' kp e=>fin its r' hz h' c' kp e) (by simp only [List.size_toArray]<;>omega)
 ·obtain ⟨its,r',pl,hz⟩:=I.tuple hq
  have hlen:=r'.length
  obtain ⟨o,ho,hc,n,hd⟩:=pl
  exact call_list_seq p (.inr rfl) ho hc hd (fun h' c' kp e=>fin its r' hz h' c' kp e) (by simp only [List.size_toArray]<;>omega)
theorem ug:CallR X (.type "tuple") (fun xs H Q=>∃ p ys,xs=[.ref p]∧((SqL X.K H p ys∧∀ l,H l=none→Q (.ref l) (upd H l (.tup ys)))∨(SqT X.K H p ys∧Q (.ref p) H))):=by
 intro pins s σ H xs us Q I r h
 obtain ⟨p,ys,rfl,h⟩:=h
 obtain ⟨u,rfl,rx⟩:=vals1 r
 cases rx
 rcases h with ⟨hq,q⟩ | ⟨hq,q⟩
 ·obtain ⟨its,r',pl,hz⟩:=I.list hq
  have hlen:=r'.length
  refine call_tuple_list pl.isList (fun h' kp=>?_) (by simp only [List.size_toArray]<;>omega)
  have I1:Inv X pins σ H { s with heap:=h' }:=I.kept (t':=s.toks) kp
  have I2:Inv X pins σ (upd H h'.objs.size (.tup ys)) { s with heap:=h'.push { cls:=.type "tuple",data:=.seq its.toArray } } :=
   I1.laid (t':=s.toks) (fun b o e=>Heap.get?_push_of_some _ e) (Nat.le_refl _) (show ObjOk X.prog X.w _ _ _ (.tup ys) from ⟨hz,its,r',IsTup.new _ _⟩)
  exact ⟨.ref h'.objs.size,_,I2,rfl,q _ (I1.hok.fresh (Nat.le_refl _))⟩
 ·obtain ⟨its,r',pl,hz⟩:=I.tuple hq
  exact call_tuple_same pl ⟨.ref p,H,I,rfl,q⟩
def tyV (K:PySem.W.Frag) (T:String) (x:V) (H:Hp):Prop:=match x with
 | .str _=>T = "str"
 | .int _=>T = "int"
 | .ref p=>(T = "list"∧∃ xs,SqL K H p xs)∨(T = "tuple"∧∃ o,K.lookup p=some o∧o.cls = .type "tuple"∧o.dict=none) ∨
   (T = "dict"∧((∃ kvs,H p=some (.dK kvs))∨∃ kvs,H p=some (.dT kvs)))∨(T = "set"∧∃ S n,H p=some (.set S n))
 | _=>False
theorem art {pins:List (Addr × Obj)} {σ:St} {H:Hp} {s:Shared} {T:String} {x:V} {v:Value} (I:Inv X pins σ H s) (r:RelV x v) (ty:tyV X.K T x H) :
  s.TypeIs v T∧∀ a,v = .ref a→∃ ob,s.heap.get? a=some ob∧ob.dict=none:=by
 cases x with
 | str z =>
  obtain ⟨t,rfl⟩:=r
  cases (show T = "str" from ty)
  exact ⟨typeIs_str s z t,fun _ e=>nomatch e⟩
 | int i =>
  obtain ⟨t,rfl⟩:=r
  cases (show T = "int" from ty)
  exact ⟨typeIs_int s i t,fun _ e=>nomatch e⟩
 | ref p =>
  cases r
  rcases ty with ⟨rfl,xs,hq⟩ | ⟨rfl,o,hk,hc,hd⟩ | ⟨rfl,hk⟩ | ⟨rfl,S,n,hk⟩
  ·obtain ⟨its,_,pl,_⟩:=I.list hq
   refine ⟨pl.isList.typeIs,fun a e=>?_⟩
   cases e
   obtain ⟨o,n,e,c,hd,_⟩:=pl
   exact ⟨o,e,hd⟩
  ·refine ⟨⟨o,I.kIn p o hk,hc⟩,fun a e=>?_⟩
   cases e
   exact ⟨o,I.kIn _ o hk,hd⟩
  ·have z:∃ o,s.heap.get? p=some o∧o.ExactDict:=by
    rcases hk with ⟨kvs,hk⟩ | ⟨kvs,hk⟩
    ·obtain ⟨_,_,_,_,o,_,_,e,ex,_⟩:=I.hok p _ hk
     exact ⟨o,e,ex⟩
    ·obtain ⟨_,_,_,_,o,_,_,e,ex,_⟩:=I.hok p _ hk
     exact ⟨o,e,ex⟩
   obtain ⟨o,e,ex⟩:=z
   refine ⟨⟨o,e,ex.1⟩,fun a e2=>?_⟩
   cases e2
   exact ⟨o,e,ex.2.1⟩
  ·obtain ⟨o,_,_,_,e,ex,_⟩:=I.hok p _ hk
   refine ⟨⟨o,e,ex.1⟩,fun a e2=>?_⟩
   cases e2
   exact ⟨o,e,ex.2.1⟩
 | _=>exact False.elim ty
def tBM (K:PySem.W.Frag) (T:String) (r:V→List V→Hp→VK→Prop) (to:TE) (t:TA):TE:=fun σ H Q=>to σ H fun x H1=>tyV K T x H1∧t σ H1 fun xs H2=>r x xs H2 Q
variable {o e:Expr} {es:List Expr} {to:TE} {t:TA} {name:Str} {apos cpos:Pos} {T id:String} {r:V→List V→Hp→VK→Prop}
theorem awh (pa:PlainAttrs T) (slot:Slot T name id) (hty:typeOf (.builtin id)=pure (.type "method_descriptor")) (hm:MtR X id r) (ho:PE X o to) (ha:PA X (e::es) t)
  (hbase:attributeBase o name X.env (eval o X.env)=eval o X.env:=by rfl)
  (hfew:((backTo cpos (starEach (e::es) X.env)).all (fun x => !x.1) && (backToKw cpos (keywordEach [] X.env)).all (fun x=>x.1.isSome)
   && decide ((e::es).length+([]:List Keyword).length+(if ([]:List Keyword).isEmpty then 0 else 1)<30))=true:=by rfl)
  (hline:(apos.endLine == cpos.line)=true:=by rfl) (hs:starEach (e::es) X.env=(false,eval e X.env)::starEach es X.env:=by rfl) (hplain:(backTo cpos (starEach es X.env)).any (·.1)=false:=by rfl) :
  PE X (.Call (.Attribute o name apos) (e::es) [] cpos) (tBM X.K T r to t):=by
 intro pins s σ H Q I h
 refine wpAny_Call_method_late hbase hfew hline rfl (thn (ho pins s σ H _ I h) fun v s1 ⟨x,H1,I1,r1,ty,q1⟩=>?_)
 obtain ⟨h1,h2⟩:=art I1 r1 ty
 refine ⟨T,id,pa,slot,hty,h1,h2,?_⟩
 have hA:=ha cpos pins s1 σ H1 _ I1 q1
 rw [hs] at hA ⊢
 refine Calls.callWith_builtin (by show (false || (backTo cpos (starEach es X.env)).any (·.1))=false;rw [hplain]<;>rfl) (Calls.evalArgs_plain ?_)
 exact thn hA fun us s2 ⟨vs,H2,I2,r2,q2⟩=>hm pins s2 σ H2 x vs v us Q I2 r1 r2 q2
end
end L2
namespace L2
open PySem PySem.Spec PyProof.Rows
def MtM (X:Cx) (id:String) (r:V→List V→Hp→VK→Prop):Prop :=
 ∀ (pins:List (Addr × Obj)) (s:Shared) (σ:St) (H:Hp) (x:V) (xs:List V) (v:Value) (us:List Value) (Q:VK),Inv X pins σ H s→RelV x v→Vals xs us→r x xs H Q →
  wpAny (model X.prog X.w) X.A (call (.builtin id) (v::us)) (EP X pins σ Q) X.xe s
theorem Vals.one:∀ {x:V} {us:List Value},Vals [x] us→∃ u,us=[u]∧RelV x u
 | _,_, .cons r .nil=>⟨_,rfl,r⟩
theorem Vals.rep {xs:List V} {us:List Value} (h:Vals xs us):∀ k:Nat,Vals (List.replicate k xs).flatten (List.replicate k us).flatten
 | 0=>.nil
 | k+1=>by
  rw [List.replicate_succ,List.replicate_succ,List.flatten_cons,List.flatten_cons]
  exact Vals.append h (Vals.rep h k)
theorem foldl_rep (its:List Value):∀ (k:Nat) (acc:List Value),
  List.foldl (fun x1 x2=>x1++x2) acc.toArray (List.replicate k its.toArray)=(acc++(List.replicate k its).flatten).toArray
 | 0,acc=>by simp
 | k+1,acc=>by
  have e:acc.toArray++its.toArray=(acc++its).toArray:=by simp
  have e2:(acc++its)++(List.replicate k its).flatten=acc++(List.replicate (k+1) its).flatten:=by
   rw [List.replicate_succ,List.flatten_cons,List.append_assoc]
  rw [← e2,← foldl_rep its k (acc++its),← e,List.replicate_succ,List.foldl_cons]
section
variable {X:Cx} {pins:List (Addr × Obj)} {σ:St} {H:Hp} {s:Shared} {l b:Addr} {xs ys zs:List V}
theorem Inv.lset {its its':List Value} {n:Nat} {f:Array Value→Array Value} {t':Nat} (I:Inv X pins σ H s) (hH:H l=some (.lst xs))
  (e:s.heap.get? l=some { cls:=.type "list",data:=.seq its.toArray n }) (hf:f its.toArray=its'.toArray) (hv:Vals ys its') (hz:ys.length≤sizeLine) :
  Inv X pins σ (upd H l (.lst ys)) { s with heap:=s.heap.update l (Obj.mapSeq f),toks:=t' }:=by
 have q:=PySem.IsL.update e f
 rw [hf] at q
 refine I.write (x:=l) (e:=l) (by rw [hH];exact trivial) (.inl rfl) (fun b' u hb hu=>(Heap.get?_update_other s.heap (Obj.mapSeq f) (Ne.symm hb)).trans hu) ⟨_,q⟩ ?_
 exact ⟨hz,its',_,hv,q⟩
theorem Inv.lnew {its:List Value} {t':Nat} (I:Inv X pins σ H s) (hv:Vals ys its) (hz:ys.length≤sizeLine) :
  Inv X pins σ (upd H s.heap.objs.size (.lst ys)) { s with heap:=s.heap.push { cls:=.type "list",data:=.seq its.toArray },toks:=t' } :=
 I.laid (fun _ _ q=>Heap.get?_push_of_some _ q) (Nat.le_refl _) ⟨hz,its,0,hv,Heap.get?_push_size _ rfl⟩
theorem Inv.fresh (I:Inv X pins σ H s):H s.heap.objs.size=none:=I.hok.fresh (Nat.le_refl _)
theorem Inv.lstM (I:Inv X pins σ H s) (hH:H l=some (.lst xs)):xs.length≤sizeLine∧∃ (its:List Value) (n:Nat),Vals xs its∧xs.length=its.length∧s.heap.get? l=some { cls:=.type "list",data:=.seq its.toArray n }:=by
 obtain ⟨z,its,n,r,e⟩:=I.hok l _ hH
 exact ⟨z,its,n,r,r.length,e⟩
theorem acj {n:Nat} (h:n≤sizeLine):Builtin.List.listTooLong n=false:=by
 unfold Builtin.List.listTooLong
 exact decide_eq_false (by omega)
end
section
variable {X:Cx}
def afv:V→List V→Hp→VK→Prop:=fun x vs H Q=>∃ l xs y,x = .ref l∧vs=[y]∧H l=some (.lst xs)∧xs.length<sizeLine∧Q .non (upd H l (.lst (xs++[y])))
theorem a1b:MtM X "list.append" afv:=by
 intro pins s σ H x vs v us Q I rx rv h
 obtain ⟨l,xs,y,rfl,rfl,hH,hz,q⟩:=h
 cases rx
 obtain ⟨u,rfl,ru⟩:=rv.one
 obtain ⟨z,its,n,r,hl,e⟩:=I.lstM hH
 refine call_meets F.slot_list_append ⟨_,e,rfl⟩ F.entry_list_append (F.args_list_append_2 _ _) (PySem.list_append l its.toArray n u (by rw [List.size_toArray];omega)) ⟨e,?_⟩
 refine ⟨.non,_,I.lset (its':=its++[u]) hH e (by simp) (r.append (.cons ru .nil)) ?_,rfl,q⟩
 rw [List.length_append,List.length_singleton]
 omega
def avk:R2:=fun x y H Q=>∃ l k xs,x = .ref l∧y = .int k∧H l=some (.lst xs) ∧ -(2 ^ 63)≤k∧k<2 ^ 63∧xs.length*k.toNat≤sizeLine ∧
 ∀ p,H p=none→Q (.ref p) (upd H p (.lst (List.replicate k.toNat xs).flatten))
theorem len_rep {α:Type} (xs:List α) (k:Nat):(List.replicate k xs).flatten.length=k*xs.length:=by
 induction k with
 | zero=>simp
 | succ k ih=>rw [List.replicate_succ,List.flatten_cons,List.length_append,ih,Nat.succ_mul,Nat.add_comm]
theorem aru:OpR X (binaryOp .Mult) avk:=by
 intro pins s σ H x y v u Q I rx ry h
 obtain ⟨l,k,xs,rfl,rfl,hH,h1,h2,hz,q⟩:=h
 cases rx
 obtain ⟨t,rfl⟩:=ry
 obtain ⟨z,its,n,r,hl,e⟩:=I.lstM hH
 have hlen:its.toArray.size*k.toNat≤sizeLine:=by rw [List.size_toArray,← hl];exact hz
 have hcap:¬ its.toArray.size*k.toNat > (2 ^ 63 - 1) / 8:=by
  have:(sizeLine:Nat)≤(2 ^ 63 - 1) / 8:=by decide
  omega
 have hfit:¬ (!Builtin.List.listFitsIndex k)=true:=by
  rw [fitsIndex_both h1 h2]
  exact Bool.false_ne_true
 have hlong:¬ Builtin.List.listTooLong (its.toArray.size*k.toNat)=true:=by
  rw [acj hlen]
  exact Bool.false_ne_true
 have hnew:List.foldl (fun x1 x2=>x1++x2) #[] (List.replicate (if its.toArray.isEmpty=true then 0 else k.toNat) its.toArray)=(List.replicate k.toNat its).flatten.toArray:=by
  have f0:∀ m:Nat,List.foldl (fun x1 x2=>x1++x2) #[] (List.replicate m its.toArray)=(List.replicate m its).flatten.toArray:=fun m=>by
   have:=foldl_rep its m []
   rw [List.nil_append] at this
   exact this
  rw [f0]
  cases its with
  | nil=>simp
  | cons a r'=>rw [if_neg (by simp)]
 refine wpAny_binaryOp_repeat_ref (T := "list") (U := "int") (by decide) ⟨_,e,rfl⟩ (fun s'=>typeIs_int s' k t) noFill_list_mul F.fills_int_mul F.slot_int_rmul repeat_list F.slot_int_index.lookup
  (call_meets F.slot_int_rmul (typeIs_int s k t) F.entry_int_rmul (F.args_int_rmul_2 _ _) (int___rmul___int_list k t l its.toArray n)
   ⟨e,rfl,⟨_,e,rfl⟩,call_meets F.slot_list_mul ⟨_,e,rfl⟩ F.entry_list_mul (F.args_list_mul_2 _ _) (AutoListH.list___mul___list_int_3 l its.toArray n k t hfit hcap hlong) ⟨e,?_⟩⟩)
 rw [hnew]
 exact ⟨.ref _,_,I.lnew (t':=s.toks) (r.rep k.toNat) (by rw [len_rep,Nat.mul_comm];exact hz),rfl,q _ I.fresh⟩
end
end L2
namespace Att
open PySem PySem.W PySem.Calls PyProof.Rows
theorem a6g {P:Params} {h:Heap}:∀ (ns:List Int) (vs:List Value),WellAll P h vs (ns.map WData.int)→IntsAre vs ns:=by
 intro ns
 induction ns with
 | nil =>
  intro vs w
  rw [List.map_nil] at w
  cases w
  exact .nil
 | cons n ns ih =>
  intro vs w
  rw [List.map_cons] at w
  cases w with
  | cons a b =>
   cases a
   exact .cons _ _ (ih _ b)
theorem afw {l:OpenLaw} {n:Nat} (hn:l.most=some n) {P:Params} {h:Heap} {args:List WData} {vals:List Value}
  (hpre:l.row.toRowW.claim.pre args=true) (hwl:WellAll P h vals args) :
  ∃ a vs ns,vals=[Value.ref a]∧args=[WData.list (ns.map WData.int)]∧h.get? a=some { cls:=.type "list",data:=.seq vs.toArray }∧IntsAre vs ns∧ns.length≤n:=by
 have hsh:WShape.hasAll [] args [.list .int]=true:=(pre_splitW hpre).1
 have hc:l.pre.holds [] { args:=args }=true:=(pre_splitW hpre).2
 obtain ⟨d,r,rfl,h1,h2⟩:=hasAllW_cons hsh
 obtain rfl:=hasAllW_nil h2
 obtain ⟨xs,rfl,h3⟩:=hasW_list h1
 obtain ⟨ns,rfl⟩:=items_int h3
 have hlen:ns.length≤n:=by
  unfold OpenLaw.pre at hc
  have h4:(WTm.not (.lt (.lit (.int (n:Int))) (.len (.arg 0)))).holds [] { args:=[.list (ns.map .int)] }=true:=by
   have h4:=(holds_andW hc).1
   rw [hn] at h4
   exact h4
  have h5:=condW_of h4 (w_not (w_lt w_lit (w_len_list (w_arg rfl))))
  rw [List.length_map] at h5
  refine Nat.le_of_not_lt fun q=>?_
  have q':(n:Int)<((ns.length:Nat):Int):=by omega
  first
   | (rw [decide_eq_true q'] at h5;exact absurd h5 (by decide))
   | (simp at h5;omega)
 cases hwl with
 | cons w1 w2 =>
  cases w2
  cases w1 with
  | list ho hall=>exact ⟨_,_,ns,rfl,rfl,ho,a6g ns _ hall,hlen⟩
theorem afx (l:OpenLaw) (args:List WData):l.row.toRowW.claim.post args (.bool true) args=true :=
 postW_of (r:=l.row.toRowW) (X:=(true == true))
  (show WShape.has [] (.bool true) .bool=true by first | rfl | decide | simp [WShape.has,WShape.arms,WShape.armsAll])
  (show (WTm.eq .res (.lit (.bool true))).value [] { args:=args,res:=some (.bool true),after:=args }=some (.bool (true == true)) from w_eq_bool (w_res rfl) w_lit) rfl
theorem abj {l:OpenLaw} {n:Nat} {q:Program} {loose:List Str} {XP:(Str→Option Value)→Heap→Prop} {YP:World→Heap→Prop} {d:DefRec}
  (hn:l.most=some n) (hdf:d.params.defaults=[])
  (call:∀ (w:World) (s₀ s₁:Shared) (mg mb:Str→Option Value) (fa:Addr) (o:Obj) (pm cd doc:Value) (a:Addr) (vs:List Value) (ns:List Int),
   Ground q loose [] XP w s₀ mg mb s₁.heap→YP w s₁.heap →
   s₁.heap.get? fa=some o→o.data = .func (docDef d.name d.params d.body d.scope pm cd doc)→s₁.heap.CodeRec cd d.name→mg d.name=some (.ref fa) →
   s₁.heap.get? a=some { cls:=.type "list",data:=.seq vs.toArray }→IntsAre vs ns→ns.length≤n→s₁.gens = #[] →
   codeAny (model l.prog w) callerA (.call (.ref fa) ⟨[.ref a],[]⟩) (fun r s'=>r = .ok (.ret (.bool true))∧OldK s₁.heap s'.heap∧s'.os=s₁.os∧AllBare s'.gens) s₁) :
  WalkO q loose XP YP l.row.toRowW d [] (fun f vs=>PySem.call f vs):=by
 intro w s₀ s₁ mg mb G Y fa o pm cd doc dV kV ho hd hcd hD hmg hg args vals as hpre hlay hrd hwl hlo
 obtain rfl:dV = .none:=Dflts.none hD hdf
 obtain rfl:kV = .none:=Dflts.noKw hD
 obtain ⟨a,vs,ns,rfl,rfl,hobj,hints,hlen⟩:=afw hn hpre hwl
 refine enter_call (codeAny_mono (call w s₀ s₁ mg mb fa o pm cd doc a vs ns G Y ho (fd_plain hd) hcd hmg hobj hints hlen hg) fun r s' hq=>?_)
 obtain ⟨rfl,h2,h3,h4⟩:=hq
 exact ⟨.inl ⟨.bool true, .bool true,[],rfl,fun _=>rfl, .bool true,afx l _,fun _=>⟨List.Pairwise.nil,fun _ hm=>(nomatch hm)⟩⟩,h2,h3,h4⟩
end Att
namespace L2
open PySem PySem.Spec PyProof.Rows
theorem aa6:∀ {vs:List Value} {ns:List Int},IntsAre vs ns→Vals (ns.map V.int) vs
 | _,_, .nil=>.nil
 | _,_, .cons n t h=>.cons ⟨t,rfl⟩ (aa6 h)
def Only (H:Hp):Prop:=∀ b,H b=none∨∃ o xs,H b=some (.frz o (.lst xs))
theorem aj6 {P:Program} {w:World} {K:PySem.W.Frag} {mg mb:Str→Option Value} {CX:CXT} {k:Nat} {fa a:Addr} {fd:FuncData} {x:Str} {sp:Sp} {s₁:Shared} {vs:List Value} {ns:List Int}
  (KX:K.In s₁.heap) (hns:s₁.heap.Ns mainGlobals mg) (hb:s₁.heap.Ns builtinsNs mb) (hbb:∀ x:Str,x ≠ "__name__"→mb x=bootBuiltins x) (hlim:s₁.heap.NoLimit) (hg:s₁.gens = #[])
  (ha:s₁.heap.get? a=some { cls:=.type "list",data:=.seq vs.toArray }) (hi:IntsAre vs ns) (hl:ns.length≤sizeLine) (hr:Room k callerA)
  (F:∀ base:Heap,K.In base→base.Ns mainGlobals mg→FnOk P w K mg base CX k fa fd [x] sp) (hbind:∀ (s:Shared) (u:Value),BindsTo s fd ⟨[u],[]⟩ [(x,u)])
  (hsp:∀ H:Hp,Only H→SqL K H a (ns.map V.int)→sp [.ref a] H (fun v _=>v = .bl true) fun _ _ _=>False)
  (hCX:∀ H e s',CX [] H s₁ (fun _ _ _=>False) e s'→False) :
  codeAny (model P w) callerA (.call (.ref fa) ⟨[.ref a],[]⟩) (fun r s'=>r = .ok (.ret (.bool true))∧OldK s₁.heap s'.heap∧s'.os=s₁.os∧AllBare s'.gens) s₁:=by
 have rv:=aa6 hi
 have lenV:=hi.length
 have core:∀ H:Hp,Only H→SqL K H a (ns.map V.int)→HOk P w H s₁.heap→(∀ b,H b≠none→b=a)→(H a≠none→K.lookup a=none) →
   codeAny (model P w) callerA (.call (.ref fa) ⟨[.ref a],[]⟩) (fun r s'=>r = .ok (.ret (.bool true))∧OldK s₁.heap s'.heap∧s'.os=s₁.os∧AllBare s'.gens) s₁:=by
  intro H hO hS hok hA hK
  have base_of:∀ {b:Addr} {o:Obj},s₁.heap.get? b=some o→H b=none→(ais s₁.heap H).get? b=some o:=fun e n=>ait e n
  have noA:∀ {b:Addr} {o:Obj} {es:Array DictEntry} {ep:Nat},s₁.heap.get? b=some o→o.data = .dict es ep→H b=none:=fun {b o es ep} e d=>by
   cases q:H b with
   | none=>rfl
   | some u =>
    have e':b=a:=hA b (by rw [q];simp)
    subst e'
    rw [ha] at e;cases e
    have d':Data.seq vs.toArray _=Data.dict es ep:=d
    cases d'
  have nsK:∀ {b:Addr} {m:Str→Option Value},s₁.heap.Ns b m→(ais s₁.heap H).Ns b m:=fun {b m} ⟨o,es,ep,e,d,r⟩=>⟨o,es,ep,base_of e (noA e d),d,r⟩
  have hKb:K.In (ais s₁.heap H):=fun b o e=>base_of (KX b o e) (by
   cases q:H b with
   | none=>rfl
   | some u =>
    have e':b=a:=hA b (by rw [q];simp)
    subst e'
    rw [hK (by rw [q];simp)] at e;cases e)
  have hM:Mod K mg (ais s₁.heap H):=⟨hKb,nsK hns,⟨mb,nsK hb,hbb⟩,let ⟨mc,h1,h2⟩:=hlim; ⟨mc,nsK h1,h2⟩⟩
  have e0:Env0 P w K mg (ais s₁.heap H) callerA [] s₁ H:=⟨rfl,hM,fun b o e=>amq e,Nat.le_of_eq (afe _ _),trivial,fun b hb=>absurd (show b∈([]:List Addr) from hb) (by simp),hok, .of_eq hg⟩
  refine codeAny_mono ((F _ hKb (nsK hns)).run callerA [] s₁ H ⟨[.ref a],[]⟩ [.ref a] [.ref a] _ _ hr e0 (hbind s₁ (.ref a)) (.cons rfl .nil) (hsp H hO hS)) fun r s' h=>?_
  cases r with
  | error e=>exact (hCX H e s' h).elim
  | ok fl =>
   cases fl with
   | next=>exact False.elim h
   | brk=>exact False.elim h
   | cont=>exact False.elim h
   | ret u =>
    obtain ⟨v,H',os,bare,un,hok',r',q⟩:=h
    have q':v = .bl true:=q
    subst q'
    obtain rfl:u=Value.bool true:=r'
    refine ⟨rfl,OldK.of_keep fun b o e=>?_,os,bare⟩
    cases q:H b with
    | none=>exact un.keep b o e q (by intro z;exact absurd (show b∈([]:List Addr) from z) (by simp)) (by simp)
    | some u =>
     rcases hO b with z | ⟨ob,xs,z⟩
     ·rw [q] at z;cases z
     ·have z2:=un.frzs b ob _ z
      obtain ⟨e1,_⟩:=hok b _ z
      obtain ⟨e2,_⟩:=hok' b _ z2
      rw [e] at e1;cases e1
      exact e2
 cases hk:K.lookup a with
 | some o =>
  have e:=KX a o hk
  rw [ha] at e
  cases e
  refine core (fun _=>none) (fun _=>.inl rfl) (.inr ⟨_,vs.toArray,_,hk,rfl,rfl,rfl,by rw [List.size_toArray,lenV];exact hl,by simpa using rv⟩) (fun b u z=>by have z':(none:Option HO)=some u:=z;cases z') (fun b z=>absurd rfl z) fun z=>absurd rfl z
 | none =>
  refine core (fun b=>if b=a then some (.frz { cls:=.type "list",data:=.seq vs.toArray } (.lst (ns.map V.int))) else none) (fun b=>?_) (.inl (.inr ⟨{ cls:=.type "list",data:=.seq vs.toArray },if_pos rfl⟩)) (fun b u z=>?_) (fun b z=>?_) fun _=>hk
  ·by_cases hb:b=a
   ·exact .inr ⟨_,_,if_pos hb⟩
   ·exact .inl (if_neg hb)
  ·by_cases hb:b=a
   ·have z':=(if_pos hb).symm.trans z
    cases z'
    subst hb
    exact ⟨ha,by rw [List.length_map];exact hl,vs,_,rv,ha⟩
   ·have z':=(if_neg hb).symm.trans z
    cases z'
  ·by_cases hb:b=a
   ·exact hb
   ·exact absurd (if_neg hb) z
end L2
namespace L2
open PySem PySem.Spec PyProof.Rows
theorem ank {l:PySem.W.OpenLaw} {n k:Nat} {q:Program} {loose:List Str} {XP:(Str→Option Value)→Heap→Prop} {YP:World→Heap→Prop} {d:DefRec} {K:Params→PySem.W.Frag} {CX:World→CXT} {sp:World→Sp} {x:Str}
  (hn:l.most=some n) (hn2:n≤sizeLine) (hdf:d.params.defaults=[]) (hr:Room k callerA)
  (hY:∀ (w:World) (h:Heap),YP w h→(K w.params).In h)
  (F:∀ (w:World) (mg:Str→Option Value) (fa:Addr) (h:Heap),(K w.params).In h→h.Ns mainGlobals mg→mg d.name=some (.ref fa) →
   ∃ fd:FuncData,(∀ (s:Shared) (u:Value),BindsTo s fd ⟨[u],[]⟩ [(x,u)]) ∧
    ∀ base:Heap,(K w.params).In base→base.Ns mainGlobals mg→FnOk l.prog w (K w.params) mg base (CX w) k fa fd [x] (sp w))
  (hsp:∀ (w:World) (H:Hp) (a:Addr) (ns:List Int),ns.length≤n→Only H→SqL (K w.params) H a (ns.map V.int)→sp w [.ref a] H (fun v _=>v = .bl true) fun _ _ _=>False)
  (hCX:∀ (w:World) (H:Hp) (s:Shared) (e:Value) (s':Shared),CX w [] H s (fun _ _ _=>False) e s'→False) :
  PySem.W.WalkO q loose XP YP l.row.toRowW d [] (fun f vs=>PySem.call f vs):=by
 refine Att.abj hn hdf fun w s₀ s₁ mg mb fa o pm cd doc a vs ns G Y ho hd hcd hmg hobj hints hlen hg=>?_
 have KX:=hY w _ Y
 obtain ⟨fd,hb,hF⟩:=F w mg fa _ KX G.T.g hmg
 exact aj6 KX G.T.g G.T.b G.T.builtins G.T.nolimit hg hobj hints (Nat.le_trans hlen hn2) hr hF hb (fun H hO hS=>hsp w H a ns hlen hO hS) fun H e s'=>hCX w H s₁ e s'
end L2
namespace L2
open PySem PySem.Spec PyProof.Rows
def a4n (s:Stmt):Arguments:=match s with
 | .FunctionDef _ a _ _ _ _ _ _ _ _=>a
 | _=>{ posonlyargs:=[],args:=[],vararg:=none,kwonlyargs:=[],kw_defaults:=[],kwarg:=none,defaults:=[] }
def j9 (s:Stmt):List Stmt:=match s with
 | .FunctionDef _ _ b _ _ _ _ _ _ _=>b
 | _=>[]
def bf (s:Stmt):Scope:=match s with
 | .FunctionDef _ _ _ _ _ _ sc _ _ _=>sc
 | _=>{ kind:=.function,names:=[],isGenerator:=false,isCoroutine:=false }
abbrev CX0:CXT:=fun _ _ _ _ _ _=>False
abbrev E0:XK:=fun _ _ _=>False
theorem aj7 {X:Cx}:a9y CX0 X E0:=fun _ _ _ _ _ _ _ h=>h.elim
structure Fun (K:PySem.W.Frag) (x qual:Str) (st:Stmt) (f:Addr) (fd:FuncData):Prop where
 ex:∃ (oc:Value) (od:Option Addr) (kV doc pm:Value) (an:Option Addr) (cdv ct:Value) (osl:Array (Option Value)),
  fd=PySem.W.fnOf x qual (a4n st) (j9 st) (bf st) .none kV doc pm an cdv ct∧K.lookup f=some ⟨oc,od, .func fd,osl⟩∧PySem.W.codeIn K cdv qual=true
 kp:PySem.W.keepIn K (.ref f)=true
section
variable {P:Program} {w:World} {K:PySem.W.Frag} {mg:Str→Option Value} {base:Heap}
theorem Fun.ok {x qual:Str} {st:Stmt} {f:Addr} {fd:FuncData} {N ps:List Str} {k:Nat} {sp:Sp} (F:Fun K x qual st f fd) (S:FnScope N ps (bf st)) (len:∀ vs H Q E,sp vs H Q E→vs.length=ps.length)
  (hbody:∀ (cdv:Value) (A:Around) (outer:List Env) (s:Shared) (H:Hp) (vs:List V) (Q:VK) (E:XK),Room k (A.deeper (envOfC qual (bf st) s.heap.objs.size f cdv))→sp vs H Q E →
   ∃ t,PSs (a1k CX0 P w K mg base N qual (bf st) f cdv A outer s H E).nox (j9 st) t∧t { nx:=fun _ H'=>Q .non H',rt:=Q } (start N vs) H):FnOk P w K mg base CX0 (k+1) f fd ps sp:=by
 obtain ⟨oc,od,kV,doc,pm,an,cdv,ct,osl,rfl,lk,hcd⟩:=F.ex
 refine arl lk hcd S len fun A outer s H vs Q E hr hsp=>?_
 obtain ⟨t,h,q⟩:=hbody cdv A outer s H vs Q E hr hsp
 exact ⟨t,h.nox,q⟩
theorem Fun.binds {x qual:Str} {st:Stmt} {f:Addr} {fd:FuncData} {ps:List Str} (F:Fun K x qual st f fd)
  (h:∀ (kV doc pm:Value) (an:Option Addr) (cdv ct:Value) (us:List Value),us.length=ps.length→bindArgs (PySem.W.fnOf x qual (a4n st) (j9 st) (bf st) .none kV doc pm an cdv ct) ⟨us,[]⟩=pure (ps.zip us)):Binds K fd ps []:=by
 obtain ⟨oc,od,kV,doc,pm,an,cdv,ct,osl,rfl,lk,hcd⟩:=F.ex
 exact .all (h kV doc pm an cdv ct)
theorem pq {x qual:Str} {st:Stmt} {f:Addr} {oc:Value} {od an:Option Addr} {osl:Array (Option Value)} {kV doc pm cdv ct:Value} (l:K.lookup f=some ⟨oc,od, .func (PySem.W.fnOf x qual (a4n st) (j9 st) (bf st) .none kV doc pm an cdv ct),osl⟩)
  (c:PySem.W.codeIn K cdv qual=true) (k:PySem.W.keepIn K (.ref f)=true):Fun K x qual st f (PySem.W.fnOf x qual (a4n st) (j9 st) (bf st) .none kV doc pm an cdv ct):=⟨⟨oc,od,kV,doc,pm,an,cdv,ct,osl,rfl,l,c⟩,k⟩
end
end L2
namespace L2
open PySem PySem.Spec PyProof.Rows
section
variable {κ:Type} [DecidableEq κ]
def ack (kvs:List (κ × V)) (k:κ):Option V:=(kvs.find? fun kv=>decide (kv.1=k)).map (·.2)
def putK (kvs:List (κ × V)) (k:κ) (v:V):List (κ × V) :=
 if (kvs.any fun kv=>decide (kv.1=k))=true then kvs.map (fun kv=>if kv.1=k then (kv.1,v) else kv) else kvs++[(k,v)]
theorem a8i {p:κ × V} {r:List (κ × V)} {k:κ} (e:p.1=k):ack (p::r) k=some p.2:=by simp [ack,List.find?_cons,e]
theorem a8j {p:κ × V} {r:List (κ × V)} {k:κ} (e:¬ p.1=k):ack (p::r) k=ack r k:=by simp [ack,List.find?_cons,e]
theorem acl (k:κ):∀ kvs:List (κ × V),(kvs.any fun kv=>decide (kv.1=k))=(ack kvs k).isSome
 | []=>rfl
 | p::r=>by
  rw [List.any_cons]
  by_cases e:p.1=k
  ·simp only [a8i e,decide_eq_true e,Bool.true_or,Option.isSome_some]
  ·rw [a8j e,decide_eq_false e,Bool.false_or];exact acl k r
theorem a3h (kvs:List (κ × V)) (k:κ) (v:V):(putK kvs k v).length≤kvs.length+1:=by
 unfold putK
 split
 ·rw [List.length_map];omega
 ·rw [List.length_append,List.length_cons,List.length_nil];omega
theorem RelO.isSome_eq {o:Option V} {u:Option Value} (r:RelO o u):o.isSome=u.isSome:=by
 cases o with
 | none=>cases u with
  | none=>rfl
  | some _=>exact (show False from r).elim
 | some _=>cases u with
  | none=>exact (show False from r).elim
  | some _=>rfl
theorem RelO.getD {o:Option V} {u:Option Value} {d:V} {d':Value} (r:RelO o u) (rd:RelV d d'):RelV (o.getD d) (u.getD d'):=by
 cases o with
 | none=>cases u with
  | none=>exact rd
  | some _=>exact (show False from r).elim
 | some _=>cases u with
  | none=>exact (show False from r).elim
  | some _=>exact r
theorem KV.val {kvs:List (κ × V)} {vs:List (κ × Value)} (r:KV kvs vs) (k:κ):RelO (ack kvs k) (valueAt vs k):=by
 unfold KV at r
 induction r with
 | nil=>exact True.intro
 | @cons p q ps qs h t ih =>
  obtain ⟨h1,h2⟩:=h
  by_cases e:p.1=k
  ·have e':q.1=k:=h1.symm.trans e
   have b:valueAt (q::qs) k=some q.2:=by simp [valueAt,List.find?_cons,e']
   rw [a8i e,b];exact h2
  ·have e':¬ q.1=k:=fun z=>e (h1.trans z)
   have b:valueAt (q::qs) k=valueAt qs k:=by simp [valueAt,List.find?_cons,e']
   rw [a8j e,b];exact ih
theorem KV.any {kvs:List (κ × V)} {vs:List (κ × Value)} (r:KV kvs vs) (k:κ):(kvs.any fun kv=>decide (kv.1=k))=vs.any fun kv=>decide (kv.1=k):=by
 unfold KV at r
 induction r with
 | nil=>rfl
 | cons h t ih=>rw [List.any_cons,List.any_cons,ih,h.1]
theorem KV.repl {kvs:List (κ × V)} {vs:List (κ × Value)} (r:KV kvs vs) (k:κ) {y:V} {u:Value} (ry:RelV y u) :
  KV (kvs.map fun kv=>if kv.1=k then (kv.1,y) else kv) (vs.map fun kv=>if kv.1=k then (kv.1,u) else kv):=by
 unfold KV at r ⊢
 induction r with
 | nil=>exact .nil
 | @cons p q ps qs h t ih =>
  rw [List.map_cons,List.map_cons]
  refine .cons ?_ ih
  obtain ⟨h1,h2⟩:=h
  by_cases e:p.1=k
  ·rw [if_pos e,if_pos (h1.symm.trans e)];exact ⟨h1,ry⟩
  ·rw [if_neg e,if_neg (fun z=>e (h1.trans z))];exact ⟨h1,h2⟩
theorem KV.put {kvs:List (κ × V)} {vs:List (κ × Value)} (r:KV kvs vs) (k:κ) {y:V} {u:Value} (ry:RelV y u):KV (putK kvs k y) (stored vs k u):=by
 unfold putK stored
 rw [r.any k]
 by_cases e:(vs.any fun kv=>decide (kv.1=k))=true
 ·rw [if_pos e,if_pos e];exact r.repl k ry
 ·rw [if_neg e,if_neg e];exact Paired.snoc r ⟨rfl,ry⟩
theorem KV.length {kvs:List (κ × V)} {vs:List (κ × Value)} (r:KV kvs vs):kvs.length=vs.length:=Paired.length r
end
theorem aj8 {P:Program} {w:World} {k:Key} {u:Value} (r:RelV (kV k) u):(vq P w).is k u=true:=by
 cases k with
 | inl i=>obtain ⟨t,e⟩:=(show ∃ t,u=Value.int i t from r);subst e;exact abd P w i t
 | inr x=>obtain ⟨t,e⟩:=(show ∃ t,u=Value.str x t from r);subst e;exact abe P w x t
theorem aa7 {P:Program} {w:World}:∀ {ks:List Key} {us:List Value},Vals (ks.map kV) us→ItemsAre (vq P w) ks us
 | [],_,r=>by rw [List.map_nil] at r;cases r;exact .nil
 | k::ks,_,r=>by
  rw [List.map_cons] at r
  cases r with
  | cons h t=>exact .cons (aj8 h) (aa7 t)
abbrev KT (H:Hp):List (List Key × V)→List (List Key × Addr × Value)→Prop:=Paired fun p q=>p.1=q.1∧H q.2.1=some (.tup (p.1.map kV))∧RelV p.2 q.2.2
theorem KT.val {H:Hp} {kvs:List (List Key × V)} {xs:List (List Key × Addr × Value)} (r:KT H kvs xs) (k:List Key):RelO (ack kvs k) ((atKey xs k).map (·.2)):=by
 induction r with
 | nil=>exact True.intro
 | @cons p q ps qs h t ih =>
  obtain ⟨h1,_,h2⟩:=h
  by_cases e:p.1=k
  ·have e':q.1=k:=h1.symm.trans e
   have b:atKey (q::qs) k=some q.2:=by simp [atKey,List.find?_cons,e']
   rw [a8i e,b];exact h2
  ·have e':¬ q.1=k:=fun z=>e (h1.trans z)
   have b:atKey (q::qs) k=atKey qs k:=by simp [atKey,List.find?_cons,e']
   rw [a8j e,b];exact ih
theorem KT.repl {H:Hp} {kvs:List (List Key × V)} {xs:List (List Key × Addr × Value)} (r:KT H kvs xs) (k:List Key) {y:V} {u:Value} (ry:RelV y u) :
  KT H (kvs.map fun kv=>if kv.1=k then (kv.1,y) else kv) (xs.map (putAt k u)):=by
 induction r with
 | nil=>exact .nil
 | @cons p q ps qs h t ih =>
  rw [List.map_cons,List.map_cons]
  refine .cons ?_ ih
  obtain ⟨h1,h2,h3⟩:=h
  unfold putAt
  by_cases e:p.1=k
  ·rw [if_pos e,if_pos (h1.symm.trans e)];exact ⟨h1,h2,ry⟩
  ·rw [if_neg e,if_neg (fun z=>e (h1.trans z))];exact ⟨h1,h2,h3⟩
theorem KT.put {H:Hp} {kvs:List (List Key × V)} {xs:List (List Key × Addr × Value)} (r:KT H kvs xs) (k:List Key) {b:Addr} {y:V} {u:Value} (hb:H b=some (.tup (k.map kV))) (ry:RelV y u) :
  KT H (putK kvs k y) (storedH xs k b u):=by
 have e:(kvs.any fun kv=>decide (kv.1=k))=(atKey xs k).isSome:=by
  rw [acl,(r.val k).isSome_eq,Option.isSome_map]
 unfold putK storedH
 rw [e]
 by_cases q:(atKey xs k).isSome=true
 ·rw [if_pos q,if_pos q];exact r.repl k ry
 ·rw [if_neg q,if_neg q];exact Paired.snoc r ⟨rfl,hb,ry⟩
theorem KT.keeps {H H':Hp} {kvs:List (List Key × V)} {xs:List (List Key × Addr × Value)} (r:KT H kvs xs) (ht:∀ b ys,H b=some (.tup ys)→H' b=some (.tup ys)):KT H' kvs xs :=
 Paired.mapP r fun _ _ z=>⟨z.1,ht _ _ z.2.1,z.2.2⟩
section
variable {P:Program} {w:World} {H:Hp} {h:Heap} {a:Addr}
theorem arv {u:HO} (ok:HOk P w H h) (e:Rd H a u):ObjOk P w H h a u:=e.ok ok
theorem arw {kvs:List (Key × V)} (ok:HOk P w H h) (e:Rd H a (.dK kvs)):kvs.length≤sizeLine∧(a == sysModules)=false∧∃ vs,KV kvs vs∧h.DictOf (vq P w) a vs :=
 show ObjOk P w H h a (.dK kvs) from arv ok e
theorem arx {kvs:List (Key × V)} (ok:HOk P w H h) (e:H a=some (.dK kvs)):kvs.length≤sizeLine∧(a == sysModules)=false∧∃ vs,KV kvs vs∧h.DictOf (vq P w) a vs:=arw ok (.inl e)
theorem afy {ks:List Key} (ok:HOk P w H h) (e:H a=some (.tup (ks.map kV))):(tupleKind (vq P w)).is h ks a:=by
 obtain ⟨_,its,r,o,h1,h2,n,h3⟩:=(show ObjOk P w H h a (.tup (ks.map kV)) from ok a _ e)
 exact ⟨o,its.toArray,n,h1,h2,h3,by simpa using aa7 r⟩
theorem arz {kvs:List (List Key × V)} (ok:HOk P w H h) (e:Rd H a (.dT kvs)):kvs.length≤sizeLine∧(a == sysModules)=false ∧
  ∃ xs,KT H kvs xs∧h.DictOfH (tupleKind (vq P w)) a xs:=by
 obtain ⟨z,y,xs,r,o,es,ep,h1,h2,h3,h4,h5⟩:=(show ObjOk P w H h a (.dT kvs) from arv ok e)
 refine ⟨z,y,xs,r,o,es,ep,h1,h2,h3,h4,fun x hx=>?_,h5⟩
 have all:∀ {l:List (List Key × V)} {m:List (List Key × Addr × Value)},KT H l m→∀ x∈m,(tupleKind (vq P w)).is h x.1 x.2.1:=by
  intro l m q
  induction q with
  | nil=>intro x hx;exact nomatch hx
  | @cons p q ps qs hq t ih =>
   intro x hx
   rcases List.mem_cons.mp hx with e | hx
   ·subst e
    exact afy ok (by rw [← hq.1];exact hq.2.1)
   ·exact ih x hx
 exact all r x hx
theorem awi {kvs:List (List Key × V)} (ok:HOk P w H h) (e:H a=some (.dT kvs)):kvs.length≤sizeLine∧(a == sysModules)=false ∧
  ∃ xs,KT H kvs xs∧h.DictOfH (tupleKind (vq P w)) a xs:=arz ok (.inl e)
end
def avl (H:Hp) (a:Addr) (y:V) (r:Option V):Prop :=
 (∃ kvs k,Rd H a (.dK kvs)∧y=kV k∧r=ack kvs k)∨∃ kvs k b,Rd H a (.dT kvs)∧y = .ref b∧H b=some (.tup (k.map kV))∧r=ack kvs k
def awj (H:Hp) (a:Addr) (y v:V) (H':Hp):Prop :=
 (∃ kvs k,H a=some (.dK kvs)∧y=kV k∧kvs.length<sizeLine∧H'=upd H a (.dK (putK kvs k v))) ∨
 ∃ kvs k b,H a=some (.dT kvs)∧y = .ref b∧H b=some (.tup (k.map kV))∧kvs.length<sizeLine∧H'=upd H a (.dT (putK kvs k v))
section
variable {X:Cx} {pins:List (Addr × Obj)} {σ:St} {H:Hp} {s:Shared} {a:Addr} {y v:V} {u r:Value} {o:Option V} {A:Around} {E:Value→Shared→Prop}
theorem Inv.big (I:Inv X pins σ H s):sysModules<s.heap.objs.size:=by
 have h:mainGlobals<s.heap.objs.size:=(I.mod.glob.keeps I.bk).lt
 exact Nat.lt_trans (by decide) h
theorem anl {Q:Value→Shared→Prop} (hu:A.units+1<cLine) (I:Inv X pins σ H s) (g:avl H a y o) (ry:RelV y u) (h:∀ s',Inv X pins σ H s'→Q (.bool (!o.isSome)) s') :
  wpAny (model X.prog X.w) A (compareOp .NotIn u (.ref a)) Q E s:=by
 rcases g with ⟨kvs,k,e,ey,l⟩ | ⟨kvs,k,b,e,ey,eb,l⟩
 ·subst ey
  obtain ⟨z,hd,vs,rel,dd⟩:=arw I.hok e
  refine wpAny_notIn_of (aj8 ry) hd dd.mapOf ?_
  rw [← (rel.val k).isSome_eq,← l]
  exact h _ (I.tok _)
 ·subst ey
  cases (show u=Value.ref b from ry)
  obtain ⟨z,hd,xs,rel,dd⟩:=arz I.hok e
  refine wpAny_notIn_heap (tupleKind_room_in1 hu) (afy I.hok eb) hd dd ?_
  have q:=(rel.val k).isSome_eq
  rw [Option.isSome_map] at q
  rw [← q,← l]
  exact h _ (I.tok _)
theorem abk {h':Heap} {t':Nat} {ob:HO} (I:Inv X pins σ H s) (mu:Mut (H a)) (hs:Heap.SameBut a s.heap h') (he:∃ q,h'.get? a=some q) (new:ObjOk X.prog X.w (upd H a ob) h' a ob) :
  Inv X pins σ (upd H a ob) { s with heap:=h',toks:=t' } :=
 I.write (x:=a) (e:=a) mu (.inl rfl) (fun b q hb z=>(hs.2 b hb).trans z) he new
theorem alh {P:Program} {w:World} {H':Hp} {h':Heap} {kvs:List (Key × V)} {vs:List (Key × Value)} (z:kvs.length≤sizeLine) (hd:(a == sysModules)=false) (rel:KV kvs vs) (dd:h'.DictOf (vq P w) a vs) :
  ObjOk P w H' h' a (.dK kvs):=⟨z,hd,vs,rel,dd⟩
theorem afz {H':Hp} {Q:Unit→Shared→Prop} (hu:A.units+1<cLine) (I:Inv X pins σ H s) (g:awj H a y v H') (ry:RelV y u) (rv:RelV v r) (h:∀ s',Inv X pins σ H' s'→Q () s') :
  wpAny (model X.prog X.w) A (setItem (.ref a) u r) Q E s:=by
 rcases g with ⟨kvs,k,e,ey,l,eH⟩ | ⟨kvs,k,b,e,ey,eb,l,eH⟩
 ·subst ey eH
  obtain ⟨z,hd,vs,rel,dd⟩:=arx I.hok e
  have hz:vs.length≤sizeLine:=by rw [← rel.length];exact z
  have hl:(putK kvs k v).length≤sizeLine:=by have:=a3h kvs k v;omega
  refine wpAny_setItem_pairs (hsz:=hz) (aj8 ry) dd fun h' dd' hs=>h _ ?_
  have he:∃ q,h'.get? a=some q:=let ⟨q,_,_,hq,_⟩:=dd'; ⟨q,hq⟩
  exact abk I (by rw [e];exact True.intro) hs he (alh hl hd (rel.put k rv) dd')
 ·subst ey eH
  cases (show u=Value.ref b from ry)
  obtain ⟨z,hd,xs,rel,dd⟩:=awi I.hok e
  have hz:xs.length≤sizeLine:=by rw [← Paired.length rel];exact z
  have hl:(putK kvs k v).length≤sizeLine:=by have:=a3h kvs k v;omega
  refine wpAny_setItem_heap (hsz:=hz) (tupleKind_room_in1 hu) (afy I.hok eb) dd fun h' dd' hs=>h _ ?_
  obtain ⟨q,es,ep,hq,h2,h3,h4,_,h5⟩:=dd'
  refine abk I (by rw [e];exact True.intro) hs ⟨q,hq⟩ ⟨hl,hd,_,(rel.put k eb rv).keeps fun c ys ec=>?_,q,es,ep,hq,h2,h3,h4,h5⟩
  rw [jn (avv ec e (fun z=>nomatch z))]
  exact ec
end
def awk (td ty tv:TE):TS:=fun D σ H=>tv σ H fun v H1=>td σ H1 fun x H2=>ty σ H2 fun y H3=>∃ a H4,x = .ref a∧awj H3 a y v H4∧D.nx σ H4
section
variable {X:Cx} {o i e value:Expr} {pos pos' tpos:Pos} {td ty tv:TE}
theorem anm (hu:X.A.units+1<cLine) (ho:PE X o td) (hi:PE X i ty) (hv:PE X value tv) (hs:swapsWith value (some (.Subscript o i pos')) pos.line X.env=pure false) :
  PS X (.Assign [.Subscript o i pos'] value pos) (awk td ty tv):=by
 intro pins s σ H D I h
 refine wpAny_Assign_Subscript (thn (hv pins s σ H _ I h) fun r s1 ⟨v,H1,I1,rv,q1⟩=>thn (ho pins s1 σ H1 _ I1 q1) fun u s2 ⟨x,H2,I2,rx,q2⟩=>thn (hi pins s2 σ H2 _ I2 q2) fun iv s3 ⟨y,H3,I3,ry,a,H4,ex,g,q3⟩=>?_) hs
 subst ex
 obtain rfl:u=Value.ref a:=rx
 exact afz hu I3 g ry rv fun s4 I4=>⟨σ,H4,I4,q3⟩
end
theorem acn {P:Program} {w:World} {H:Hp} (h:Heap) (hb:sysModules<h.objs.size):ObjOk P w H (h.push { cls:=.type "dict",data:=.dict #[] }) h.objs.size (.dK []) :=
 ⟨Nat.zero_le _,beq_eq_false_iff_ne.mpr (Ne.symm (Nat.ne_of_lt hb)),[], .nil,Heap.DictOf.new h⟩
def as3:TE:=fun _ H Q=>∀ p,H p=none→Q (.ref p) (upd H p (.dK []))
section
variable {X:Cx} {pos:Pos}
theorem aj9:PE X (.Dict [] [] pos) as3:=fun pins s σ H Q I h =>
 wpAny_Dict_empty ⟨.ref s.heap.objs.size,_,I.laid (a:=s.heap.objs.size) (o:=.dK []) (t':=s.toks) (fun _ _ q=>Heap.get?_push_of_some _ q) (Nat.le_refl _) (acn s.heap I.big),rfl,h _ (I.hok.fresh (Nat.le_refl _))⟩
end
def ag0:List (TE × TE)→St→Hp→(List (V × V)→Hp→Prop)→Prop
 | [],_,H,Q=>Q [] H
 | (tk,tv)::r,σ,H,Q=>tk σ H fun x H1=>tv σ H1 fun y H2=>ag0 r σ H2 fun ps H3=>Q ((x,y)::ps) H3
abbrev VV:List (V × V)→List (Value × Value)→Prop:=Paired fun p q=>RelV p.1 q.1∧RelV p.2 q.2
def PPs (X:Cx) (pos:Pos) (keys:List (Option Expr)) (values:List Expr) (trs:List (TE × TE)):Prop :=
 ∀ (pins:List (Addr × Obj)) (s:Shared) (σ:St) (H:Hp) (Q:List (V × V)→Hp→Prop),Inv X pins σ H s→ag0 trs σ H Q →
  wpAny (model X.prog X.w) X.A (evalPairs (pairTrees keys values X.env pos)) (fun vs s'=>∃ ps H',Inv X pins σ H' s'∧VV ps vs∧Q ps H') X.xe s
theorem ano {X:Cx} {pos:Pos}:PPs X pos [] [] []:=fun pins s σ H Q I h=>pairTrees_nil_walk ⟨[],H,I, .nil,h⟩
theorem aja {X:Cx} {pos:Pos} {k v:Expr} {ks:List (Option Expr)} {vs:List Expr} {tk tv:TE} {trs:List (TE × TE)} (hk:PE X k tk) (hv:PE X v tv) (hr:PPs X pos ks vs trs) :
  PPs X pos (some k::ks) (v::vs) ((tk,tv)::trs):=fun pins s σ H Q I h =>
 pairTrees_cons_walk (thn (hk pins s σ H _ I h) fun u s1 ⟨x,H1,I1,rx,q1⟩=>thn (hv pins s1 σ H1 _ I1 q1) fun w2 s2 ⟨y,H2,I2,ry,q2⟩ =>
  thn (hr pins s2 σ H2 _ I2 q2) fun ws s3 ⟨ps,H3,I3,rel,q3⟩=>⟨(x,y)::ps,H3,I3, .cons ⟨rx,ry⟩ rel,q3⟩)
def aa8 (kvs more:List (Key × V)):List (Key × V):=more.foldl (fun acc kv=>putK acc kv.1 kv.2) kvs
theorem KV.merge:∀ {more:List (Key × V)} {rs:List (Key × Value)} {kvs:List (Key × V)} {vs:List (Key × Value)},KV more rs→KV kvs vs→KV (aa8 kvs more) (merged vs rs):=by
 intro more rs kvs vs r
 unfold KV at r
 induction r generalizing kvs vs with
 | nil=>intro q;exact q
 | @cons p q ps qs h t ih =>
  intro r0
  have e:KV (putK kvs p.1 p.2) (stored vs q.1 q.2):=by
   have:=r0.put p.1 h.2
   rw [← h.1];exact this
  exact ih e
theorem a3y:∀ (more kvs:List (Key × V)),(aa8 kvs more).length≤kvs.length+more.length
 | [],kvs=>by show kvs.length≤kvs.length+0;omega
 | p::r,kvs=>by
  have h1:=a3y r (putK kvs p.1 p.2)
  have h2:=a3h kvs p.1 p.2
  show (aa8 (putK kvs p.1 p.2) r).length≤_
  rw [List.length_cons];omega
theorem a7s {P:Program} {w:World}:∀ {kvs:List (Key × V)} {ws:List (Value × Value)},VV (kvs.map fun kv=>(kV kv.1,kv.2)) ws→∃ rs,Carries (vq P w) ws rs∧KV kvs rs
 | [],_,r=>by rw [List.map_nil] at r;cases r;exact ⟨[],True.intro, .nil⟩
 | p::kvs,_,r=>by
  rw [List.map_cons] at r
  cases r with
  | @cons a b as bs h t =>
   obtain ⟨rs,c,q⟩:=a7s (P:=P) (w:=w) t
   obtain ⟨b1,b2⟩:=b
   exact ⟨(p.1,b2)::rs,⟨aj8 h.1,rfl,c⟩, .cons ⟨rfl,h.2⟩ q⟩
def awl (trs:List (TE × TE)):TE:=fun σ H Q=>∀ p,H p=none→ag0 trs σ (upd H p (.dK [])) fun ps H2=>H2 p=some (.dK [])∧∃ kvs:List (Key × V),ps=kvs.map (fun kv=>(kV kv.1,kv.2))∧kvs.length≤15∧Q (.ref p) (upd H2 p (.dK (aa8 [] kvs)))
theorem anp {X:Cx} {pos:Pos} {keys:List (Option Expr)} {values:List Expr} {trs:List (TE × TE)} (h:PPs X pos keys values trs) (hall:keys.all (·.isSome)=true) (hl:keys.length=values.length) (h0:keys≠[])
  (h15:keys.length≤15):PE X (.Dict keys values pos) (awl trs):=by
 intro pins s σ H Q I q
 have hn:=I.hok.fresh (Nat.le_refl s.heap.objs.size)
 have I1:=I.laid (a:=s.heap.objs.size) (o:=.dK []) (h':=s.heap.push { cls:=.type "dict",data:=.dict #[] }) (t':=s.toks) (fun _ _ q=>Heap.get?_push_of_some _ q) (Nat.le_refl _) (acn s.heap I.big)
 refine wpAny_Dict_walk (knd:=vq X.prog X.w) hall hl h0 h15 (thn (h pins _ σ _ _ I1 (q _ hn)) fun ws s2 ⟨ps,H2,I2,rel,e,kvs,ep,lk,q2⟩=>?_)
 subst ep
 obtain ⟨rs,c,rk⟩:=a7s (P:=X.prog) (w:=X.w) rel
 obtain ⟨z,hd,vs0,r0,dd⟩:=arx I2.hok e
 cases r0
 refine ⟨rs,c,dd,fun h' dd' hs=>⟨.ref s.heap.objs.size,_,?_,rfl,q2⟩⟩
 have hz:(aa8 [] kvs).length≤sizeLine:=by
  have h1:=a3y kvs []
  rw [List.length_nil] at h1
  rw [sizeLine_eq];omega
 have he:∃ q,h'.get? s.heap.objs.size=some q:=let ⟨q,_,_,hq,_⟩:=dd'; ⟨q,hq⟩
 exact abk I2 (by rw [e];exact True.intro) hs he (alh hz hd (rk.merge .nil) dd')
end L2
namespace L2
open PySem PySem.Spec PyProof.Rows
section
variable {X:Cx}
theorem ajb:OpR X (compareOp .Is) (fun x y H Q=>∃ i j,x = .bl i∧y = .bl j∧Q (.bl (i == j)) H):=by
 intro pins s σ H x y v u Q I rx ry h
 obtain ⟨i,j,rfl,rfl,q⟩:=h
 cases rx
 cases ry
 exact is_bool (a7p I q rfl)
theorem zm:OpR X (compareOp .LtE) (fun x y H Q=>∃ i j,x = .str i∧y = .str j∧Q (.bl (!decide (j.cps.toList<i.cps.toList))) H):=by
 intro pins s σ H x y v u Q I rx ry h
 obtain ⟨i,j,rfl,rfl,q⟩:=h
 obtain ⟨t,rfl⟩:=rx
 obtain ⟨t',rfl⟩:=ry
 exact PySem.P.le_str (a7p I q rfl)
def a4o {α:Type} (xs:List α) (lo hi:Option Int):List α:=(xs.drop (HT.sIx xs.length 0 lo)).take (HT.sIx xs.length xs.length hi - HT.sIx xs.length 0 lo)
def awm:V→Option Int→Option Int→Hp→VK→Prop:=fun x lo hi H Q=>∃ z,x = .str z∧z.length≤sizeLine∧Q (.str ⟨(a4o z.cps.toList lo hi).toArray⟩) H
theorem as4 (lo hi:Option Int) (n:Nat):Builtin.Str.strSliceIndices lo hi 1 n=(List.range (HT.sIx n n hi - HT.sIx n 0 lo)).map fun k=>HT.sIx n 0 lo+k:=by
 have e1:Builtin.Str.strSliceIndices lo hi 1 n=sliceRange ((HT.sIx n 0 lo:Nat):Int) ((HT.sIx n n hi:Nat):Int) 1:=by
  unfold Builtin.Str.strSliceIndices
  dsimp only
  congr 1
  ·cases lo with
   | none=>simp [HT.sIx]
   | some i=>simp only [HT.sIx,show (1:Int) > 0 by decide,if_true];split<;>omega
  ·cases hi with
   | none=>simp [HT.sIx]
   | some i=>simp only [HT.sIx,show (1:Int) > 0 by decide,if_true];split<;>omega
 rw [e1]
 exact sliceRange_one _ _
theorem as5 {α:Type} (xs:List α) (a:Nat):∀ k,a+k≤xs.length→((List.range k).map fun j=>a+j).filterMap (xs[·]?)=(xs.drop a).take k
 | 0,_=>by simp
 | k+1,h=>by
  rw [List.range_succ,List.map_append,List.filterMap_append,as5 xs a k (by omega)]
  have hk:a+k<xs.length:=by omega
  rw [List.take_succ]
  congr 1
  simp [List.getElem?_drop,hk]
theorem as6:SlR X awm:=by
 intro pins s σ H x v vl vu lo hi sl Q I rx hs pl pu h
 obtain ⟨z,rfl,hz,q⟩:=h
 obtain ⟨t,rfl⟩:=rx
 refine ⟨"str",_,PyProof.Rows.slot_str_getitem.lookup,typeIs_str s z t,?_⟩
 have hl:z.cps.toList.length=z.length:=by simp [Str.length]
 have fin:∀ (l u:Option (Int × Tok)),vl=partValue l→vu=partValue u→l.map (·.1)=lo→u.map (·.1)=hi→wpAny (model X.prog X.w) X.A (getItem (.str z t) (.ref sl)) (EP X pins σ Q) X.xe s:=by
  intro l u e1 e2 e3 e4
  subst e1 e2
  refine wpAny_getItem_str_slice (l:=l) (u:=u) (st:=none) hs rfl ?_
  have hp:slicePicked z l u none=(List.range (HT.sIx z.length z.length hi - HT.sIx z.length 0 lo)).map fun k=>HT.sIx z.length 0 lo+k:=by
   unfold slicePicked
   rw [e3,e4]
   exact as4 lo hi z.length
  have hb1:HT.sIx z.length z.length hi≤z.length:=HT.afr _ _ (Nat.le_refl _) _
  have hb2:HT.sIx z.length 0 lo≤z.length:=HT.afr _ _ (Nat.zero_le _) _
  unfold sliceMade
  split
  ·rename_i c
   simp only [Bool.and_eq_true,beq_iff_eq] at c
   obtain ⟨_,c⟩:=c
   rw [hp,List.length_map,List.length_range] at c
   have e:(⟨(a4o z.cps.toList lo hi).toArray⟩:Str)=z:=by
    unfold a4o
    rw [hl]
    have z1:HT.sIx z.length 0 lo=0:=by omega
    have z2:HT.sIx z.length z.length hi=z.length:=by omega
    rw [z1,z2,List.drop_zero,Nat.sub_zero,List.take_of_length_le (by omega)]
   rw [e] at q
   exact ⟨.str z,H,I,⟨_,rfl⟩,q⟩
  ·have e:(⟨(a4o z.cps.toList lo hi).toArray⟩:Str)=⟨((slicePicked z l u none).filterMap (z.cps[·]?)).toArray⟩:=by
    rw [hp]
    unfold a4o
    rw [hl]
    by_cases hc:HT.sIx z.length 0 lo≤HT.sIx z.length z.length hi
    ·rw [← as5 z.cps.toList _ _ (by omega)]
     simp only [Array.getElem?_toList]
    ·rw [show HT.sIx z.length z.length hi - HT.sIx z.length 0 lo=0 by omega]
     simp
   rw [e] at q
   refine ⟨?_, .str _,H,I.tok _,⟨_,rfl⟩,q⟩
   rw [← e]
   show (a4o z.cps.toList lo hi).toArray.size≤sizeLine
   rw [List.size_toArray]
   unfold a4o
   rw [List.length_take,List.length_drop,hl]
   omega
 cases pl with
 | none=>cases pu with
  | none=>exact fin none none rfl rfl rfl rfl
  | int j t'=>exact fin none (some (j,t')) rfl rfl rfl rfl
 | int i t'=>cases pu with
  | none=>exact fin (some (i,t')) none rfl rfl rfl rfl
  | int j t''=>exact fin (some (i,t')) (some (j,t'')) rfl rfl rfl rfl
theorem m9:CallR X (.builtin "isinstance") (fun xs H Q=>∃ x T t b,xs=[x, .ty T]∧TyOf X.K H x t∧PySem.W.kitOne X.K t (.type T)=some b∧Q (.bl b) H):=by
 intro pins s σ H xs us Q I r h
 obtain ⟨x,T,t,b,rfl,ty,e,q⟩:=h
 obtain ⟨u,w',rfl,rx,rt⟩:=vals2 r
 cases rt
 exact afp I rx ty e fun tk=>⟨.bl b,H,I.tok tk,rfl,q⟩
theorem aa9 (bs:List Bool):((List.range bs.length).all fun i=>(bs[i]?).getD true)=bs.all id:=by
 have e:(List.range bs.length).map (fun i=>(bs[i]?).getD true)=bs:=by
  apply List.ext_getElem (by simp)
  intro i h1 h2
  simp [h2]
 have f:((List.range bs.length).map fun i=>(bs[i]?).getD true).all id=bs.all id:=by rw [e]
 rw [← f,List.all_map]
 rfl
theorem yp (hc:X.calm=true):CallR X (.builtin "all") (fun xs H Q=>∃ (p:Addr) (bs:List Bool),xs=[.ref p]∧SqL X.K H p (bs.map V.bl)∧Q (.bl (bs.all id)) H):=by
 intro pins s σ H xs us Q I r h
 obtain ⟨p,bs,rfl,hq,q⟩:=h
 obtain ⟨u,rfl,rx⟩:=vals1 r
 cases rx
 obtain ⟨its,r',pl,hz⟩:=I.list hq
 have hl:=r'.length
 rw [List.length_map] at hl
 have hlt:p<s.heap.objs.size:=by obtain ⟨_,e,_⟩:=pl.isList;exact Heap.lt_size e
 refine call_all_walk (wpAny_pyIter_list pl.isList ?_)
 refine ⟨s.heap.objs.size,[s.heap.objs.size,p],[s.heap.objs.size],its.toArray.size,_,_,fun i=>(bs[i]?).getD true,rfl,Walks.list (A:=X.A.in1) (I.ok.hd hc) _ p (Nat.ne_of_lt hlt) its.toArray,
  ⟨⟨_,Heap.get?_push_size _ rfl,rfl,rfl⟩,pl.isList.push _⟩,fun i v s' Q' E' hP hQ=>?_,fun h' tk hk=>?_⟩
 ·have hP':its[i]? = some v:=by simpa using hP
  have hi:i<bs.length:=by
   have:=(List.getElem?_eq_some_iff.mp hP').1
   omega
  obtain ⟨u,e,ru⟩:=r'.get (i:=i) (x:=.bl bs[i]) (by simp [hi])
  rw [hP'] at e
  cases e
  cases ru
  simp only [List.getElem?_eq_getElem hi,Option.getD_some] at hQ
  exact wpAny_truthy_bool hQ
 ·have e:((List.range its.toArray.size).all fun i=>(bs[i]?).getD true)=bs.all id:=by
   rw [List.size_toArray,← hl];exact aa9 bs
  rw [e]
  exact ⟨.bl _,H,I.kept fun b x e=>hk b x (fun hm=>by rw [List.mem_singleton.mp hm] at e;exact Nat.lt_irrefl _ (Heap.lt_size e)) (Heap.get?_push_of_some _ e),rfl,q⟩
def zr (x:Str):List V:=x.cps.toList.map fun c=>V.str ⟨#[c]⟩
theorem a7t {x:Str} {acc:Array Value} (h:ItemsOf (SignAt x) acc x.cps.size):Vals (zr x) acc.toList:=by
 obtain ⟨hs,ha⟩:=h
 have key:∀ (cs:List Nat) (us:List Value),us.length=cs.length→(∀ (j:Nat) (v:Value),us[j]? = some v→∃ c u,cs[j]? = some c∧v = .str ⟨#[c]⟩ u)→Vals (cs.map fun c=>V.str ⟨#[c]⟩) us:=by
  intro cs
  induction cs with
  | nil=>intro us hl _;cases us with | nil=>exact .nil | cons _ _=>simp at hl
  | cons c cs ih =>
   intro us hl hp
   cases us with
   | nil=>simp at hl
   | cons u us =>
    refine .cons ?_ (ih us (by simpa using hl) fun j v e=>hp (j+1) v (by simpa using e))
    obtain ⟨c',t,e1,e2⟩:=hp 0 u rfl
    simp at e1
    subst e1
    exact ⟨t,e2⟩
 refine key _ _ (by simp [hs]) fun j v e=>?_
 obtain ⟨c,u,e1,e2⟩:=ha j v (by simpa using e)
 exact ⟨c,u,by simpa using e1,e2⟩
theorem yq (hc:X.calm=true):CallR X (.type "list") (fun xs H Q=>∃ z,xs=[.str z]∧z.length≤sizeLine∧∀ l,H l=none→Q (.ref l) (upd H l (.lst (zr z)))):=by
 intro pins s σ H xs us Q I r h
 obtain ⟨z,rfl,hz,q⟩:=h
 obtain ⟨u,rfl,t,rfl⟩:=vals1 r
 refine PySem.call_list_str (I.ok.hd hc) z t (fun h' tk acc c kp e hi=>?_) (by simpa [Str.length] using hz)
 refine ⟨.ref s.heap.objs.size,_,I.laid (t':=tk) kp (Nat.le_refl _) (show ObjOk X.prog X.w _ h' _ (.lst (zr z)) from ⟨by simpa [zr,Str.length] using hz,acc.toList,c,a7t hi,by simpa using e⟩),rfl,q _ (I.hok.fresh (Nat.le_refl _))⟩
theorem v5 (hc:X.calm=true):CallR X (.type "tuple") (fun xs H Q=>∃ z,xs=[.str z]∧z.length≤sizeLine∧∀ l,H l=none→Q (.ref l) (upd H l (.tup (zr z)))):=by
 intro pins s σ H xs us Q I r h
 obtain ⟨z,rfl,hz,q⟩:=h
 obtain ⟨u,rfl,t,rfl⟩:=vals1 r
 refine PySem.call_tuple_str (I.ok.hd hc) z t (fun h' tk acc kp hi=>?_) (by simpa [Str.length] using hz)
 have I1:Inv X pins σ H { s with heap:=h',toks:=tk }:=I.kept kp
 have I2:Inv X pins σ (upd H h'.objs.size (.tup (zr z))) { s with heap:=h'.push { cls:=.type "tuple",data:=.seq acc },toks:=tk } :=
  I1.laid (t':=tk) (fun b o e=>Heap.get?_push_of_some _ e) (Nat.le_refl _) (show ObjOk X.prog X.w _ _ _ (.tup (zr z)) from ⟨by simpa [zr,Str.length] using hz,acc.toList,a7t hi,by simpa using IsTup.new h' acc⟩)
 exact ⟨.ref h'.objs.size,_,I2,rfl,q _ (I1.hok.fresh (Nat.le_refl _))⟩
end
def Its (x:Str):It:=⟨fun i _=>i<x.cps.size,fun i H v H'=>H'=H∧∃ c,x.cps.toList[i]? = some c∧v = .str ⟨#[c]⟩,fun i _=>i=x.cps.size⟩
theorem aco {P:Program} {w:World} {K:PySem.W.Frag} {tg:Expr} (it:Addr) (x:Str) (t:Tok) (ty:String)
  (hty:["enumerate", "zip", "dict_itemiterator", "dict_reverseitemiterator", "odict_iterator", "itertools.zip_longest", "itertools.pairwise"].contains ty=false)
  (W:∀ A':Around,A'.handled=none→Walks P w A' it [it] [it] x.cps.size (SignAt x) (fun i h=>h.IsStrIter it ty x t i))
  (slf:∀ (A:Around) (i:Nat) (s:Shared) (Q:Value→Shared→Prop) (E:Value→Shared→Prop),s.heap.IsStrIter it ty x t i→Q (.ref it) s→wpAny (model P w) A (pyIter (.ref it)) Q E s) :
  Turn P w K tg (Its x) [it] it (fun i h=>h.IsStrIter it ty x t i) where
 mem:=by simp
 obj:=fun i h st b hb=>by
  have e:b=it:=by simpa using hb
  subst e
  obtain ⟨o,e,c,d⟩:=st
  exact ⟨o,e,fun v z=>by rw [d] at z;cases z⟩
 keep:=fun i h h' st k=>by
  obtain ⟨o,e,c,d⟩:=st
  exact ⟨o,k it (by simp) o e,c,d⟩
 item:=by
  intro X hP hw hK hc i pins s σ H E I hf st hg
  subst hP hw hK
  obtain ⟨f0,f1,f2,f3,f4,f5⟩:=hf it (by simp)
  refine (W X.A (I.ok.hd hc)).item i s _ _ hg st fun v h' tk hv st' kk=>?_
  obtain ⟨c,u,hx,rfl⟩:=hv
  have I1:Inv X pins σ H { s with heap:=h',toks:=tk }:=I.turned (fun b o hb e=>kk b o (by simpa using hb) e) f0 f1 f3 f4 f5
  obtain ⟨o,e,oc,d⟩:=id st'
  exact ⟨_,rfl,aix (s:={ s with heap:=h',toks:=tk }) e oc d hty ⟨.str ⟨#[c]⟩,H,I1,⟨_,rfl⟩,⟨rfl,c,by simpa using hx,rfl⟩,st',fun b hb=>(hf b hb).1⟩⟩
 done:=by
  intro X hP hw hK hc i pins s σ H E I hf st hg
  subst hP hw hK
  obtain ⟨f0,f1,f2,f3,f4,f5⟩:=hf it (by simp)
  have hg':i=x.cps.size:=hg
  subst hg'
  exact (W X.A (I.ok.hd hc)).done s _ _ st fun h' tk eb=>⟨rfl,I.turned (fun b o hb e=>eb b o (by simpa using hb) e) f0 f1 f3 f4 f5⟩
 self:=slf
section
variable {X:Cx} {tg:Expr}
def ayy (tl:TE):TI:=fun σ H R=>tl σ H fun x H1=>∃ z,x = .str z∧R (Its z) H1
theorem ali {l:Expr} {tl:TE} (hl:PE X l tl):PI X tg l (ayy tl):=by
 intro pins s σ H R I h
 refine thn (hl pins s σ H _ I h) fun v s1 ⟨x,H1,I1,r1,q1⟩=>?_
 obtain ⟨z,e,q⟩:=q1
 subst e
 obtain ⟨t,rfl⟩:=r1
 have fp:∀ b∈[s1.heap.objs.size],aba X pins H1 b:=fun b hb=>by
  have e:b=s1.heap.objs.size:=by simpa using hb
  subst e
  exact I1.fpOk (Nat.le_refl _) (I1.hok.fresh (Nat.le_refl _))
 cases ha:z.cps.all (· < 128)
 ·exact wpAny_pyIter_wide ha ⟨s1.heap.objs.size,[s1.heap.objs.size],_,_,H1,rfl,I1.kept (t':=s1.toks) fun b o e=>Heap.get?_push_of_some _ e,
   aco _ z t "str_iterator" (by decide) (fun A' hA=>Walks.strWide hA _ z t) (fun _ _ _ _ _ st h=>wpAny_pyIter_striter_wide st h),⟨_,Heap.get?_push_size _ rfl,rfl,rfl⟩,fp,q⟩
 ·exact wpAny_pyIter_ascii ha ⟨s1.heap.objs.size,[s1.heap.objs.size],_,_,H1,rfl,I1.kept (t':=s1.toks) fun b o e=>Heap.get?_push_of_some _ e,
   aco _ z t "str_ascii_iterator" (by decide) (fun A' hA=>Walks.strAscii hA _ z t) (fun _ _ _ _ _ st h=>wpAny_pyIter_striter_ascii st h),⟨_,Heap.get?_push_size _ rfl,rfl,rfl⟩,fp,q⟩
end
end L2
namespace L2
open PySem PySem.Spec PyProof.Rows
def cxC (X:Cx) (N:List Str) (scope:Scope) (cl:List (Str × Addr)) (C:Addr) (fp:List Addr) (s:Shared) (H:Hp):Cx where
 prog:=X.prog
 w:=X.w
 K:=X.K
 mg:=X.mg
 base:=X.base
 A:=X.A
 N:=N
 s₀:=s
 H₀:=H
 env:=compEnvC scope cl C X.env
 outer:=X.stack
 stack:=X.stack
 ex:=fp
 fn:=fun _=>false
 calm:=X.calm
 pn:=[]
 xe:=fun _ _=>False
structure CSc (X:Cx) (scope:Scope) (cl:List (Str × Addr)) (ts fr:List Str) (ix:List Nat):Prop where
 clos:closureFor scope X.env=pure cl
 kind:scope.kind = .function
 nocell:∀ y∈scope.names,y.2≠.cell
 names:∀ y∈scope.names,y.2 = .local→scope.names.lookup y.1=some .local
 sub:∀ y c,cl.lookup y=some c→X.env.cells.lookup y=some c
 has:∀ y,((relabel scope X.env).names.lookup y=some .cell∨(relabel scope X.env).names.lookup y=some .free)→∃ c,cl.lookup y=some c
 nofn:∀ y∈ts,(relabel scope X.env).names.lookup y=some .local
 len:ix.length=fr.length
 vis:∀ (j:Nat) (y:Str),fr[j]? = some y→∃ i:Nat,ix[j]? = some i∧X.N[i]? = some y∧(X.env.kindOf y=some .cell∨X.env.kindOf y=some .free)∧((relabel scope X.env).names.lookup y=some .cell∨(relabel scope X.env).names.lookup y=some .free)
def Ext (a b:St):Prop:=b.length=a.length∧∀ (i:Nat) v,a[i]? = some (some v)→b[i]? = some (some v)
def xm (nt:Nat) (ix:List Nat) (σ:St):St:=List.replicate nt none++ix.map fun i=>(σ[i]?).join
def as7 (J:It) (s0:St) (g:TG) (te:TE) (Q:VK) (H1:Hp):Prop:=∃ W:Nat→Nat→List V→Hp→Prop,(∃ m,W 0 m [] H1)∧∀ i m ys H,W i m ys H →
 (J.stop i H∧∀ p,H p=none→Q (.ref p) (upd H p (.lst ys))) ∨
 (J.go i H∧ys.length<sizeLine∧∀ x H',J.yld i H x H'→g x s0 H' fun σ2 H2=>Ext s0 σ2∧te σ2 H2 fun y H3=>∃ m',m'<m∧W (i+1) m' (ys++[y]) H3)
def ajc (wi:TI) (s0:St→St) (g:TG) (te:TE):TE:=fun σ H Q=>wi σ H fun J H1=>as7 J (s0 σ) g te Q H1
theorem ag1 {prog:Program} {w:World} {A:Around} {R:Result→Shared→Prop} {s:Shared} {elt target iter:Expr} {scope:Scope} {pos:Pos} {it acc:Value} {env:Env} (J:Nat→Shared→Prop)
  (step:∀ m z,J m z→wpAny (model prog w) A (pyNext it) (fun got z1=>match got with
   | none=>R (.ok .next) z1
   | some v=>wpAny (model prog w) A (letOwnedTupleGo target it v) (fun _ z2=>wpAny (model prog w) A (assign target env v) (fun _ z3=>wpAny (model prog w) A (eval elt env) (fun x z4 =>
     wpAny (model prog w) A (call (.builtin "list.append") [acc,x]) (fun _ z5=>∃ m',m'<m∧J m' z5) (fun _ _=>False) z4)
     (fun _ _=>False) z3) (fun _ _=>False) z2) (fun _ _=>False) z1) (fun _ _=>False) z)
  (m:Nat) (j0:J m s):codeAny (model prog w) A (.compLoop (.ListComp elt [⟨target,iter,[],0⟩] scope pos) 0 it acc env) R s:=by
 refine codeAny_loop rfl J (fun m z hj=>(wpAny_noted ?_:wpAny _ _ ((compTurn (.ListComp elt [⟨target,iter,[],0⟩] scope pos) 0 it acc env).onRaise _) _ _ z)) m j0
 rw [compTurn_list1]
 refine wpAny_bind (wpAny_standAt (wpAny_bind (wpAny_mono (step m z hj) (fun got z1 h1=>?_) fun _ _ no=>no.elim)))
 match got,h1 with
 | none,h1=>exact wpAny_pure h1
 | some v,h1 =>
  refine wpAny_bind (wpAny_mono h1 (fun _ z2 h2=>wpAny_bind (wpAny_mono h2 (fun _ z3 h3=>?_) fun _ _ no=>no.elim)) fun _ _ no=>no.elim)
  refine wpAny_bind (wpAny_bind (wpAny_mono h3 (fun x z4 h4=>?_) fun _ _ no=>no.elim))
  exact wpAny_bind (wpAny_mono h4 (fun _ z5 h5=>wpAny_pure (wpAny_pure ⟨rfl,h5⟩)) fun _ _ no=>no.elim)
section
variable {X:Cx}
theorem aaa {pins:List (Addr × Obj)} {σ:St} {H:Hp} {s:Shared} {scope:Scope} {cl:List (Str × Addr)} {ts fr:List Str} {ix:List Nat} {C:Addr} {fp:List Addr} (S:CSc X scope cl ts fr ix) (I:Inv X pins σ H s)
  (hf:∀ b∈fp,aba X pins H b) (hb:∀ b∈fp,b<s.heap.objs.size) (hC:s.heap.objs.size≤C):(cxC X (ts++fr) scope cl C fp s H).Ok where
 mod:=I.ok.mod
 kind:=S.kind
 glob:=I.ok.glob
 blt:=I.ok.blt
 above:=hC
 inj:=fun x y c h1 h2=>I.ok.inj x y c (S.sub x c h1) (S.sub y c h2)
 has:=S.has
 cab:=fun _ _ z=>nomatch z
 hd:=I.ok.hd
 frames:=I.ok.frames
 stk:=.inl rfl
 exf:=fun b hb'=>⟨Nat.ne_of_lt (Nat.lt_of_lt_of_le (hb b hb') hC),fun x c e=>(hf b hb').2.2.2.2.1 x c (S.sub x c e)⟩
 bs:=fun b o e=>I.bs b o e
 bsz:=Nat.le_trans I.ok.bsz I.sz
 noex:=fun b o e hb'=>by
  rcases (hf b hb').2.2.2.1 with z | z
  ·exact I.ok.noex b o e z
  ·exact absurd (Nat.lt_of_lt_of_le (Heap.lt_size e) (Nat.le_trans I.ok.bsz z)) (Nat.lt_irrefl _)
 exfs:=fun b hb' z=>by
  rcases List.mem_cons.mp (I.stkSub b z) with e | e
  ·exact (hf b hb').2.1 e
  ·exact (hf b hb').2.2.1 e
 funs:=I.stack
 frf:=fun b hb'=>I.stkFree b hb'
theorem aeb {nt:Nat} {ix:List Nat} {σ:St}:(xm nt ix σ).length=nt+ix.length:=by
 unfold xm;rw [List.length_append,List.length_replicate,List.length_map]
theorem ag2 {pins:List (Addr × Obj)} {σ:St} {H:Hp} {s s4:Shared} {scope:Scope} {cl:List (Str × Addr)} {ts fr:List Str} {ix:List Nat} {C:Addr} {fp:List Addr} {m:Str→Option Value} (S:CSc X scope cl ts fr ix) (I:Inv X pins σ H s)
  (hf:∀ b∈fp,aba X pins H b) (hb:∀ b∈fp,b<s.heap.objs.size) (hC:s.heap.objs.size≤C)
  (k:∀ b o,s.heap.get? b=some o→s4.heap.get? b=some o) (hn:s4.heap.Ns C m) (ho:s4.os=s.os) (hg:s4.gens=s.gens) :
  Inv (cxC X (ts++fr) scope cl C fp s H) [] (xm ts.length ix σ) H s4 where
 ok:=aaa S I hf hb hC
 os:=ho
 bare:=by rw [hg];exact I.bare
 base:=Un.kept k
 loc:=by
  refine ⟨m,hn,fun i x v e1 e2 e3=>?_⟩
  have e1:(ts++fr)[i]? = some x:=e1
  by_cases hi:i<ts.length
  ·unfold xm at e2
   rw [List.getElem?_append_left (by simpa using hi),List.getElem?_replicate,if_pos hi] at e2
   cases e2
  ·rw [List.getElem?_append_right (by omega)] at e1
   unfold xm at e2
   rw [List.getElem?_append_right (by simpa using hi),List.length_replicate,List.getElem?_map] at e2
   obtain ⟨j,h1,h2,h3,h4⟩:=S.vis _ x e1
   rw [h1] at e2
   have e2':(σ[j]?).join=some v:=Option.some.inj e2
   have e5:σ[j]? = some (some v):=by
    cases q:σ[j]? with
    | none=>rw [q] at e2';cases e2'
    | some o=>rw [q] at e2';simp at e2';rw [e2']
   obtain ⟨m0,_,hl⟩:=I.loc
   have vis:Vis X.env.scope x:=h3.elim (fun z=>.inr (.inl z)) fun z=>.inr (.inr z)
   obtain ⟨u,ru,l⟩:=hl j x v h2 e5 vis
   refine ⟨u,ru,?_⟩
   rcases l with ⟨z,_⟩ | ⟨_,c,hc,hcell⟩
   ·rcases h3 with h3 | h3<;>rw [h3] at z<;>cases z
   ·obtain ⟨c',hc'⟩:=S.has x h4
    have e6:c'=c:=Option.some.inj ((S.sub x c' hc').symm.trans hc)
    subst e6
    obtain ⟨o,ho,hd⟩:=hcell
    exact .inr ⟨h4,c',hc',o,k _ _ ho,hd⟩
 cell:=fun x c e=>by
  obtain ⟨v,o,ho,hd⟩:=I.cell x c (S.sub x c e)
  exact ⟨v,o,k _ _ ho,hd⟩
 free:=I.hok.fresh hC
 freeC:=fun x c e=>I.freeC x c (S.sub x c e)
 pin:=fun p hp=>absurd (show p∈([]:List (Addr × Obj)) from hp) (by simp)
 hok:=I.hok.kept k
 len:=by
  rw [aeb]
  show _=(ts++fr).length
  rw [List.length_append,S.len]
theorem Inv.unpinned' {pins:List (Addr × Obj)} {σ:St} {H:Hp} {s:Shared} (I:Inv X pins σ H s):Inv X [] σ H s:=I.pins_of fun _ hp=>nomatch hp
theorem comp_back {pins:List (Addr × Obj)} {σ σ':St} {H H':Hp} {s s':Shared} {scope:Scope} {cl:List (Str × Addr)} {N:List Str} {C acc:Addr} {fp:List Addr} {h':Heap} {ys:List V} {its:List Value} {n:Nat} (I:Inv X pins σ H s)
  (hf:∀ b∈fp,aba X pins H b) (hC:s.heap.objs.size≤C) (hacc:s.heap.objs.size≤acc) (hCa:C≠acc)
  (J:Inv (cxC X N scope cl C fp s H) [] σ' H' s') (hn:H' acc=none) (ha:s'.heap.get? acc=some { cls:=.type "list",data:=.seq its.toArray n }) (rv:Vals ys its) (hz:ys.length≤sizeLine) (sb:Heap.SameBut C s'.heap h') :
  Inv X pins σ (upd H' acc (.lst ys)) { s' with heap:=h' }:=by
 have k:∀ b o,b≠C→s'.heap.get? b=some o→h'.get? b=some o:=fun b o hb e=>sb.extBut b o hb e
 have old:∀ b o,s.heap.get? b=some o→b≠C∧b≠acc:=fun b o e=>⟨Nat.ne_of_lt (Nat.lt_of_lt_of_le (Heap.lt_size e) hC),Nat.ne_of_lt (Nat.lt_of_lt_of_le (Heap.lt_size e) hacc)⟩
 have u0:Un (frs X.stack) fp H H' s.heap s'.heap:=J.base
 have fC:H' C=none:=J.free
 have u:Un (frs X.stack) fp H (upd H' acc (.lst ys)) s.heap h':=by
  refine ⟨fun b o e n' hb hx=>k b o (old b o e).1 (u0.keep b o e n' hb hx),fun b o e n' hb hx=>?_,fun b o e n' hx=>?_,fun b o e hx=>?_,fun b xs e=>?_,fun b o v e=>?_,fun b ps e=>?_⟩
  ·obtain ⟨sl,e1⟩:=u0.slot b o e n' hb hx
   exact ⟨sl,k b _ (old b o e).1 e1⟩
  ·rw [jn (old b o e).2];exact u0.free b o e n' hx
  ·obtain ⟨o',e1⟩:=u0.there b o e hx
   exact ⟨o',k b _ (old b o e).1 e1⟩
  ·rw [jn (jw (u0.tups b xs e) hn)];exact u0.tups b xs e
  ·rw [jn (jw (u0.frzs b o v e) hn)];exact u0.frzs b o v e
  ·obtain ⟨more,e1⟩:=u0.tbls b ps e
   exact ⟨more,by rw [jn (jw e1 hn)];exact e1⟩
 have hok:HOk X.prog X.w (upd H' acc (.lst ys)) h':=fun b o e=>by
  by_cases hb:b=acc
  ·subst hb;rw [ou] at e;cases e
   exact ⟨hz,its,n,rv,k _ _ (Ne.symm hCa) ha⟩
  ·rw [jn hb] at e
   refine (J.hok b o e).stay (fun c v hc q=>k c v ?_ q) (fun c q=>by rw [jn (jw q hn)];exact q) fun c xs q=>by rw [jn (jw q hn)];exact q
   rcases hc with z | z
   ·rw [z];exact jw e fC
   ·exact jw z fC
 have J':=I.call (g':=s'.gens) (t':=s'.toks) (d':=s'.drawn) (ch:=fp) u hok J.bare fun b hb=>⟨(hf b hb).2.2.2.1,(hf b hb).2.1,(hf b hb).2.2.2.2.1,(hf b hb).2.2.2.2.2⟩
 have eo:s'.os=s.os:=J.os
 obtain ⟨hp,g,d,t,o⟩:=s'
 have eo':o=s.os:=eo
 subst eo'
 exact J'
def a8k (X:Cx) (pins:List (Addr × Obj)) (σ:St) (use:Option (Value→Sem Unit)) (Q:VK) (Qf:Value→Shared→Prop):Prop :=
 ∀ (acc C:Addr) (s6:Shared) (H6:Hp) (m6:Str→Option Value),s6.heap.Ns C m6→aba X pins H6 C→(∀ h',Heap.SameBut C s6.heap h'→Inv X pins σ H6 { s6 with heap:=h' })→Q (.ref acc) H6 →
  compPost (model X.prog X.w) X.A X.xe use Qf (.ref acc) C (.ok .next) s6
theorem ajd {pins:List (Addr × Obj)} {σ:St} {Q:VK}:a8k X pins σ none Q (EP X pins σ Q):=fun acc C s6 H6 m6 hn _ k q=>⟨m6,hn,fun h' sb=>⟨.ref acc,H6,k h' sb,rfl,q⟩⟩
theorem acp {pins:List (Addr × Obj)} {σ:St} {D:Ends} {i:Nat} {x:Str} {pos':Pos} (hN:X.N.Nodup) (hi:X.N[i]? = some x) (hx:Loc X.env.scope x) (hf:X.fn x=true∨X.env.scope.names.lookup x=some .local) :
  a8k X pins σ (some (assign (.Name x pos') X.env)) (fun v H1=>ae3 i v σ H1 D.nx) (fun _ s'=>SP X pins D .next s'):=by
 intro acc C s6 H6 m6 hn fp k q
 obtain ⟨f1,f2,f3,f4,f5,f6⟩:=fp
 have I6:Inv X pins σ H6 s6:=k s6.heap (Heap.SameBut.refl _ _)
 refine wpAny_assign_Name (a9r (v:=.ref acc) I6 hN hi hx rfl (fun s' I' ⟨a,sb,ha⟩=>⟨m6,hn.sameBut sb ?_,fun h' sb'=>⟨_,H6,I'.turned (t':=s'.toks) (it:=C) (fun b o hb e=>sb'.extBut b o hb e) f1 f2 f4 f5 f6,q⟩⟩) hf)
 rcases ha with ha | ha
 ·rw [ha];exact f2
 ·exact fun z=>f5 x a ha z.symm
theorem aab {elt tg iter:Expr} {scope:Scope} {pos ppos:Pos} {cl:List (Str × Addr)} {ts fr:List Str} {ix:List Nat} {wi:TI} {g:TG} {te:TE} (hc:X.calm=true) (S:CSc X scope cl ts fr ix) (hi:PI X tg iter wi)
  (hg:∀ C fp s H,PG (cxC X (ts++fr) scope cl C fp s H) tg g) (he:∀ C fp s H,PE (cxC X (ts++fr) scope cl C fp s H) elt te) (hs:∀ x,foldedSetIterable iter X.env x=pure x)
  (use:Option (Value→Sem Unit)) {pins:List (Addr × Obj)} {s:Shared} {σ:St} {H:Hp} {Q:VK} {Qf:Value→Shared→Prop} (I:Inv X pins σ H s) (h:ajc wi (xm ts.length ix) g te σ H Q) (fin:a8k X pins σ use Q Qf) :
  wpAny (model X.prog X.w) X.A (comprehension (.ListComp elt [⟨tg,iter,[],0⟩] scope pos) scope X.env ppos (newList []) false (eval iter X.env) use) Qf X.xe s:=by
 refine wpAny_comprehension_free (use:=use) rfl hs S.clos S.kind S.names (thn (hi pins s σ H _ I h) fun v s1 h1=>thn h1 fun itv s2 h2=>?_)
 obtain ⟨it,fp,tn,J,H2,e,I2,T,st2,f2,W,⟨m0,w0⟩,turn⟩:=h2
 subst e
 have hob:∀ b∈fp,b<s2.heap.objs.size:=fun b hb=>let ⟨o,e,_⟩:=T.obj _ _ st2 b hb;Heap.lt_size e
 refine wpAny_newObj_type (wpAny_newFunctionEnv S.nocell (by intro y hy;simp at hy) (fun h4 hns4 hsb4=>?_) S.kind)
 dsimp only at hns4 hsb4 ⊢
 generalize hH2:s2.heap.push { cls:=.type "list",dict:=none,data:=.seq ([]:List Value).toArray }=G at hns4 hsb4 ⊢
 have hCs:G.objs.size=s2.heap.objs.size+1:=by rw [← hH2,Heap.size_push]
 have hCle:s2.heap.objs.size≤G.objs.size:=by omega
 have hne:G.objs.size≠s2.heap.objs.size:=by omega
 have old:∀ b o,s2.heap.get? b=some o→h4.get? b=some o:=fun b o e=>by
  have hlt:=Heap.lt_size e
  exact hsb4.extBut b o (Nat.ne_of_lt (Nat.lt_of_lt_of_le hlt hCle)) (Heap.get?_push_of_some _ (hH2 ▸ Heap.get?_push_of_some _ e))
 have hacc:h4.get? s2.heap.objs.size=some { cls:=.type "list",data:=.seq ([]:List Value).toArray 0 } :=
  hsb4.extBut _ _ (Ne.symm hne) (Heap.get?_push_of_some _ (hH2 ▸ Heap.get?_push_size _ rfl))
 have K0:Inv (cxC X (ts++fr) scope cl G.objs.size fp s2 H2) [] (xm ts.length ix σ) H2 { s2 with heap:=h4,toks:=s2.toks+([]:List (Str × Value)).length } :=
  ag2 S I2 f2 hob hCle old hns4 rfl rfl
 have st4:tn 0 h4:=T.keep _ _ _ st2 fun b _ o e=>old b o e
 have accF:s2.heap.objs.size ∉ fp:=fun z=>Nat.lt_irrefl _ (hob _ z)
 have stat:∀ {H':Hp},(∀ b∈fp,H' b=none)→∀ b∈fp,aba (cxC X (ts++fr) scope cl G.objs.size fp s2 H2) [] H' b:=fun hn b hb =>
  ⟨hn b hb,fun z=>by have h1:=hob b hb;have z':b=G.objs.size:=z;exact Nat.ne_of_lt (Nat.lt_of_lt_of_le h1 hCle) z',fun z=>(aaa S I2 f2 hob hCle).exfs b hb z, .inl hb,fun x c e=>(f2 b hb).2.2.2.2.1 x c (S.sub x c e),fun p hp=>absurd (show p∈([]:List (Addr × Obj)) from hp) (by simp)⟩
 have statA:∀ {H':Hp},H' s2.heap.objs.size=none→aba (cxC X (ts++fr) scope cl G.objs.size fp s2 H2) [] H' s2.heap.objs.size:=fun hn =>
  ⟨hn,fun z=>hne (show G.objs.size=s2.heap.objs.size from z.symm),fun z=>by
   obtain ⟨_,o,ho,_⟩:=(aaa S I2 f2 hob hCle).funs.mem z
   exact Nat.lt_irrefl _ (Heap.lt_size ho), .inr (Nat.le_refl _),fun x c e z=>by
   obtain ⟨v,o,ho,_⟩:=I2.cell x c (S.sub x c e)
   rw [z] at ho
   exact Nat.lt_irrefl _ (Heap.lt_size ho),fun p hp=>absurd (show p∈([]:List (Addr × Obj)) from hp) (by simp)⟩
 have loop:∀ s4:Shared,s4={ s2 with heap:=h4,toks:=s2.toks+([]:List (Str × Value)).length } →
   codeAny (model X.prog X.w) X.A (.compLoop (.ListComp elt [⟨tg,iter,[],0⟩] scope pos) 0 (.ref it) (.ref s2.heap.objs.size) (compEnvC scope cl G.objs.size X.env))
    (compPost (model X.prog X.w) X.A X.xe use Qf (.ref s2.heap.objs.size) G.objs.size) s4:=by
  rintro s4 rfl
  refine ag1 (fun n s'=>∃ i σ' H' ys its k,Inv (cxC X (ts++fr) scope cl G.objs.size fp s2 H2) [] σ' H' s'∧Ext (xm ts.length ix σ) σ'∧tn i s'.heap∧(∀ b∈fp,H' b=none)∧H' s2.heap.objs.size=none ∧
   s'.heap.get? s2.heap.objs.size=some { cls:=.type "list",data:=.seq its.toArray k }∧Vals ys its∧ys.length≤sizeLine∧W i n ys H') ?_ m0
   ⟨0,_,H2,[],[],0,K0,⟨rfl,fun _ _ z=>z⟩,st4,fun b hb=>(f2 b hb).1,I2.hok.fresh (Nat.le_refl _),hacc, .nil,Nat.zero_le _,w0⟩
  rintro n s5 ⟨i,σ5,H5,ys,its,k5,I5,x5,st5,fr5,fa5,ac5,rv5,hz5,w5⟩
  have I5':Inv (cxC X (ts++fr) scope cl G.objs.size fp s2 H2) [] (xm ts.length ix σ) H5 s5:=I5.weak x5.1.symm x5.2
  rcases turn i n ys H5 w5 with ⟨stop,qn⟩ | ⟨go,hlt,step⟩
  ·refine thn (T.done (cxC X (ts++fr) scope cl G.objs.size fp s2 H2) rfl rfl rfl hc i [(s2.heap.objs.size,{ cls:=.type "list",data:=.seq its.toArray k5 })] s5 _ H5 _ (I5'.pins_of fun p hp=>?_) (fun b hb=>?_) st5 stop) fun r s6 ⟨hr,I6⟩=>?_
   ·have e:p=(s2.heap.objs.size,{ cls:=.type "list",data:=.seq its.toArray k5 }):=by simpa using hp
    subst e
    obtain ⟨a0,a1,a2,_⟩:=statA fa5
    exact ⟨ac5,a0,a1,a2,fun v z=>by cases z⟩
   ·obtain ⟨b0,b1,b2,b3,b4,b5⟩:=stat fr5 b hb
    refine ⟨b0,b1,b2,b3,b4,fun p hp=>?_⟩
    have e:p=(s2.heap.objs.size,{ cls:=.type "list",data:=.seq its.toArray k5 }):=by
     have hp':p∈[(s2.heap.objs.size,_)]:=hp
     simpa using hp'
    subst e
    exact fun z=>accF (by have z':s2.heap.objs.size=b:=z;rw [z'];exact hb)
   ·subst hr
    have e6:=(I6.pin (s2.heap.objs.size,{ cls:=.type "list",data:=.seq its.toArray k5 }) (by show _∈[]++[_];simp)).1
    obtain ⟨m6,hn6,_⟩:=I6.loc
    exact fin _ _ s6 _ m6 hn6 (I2.fpOk hCle (by rw [jn hne];exact I6.free)) (fun h' sb=>comp_back I2 f2 hCle (Nat.le_refl _) hne I6.unpinned' fa5 e6 rv5 hz5 sb) (qn _ fa5)
  ·refine thn (T.item (cxC X (ts++fr) scope cl G.objs.size fp s2 H2) rfl rfl rfl hc i [(s2.heap.objs.size,{ cls:=.type "list",data:=.seq its.toArray k5 })] s5 _ H5 _ (I5'.pins_of fun p hp=>?_) (fun b hb=>?_) st5 go) fun r s6 ⟨u,hr,h6⟩=>?_
   ·have e:p=(s2.heap.objs.size,{ cls:=.type "list",data:=.seq its.toArray k5 }):=by simpa using hp
    subst e
    obtain ⟨a0,a1,a2,_⟩:=statA fa5
    exact ⟨ac5,a0,a1,a2,fun v z=>by cases z⟩
   ·obtain ⟨b0,b1,b2,b3,b4,b5⟩:=stat fr5 b hb
    refine ⟨b0,b1,b2,b3,b4,fun p hp=>?_⟩
    have e:p=(s2.heap.objs.size,{ cls:=.type "list",data:=.seq its.toArray k5 }):=by
     have hp':p∈[(s2.heap.objs.size,_)]:=hp
     simpa using hp'
    subst e
    exact fun z=>accF (by have z':s2.heap.objs.size=b:=z;rw [z'];exact hb)
   ·subst hr
    refine thn h6 fun _ s7 ⟨x,H7,I7,r7,y7,st7,fr7⟩=>?_
    have fa7:H7 s2.heap.objs.size=none:=(I7.pin (s2.heap.objs.size,{ cls:=.type "list",data:=.seq its.toArray k5 }) (by show _∈[]++[_];simp)).2.1
    have ac7:=(I7.pin (s2.heap.objs.size,{ cls:=.type "list",data:=.seq its.toArray k5 }) (by show _∈[]++[_];simp)).1
    have I7':Inv (cxC X (ts++fr) scope cl G.objs.size fp s2 H2) ([]++a7o (s2.heap.objs.size::fp) s7.heap) (xm ts.length ix σ) H7 s7:=by
     refine Inv.pinned I7.unpinned' (fun b hb=>?_) fun b hb=>?_
     ·rcases List.mem_cons.mp hb with e | e
      ·subst e;exact statA fa7
      ·exact stat fr7 b e
     ·rcases List.mem_cons.mp hb with e | e
      ·subst e;exact ⟨_,ac7,fun v z=>by cases z⟩
      ·exact T.obj _ _ st7 b e
    refine thn (hg G.objs.size fp s2 H2 _ s7 _ H7 x u _ I7' r7 (step x H7 y7)) fun _ s8 ⟨σ8,H8,I8,x8,q8⟩=>?_
    refine thn (he G.objs.size fp s2 H2 _ s8 _ H8 _ I8 q8) fun yv s9 ⟨y,H9,I9,r9,m',hm',w9⟩=>?_
    obtain ⟨ac9,fa9,_⟩:=I9.pin (s2.heap.objs.size,{ cls:=.type "list",data:=.seq its.toArray k5 }) (by show _∈[]++([]++_);simp;exact xg List.mem_cons_self ac7)
    have keep9:∀ b∈fp,∀ o,s7.heap.get? b=some o→s9.heap.get? b=some o∧H9 b=none:=fun b hb o e=>by
     obtain ⟨z1,z2,_⟩:=I9.pin (b,o) (by show _∈[]++([]++_);simp;exact xg (List.mem_cons_of_mem _ hb) e)
     exact ⟨z1,z2⟩
    have hl:=rv5.length
    refine call_meets F.slot_list_append ⟨_,ac9,rfl⟩ F.entry_list_append (F.args_list_append_2 _ _) (PySem.list_append s2.heap.objs.size its.toArray k5 yv (by rw [List.size_toArray];omega)) ⟨ac9,?_⟩
    have q:=PySem.IsL.update ac9 (fun a=>a.push yv)
    have qo:∀ b o,b≠s2.heap.objs.size→s9.heap.get? b=some o→(s9.heap.update s2.heap.objs.size (Obj.mapSeq (fun a=>a.push yv))).get? b=some o:=fun b o hb e=>(Heap.get?_update_other s9.heap _ (Ne.symm hb)).trans e
    have q':∃ k,(s9.heap.update s2.heap.objs.size (Obj.mapSeq (fun a=>a.push yv))).get? s2.heap.objs.size=some { cls:=.type "list",data:=.seq (its++[yv]).toArray k }:=⟨_,by rw [q];simp;rfl⟩
    obtain ⟨k9,q9⟩:=q'
    obtain ⟨a0,a1,a2,a3,a4,a5⟩:=statA (show H9 s2.heap.objs.size=none from fa9)
    refine ⟨m',hm',i+1,σ8,H9,ys++[y],its++[yv],k9,(I9.unpinned').turned qo a0 a1 a3 a4 a5,x8,?_,?_,fa9,q9,rv5.append (.cons r9 .nil),?_,w9⟩
    ·refine T.keep _ _ _ st7 fun b hb o e=>qo b o (fun z=>accF (z ▸ hb)) (keep9 b hb o e).1
    ·intro b hb
     obtain ⟨o,e,_⟩:=T.obj _ _ st7 b hb
     exact (keep9 b hb o e).2
    ·rw [List.length_append,List.length_singleton];omega
 exact codeAny_compStart_list (loop _ rfl) (T.self _ 0 _ _ _ st4 (loop _ rfl))
theorem aje {elt tg iter:Expr} {scope:Scope} {pos:Pos} {cl:List (Str × Addr)} {ts fr:List Str} {ix:List Nat} {wi:TI} {g:TG} {te:TE} (hc:X.calm=true) (S:CSc X scope cl ts fr ix) (hi:PI X tg iter wi)
  (hg:∀ C fp s H,PG (cxC X (ts++fr) scope cl C fp s H) tg g) (he:∀ C fp s H,PE (cxC X (ts++fr) scope cl C fp s H) elt te)
  (hs:∀ x,foldedSetIterable iter X.env x=pure x:=by intro _;rfl) :
  PE X (.ListComp elt [⟨tg,iter,[],0⟩] scope pos) (ajc wi (xm ts.length ix) g te):=by
 intro pins s σ H Q I h
 rw [eval_ListComp]
 exact aab hc S hi hg he hs none I h ajd
theorem ajf {elt tg iter:Expr} {scope:Scope} {pos:Pos} {cl:List (Str × Addr)} {ts fr:List Str} {ix:List Nat} {wi:TI} {g:TG} {te:TE} {i:Nat} {x:Str} {pos' spos:Pos} (hN:X.N.Nodup) (hi':X.N[i]? = some x) (hx:Loc X.env.scope x) (hc:X.calm=true) (S:CSc X scope cl ts fr ix) (hi:PI X tg iter wi)
  (hg:∀ C fp s H,PG (cxC X (ts++fr) scope cl C fp s H) tg g) (he:∀ C fp s H,PE (cxC X (ts++fr) scope cl C fp s H) elt te)
  (hs:∀ x,foldedSetIterable iter X.env x=pure x:=by intro _;rfl) (hsw:swapsWith (.ListComp elt [⟨tg,iter,[],0⟩] scope pos) (some (.Name x pos')) spos.line X.env=pure true:=by rfl) (hf:X.fn x=true∨X.env.scope.names.lookup x=some .local:=by first | exact .inl rfl | exact .inr rfl | assumption) :
  PS X (.Assign [.Name x pos'] (.ListComp elt [⟨tg,iter,[],0⟩] scope pos) spos) (avi (ajc wi (xm ts.length ix) g te) (ae3 i)):=by
 intro pins s σ H D I h
 rw [exec_Assign_Name_used _ _ _ _ hsw]
 refine wpAny_bind (wpAny_standAt (wpAny_bind ?_))
 refine wpAny_bind (wpAny_mono (aab hc S hi hg he hs (some (assign (.Name x pos') X.env)) I h (acp hN hi' hx hf)) (fun _ s' hq=>wpAny_pure (wpAny_pure hq)) fun _ _ e=>e)
end
end L2
namespace L2
open PySem PySem.Spec PyProof.Rows
section
variable {K:Type} [DecidableEq K]
def stepK (l:List K) (v:K):List K:=if v∈l then l else l++[v]
def a5w (l:List K):List K:=l.foldl stepK []
theorem a6h (l:List K) (v k:K):k∈stepK l v↔k∈l∨k=v:=by
 unfold stepK;split
 ·rename_i h
  constructor
  ·exact .inl
  ·rintro (z | rfl)
   ·exact z
   ·exact h
 ·simp
theorem aac (l:List K) (v:K):(stepK l v).length=if v∈l then l.length else l.length+1:=by
 unfold stepK;split<;>simp
theorem a09:∀ (l acc:List K),acc.Nodup→(l.foldl stepK acc).Nodup∧(l.foldl stepK acc).length≤acc.length+l.length∧((l.foldl stepK acc).length=acc.length+l.length↔(acc++l).Nodup)
 | [],acc,h=>by simp [h]
 | v::l,acc,h=>by
  rw [List.foldl_cons]
  unfold stepK
  split
  ·rename_i hv
   obtain ⟨h1,h2,h3⟩:=a09 l acc h
   unfold stepK at h1 h2 h3
   refine ⟨h1,by rw [List.length_cons];omega,?_⟩
   constructor
   ·intro e;rw [List.length_cons] at e;omega
   ·intro e
    have:=(List.nodup_append.mp e).2.2 v hv v List.mem_cons_self
    exact absurd rfl this
  ·rename_i hv
   obtain ⟨h1,h2,h3⟩:=a09 l (acc++[v]) (by
    rw [List.nodup_append]
    exact ⟨h,by simp,fun a ha b hb=>by rw [List.mem_singleton] at hb;subst hb;rintro rfl;exact hv ha⟩)
   unfold stepK at h1 h2 h3
   rw [List.length_append,List.length_singleton] at h2 h3
   rw [List.append_assoc,List.singleton_append] at h3
   refine ⟨h1,by rw [List.length_cons];omega,?_⟩
   rw [← h3,List.length_cons]
   omega
theorem aad (l:List K):((a5w l).length=l.length)↔l.Nodup:=by
 have h:=(a09 l [] List.nodup_nil).2.2
 rw [List.length_nil,Nat.zero_add,List.nil_append] at h
 exact h
theorem ag3 {J:Type} [DecidableEq J] (f:K→J) (hf:∀ a b,f a=f b→a=b) (l:List K):a5w (l.map f)=(a5w l).map f:=by
 have key:∀ (l acc:List K),(l.map f).foldl stepK (acc.map f)=(l.foldl stepK acc).map f:=by
  intro l
  induction l with
  | nil=>intro acc;rfl
  | cons v l ih =>
   intro acc
   rw [List.map_cons,List.foldl_cons,List.foldl_cons]
   have e:stepK (acc.map f) (f v)=(stepK acc v).map f:=by
    unfold stepK
    by_cases hv:v∈acc
    ·rw [if_pos hv,if_pos (List.mem_map_of_mem hv)]
    ·rw [if_neg hv,if_neg (fun z=>by
      obtain ⟨a,ha,e⟩:=List.mem_map.mp z
      rw [hf a v e] at ha;exact hv ha)]
     simp
   rw [e,ih]
 exact key l []
def abl (val:Nat→K) (i:Nat):List K:=a5w ((List.range i).map val)
theorem a6i (val:Nat→K) (i:Nat):abl val (i+1)=stepK (abl val i) (val i):=by
 unfold abl a5w;rw [List.range_succ,List.map_append,List.foldl_append];rfl
theorem ag4 (val:Nat→K):∀ i,(abl val i).length≤i
 | 0=>by simp [abl,a5w]
 | i+1=>by
  rw [a6i,aac]
  have:=ag4 val i
  split<;>omega
end
section
variable {prog:Program} {w:World} {K:Type} [DecidableEq K] {knd:KeyKind prog w K} {A:Around} {R:Result→Shared→Prop}
def Held (knd:KeyKind prog w K) (S:Addr) (val:Nat→K) (i:Nat) (h:Heap):Prop:=h.SetOf knd S (fun k=>decide (k∈abl val i)) (abl val i).length
theorem Held.keep {S:Addr} {val:Nat→K} {i:Nat} {h h':Heap} (x:Held knd S val i h) (k:∀ o,h.get? S=some o→h'.get? S=some o):Held knd S val i h':=by
 obtain ⟨o,es,ep,t,e,rest⟩:=x
 exact ⟨o,es,ep,t,k o e,rest⟩
theorem ajg {E:Value→Shared→Prop} {s:Shared} {S:Addr} {val:Nat→K} {i:Nat} {v:Value} {Q:Bool→Shared→Prop} (is:knd.is (val i) v=true) (sc:v.scannable=true) (few:i+1<scanBound) (x:Held knd S val i s.heap)
  (q:∀ b h' tk,Held knd S val (i+1) h'→(∀ c,c≠S→h'.get? c=s.heap.get? c)→Q b { s with heap:=h',toks:=tk }):wpAny (model prog w) A (setAdd S v) Q E s:=by
 have le:=ag4 val i
 have key:∀ k,(decide (k∈abl val i) || decide (k=val i))=decide (k∈abl val (i+1)):=fun k=>by
  rw [a6i,Bool.eq_iff_iff];simp [a6h]
 have num:(if decide (val i∈abl val i)=true then (abl val i).length else (abl val i).length+1)=(abl val (i+1)).length:=by
  rw [a6i,aac];simp
 have y:wpAny (model prog w) A (setAddHashed S v (knd.hash (val i))) Q E { s with toks:=s.toks+1 } :=
  wpAny_setAddHashed_of is sc x (by omega) fun h' same z=>q _ h' _ (by unfold Held;rw [← num,← funext key];exact z) fun c hc=>same.2 c hc
 exact wpAny_holding (wpAny_bind (knd.pyHash is y))
theorem a6j {I S:Addr} {fp wr:List Addr} {n:Nat} {P:Nat→Value→Prop} {St:Nat→Heap→Prop} (W:Walks prog w A.in1 I fp wr n P St) (apart:S ∉ fp) (val:Nat→K) (key:∀ i v,P i v→knd.is (val i) v=true∧v.scannable=true) (few:n+1<scanBound) :
  ∀ (left i:Nat) (s:Shared),i+left=n→St i s.heap→Held knd S val i s.heap →
   (∀ h' tk,Held knd S val n h'→(∀ c o,c≠S→c ∉ wr→s.heap.get? c=some o→h'.get? c=some o)→R (.ok (.ret .none)) { s with heap:=h',toks:=tk }) →
   codeAny (model prog w) A (.builtin "set.update.loop" ⟨[.ref S, .ref I],[]⟩) R s
 | 0,i,s,hi,st,x,fin=>codeAny_builtin F.entry_set_update_loop (by
   obtain rfl:i=n:=by omega
   simp only [Around.under_plainId F.plain_set_update_loop]
   exact wpAny_bind (W.done s _ _ st fun h' tk k=>wpAny_pure (fin h' tk (x.keep fun o e=>k S o (fun z=>apart (W.sub S z)) e) fun c o _ hc e=>k c o hc e)))
 | left+1,i,s,hi,st,x,fin=>codeAny_builtin F.entry_set_update_loop (by
   simp only [Around.under_plainId F.plain_set_update_loop]
   refine wpAny_bind (W.item i s _ _ (by omega) st fun v h1 t1 p st1 k1=>?_)
   obtain ⟨is,sc⟩:=key i v p
   refine wpAny_bind (wpAny_holding (ajg is sc (by omega) (x.keep fun o e=>k1 S o (fun z=>apart (W.sub S z)) e) fun _ h2 t2 x2 k2=>?_))
   refine wpAny_pure ⟨plainId_quiet F.plain_set_update_loop _,a6j W apart val key few left (i+1) _ (by omega) (W.frame _ _ _ st1 fun c hc o e=>(k2 c (fun z=>apart (z ▸ hc))).trans e) x2 fun h3 t3 x3 k3=>?_⟩
   exact fin h3 t3 x3 fun c o cS cw e=>k3 c o cS cw ((k2 c cS).trans (k1 c o cw e)))
end
theorem ajh:isSubtype (.type "str") (.type "set")=pure false∧isSubtype (.type "str") (.type "frozenset")=pure false:=by
 constructor<;>(rw [isSubtype_type];kernel_rfl)
section
variable {prog:Program} {w:World} {A:Around} {E:Value→Shared→Prop} {s:Shared}
def a5o (x:Str) (i:Nat):Str:=⟨#[x.cps.getD i 0]⟩
abbrev a3i (led:Bool):Obj:={ cls:=.type "set",dict:=none,data:=.set #[] 0 (.fresh 0 0 led) }
theorem ag5 {K:Type} [DecidableEq K] {knd:KeyKind prog w K} {S:Addr} {val:Nat→K} {h:Heap} {led:Bool} (e:h.get? S=some (a3i led)):Held knd S val 0 h :=
 (PyProof.Rows.setObjOf_fresh (knd:=knd) led).setOf e (by decide)
theorem aji {x:Str} {t:Tok} {led:Bool} {R:Result→Shared→Prop} (hh:A.handled=none) (few:x.cps.size+1<scanBound)
  (q:∀ h' tk,Held (strKind prog w) s.heap.objs.size (a5o x) x.cps.size h'→(∀ c o,s.heap.get? c=some o→h'.get? c=some o)→R (.ok (.ret .none)) { s with heap:=h',toks:=tk }) :
  wpAny (model prog w) A.in1 (Builtin.«set.__init__» ⟨[.ref s.heap.objs.size, .str x t],[]⟩)
   (fun fin s'=>match fin with | .done f=>R (.ok f) s' | .again c'=>c'.quiet=true∧codeAny (model prog w) A c' R s') (fun e s'=>R (.error e) s') { s with heap:=s.heap.push (a3i led) }:=by
 have at0:(s.heap.push (a3i led)).get? s.heap.objs.size=some (a3i led):=Heap.get?_push_size _ rfl
 have ne1:(Value.type "str" == Value.type "dict")=false:=by decide
 obtain ⟨no1,no2⟩:=ajh
 unfold Builtin.«set.__init__»
 unfold noKeywords Builtin.Frozenset.updateFrom
 generalize ep:pyIter=walker
 wp_walk
 subst ep
 refine wpAny_pyIter_str fun o St W st=>wpAny_bind (wpAny_runValue ?_)
 have far:s.heap.objs.size ∉ [(s.heap.push (a3i led)).objs.size]:=fun z=>by
  have:=List.mem_singleton.mp z
  rw [Heap.size_push] at this
  exact absurd this (Nat.ne_of_lt (Nat.lt_succ_self _))
 refine a6j (knd:=strKind prog w) (W _ (by simp [hh])) far (a5o x) (fun i v ⟨c,u,e,ev⟩=>?_) few x.cps.size 0 _ (by omega) st (ag5 (Heap.get?_push_of_some _ at0)) fun h' tk held k=>?_
 ·subst ev
  refine ⟨?_,rfl⟩
  have ec:a5o x i=⟨#[c]⟩:=by simp [a5o,Array.getD_eq_getD_getElem?,e]
  rw [ec]
  show Value.isStrOf _ (.str _ u)=true
  simp [Value.isStrOf]
 ·refine wpAny_pure (wpAny_pure ?_)
  refine q h' tk held fun c o e=>k c o ?_ ?_ (Heap.get?_push_of_some _ (Heap.get?_push_of_some _ e))
  ·exact Nat.ne_of_lt (Heap.lt_size e)
  ·intro z
   have:=List.mem_singleton.mp z
   rw [Heap.size_push] at this
   exact absurd (Heap.lt_size e) (by rw [this];exact Nat.not_lt.mpr (Nat.le_succ _))
theorem aae {x:Str} {t:Tok} {Q:Value→Shared→Prop} (hh:A.handled=none) (few:x.cps.size+1<scanBound)
  (q:∀ h' tk,Held (strKind prog w) s.heap.objs.size (a5o x) x.cps.size h'→(∀ c o,s.heap.get? c=some o→h'.get? c=some o)→Q (.ref s.heap.objs.size) { s with heap:=h',toks:=tk }) :
  wpAny (model prog w) A (call (.type "set") [.str x t]) Q E s:=by
 obtain ⟨_,_,order⟩:=F.called_set.mro
 have made:=F.called_set.made
 have self:=F.called_set.sub
 have nt:=F.called_set.notType
 have cc:=F.called_set.canCreate
 have tc:=F.typeCall_set_1 (.str x t)
 refine wpAny_call (codeAny_of_tree (wpAny_pure ⟨Code.quiet_builtin _ (by decide +kernel),codeAny_builtin F.entry_type_call ?_⟩))
 simp only [Around.under_plain (weight_type_call_type "set" [.str x t] []) rfl]
 repeat any_goals first | assumption | wp_step
 refine codeAny_mono (code_set_new_1 (.str x t) (E:=E) (Q₁:=fun obj s1=>obj = .ref s.heap.objs.size∧∃ led,s1={ s with heap:=s.heap.push (a3i led) }) fun led=>⟨rfl,led,rfl⟩) fun r s1 hr=>?_
 match r,hr with
 | .error _,hr=>exact hr
 | .ok (.ret _),⟨eo,led,es⟩ =>
  subst eo es
  have ty:Shared.TypeIs { s with heap:=s.heap.push (a3i led) } (.ref s.heap.objs.size) "set":=⟨_,Heap.get?_push_size _ rfl,rfl⟩
  have look:=F.called_set.init.lookup
  have bound:=F.called_set.init.bind (.ref s.heap.objs.size)
  repeat any_goals first | assumption | wp_step
  refine codeAny_mono (codeAny_call_builtin (R:=wants (fun r s2=>r = .none∧Q (.ref s.heap.objs.size) s2) E) F.called_set.init.plain F.entry_set_init (check_set_init_1 ty (aji hh few fun h' tk x1 k1=>⟨rfl,q h' tk x1 k1⟩))) fun r2 s2 hr2=>?_
  match r2,hr2 with
  | .error _,hr2=>exact hr2
  | .ok (.ret _),⟨e2,q2⟩ =>
   subst e2
   repeat any_goals first | assumption | wp_step
  | .ok .next,hr2=>exact hr2.elim
  | .ok .brk,hr2=>exact hr2.elim
  | .ok .cont,hr2=>exact hr2.elim
 | .ok .next,hr=>exact hr.elim
 | .ok .brk,hr=>exact hr.elim
 | .ok .cont,hr=>exact hr.elim
end
def awn (a:Addr) (P:Program) (w:World) (n:Nat):HO:=.ext fun h=>∃ S,h.SetOf (strKind P w) a S n
section
variable {X:Cx}
theorem aec (hc:X.calm=true):CallR X (.type "set") (fun xs H Q=>∃ z,xs=[.str z]∧z.length≤1000∧∀ l,H l=none→Q (.ref l) (upd H l (awn l X.prog X.w (a5w z.cps.toList).length))):=by
 intro pins s σ H xs us Q I r h
 obtain ⟨z,rfl,hz,q⟩:=h
 obtain ⟨u,rfl,t,rfl⟩:=vals1 r
 have hz':z.cps.size≤1000:=hz
 refine aae (I.ok.hd hc) (by unfold scanBound;omega) fun h' tk hS kp=>?_
 unfold Held at hS
 have en:(abl (a5o z) z.cps.size).length=(a5w z.cps.toList).length:=by
  have e1:(List.range z.cps.size).map (a5o z)=z.cps.toList.map fun c=>(⟨#[c]⟩:Str):=by
   apply List.ext_getElem?
   intro i
   rw [List.getElem?_map,List.getElem?_map]
   by_cases hi:i<z.cps.size
   ·rw [List.getElem?_range hi]
    simp [a5o,hi]
   ·rw [List.getElem?_eq_none (by simpa using hi),List.getElem?_eq_none (by simpa using hi)];rfl
  unfold abl
  rw [e1,ag3 (fun c=>(⟨#[c]⟩:Str)) (fun a b e=>by cases e;rfl),List.length_map]
 rw [en] at hS
 refine ⟨.ref s.heap.objs.size,_,I.laid (t':=tk) (o:=awn s.heap.objs.size X.prog X.w (a5w z.cps.toList).length) kp (Nat.le_refl _) ?_,rfl,q _ (I.hok.fresh (Nat.le_refl _))⟩
 refine ⟨⟨_,hS⟩,let ⟨o,_,_,_,e,_⟩:=hS; ⟨o,e⟩,fun h1 h2 p k=>?_⟩
 obtain ⟨S,o,es,ep,t,e,r⟩:=p
 exact ⟨S,o,es,ep,t,k o e,r⟩
theorem call_len_set:CallR X (.builtin "len") (fun xs H Q=>∃ l n,xs=[.ref l]∧H l=some (awn l X.prog X.w n)∧Q (.int (n:Nat)) H):=by
 intro pins s σ H xs us Q I r h
 obtain ⟨l,n,rfl,hl,q⟩:=h
 obtain ⟨u,rfl,rx⟩:=vals1 r
 cases rx
 obtain ⟨⟨S,o,es,ep,t,e,hex,hd,_,_,hb,hf,hn⟩,_⟩:=I.hok l _ hl
 refine PySem.call_len_set e hex hd hf (by unfold scanBound at hb;omega) ⟨.int (n:Nat),H,I.tok _,⟨_,by rw [hn]⟩,q⟩
end
end L2
namespace L2
open PySem PySem.Spec
theorem o6:bootBuiltins "len" = some (.builtin "len"):=PySem.boot_len
theorem iz:bootBuiltins "isinstance" = some (.builtin "isinstance"):=by first | exact PySem.boot_isinstance | exact PyProof.Rows.boot_isinstance
theorem aaf:bootBuiltins "str" = some (.type "str"):=by first | exact PySem.boot_str | exact PyProof.Rows.boot_str
theorem as8:bootBuiltins "ord" = some (.builtin "ord"):=by first | exact PySem.boot_ord | exact PyProof.Rows.boot_ord
theorem as9:bootBuiltins "set" = some (.type "set"):=by first | exact PySem.boot_set | exact PyProof.Rows.boot_set
theorem a7u:bootBuiltins "all" = some (.builtin "all"):=by first | exact PySem.boot_all | exact PyProof.Rows.boot_all
theorem alj:bootBuiltins "abs" = some (.builtin "abs"):=by first | exact PySem.boot_abs | exact PyProof.Rows.boot_abs
theorem acq:bootBuiltins "int" = some (.type "int"):=by first | exact PySem.boot_int | exact PyProof.Rows.boot_int
theorem a1l:bootBuiltins "list" = some (.type "list"):=by first | exact PySem.boot_list | exact PyProof.Rows.boot_list
theorem xx:bootBuiltins "tuple" = some (.type "tuple"):=by first | exact PySem.boot_tuple | exact PyProof.Rows.boot_tuple
structure Dn (P:Program) (w:World) (K:PySem.W.Frag) (mg:Str→Option Value) (base:Heap) (k:Nat) (x:Str) (ps:List Str) (sp:Sp) (f:Addr) (fd:FuncData):Prop where
 ok:FnOk P w K mg base CX0 k f fd ps sp
 m:mg x=some (.ref f)
 kp:PySem.W.keepIn K (.ref f)=true
 b:Binds K fd ps []
theorem anq:sizeLine=16777216:=sizeLine_eq
theorem abm {n:Nat} (h:n≤16777216):n≤sizeLine:=by rw [sizeLine_eq];exact h
end L2
namespace L2
open PySem PySem.Spec
theorem CSc.noFree {X:Cx} {scope:Scope} {ts:List Str} (kind:scope.kind = .function) (h:∀ y∈scope.names,y.2≠.cell∧y.2≠.free) (names:∀ y∈scope.names,y.2 = .local→scope.names.lookup y.1=some .local)
  (ht:∀ y∈ts,scope.names.lookup y=some .local):CSc X scope [] ts [] []:=by
 have e:(relabel scope X.env).names=scope.names:=by
  show scope.names.map _=_
  refine map_eq_self fun y hy=>?_
  obtain ⟨n,k⟩:=y
  have:(k == NameKind.free)=false:=by simpa using (h _ hy).2
  simp [this]
 refine ⟨closureFor_none fun y hy=>(h y hy).2,kind,fun y hy=>(h y hy).1,names,(fun _ _ z=>nomatch z),fun y z=>?_,fun y hy=>by rw [e];exact ht y hy,rfl,(fun _ _ z=>by simp at z)⟩
 rw [e] at z
 rcases z with z | z
 ·exact absurd rfl (h _ (PySem.mem_of_lookup z)).1
 ·exact absurd rfl (h _ (PySem.mem_of_lookup z)).2
theorem awo (x y:Str):(x++y).cps.toList=x.cps.toList++y.cps.toList:=by
 show (x.cps++y.cps).toList=_
 simp
theorem abn {α:Type} (xs:List α) (k:Nat):a4o xs none (some (k:Int))=xs.take k:=by
 unfold a4o
 rw [HT.a8f,HT.a8g,List.drop_zero,Nat.sub_zero]
 by_cases h:k≤xs.length
 ·rw [Nat.min_eq_left h]
 ·rw [Nat.min_eq_right (by omega),List.take_of_length_le (Nat.le_refl _),List.take_of_length_le (by omega)]
theorem a6k {α:Type} (xs:List α) (k:Nat):a4o xs (some (k:Int)) none=xs.drop k:=by
 unfold a4o
 rw [HT.a8f,HT.a8g]
 by_cases h:k≤xs.length
 ·rw [Nat.min_eq_left h,List.take_of_length_le (by rw [List.length_drop];omega)]
 ·rw [Nat.min_eq_right (by omega),List.drop_eq_nil_of_le (Nat.le_refl _),List.drop_eq_nil_of_le (by omega),List.take_nil]
theorem anr {α:Type} (xs:List α) (j k:Nat):a4o xs (some (j:Int)) (some (k:Int))=(xs.drop j).take (k - j):=by
 unfold a4o
 rw [HT.a8g,HT.a8g]
 by_cases h:j≤xs.length
 ·rw [Nat.min_eq_left h]
  by_cases h2:k≤xs.length
  ·rw [Nat.min_eq_left h2]
  ·rw [Nat.min_eq_right (by omega),List.take_of_length_le (by rw [List.length_drop];omega),List.take_of_length_le (by rw [List.length_drop];omega)]
 ·rw [Nat.min_eq_right (show xs.length≤j by omega),List.drop_eq_nil_of_le (Nat.le_refl _),List.drop_eq_nil_of_le (by omega),List.take_nil,List.take_nil]
end L2
namespace L2
open PySem PySem.Spec PyProof.Rows
def ag6 (J:It) (s0:St) (g:TG) (tc:TT) (te:TE) (Q:VK) (H1:Hp):Prop:=∃ W:Nat→Nat→List V→Hp→Prop,(∃ m,W 0 m [] H1)∧∀ i m ys H,W i m ys H →
 (J.stop i H∧∀ p,H p=none→Q (.ref p) (upd H p (.lst ys))) ∨
 (J.go i H∧ys.length<sizeLine∧∀ x H',J.yld i H x H'→g x s0 H' fun σ2 H2=>Ext s0 σ2∧tc σ2 H2 fun ok H2'=>if ok=true then te σ2 H2' (fun y H3=>∃ m',m'<m∧W (i+1) m' (ys++[y]) H3) else ∃ m',m'<m∧W (i+1) m' ys H2')
def abo (wi:TI) (s0:St→St) (g:TG) (tc:TT) (te:TE):TE:=fun σ H Q=>wi σ H fun J H1=>ag6 J (s0 σ) g tc te Q H1
theorem a6l (elt target iter cnd:Expr) (scope:Scope) (pos:Pos) (it acc:Value) (env:Env) :
  compTurn (.ListComp elt [⟨target,iter,[cnd],0⟩] scope pos) 0 it acc env=(standAt iter.pos>>=fun _=>pyNext it>>=fun r=>match r with
   | none=>pure (.done .next)
   | some v=>letOwnedTupleGo target it v>>=fun _=>assign target env v>>=fun _=>isTrue cnd env (eval cnd env)>>=fun ok =>
    (if ok=true then (eval elt env>>=fun x=>call (.builtin "list.append") [acc,x]>>=fun _=>pure ()) else pure ())>>=fun _ =>
     again (.compLoop (.ListComp elt [⟨target,iter,[cnd],0⟩] scope pos) 0 it acc env)):=by
 first
  | rfl
  | (unfold compTurn;simp only [List.getElem?_cons_zero];rfl)
  | (show (standAt iter.pos>>=fun _=>pyNext it>>=fun r=>_)=_
     congr 1;funext _;congr 1;funext r
     cases r with
     | none=>rfl
     | some v =>
      show (letOwnedTupleGo target it v>>=fun _=>assign target env v>>=fun _=>_)=(letOwnedTupleGo target it v>>=fun _=>assign target env v>>=fun _=>_)
      congr 1;funext _;congr 1;funext _
      simp
      congr 1;funext ok
      cases ok with
      | false=>rw [if_neg Bool.false_ne_true,if_neg Bool.false_ne_true,pure_bind]
      | true =>
       rw [if_pos rfl,if_pos rfl,bind_assoc]
       congr 1;funext x
       rw [map_eq_pure_bind,bind_assoc]
       congr 1)
theorem aed {prog:Program} {w:World} {A:Around} {R:Result→Shared→Prop} {s:Shared} {elt target iter cnd:Expr} {scope:Scope} {pos:Pos} {it acc:Value} {env:Env} (J:Nat→Shared→Prop)
  (step:∀ m z,J m z→wpAny (model prog w) A (pyNext it) (fun got z1=>match got with
   | none=>R (.ok .next) z1
   | some v=>wpAny (model prog w) A (letOwnedTupleGo target it v) (fun _ z2=>wpAny (model prog w) A (assign target env v) (fun _ z3=>wpAny (model prog w) A (isTrue cnd env (eval cnd env)) (fun ok z3'=>if ok=true then wpAny (model prog w) A (eval elt env) (fun x z4 =>
     wpAny (model prog w) A (call (.builtin "list.append") [acc,x]) (fun _ z5=>∃ m',m'<m∧J m' z5) (fun _ _=>False) z4)
     (fun _ _=>False) z3' else ∃ m',m'<m∧J m' z3') (fun _ _=>False) z3) (fun _ _=>False) z2) (fun _ _=>False) z1) (fun _ _=>False) z)
  (m:Nat) (j0:J m s):codeAny (model prog w) A (.compLoop (.ListComp elt [⟨target,iter,[cnd],0⟩] scope pos) 0 it acc env) R s:=by
 refine codeAny_loop rfl J (fun m z hj=>(wpAny_noted ?_:wpAny _ _ ((compTurn (.ListComp elt [⟨target,iter,[cnd],0⟩] scope pos) 0 it acc env).onRaise _) _ _ z)) m j0
 rw [a6l]
 refine wpAny_bind (wpAny_standAt (wpAny_bind (wpAny_mono (step m z hj) (fun got z1 h1=>?_) fun _ _ no=>no.elim)))
 match got,h1 with
 | none,h1=>exact wpAny_pure h1
 | some v,h1 =>
  refine wpAny_bind (wpAny_mono h1 (fun _ z2 h2=>wpAny_bind (wpAny_mono h2 (fun _ z3 h3=>wpAny_bind (wpAny_mono h3 (fun ok z3' h3'=>?_) fun _ _ no=>no.elim)) fun _ _ no=>no.elim)) fun _ _ no=>no.elim)
  match ok,h3' with
  | true,h3' =>
   rw [if_pos rfl] at h3'
   refine wpAny_bind (wpAny_bind (wpAny_mono h3' (fun x z4 h4=>?_) fun _ _ no=>no.elim))
   exact wpAny_bind (wpAny_mono h4 (fun _ z5 h5=>wpAny_pure (wpAny_pure ⟨rfl,h5⟩)) fun _ _ no=>no.elim)
  | false,h3' =>
   rw [if_neg Bool.false_ne_true] at h3'
   exact wpAny_bind (wpAny_pure (wpAny_pure ⟨rfl,h3'⟩))
section
variable {X:Cx}
theorem abp {elt tg iter cnd:Expr} {scope:Scope} {pos ppos:Pos} {cl:List (Str × Addr)} {ts fr:List Str} {ix:List Nat} {wi:TI} {g:TG} {tc:TT} {te:TE} (hc:X.calm=true) (S:CSc X scope cl ts fr ix) (hi:PI X tg iter wi)
  (hg:∀ C fp s H,PG (cxC X (ts++fr) scope cl C fp s H) tg g) (he:∀ C fp s H,PE (cxC X (ts++fr) scope cl C fp s H) elt te) (ht:∀ C fp s H,PT (cxC X (ts++fr) scope cl C fp s H) cnd tc) (hs:∀ x,foldedSetIterable iter X.env x=pure x)
  (use:Option (Value→Sem Unit)) {pins:List (Addr × Obj)} {s:Shared} {σ:St} {H:Hp} {Q:VK} {Qf:Value→Shared→Prop} (I:Inv X pins σ H s) (h:abo wi (xm ts.length ix) g tc te σ H Q) (fin:a8k X pins σ use Q Qf) :
  wpAny (model X.prog X.w) X.A (comprehension (.ListComp elt [⟨tg,iter,[cnd],0⟩] scope pos) scope X.env ppos (newList []) false (eval iter X.env) use) Qf X.xe s:=by
 refine wpAny_comprehension_free (use:=use) rfl hs S.clos S.kind S.names (thn (hi pins s σ H _ I h) fun v s1 h1=>thn h1 fun itv s2 h2=>?_)
 obtain ⟨it,fp,tn,J,H2,e,I2,T,st2,f2,W,⟨m0,w0⟩,turn⟩:=h2
 subst e
 have hob:∀ b∈fp,b<s2.heap.objs.size:=fun b hb=>let ⟨o,e,_⟩:=T.obj _ _ st2 b hb;Heap.lt_size e
 refine wpAny_newObj_type (wpAny_newFunctionEnv S.nocell (by intro y hy;simp at hy) (fun h4 hns4 hsb4=>?_) S.kind)
 dsimp only at hns4 hsb4 ⊢
 generalize hH2:s2.heap.push { cls:=.type "list",dict:=none,data:=.seq ([]:List Value).toArray }=G at hns4 hsb4 ⊢
 have hCs:G.objs.size=s2.heap.objs.size+1:=by rw [← hH2,Heap.size_push]
 have hCle:s2.heap.objs.size≤G.objs.size:=by omega
 have hne:G.objs.size≠s2.heap.objs.size:=by omega
 have old:∀ b o,s2.heap.get? b=some o→h4.get? b=some o:=fun b o e=>by
  have hlt:=Heap.lt_size e
  exact hsb4.extBut b o (Nat.ne_of_lt (Nat.lt_of_lt_of_le hlt hCle)) (Heap.get?_push_of_some _ (hH2 ▸ Heap.get?_push_of_some _ e))
 have hacc:h4.get? s2.heap.objs.size=some { cls:=.type "list",data:=.seq ([]:List Value).toArray 0 } :=
  hsb4.extBut _ _ (Ne.symm hne) (Heap.get?_push_of_some _ (hH2 ▸ Heap.get?_push_size _ rfl))
 have K0:Inv (cxC X (ts++fr) scope cl G.objs.size fp s2 H2) [] (xm ts.length ix σ) H2 { s2 with heap:=h4,toks:=s2.toks+([]:List (Str × Value)).length } :=
  ag2 S I2 f2 hob hCle old hns4 rfl rfl
 have st4:tn 0 h4:=T.keep _ _ _ st2 fun b _ o e=>old b o e
 have accF:s2.heap.objs.size ∉ fp:=fun z=>Nat.lt_irrefl _ (hob _ z)
 have stat:∀ {H':Hp},(∀ b∈fp,H' b=none)→∀ b∈fp,aba (cxC X (ts++fr) scope cl G.objs.size fp s2 H2) [] H' b:=fun hn b hb =>
  ⟨hn b hb,fun z=>by have h1:=hob b hb;have z':b=G.objs.size:=z;exact Nat.ne_of_lt (Nat.lt_of_lt_of_le h1 hCle) z',fun z=>(aaa S I2 f2 hob hCle).exfs b hb z, .inl hb,fun x c e=>(f2 b hb).2.2.2.2.1 x c (S.sub x c e),fun p hp=>absurd (show p∈([]:List (Addr × Obj)) from hp) (by simp)⟩
 have statA:∀ {H':Hp},H' s2.heap.objs.size=none→aba (cxC X (ts++fr) scope cl G.objs.size fp s2 H2) [] H' s2.heap.objs.size:=fun hn =>
  ⟨hn,fun z=>hne (show G.objs.size=s2.heap.objs.size from z.symm),fun z=>by
   obtain ⟨_,o,ho,_⟩:=(aaa S I2 f2 hob hCle).funs.mem z
   exact Nat.lt_irrefl _ (Heap.lt_size ho), .inr (Nat.le_refl _),fun x c e z=>by
   obtain ⟨v,o,ho,_⟩:=I2.cell x c (S.sub x c e)
   rw [z] at ho
   exact Nat.lt_irrefl _ (Heap.lt_size ho),fun p hp=>absurd (show p∈([]:List (Addr × Obj)) from hp) (by simp)⟩
 have loop:∀ s4:Shared,s4={ s2 with heap:=h4,toks:=s2.toks+([]:List (Str × Value)).length } →
   codeAny (model X.prog X.w) X.A (.compLoop (.ListComp elt [⟨tg,iter,[cnd],0⟩] scope pos) 0 (.ref it) (.ref s2.heap.objs.size) (compEnvC scope cl G.objs.size X.env))
    (compPost (model X.prog X.w) X.A X.xe use Qf (.ref s2.heap.objs.size) G.objs.size) s4:=by
  rintro s4 rfl
  refine aed (fun n s'=>∃ i σ' H' ys its k,Inv (cxC X (ts++fr) scope cl G.objs.size fp s2 H2) [] σ' H' s'∧Ext (xm ts.length ix σ) σ'∧tn i s'.heap∧(∀ b∈fp,H' b=none)∧H' s2.heap.objs.size=none ∧
   s'.heap.get? s2.heap.objs.size=some { cls:=.type "list",data:=.seq its.toArray k }∧Vals ys its∧ys.length≤sizeLine∧W i n ys H') ?_ m0
   ⟨0,_,H2,[],[],0,K0,⟨rfl,fun _ _ z=>z⟩,st4,fun b hb=>(f2 b hb).1,I2.hok.fresh (Nat.le_refl _),hacc, .nil,Nat.zero_le _,w0⟩
  rintro n s5 ⟨i,σ5,H5,ys,its,k5,I5,x5,st5,fr5,fa5,ac5,rv5,hz5,w5⟩
  have I5':Inv (cxC X (ts++fr) scope cl G.objs.size fp s2 H2) [] (xm ts.length ix σ) H5 s5:=I5.weak x5.1.symm x5.2
  rcases turn i n ys H5 w5 with ⟨stop,qn⟩ | ⟨go,hlt,step⟩
  ·refine thn (T.done (cxC X (ts++fr) scope cl G.objs.size fp s2 H2) rfl rfl rfl hc i [(s2.heap.objs.size,{ cls:=.type "list",data:=.seq its.toArray k5 })] s5 _ H5 _ (I5'.pins_of fun p hp=>?_) (fun b hb=>?_) st5 stop) fun r s6 ⟨hr,I6⟩=>?_
   ·have e:p=(s2.heap.objs.size,{ cls:=.type "list",data:=.seq its.toArray k5 }):=by simpa using hp
    subst e
    obtain ⟨a0,a1,a2,_⟩:=statA fa5
    exact ⟨ac5,a0,a1,a2,fun v z=>by cases z⟩
   ·obtain ⟨b0,b1,b2,b3,b4,b5⟩:=stat fr5 b hb
    refine ⟨b0,b1,b2,b3,b4,fun p hp=>?_⟩
    have e:p=(s2.heap.objs.size,{ cls:=.type "list",data:=.seq its.toArray k5 }):=by
     have hp':p∈[(s2.heap.objs.size,_)]:=hp
     simpa using hp'
    subst e
    exact fun z=>accF (by have z':s2.heap.objs.size=b:=z;rw [z'];exact hb)
   ·subst hr
    have e6:=(I6.pin (s2.heap.objs.size,{ cls:=.type "list",data:=.seq its.toArray k5 }) (by show _∈[]++[_];simp)).1
    obtain ⟨m6,hn6,_⟩:=I6.loc
    exact fin _ _ s6 _ m6 hn6 (I2.fpOk hCle (by rw [jn hne];exact I6.free)) (fun h' sb=>comp_back I2 f2 hCle (Nat.le_refl _) hne I6.unpinned' fa5 e6 rv5 hz5 sb) (qn _ fa5)
  ·refine thn (T.item (cxC X (ts++fr) scope cl G.objs.size fp s2 H2) rfl rfl rfl hc i [(s2.heap.objs.size,{ cls:=.type "list",data:=.seq its.toArray k5 })] s5 _ H5 _ (I5'.pins_of fun p hp=>?_) (fun b hb=>?_) st5 go) fun r s6 ⟨u,hr,h6⟩=>?_
   ·have e:p=(s2.heap.objs.size,{ cls:=.type "list",data:=.seq its.toArray k5 }):=by simpa using hp
    subst e
    obtain ⟨a0,a1,a2,_⟩:=statA fa5
    exact ⟨ac5,a0,a1,a2,fun v z=>by cases z⟩
   ·obtain ⟨b0,b1,b2,b3,b4,b5⟩:=stat fr5 b hb
    refine ⟨b0,b1,b2,b3,b4,fun p hp=>?_⟩
    have e:p=(s2.heap.objs.size,{ cls:=.type "list",data:=.seq its.toArray k5 }):=by
     have hp':p∈[(s2.heap.objs.size,_)]:=hp
     simpa using hp'
    subst e
    exact fun z=>accF (by have z':s2.heap.objs.size=b:=z;rw [z'];exact hb)
   ·subst hr
    refine thn h6 fun _ s7 ⟨x,H7,I7,r7,y7,st7,fr7⟩=>?_
    have fa7:H7 s2.heap.objs.size=none:=(I7.pin (s2.heap.objs.size,{ cls:=.type "list",data:=.seq its.toArray k5 }) (by show _∈[]++[_];simp)).2.1
    have ac7:=(I7.pin (s2.heap.objs.size,{ cls:=.type "list",data:=.seq its.toArray k5 }) (by show _∈[]++[_];simp)).1
    have I7':Inv (cxC X (ts++fr) scope cl G.objs.size fp s2 H2) ([]++a7o (s2.heap.objs.size::fp) s7.heap) (xm ts.length ix σ) H7 s7:=by
     refine Inv.pinned I7.unpinned' (fun b hb=>?_) fun b hb=>?_
     ·rcases List.mem_cons.mp hb with e | e
      ·subst e;exact statA fa7
      ·exact stat fr7 b e
     ·rcases List.mem_cons.mp hb with e | e
      ·subst e;exact ⟨_,ac7,fun v z=>by cases z⟩
      ·exact T.obj _ _ st7 b e
    refine thn (hg G.objs.size fp s2 H2 _ s7 _ H7 x u _ I7' r7 (step x H7 y7)) fun _ s8 ⟨σ8,H8,I8,x8,q8⟩=>?_
    refine thn (ht G.objs.size fp s2 H2 _ s8 _ H8 _ I8 q8) fun ok s8' ⟨H8',I8',q8'⟩=>?_
    cases ok with
    | false =>
     rw [if_neg Bool.false_ne_true] at q8' ⊢
     obtain ⟨m',hm',w9⟩:=q8'
     obtain ⟨ac9,fa9,_⟩:=I8'.pin (s2.heap.objs.size,{ cls:=.type "list",data:=.seq its.toArray k5 }) (by show _∈[]++([]++_);simp;exact xg List.mem_cons_self ac7)
     have keep9:∀ b∈fp,∀ o,s7.heap.get? b=some o→s8'.heap.get? b=some o∧H8' b=none:=fun b hb o e=>by
      obtain ⟨z1,z2,_⟩:=I8'.pin (b,o) (by show _∈[]++([]++_);simp;exact xg (List.mem_cons_of_mem _ hb) e)
      exact ⟨z1,z2⟩
     refine ⟨m',hm',i+1,σ8,H8',ys,its,k5,I8'.unpinned',x8,?_,?_,fa9,ac9,rv5,hz5,w9⟩
     ·exact T.keep _ _ _ st7 fun b hb o e=>(keep9 b hb o e).1
     ·intro b hb
      obtain ⟨o,e,_⟩:=T.obj _ _ st7 b hb
      exact (keep9 b hb o e).2
    | true =>
     rw [if_pos rfl] at q8' ⊢
     refine thn (he G.objs.size fp s2 H2 _ s8' _ H8' _ I8' q8') fun yv s9 ⟨y,H9,I9,r9,m',hm',w9⟩=>?_
     obtain ⟨ac9,fa9,_⟩:=I9.pin (s2.heap.objs.size,{ cls:=.type "list",data:=.seq its.toArray k5 }) (by show _∈[]++([]++_);simp;exact xg List.mem_cons_self ac7)
     have keep9:∀ b∈fp,∀ o,s7.heap.get? b=some o→s9.heap.get? b=some o∧H9 b=none:=fun b hb o e=>by
      obtain ⟨z1,z2,_⟩:=I9.pin (b,o) (by show _∈[]++([]++_);simp;exact xg (List.mem_cons_of_mem _ hb) e)
      exact ⟨z1,z2⟩
     have hl:=rv5.length
     refine call_meets F.slot_list_append ⟨_,ac9,rfl⟩ F.entry_list_append (F.args_list_append_2 _ _) (PySem.list_append s2.heap.objs.size its.toArray k5 yv (by rw [List.size_toArray];omega)) ⟨ac9,?_⟩
     have q:=PySem.IsL.update ac9 (fun a=>a.push yv)
     have qo:∀ b o,b≠s2.heap.objs.size→s9.heap.get? b=some o→(s9.heap.update s2.heap.objs.size (Obj.mapSeq (fun a=>a.push yv))).get? b=some o:=fun b o hb e=>(Heap.get?_update_other s9.heap _ (Ne.symm hb)).trans e
     have q':∃ k,(s9.heap.update s2.heap.objs.size (Obj.mapSeq (fun a=>a.push yv))).get? s2.heap.objs.size=some { cls:=.type "list",data:=.seq (its++[yv]).toArray k }:=⟨_,by rw [q];simp;rfl⟩
     obtain ⟨k9,q9⟩:=q'
     obtain ⟨a0,a1,a2,a3,a4,a5⟩:=statA (show H9 s2.heap.objs.size=none from fa9)
     refine ⟨m',hm',i+1,σ8,H9,ys++[y],its++[yv],k9,(I9.unpinned').turned qo a0 a1 a3 a4 a5,x8,?_,?_,fa9,q9,rv5.append (.cons r9 .nil),?_,w9⟩
     ·refine T.keep _ _ _ st7 fun b hb o e=>qo b o (fun z=>accF (z ▸ hb)) (keep9 b hb o e).1
     ·intro b hb
      obtain ⟨o,e,_⟩:=T.obj _ _ st7 b hb
      exact (keep9 b hb o e).2
     ·rw [List.length_append,List.length_singleton];omega
 exact codeAny_compStart_list (loop _ rfl) (T.self _ 0 _ _ _ st4 (loop _ rfl))
theorem aee {elt tg iter cnd:Expr} {scope:Scope} {pos:Pos} {cl:List (Str × Addr)} {ts fr:List Str} {ix:List Nat} {wi:TI} {g:TG} {tc:TT} {te:TE} {i:Nat} {x:Str} {pos' spos:Pos} (hN:X.N.Nodup) (hi':X.N[i]? = some x) (hx:Loc X.env.scope x) (hc:X.calm=true) (S:CSc X scope cl ts fr ix) (hi:PI X tg iter wi)
  (hg:∀ C fp s H,PG (cxC X (ts++fr) scope cl C fp s H) tg g) (he:∀ C fp s H,PE (cxC X (ts++fr) scope cl C fp s H) elt te) (ht:∀ C fp s H,PT (cxC X (ts++fr) scope cl C fp s H) cnd tc)
  (hs:∀ x,foldedSetIterable iter X.env x=pure x:=by intro _;rfl) (hsw:swapsWith (.ListComp elt [⟨tg,iter,[cnd],0⟩] scope pos) (some (.Name x pos')) spos.line X.env=pure true:=by rfl) (hf:X.fn x=true∨X.env.scope.names.lookup x=some .local:=by first | exact .inl rfl | exact .inr rfl | assumption) :
  PS X (.Assign [.Name x pos'] (.ListComp elt [⟨tg,iter,[cnd],0⟩] scope pos) spos) (avi (abo wi (xm ts.length ix) g tc te) (ae3 i)):=by
 intro pins s σ H D I h
 rw [exec_Assign_Name_used _ _ _ _ hsw]
 refine wpAny_bind (wpAny_standAt (wpAny_bind ?_))
 refine wpAny_bind (wpAny_mono (abp hc S hi hg he ht hs (some (assign (.Name x pos') X.env)) I h (acp hN hi' hx hf)) (fun _ s' hq=>wpAny_pure (wpAny_pure hq)) fun _ _ e=>e)
end
end L2
namespace L2
open PySem PySem.Spec PyProof.Rows
section
variable {X:Cx}
theorem ag7:OpR X (compareOp .In) (fun x y H Q=>∃ c T,x = .str ⟨#[c]⟩∧y = .str T∧Q (.bl (decide (c∈T.cps.toList))) H):=by
 intro pins s σ H x y v u Q I rx ry h
 obtain ⟨c,T,rfl,rfl,q⟩:=h
 exact afm pins s σ H _ _ v u Q I rx ry ⟨_,_,rfl,rfl,by rw [StrLaws.found_one];exact q⟩
theorem a7v:OpR X (compareOp .NotIn) (fun x y H Q=>∃ c T,x = .str ⟨#[c]⟩∧y = .str T∧Q (.bl (!decide (c∈T.cps.toList))) H):=by
 intro pins s σ H x y v u Q I rx ry h
 obtain ⟨c,T,rfl,rfl,q⟩:=h
 exact a9v pins s σ H _ _ v u Q I rx ry ⟨_,_,rfl,rfl,by rw [StrLaws.found_one];exact q⟩
end
theorem CSc.of {X:Cx} {scope:Scope} {cl:List (Str × Addr)} {ts fr:List Str} {ix:List Nat} (clos:closureFor scope X.env=pure cl) (kind:scope.kind = .function)
  (nocell:(scope.names.all fun p=>p.2 != .cell)=true) (names:(scope.names.all fun p=>p.2 != .local || scope.names.lookup p.1 == some .local)=true) (sub:∀ p∈cl,X.env.cells.lookup p.1=some p.2)
  (has:((relabel scope X.env).names.all fun p => !(p.2 == .cell || p.2 == .free) || (cl.lookup p.1).isSome)=true) (nofn:(ts.all fun y=>(relabel scope X.env).names.lookup y == some .local)=true)
  (len:ix.length=fr.length) (vis:((fr.zip ix).all fun p=>X.N[p.2]? == some p.1 && (X.env.kindOf p.1 == some .cell || X.env.kindOf p.1 == some .free) && ((relabel scope X.env).names.lookup p.1 == some .cell || (relabel scope X.env).names.lookup p.1 == some .free))=true) :
  CSc X scope cl ts fr ix:=by
 refine ⟨clos,kind,fun y hy=>?_,fun y hy e=>?_,fun y c e=>sub _ (PySem.mem_of_lookup e),fun y z=>?_,fun y hy=>?_,len,fun j y e=>?_⟩
 ·have:=List.all_eq_true.mp nocell y hy
  simpa using this
 ·have:=List.all_eq_true.mp names y hy
  rw [e] at this
  simpa using this
 ·have key:∀ k,(relabel scope X.env).names.lookup y=some k→(k == .cell || k == .free)=true→∃ c,cl.lookup y=some c:=fun k e hk=>by
   have:=List.all_eq_true.mp has _ (PySem.mem_of_lookup e)
   rw [hk] at this
   exact Option.isSome_iff_exists.mp (by simpa using this)
  rcases z with z | z
  ·exact key _ z rfl
  ·exact key _ z rfl
 ·have:=List.all_eq_true.mp nofn y hy
  simpa using this
 ·obtain ⟨hj,_⟩:=List.getElem?_eq_some_iff.mp e
  have hj2:j<ix.length:=by omega
  have hm:(y,ix[j])∈fr.zip ix:=by
   rw [List.mem_iff_getElem?]
   exact ⟨j,by rw [List.getElem?_zip_eq_some];exact ⟨e,List.getElem?_eq_getElem hj2⟩⟩
  have:=List.all_eq_true.mp vis _ hm
  simp only [Bool.and_eq_true,Bool.or_eq_true,beq_iff_eq] at this
  exact ⟨ix[j],List.getElem?_eq_getElem hj2,this.1.1,this.1.2,this.2⟩
end L2
namespace HT
open PySem PySem.Spec PyProof.Rows
end HT
namespace L2
open PySem PySem.Spec PyProof.Rows
end L2
namespace L2
open PySem PySem.Spec PyProof.Rows
end L2
namespace L2
open PySem PySem.Spec PyProof.Rows
end L2
namespace SHP
open PySem L2
end SHP
namespace L2
open PySem PySem.Spec PyProof.Rows
def mxI:List Int→Int
 | []=>0
 | [a]=>a
 | a::b::r=>if mxI (b::r)≤a then a else mxI (b::r)
theorem aag:∀ {l:List Int},l≠[]→mxI l∈l∧∀ x∈l,x≤mxI l
 | [],h=>absurd rfl h
 | [a],_=>⟨List.mem_singleton.mpr rfl,fun x hx=>by rw [List.mem_singleton.mp hx];exact Int.le_refl a⟩
 | a::b::r,_=>by
  obtain ⟨i,m⟩:=aag (l:=b::r) (by simp)
  unfold mxI
  split
  ·rename_i h
   refine ⟨List.mem_cons_self,fun x hx=>?_⟩
   rcases List.mem_cons.mp hx with rfl | hx
   ·exact Int.le_refl _
   ·exact Int.le_trans (m x hx) h
  ·rename_i h
   refine ⟨List.mem_cons_of_mem _ i,fun x hx=>?_⟩
   rcases List.mem_cons.mp hx with rfl | hx
   ·omega
   ·exact m x hx
theorem asa {l:List Int} {k:Int} (h1:k∈l) (h2:∀ x∈l,x≤k):k=mxI l:=by
 obtain ⟨a,b⟩:=aag (l:=l) (by intro z;subst z;cases h1)
 have:=b k h1
 have:=h2 _ a
 omega
end L2
namespace L2
open PySem PySem.Spec PyProof.Rows
end L2
namespace SHP
open PySem L2
end SHP
namespace MI
open PySem L2
inductive D where
 | non | bl (b:Bool) | int (i:Int) | str (x:Str) | ty (n:String) | tup (xs:List D) | rol (xs:List D) | ref (i:Nat) | scr (xs:List D) | rod (ks:List Key) (xs:List D) | rdT (ks:List (List Key)) (xs:List D) | exc (c:Str)
inductive O where
 | lst (xs:List D) | dK (kvs:List (Key × D)) | dT (kvs:List (List Key × D))
abbrev Hd:=List O
abbrev Sd:=List (Option D)
inductive R (α:Type) where
 | ok (a:α) (h:Hd) | ex (c:Str) (h:Hd) | no
def R.bind {α β:Type}:R α→(α→Hd→R β)→R β
 | .ok a h,k=>k a h
 | .ex c h,_=>.ex c h
 | .no,_=>.no
inductive Fl where
 | nx (σ:Sd) (h:Hd) | rt (d:D) (h:Hd) | bk (σ:Sd) (h:Hd) | ct (σ:Sd) (h:Hd) | ex (c:Str) (h:Hd) | no
def R.fl {α:Type}:R α→(α→Hd→Fl)→Fl
 | .ok a h,k=>k a h
 | .ex c h,_=>.ex c h
 | .no,_=>.no
abbrev SE:=Sd→Hd→R D
abbrev ST:=Sd→Hd→R Bool
abbrev SA:=Sd→Hd→R (List D)
abbrev SS:=Sd→Hd→Fl
def SqF (K:PySem.W.Frag) (H:Hp) (a:Addr) (vs:List V):Prop:=(∃ o,H a=some (.frz o (.lst vs)))∨SqL K (fun _=>none) a vs
theorem SqF.l {K:PySem.W.Frag} {H:Hp} {a:Addr} {vs:List V} (h:SqF K H a vs):SqL K H a vs:=by
 rcases h with ⟨o,h⟩ | h
 ·exact .inl (.inr ⟨o,h⟩)
 ·rcases h with (h | ⟨o,h⟩) | h
  ·cases h
  ·cases h
  ·exact .inr h
def SqZ (H:Hp) (a:Addr) (vs:List V):Prop:=∃ o,H a=some (.frz o (.lst vs))
theorem SqZ.l {K:PySem.W.Frag} {H:Hp} {a:Addr} {vs:List V} (h:SqZ H a vs):SqL K H a vs:=let ⟨o,e⟩:=h; .inl (.inr ⟨o,e⟩)
def exO (a:Addr):HO:=.ext fun h=>∃ o,h.get? a=some o
mutual
inductive Rep (K:PySem.W.Frag) (ι:List Addr) (H:Hp):V→D→Prop
 | non:Rep K ι H .non .non
 | bl (b:Bool):Rep K ι H (.bl b) (.bl b)
 | int (i:Int):Rep K ι H (.int i) (.int i)
 | str (x:Str):Rep K ι H (.str x) (.str x)
 | ty (n:String):Rep K ι H (.ty n) (.ty n)
 | tup {a:Addr} {vs:List V} {xs:List D} (h:H a=some (.tup vs)) (r:Reps K ι H vs xs):Rep K ι H (.ref a) (.tup xs)
 | rol {a:Addr} {vs:List V} {xs:List D} (h:SqZ H a vs) (r:Reps K ι H vs xs):Rep K ι H (.ref a) (.rol xs)
 | scr {a:Addr} {vs:List V} {xs:List D} (h:SqF K H a vs) (r:Reps K ι H vs xs):Rep K ι H (.ref a) (.scr xs)
 | ref {a:Addr} {i:Nat} (h:ι[i]? = some a):Rep K ι H (.ref a) (.ref i)
 | rod {a:Addr} {o:Obj} {us:List (Key × V)} {ks:List Key} {xs:List D} (h:H a=some (.frz o (.dK us))) (e:us.map (·.1)=ks) (r:Reps K ι H (us.map (·.2)) xs):Rep K ι H (.ref a) (.rod ks xs)
 | rdT {a:Addr} {o:Obj} {us:List (List Key × V)} {ks:List (List Key)} {xs:List D} (h:H a=some (.frz o (.dT us))) (e:us.map (·.1)=ks) (r:Reps K ι H (us.map (·.2)) xs):Rep K ι H (.ref a) (.rdT ks xs)
 | exc {a C:Addr} {o:Obj} {c:Str} (h:H a=some (.frz o (exO a))) (hc:o.cls = .ref C) (hn:PySem.W.nsIn K mainGlobals c=some (some (.ref C))):Rep K ι H (.ref a) (.exc c)
inductive Reps (K:PySem.W.Frag) (ι:List Addr) (H:Hp):List V→List D→Prop
 | nil:Reps K ι H [] []
 | cons {v:V} {d:D} {vs:List V} {ds:List D} (r:Rep K ι H v d) (rs:Reps K ι H vs ds):Reps K ι H (v::vs) (d::ds)
end
structure Gw (ι:List Addr) (H:Hp) (ι':List Addr) (H':Hp):Prop where
 pre:∃ m,ι'=ι++m
 tup:∀ a vs,H a=some (.tup vs)→H' a=some (.tup vs)
 frz:∀ a o u,H a=some (.frz o u)→H' a=some (.frz o u)
structure Gr (ι:List Addr) (H:Hp) (ι':List Addr) (H':Hp):Prop where
 pre:∃ m,ι'=ι++m∧∀ a∈m,H a=none
 tup:∀ a vs,H a=some (.tup vs)→H' a=some (.tup vs)
 frz:∀ a o u,H a=some (.frz o u)→H' a=some (.frz o u)
 oth:∀ a u,H a=some u→a ∉ ι→H' a=some u
 kp:∀ a u,H a=some u→∃ u',H' a=some u'
theorem Gr.w {ι ι':List Addr} {H H':Hp} (g:Gr ι H ι' H'):Gw ι H ι' H':=⟨let ⟨m,e,_⟩:=g.pre; ⟨m,e⟩,g.tup,g.frz⟩
theorem Gr.refl (ι:List Addr) (H:Hp):Gr ι H ι H:=⟨⟨[],by simp,by simp⟩,fun _ _ h=>h,fun _ _ _ h=>h,fun _ _ h _=>h,fun _ u h=>⟨u,h⟩⟩
theorem Gr.trans {ι ι1 ι2:List Addr} {H H1 H2:Hp} (a:Gr ι H ι1 H1) (b:Gr ι1 H1 ι2 H2):Gr ι H ι2 H2:=by
 obtain ⟨m,rfl,hm⟩:=a.pre
 obtain ⟨n,rfl,hn⟩:=b.pre
 refine ⟨⟨m++n,by simp,fun x hx=>?_⟩,fun x vs h=>b.tup x vs (a.tup x vs h),fun x o u h=>b.frz x o u (a.frz x o u h),fun x u h hx=>?_,fun x u h=>?_⟩
 ·rcases List.mem_append.mp hx with hx | hx
  ·exact hm x hx
  ·cases e:H x with
   | none=>rfl
   | some u =>
    obtain ⟨u',e'⟩:=a.kp x u e
    rw [hn x hx] at e';cases e'
 ·refine b.oth x u (a.oth x u h hx) fun z=>?_
  rcases List.mem_append.mp z with z | z
  ·exact hx z
  ·rw [hm x z] at h;cases h
 ·obtain ⟨u',e⟩:=a.kp x u h
  exact b.kp x u' e
theorem Gw.at {ι ι':List Addr} {H H':Hp} (g:Gw ι H ι' H') {i:Nat} {a:Addr} (h:ι[i]? = some a):ι'[i]? = some a:=by
 obtain ⟨m,rfl⟩:=g.pre
 rw [List.getElem?_append_left (List.getElem?_eq_some_iff.mp h).1]
 exact h
theorem Gr.at {ι ι':List Addr} {H H':Hp} (g:Gr ι H ι' H') {i:Nat} {a:Addr} (h:ι[i]? = some a):ι'[i]? = some a:=g.w.at h
theorem SqF.monoW {K:PySem.W.Frag} {ι ι':List Addr} {H H':Hp} (g:Gw ι H ι' H') {a:Addr} {vs:List V} (h:SqF K H a vs):SqF K H' a vs:=by
 rcases h with ⟨o,h⟩ | h
 ·exact .inl ⟨o,g.frz _ _ _ h⟩
 ·exact .inr h
theorem SqZ.monoW {ι ι':List Addr} {H H':Hp} (g:Gw ι H ι' H') {a:Addr} {vs:List V} (h:SqZ H a vs):SqZ H' a vs:=let ⟨o,e⟩:=h; ⟨o,g.frz _ _ _ e⟩
theorem SqZ.mono {ι ι':List Addr} {H H':Hp} (g:Gr ι H ι' H') {a:Addr} {vs:List V} (h:SqZ H a vs):SqZ H' a vs:=h.monoW g.w
mutual
theorem Rep.monoW {K:PySem.W.Frag} {ι ι':List Addr} {H H':Hp} (g:Gw ι H ι' H'):∀ {v:V} {d:D},Rep K ι H v d→Rep K ι' H' v d
 | _,_, .non=>.non
 | _,_, .bl b=>.bl b
 | _,_, .int i=>.int i
 | _,_, .str x=>.str x
 | _,_, .ty n=>.ty n
 | _,_, .tup h r=>.tup (g.tup _ _ h) (Reps.monoW g r)
 | _,_, .rol h r=>.rol (h.monoW g) (Reps.monoW g r)
 | _,_, .scr h r=>.scr (h.monoW g) (Reps.monoW g r)
 | _,_, .ref h=>.ref (g.at h)
 | _,_, .rod h e r=>.rod (g.frz _ _ _ h) e (Reps.monoW g r)
 | _,_, .rdT h e r=>.rdT (g.frz _ _ _ h) e (Reps.monoW g r)
 | _,_, .exc h hc hn=>.exc (g.frz _ _ _ h) hc hn
theorem Reps.monoW {K:PySem.W.Frag} {ι ι':List Addr} {H H':Hp} (g:Gw ι H ι' H'):∀ {vs:List V} {ds:List D},Reps K ι H vs ds→Reps K ι' H' vs ds
 | _,_, .nil=>.nil
 | _,_, .cons r rs=>.cons (Rep.monoW g r) (Reps.monoW g rs)
end
theorem Rep.mono {K:PySem.W.Frag} {ι ι':List Addr} {H H':Hp} (g:Gr ι H ι' H') {v:V} {d:D} (r:Rep K ι H v d):Rep K ι' H' v d:=r.monoW g.w
theorem Reps.mono {K:PySem.W.Frag} {ι ι':List Addr} {H H':Hp} (g:Gr ι H ι' H') {vs:List V} {ds:List D} (r:Reps K ι H vs ds):Reps K ι' H' vs ds:=r.monoW g.w
section
variable {K:PySem.W.Frag} {ι:List Addr} {H:Hp}
theorem Reps.len {vs:List V} {ds:List D}:Reps K ι H vs ds→vs.length=ds.length
 | .nil=>rfl
 | .cons _ rs=>by rw [List.length_cons,List.length_cons,rs.len]
theorem Reps.get:∀ {vs:List V} {ds:List D} {i:Nat} {d:D},Reps K ι H vs ds→ds[i]? = some d→∃ v,vs[i]? = some v∧Rep K ι H v d
 | _,_,_,_, .nil,e=>by simp at e
 | _,_,0,_, .cons r _,e=>by simp at e;subst e;exact ⟨_,rfl,r⟩
 | _,_,i+1,d, .cons _ rs,e=>by
  obtain ⟨u,h1,h2⟩:=Reps.get (i:=i) (d:=d) rs (by simpa using e)
  exact ⟨u,by simpa using h1,h2⟩
theorem Reps.app:∀ {vs us:List V} {ds es:List D},Reps K ι H vs ds→Reps K ι H us es→Reps K ι H (vs++us) (ds++es)
 | _,_,_,_, .nil,s=>s
 | _,_,_,_, .cons r rs,s=>.cons r (Reps.app rs s)
theorem Reps.set {v:V} {d:D} (q:Rep K ι H v d):∀ {vs:List V} {ds:List D} (i:Nat),Reps K ι H vs ds→Reps K ι H (vs.set i v) (ds.set i d)
 | _,_,_, .nil=>.nil
 | _,_,0, .cons _ rs=>.cons q rs
 | _,_,i+1, .cons r rs=>.cons r (Reps.set q i rs)
theorem Reps.take:∀ {vs:List V} {ds:List D} (n:Nat),Reps K ι H vs ds→Reps K ι H (vs.take n) (ds.take n)
 | _,_,0,_=>.nil
 | _,_,_+1, .nil=>.nil
 | _,_,n+1, .cons r rs=>.cons r (Reps.take n rs)
theorem Reps.drop:∀ {vs:List V} {ds:List D} (n:Nat),Reps K ι H vs ds→Reps K ι H (vs.drop n) (ds.drop n)
 | _,_,0,r=>r
 | _,_,_+1, .nil=>.nil
 | _,_,n+1, .cons _ rs=>Reps.drop n rs
theorem Reps.snoc {vs:List V} {ds:List D} {v:V} {d:D} (r:Reps K ι H vs ds) (q:Rep K ι H v d):Reps K ι H (vs++[v]) (ds++[d]):=r.app (.cons q .nil)
theorem Reps.flat:∀ {vs:List V} {ds:List D} (k:Nat),Reps K ι H vs ds→Reps K ι H (List.replicate k vs).flatten (List.replicate k ds).flatten
 | _,_,0,_=>.nil
 | vs,ds,k+1,r=>by
  rw [List.replicate_succ,List.replicate_succ,List.flatten_cons,List.flatten_cons]
  exact r.app (Reps.flat k r)
end
def KRep {κ:Type} (K:PySem.W.Frag) (ι:List Addr) (H:Hp) (us:List (κ × V)) (kvs:List (κ × D)):Prop:=us.map (·.1)=kvs.map (·.1)∧Reps K ι H (us.map (·.2)) (kvs.map (·.2))
def ORep (K:PySem.W.Frag) (ι:List Addr) (H:Hp) (a:Addr):O→Prop
 | .lst xs=>∃ vs,H a=some (.lst vs)∧Reps K ι H vs xs
 | .dK kvs=>∃ us,H a=some (.dK us)∧KRep K ι H us kvs
 | .dT kvs=>∃ us,H a=some (.dT us)∧KRep K ι H us kvs
structure HRep (K:PySem.W.Frag) (ι:List Addr) (H:Hp) (h:Hd):Prop where
 nd:ι.Nodup
 len:ι.length=h.length
 obj:∀ (i:Nat) (a:Addr) (o:O),ι[i]? = some a→h[i]? = some o→ORep K ι H a o
section
variable {K:PySem.W.Frag} {ι:List Addr} {H:Hp} {h:Hd}
theorem ORep.some {a:Addr} {o:O} (r:ORep K ι H a o):∃ u,H a=some u∧(∀ vs,u≠.tup vs)∧(∀ o' u',u≠.frz o' u'):=by
 cases o with
 | lst xs=>obtain ⟨vs,e,_⟩:=r;exact ⟨_,e,fun _ z=>(by cases z),fun _ _ z=>(by cases z)⟩
 | dK kvs=>obtain ⟨us,e,_⟩:=r;exact ⟨_,e,fun _ z=>(by cases z),fun _ _ z=>(by cases z)⟩
 | dT kvs=>obtain ⟨us,e,_⟩:=r;exact ⟨_,e,fun _ z=>(by cases z),fun _ _ z=>(by cases z)⟩
theorem HRep.at (r:HRep K ι H h) {i:Nat} {a:Addr} (e:ι[i]? = some a):∃ o,h[i]? = some o∧ORep K ι H a o:=by
 have hi:i<h.length:=by rw [← r.len];exact (List.getElem?_eq_some_iff.mp e).1
 exact ⟨h[i],List.getElem?_eq_getElem hi,r.obj i a _ e (List.getElem?_eq_getElem hi)⟩
theorem HRep.addr (r:HRep K ι H h) {i:Nat} {o:O} (e:h[i]? = some o):∃ a,ι[i]? = some a∧ORep K ι H a o:=by
 have hi:i<ι.length:=by rw [r.len];exact (List.getElem?_eq_some_iff.mp e).1
 exact ⟨ι[i],List.getElem?_eq_getElem hi,r.obj i _ o (List.getElem?_eq_getElem hi) e⟩
theorem HRep.notin (r:HRep K ι H h) {p:Addr} (e:H p=none):p ∉ ι:=fun z=>by
 obtain ⟨i,hi⟩:=List.getElem?_of_mem z
 obtain ⟨o,_,q⟩:=r.at hi
 obtain ⟨u,q,_⟩:=q.some
 rw [e] at q;cases q
theorem ORep.monoW {ι':List Addr} {H':Hp} {a:Addr} {o:O} (g:Gw ι H ι' H') (e:H' a=H a) (r:ORep K ι H a o):ORep K ι' H' a o:=by
 cases o with
 | lst xs=>obtain ⟨vs,h1,h2⟩:=r;exact ⟨vs,by rw [e];exact h1,h2.monoW g⟩
 | dK kvs=>obtain ⟨us,h1,h2,h3⟩:=r;exact ⟨us,by rw [e];exact h1,h2,h3.monoW g⟩
 | dT kvs=>obtain ⟨us,h1,h2,h3⟩:=r;exact ⟨us,by rw [e];exact h1,h2,h3.monoW g⟩
theorem ORep.mono {ι':List Addr} {H':Hp} {a:Addr} {o:O} (g:Gr ι H ι' H') (e:H' a=H a) (r:ORep K ι H a o):ORep K ι' H' a o:=r.monoW g.w e
theorem a0p {p:Addr} (e:H p=none) (o:HO):Gr ι H ι (upd H p o) :=
 ⟨⟨[],by simp,by simp⟩,fun a vs h=>by rw [jn (jw h e)];exact h,fun a o u h=>by rw [jn (jw h e)];exact h,fun a u h _=>by rw [jn (jw h e)];exact h,fun a u h=>⟨u,by rw [jn (jw h e)];exact h⟩⟩
theorem HRep.aside (r:HRep K ι H h) {p:Addr} (e:H p=none) (o:HO):HRep K ι (upd H p o) h:=by
 refine ⟨r.nd,r.len,fun i a o' e1 e2=>?_⟩
 have q:=r.obj i a o' e1 e2
 obtain ⟨u,hu,_⟩:=q.some
 exact q.mono (a0p e o) (jn (jw hu e))
theorem acr {p:Addr} (e:H p=none) (o:HO):Gr ι H (ι++[p]) (upd H p o) :=
 ⟨⟨[p],rfl,by simpa using e⟩,(a0p (ι:=ι) e o).tup,(a0p (ι:=ι) e o).frz,(a0p (ι:=ι) e o).oth,(a0p (ι:=ι) e o).kp⟩
theorem HRep.add (r:HRep K ι H h) {p:Addr} (e:H p=none) {o:HO} {ob:O} (q:ORep K (ι++[p]) (upd H p o) p ob):HRep K (ι++[p]) (upd H p o) (h++[ob]):=by
 refine ⟨?_,by simp [r.len],fun i a o' e1 e2=>?_⟩
 ·rw [List.nodup_append]
  exact ⟨r.nd,by simp,fun a ha b hb z=>r.notin e (by rw [List.mem_singleton.mp hb] at z;rw [← z];exact ha)⟩
 ·by_cases hi:i<ι.length
  ·rw [List.getElem?_append_left hi] at e1
   rw [List.getElem?_append_left (by rw [← r.len];exact hi)] at e2
   have q:=r.obj i a o' e1 e2
   obtain ⟨u,hu,_⟩:=q.some
   exact q.mono (acr e o) (jn (jw hu e))
  ·have hi2:i<(ι++[p]).length:=(List.getElem?_eq_some_iff.mp e1).1
   have:i=ι.length:=by simp at hi2;omega
   subst this
   rw [List.getElem?_append_right (Nat.le_refl _)] at e1
   rw [r.len,List.getElem?_append_right (Nat.le_refl _)] at e2
   simp at e1 e2
   subst e1 e2
   exact q
theorem a3c {a:Addr} {i:Nat} (r:HRep K ι H h) (e:ι[i]? = some a) (o:HO):Gr ι H ι (upd H a o):=by
 obtain ⟨_,_,q⟩:=r.at e
 obtain ⟨u,hu,n1,n2⟩:=q.some
 refine ⟨⟨[],by simp,by simp⟩,fun b vs hb=>?_,fun b o' u' hb=>?_,fun b u' hb hn=>?_,fun b u' hb=>?_⟩
 ·rw [jn (fun z=>by subst z;rw [hu] at hb;exact n1 _ (Option.some.inj hb))];exact hb
 ·rw [jn (fun z=>by subst z;rw [hu] at hb;exact n2 _ _ (Option.some.inj hb))];exact hb
 ·rw [jn (fun z=>hn (by subst z;exact List.mem_of_getElem? e))];exact hb
 ·by_cases z:b=a
  ·subst z;exact ⟨o,ou⟩
  ·exact ⟨u',by rw [jn z];exact hb⟩
theorem HRep.put (r:HRep K ι H h) {a:Addr} {i:Nat} (e:ι[i]? = some a) {o:HO} {ob:O} (q:ORep K ι (upd H a o) a ob):HRep K ι (upd H a o) (h.set i ob):=by
 refine ⟨r.nd,by rw [List.length_set];exact r.len,fun j b o' e1 e2=>?_⟩
 by_cases hj:i=j
 ·subst hj
  rw [e] at e1;cases e1
  have hi:i<h.length:=by rw [← r.len];exact (List.getElem?_eq_some_iff.mp e).1
  rw [List.getElem?_set_self hi] at e2;cases e2
  exact q
 ·rw [List.getElem?_set_ne hj] at e2
  have hne:b≠a:=fun z=>by
   subst z
   obtain ⟨h1,g1⟩:=List.getElem?_eq_some_iff.mp e
   obtain ⟨h2,g2⟩:=List.getElem?_eq_some_iff.mp e1
   have np:=List.pairwise_iff_getElem.mp r.nd
   rcases Nat.lt_or_gt_of_ne hj with l | l
   ·exact np i j h1 h2 l (g1.trans g2.symm)
   ·exact np j i h2 h1 l (g2.trans g1.symm)
  exact (r.obj j b o' e1 e2).mono (a3c r e o) (jn hne)
end
structure SRep (K:PySem.W.Frag) (ι:List Addr) (H:Hp) (σ:St) (τ:Sd):Prop where
 len:σ.length=τ.length
 val:∀ (i:Nat) (d:D),τ[i]? = some (some d)→∃ v,σ[i]? = some (some v)∧Rep K ι H v d
theorem SRep.mono {K:PySem.W.Frag} {ι ι':List Addr} {H H':Hp} {σ:St} {τ:Sd} (g:Gr ι H ι' H') (s:SRep K ι H σ τ):SRep K ι' H' σ τ :=
 ⟨s.len,fun i d e=>let ⟨v,h1,h2⟩:=s.val i d e; ⟨v,h1,h2.mono g⟩⟩
theorem SRep.set {K:PySem.W.Frag} {ι:List Addr} {H:Hp} {σ:St} {τ:Sd} (s:SRep K ι H σ τ) {v:V} {d:D} (r:Rep K ι H v d) (i:Nat):SRep K ι H (σ.set i (some v)) (τ.set i (some d)):=by
 refine ⟨by simp [s.len],fun j d' e=>?_⟩
 by_cases hj:i=j
 ·subst hj
  have hi:i<τ.length:=by
   have:=(List.getElem?_eq_some_iff.mp e).1
   simpa using this
  rw [List.getElem?_set_self hi] at e
  cases e
  exact ⟨v,by rw [List.getElem?_set_self (by rw [s.len];exact hi)],r⟩
 ·rw [List.getElem?_set_ne hj] at e ⊢
  exact s.val j d' e
abbrev XD:=Str→List Addr→Hp→Hd→Prop
def out {α β:Type} (K:PySem.W.Frag) (E:XD) (Rp:List Addr→Hp→β→α→Prop) (ι:List Addr) (H:Hp) (r:R α) (Q:β→Hp→Prop):Prop :=
 match r with
 | .ok a h=>∀ ι' H' b,Gr ι H ι' H'→Rp ι' H' b a→HRep K ι' H' h→Q b H'
 | .ex c h=>∀ ι' H',Gr ι H ι' H'→HRep K ι' H' h→E c ι' H' h
 | .no=>False
theorem a3z {α β:Type} {K:PySem.W.Frag} {E:XD} {Rp:List Addr→Hp→β→α→Prop} {ι ι1:List Addr} {H H1:Hp} {r:R α} {Q:β→Hp→Prop} (o:out K E Rp ι H r Q) (g:Gr ι H ι1 H1):out K E Rp ι1 H1 r Q:=by
 cases r with
 | ok a h=>exact fun ι' H' b g'=>o ι' H' b (g.trans g')
 | ex c h=>exact fun ι' H' g'=>o ι' H' (g.trans g')
 | no=>exact o
theorem gj {α β γ δ:Type} {K:PySem.W.Frag} {E:XD} {Rp:List Addr→Hp→β→α→Prop} {Sp:List Addr→Hp→δ→γ→Prop} {ι:List Addr} {H:Hp} {r:R α} {k:α→Hd→R γ} {Q:δ→Hp→Prop} {P:β→Hp→Prop}
  (o:out K E Sp ι H (r.bind k) Q) (hP:∀ a h ι1 H1 b,Gr ι H ι1 H1→Rp ι1 H1 b a→HRep K ι1 H1 h→out K E Sp ι1 H1 (k a h) Q→P b H1):out K E Rp ι H r P:=by
 cases r with
 | ok a h=>exact fun ι' H' b g r' hr=>hP a h ι' H' b g r' hr (a3z o g)
 | ex c h=>exact o
 | no=>exact o
abbrev zp (K:PySem.W.Frag):List Addr→Hp→V→D→Prop:=fun ι H v d=>Rep K ι H v d
abbrev ayz (K:PySem.W.Frag):List Addr→Hp→List V→List D→Prop:=fun ι H v d=>Reps K ι H v d
abbrev ant:List Addr→Hp→Bool→Bool→Prop:=fun _ _ a b=>a=b
abbrev az0:List Addr→Hp→Option Int→Option Int→Prop:=fun _ _ a b=>a=b
def aim (K:PySem.W.Frag) (E:XD) (ι:List Addr) (H:Hp) (r:Fl) (N:Ends):Prop :=
 match r with
 | .nx τ h=>∀ ι' H' σ,Gr ι H ι' H'→SRep K ι' H' σ τ→HRep K ι' H' h→N.nx σ H'
 | .bk τ h=>∀ ι' H' σ,Gr ι H ι' H'→SRep K ι' H' σ τ→HRep K ι' H' h→N.bk σ H'
 | .ct τ h=>∀ ι' H' σ,Gr ι H ι' H'→SRep K ι' H' σ τ→HRep K ι' H' h→N.ct σ H'
 | .rt d h=>∀ ι' H' v,Gr ι H ι' H'→Rep K ι' H' v d→HRep K ι' H' h→N.rt v H'
 | .ex c h=>∀ ι' H',Gr ι H ι' H'→HRep K ι' H' h→E c ι' H' h
 | .no=>False
theorem vy {K:PySem.W.Frag} {E:XD} {ι ι1:List Addr} {H H1:Hp} {r:Fl} {N:Ends} (o:aim K E ι H r N) (g:Gr ι H ι1 H1):aim K E ι1 H1 r N:=by
 cases r with
 | nx τ h=>exact fun ι' H' b g'=>o ι' H' b (g.trans g')
 | bk τ h=>exact fun ι' H' b g'=>o ι' H' b (g.trans g')
 | ct τ h=>exact fun ι' H' b g'=>o ι' H' b (g.trans g')
 | rt d h=>exact fun ι' H' b g'=>o ι' H' b (g.trans g')
 | ex c h=>exact fun ι' H' g'=>o ι' H' (g.trans g')
 | no=>exact o
theorem yh {α β:Type} {K:PySem.W.Frag} {E:XD} {Rp:List Addr→Hp→β→α→Prop} {ι:List Addr} {H:Hp} {r:R α} {k:α→Hd→Fl} {N:Ends} {P:β→Hp→Prop}
  (o:aim K E ι H (r.fl k) N) (hP:∀ a h ι1 H1 b,Gr ι H ι1 H1→Rp ι1 H1 b a→HRep K ι1 H1 h→aim K E ι1 H1 (k a h) N→P b H1):out K E Rp ι H r P:=by
 cases r with
 | ok a h=>exact fun ι' H' b g r' hr=>hP a h ι' H' b g r' hr (vy o g)
 | ex c h=>exact o
 | no=>exact o
def lift {α β:Type} (K:PySem.W.Frag) (E:XD) (Rp:List Addr→Hp→β→α→Prop) (f:Sd→Hd→R α):St→Hp→(β→Hp→Prop)→Prop:=fun σ H Q =>
 ∃ ι τ h,SRep K ι H σ τ∧HRep K ι H h∧out K E Rp ι H (f τ h) Q
def a6m (K:PySem.W.Frag) (E:XD) (f:SS):TS:=fun N σ H=>∃ ι τ h,SRep K ι H σ τ∧HRep K ι H h∧aim K E ι H (f τ h) N
abbrev ME (X:Cx) (E:XD) (e:Expr) (f:SE):Prop:=PE X e (lift X.K E (zp X.K) f)
abbrev MT (X:Cx) (E:XD) (e:Expr) (f:ST):Prop:=PT X e (lift X.K E ant f)
abbrev MW (X:Cx) (E:XD) (e:Expr) (f:ST):Prop:=PW X e (lift X.K E ant f)
abbrev MA (X:Cx) (E:XD) (es:List Expr) (f:SA):Prop:=PA X es (lift X.K E (ayz X.K) f)
abbrev MS (X:Cx) (E:XD) (st:Stmt) (f:SS):Prop:=PS X st (a6m X.K E f)
abbrev MSs (X:Cx) (E:XD) (st:List Stmt) (f:SS):Prop:=PSs X st (a6m X.K E f)
theorem PE.weak {X:Cx} {e:Expr} {t t':TE} (h:PE X e t) (i:∀ σ H Q,t' σ H Q→t σ H Q):PE X e t':=fun pins s σ H Q I q=>h pins s σ H Q I (i _ _ _ q)
theorem PT.weak {X:Cx} {e:Expr} {t t':TT} (h:PT X e t) (i:∀ σ H Q,t' σ H Q→t σ H Q):PT X e t':=fun pins s σ H Q I q=>h pins s σ H Q I (i _ _ _ q)
theorem PW.weak {X:Cx} {e:Expr} {t t':TT} (h:PW X e t) (i:∀ σ H Q,t' σ H Q→t σ H Q):PW X e t':=fun wh pins s σ H Q I q=>h wh pins s σ H Q I (i _ _ _ q)
theorem PA.weak {X:Cx} {e:List Expr} {t t':TA} (h:PA X e t) (i:∀ σ H Q,t' σ H Q→t σ H Q):PA X e t':=fun pos pins s σ H Q I q=>h pos pins s σ H Q I (i _ _ _ q)
theorem PS.weak {X:Cx} {e:Stmt} {t t':TS} (h:PS X e t) (i:∀ N σ H,t' N σ H→t N σ H):PS X e t':=fun pins s σ H N I q=>h pins s σ H N I (i _ _ _ q)
theorem PSs.weak {X:Cx} {e:List Stmt} {t t':TS} (h:PSs X e t) (i:∀ N σ H,t' N σ H→t N σ H):PSs X e t':=fun pins s σ H N I q=>h pins s σ H N I (i _ _ _ q)
end MI
namespace MI
open PySem L2
abbrev LINE:Nat:=16777216
theorem ll {n:Nat} (h:n≤LINE):n≤sizeLine:=abm h
def sV (i:Nat):SE:=fun τ h=>match τ[i]? with | some (some d)=>.ok d h | _=>.no
def sC (d:D):SE:=fun _ h=>.ok d h
section
variable {X:Cx} {E:XD} {a b c e:Expr} {fa fb fc:SE} {pos:Pos}
theorem bw (i:Nat) {x:Str} {pos:Pos} (hN:X.N[i]? = some x:=by rfl) (hv:Vis X.env.scope x:=by first | exact Or.inl rfl | exact Or.inr (Or.inl rfl) | exact Or.inr (Or.inr rfl)) (hd:(x == ("__debug__" : Str))=false:=by decide)
  (hcd:(x == ("__classdict__" : Str))=false:=by decide):ME X E (.Name x pos) (sV i):=by
 refine PE.weak (afg hN hv hd hcd) fun σ H Q ⟨ι,τ,h,S,Rh,o⟩=>?_
 unfold sV at o
 split at o
 ·rename_i d e
  obtain ⟨v,h1,h2⟩:=S.val i d e
  exact ⟨v,h1,o ι H v (.refl _ _) h2 Rh⟩
 ·exact o.elim
theorem aq6 {v:V} {d:D} (h:PE X e (tC v)) (r:∀ ι H,Rep X.K ι H v d):ME X E e (sC d) :=
 PE.weak h fun σ H Q ⟨ι,τ,h,S,Rh,o⟩=>o ι H v (.refl _ _) (r ι H) Rh
theorem bh {i j pos}:ME X E (.Constant (.int i) j pos) (sC (.int i)):=aq6 aqo fun _ _=>.int i
theorem a3j {i j pos}:ME X E (.Constant (.bool i) j pos) (sC (.bl i)):=aq6 avw fun _ _=>.bl i
theorem mj {i j pos}:ME X E (.Constant (.str i) j pos) (sC (.str i)):=aq6 aqq fun _ _=>.str i
theorem a1c {j pos}:ME X E (.Constant .none j pos) (sC .non):=aq6 aqp fun _ _=>.non
theorem a2w {x:Str} {n:String} {pos:Pos} (hg:Gl X x) (hm:X.mg x=none) (hv:bootBuiltins x=some (.type n)) (hn:x ≠ "__name__":=by decide) (hd:(x == ("__debug__" : Str))=false:=by decide):ME X E (.Name x pos) (sC (.ty n)) :=
 aq6 (afh (v:=.ty n) hg hm hv rfl hn hd) fun _ _=>.ty n
theorem a8l {x:Str} {i:Int} {t:Tok} {pos:Pos} (hg:Gl X x) (hm:X.mg x=some (.int i t)) (hd:(x == ("__debug__" : Str))=false:=by decide):ME X E (.Name x pos) (sC (.int i)) :=
 aq6 (a0s (v:=.int i) hg hm ⟨t,rfl⟩ hd) fun _ _=>.int i
def s2 (g:D→D→Hd→R D) (fa fb:SE):SE:=fun τ h=>(fa τ h).bind fun x h1=>(fb τ h1).bind fun y h2=>g x y h2
def s1 (g:D→Hd→R D) (fa:SE):SE:=fun τ h=>(fa τ h).bind g
def a2n (K:PySem.W.Frag) (g:D→D→Hd→R D) (r:R2):Prop:=∀ (E:XD) ι H h x y dx dy Q,Rep K ι H x dx→Rep K ι H y dy→HRep K ι H h→out K E (zp K) ι H (g dx dy h) Q→r x y H Q
def az1 (K:PySem.W.Frag) (g:D→Hd→R D) (r:V→Hp→VK→Prop):Prop:=∀ (E:XD) ι H h x dx Q,Rep K ι H x dx→HRep K ι H h→out K E (zp K) ι H (g dx h) Q→r x H Q
def acs (K:PySem.W.Frag) (g:List D→Hd→R D) (r:List V→Hp→VK→Prop):Prop:=∀ (E:XD) ι H h xs ds Q,Reps K ι H xs ds→HRep K ι H h→out K E (zp K) ι H (g ds h) Q→r xs H Q
theorem avm {g:D→D→Hd→R D} {r:R2} {K:PySem.W.Frag} (hs:a2n K g r) {σ:St} {H:Hp} {Q:VK} (q:lift K E (zp K) (s2 g fa fb) σ H Q):tOp r (lift K E (zp K) fa) (lift K E (zp K) fb) σ H Q:=by
 obtain ⟨ι,τ,h,S,Rh,o⟩:=q
 refine ⟨ι,τ,h,S,Rh,gj o fun d h1 ι1 H1 v g1 r1 hr1 o1=>?_⟩
 refine ⟨ι1,τ,h1,S.mono g1,hr1,gj o1 fun d2 h2 ι2 H2 u g2 r2 hr2 o2=>?_⟩
 exact hs E ι2 H2 h2 v u d d2 Q (r1.mono g2) r2 hr2 o2
theorem abq {op:Operator} {r:R2} {g:D→D→Hd→R D} (ho:OpR X (binaryOp op) r) (hs:a2n X.K g r) (ha:ME X E a fa) (hb:ME X E b fb):ME X E (.BinOp a op b pos) (s2 g fa fb) :=
 PE.weak (aw7 ho ha hb) fun σ H Q q=>avm hs q
theorem a0a {op:CmpOp} {r:R2} {g:D→D→Hd→R D} (ho:OpR X (compareOp op) r) (hs:a2n X.K g r) (ha:ME X E a fa) (hb:ME X E b fb) (hm:behindInMarks op b=false):ME X E (.Compare a [op] [b] pos) (s2 g fa fb) :=
 PE.weak (amz ho ha hb hm) fun σ H Q q=>avm hs q
theorem awp {op:UnaryOp} {r:V→Hp→VK→Prop} {g:D→Hd→R D} (ho:UnR X (unaryOp op) r) (hs:az1 X.K g r) (ha:ME X E a fa):ME X E (.UnaryOp op a pos) (s1 g fa):=by
 refine PE.weak (aw8 ho ha) fun σ H Q ⟨ι,τ,h,S,Rh,o⟩=>?_
 exact ⟨ι,τ,h,S,Rh,gj o fun d h1 ι1 H1 v g1 r1 hr1 o1=>hs E ι1 H1 h1 v d Q r1 hr1 o1⟩
theorem awq {r:R2} {g:D→D→Hd→R D} (ho:IxR X r) (hs:a2n X.K g r) (ha:ME X E a fa) (hb:ME X E b fb) (hp:abi b):ME X E (.Subscript a b pos) (s2 g fa fb) :=
 PE.weak (awf ho ha hb hp) fun σ H Q q=>avm hs q
def asB (d:D) (h:Hd):R Bool:=match d with | .bl b=>.ok b h | _=>.no
def sT (f:SE):ST:=fun τ h=>(f τ h).bind asB
theorem ag8 {K:PySem.W.Frag} {t:TE} {f:SE} (hi:∀ σ H Q,lift K E (zp K) f σ H Q→t σ H Q) {σ:St} {H:Hp} {Q:Bool→Hp→Prop} (q:lift K E ant (sT f) σ H Q):an0 t σ H Q:=by
 refine hi σ H _ ?_
 obtain ⟨ι,τ,h,S,Rh,o⟩:=q
 refine ⟨ι,τ,h,S,Rh,gj o fun d h1 ι1 H1 v g1 r1 hr1 o1=>?_⟩
 cases r1 with
 | bl b=>exact ⟨b,rfl,o1 ι1 H1 b (.refl _ _) rfl hr1⟩
 | _=>exact o1.elim
theorem qb {op:CmpOp} {r:R2} {g:D→D→Hd→R D} (ho:OpR X (compareOp op) r) (hs:a2n X.K g r) (ha:ME X E a fa) (hb:ME X E b fb) (hm:behindInMarks op b=false):MT X E (.Compare a [op] [b] pos) (sT (s2 g fa fb)) :=
 PT.weak (ana ho ha hb hm) fun σ H Q q=>ag8 (fun _ _ _=>avm hs) q
def sCh (g g':D→D→Hd→R D) (fa fb fc:SE):SE:=fun τ h=>(fa τ h).bind fun x h1=>(fb τ h1).bind fun y h2=>(g x y h2).bind fun z h3=>match z with
 | .bl true=>(fc τ h3).bind fun w h4=>g' y w h4
 | .bl false=>.ok (.bl false) h3
 | _=>.no
theorem alk {K:PySem.W.Frag} {g g':D→D→Hd→R D} {r r':R2} (hs:a2n K g r) (hs':a2n K g' r') {σ:St} {H:Hp} {Q:VK} (q:lift K E (zp K) (sCh g g' fa fb fc) σ H Q) :
  afn r r' (lift K E (zp K) fa) (lift K E (zp K) fb) (lift K E (zp K) fc) σ H Q:=by
 obtain ⟨ι,τ,h,S,Rh,o⟩:=q
 refine ⟨ι,τ,h,S,Rh,gj o fun d h1 ι1 H1 v g1 r1 hr1 o1=>?_⟩
 refine ⟨ι1,τ,h1,S.mono g1,hr1,gj o1 fun d2 h2 ι2 H2 u g2 r2 hr2 o2=>?_⟩
 refine hs E ι2 H2 h2 v u d d2 _ (r1.mono g2) r2 hr2 (gj o2 fun d3 h3 ι3 H3 z g3 r3 hr3 o3=>?_)
 cases r3 with
 | bl k =>
  refine ⟨k,rfl,?_⟩
  cases k with
  | true =>
   rw [if_pos rfl]
   refine ⟨ι3,τ,h3,((S.mono g1).mono g2).mono g3,hr3,gj o3 fun d4 h4 ι4 H4 w g4 r4 hr4 o4=>?_⟩
   exact hs' E ι4 H4 h4 u w d2 d4 Q ((r2.mono g3).mono g4) r4 hr4 o4
  | false =>
   rw [if_neg Bool.false_ne_true]
   exact o3 ι3 H3 (.bl false) (.refl _ _) (.bl false) hr3
 | _=>exact o3.elim
theorem a8m {op op':CmpOp} {r r':R2} {g g':D→D→Hd→R D} (ho:OpR X (compareOp op) r) (ho':OpR X (compareOp op') r') (hs:a2n X.K g r) (hs':a2n X.K g' r') (ha:ME X E a fa) (hb:ME X E b fb) (hc:ME X E c fc)
  (hm:lastMarks [op,op'] [b,c]=false:=by with_unfolding_all rfl):ME X E (.Compare a [op,op'] [b,c] pos) (sCh g g' fa fb fc) :=
 PE.weak (aiz ho ho' ha hb hc hm) fun σ H Q q=>alk hs hs' q
theorem a8n {op op':CmpOp} {r r':R2} {g g':D→D→Hd→R D} (ho:OpR X (compareOp op) r) (ho':OpR X (compareOp op') r') (hs:a2n X.K g r) (hs':a2n X.K g' r') (ha:ME X E a fa) (hb:ME X E b fb) (hc:ME X E c fc)
  (hm:lastMarks [op,op'] [b,c]=false:=by with_unfolding_all rfl):MT X E (.Compare a [op,op'] [b,c] pos) (sT (sCh g g' fa fb fc)) :=
 PT.weak (aj0 ho ho' ha hb hc hm) fun σ H Q q=>ag8 (fun _ _ _=>alk hs hs') q
def tru (d:D) (h:Hd):R Bool:=match d with
 | .non=>.ok false h
 | .bl b=>.ok b h
 | .int i=>.ok (i != 0) h
 | .str x=>if x.length≤LINE then .ok ((x.length:Int) != 0) h else .no
 | .tup xs=>.ok (!xs.isEmpty) h
 | .rol xs=>.ok (!xs.isEmpty) h
 | .ref i=>match h[i]? with
  | some (.lst xs)=>.ok (!xs.isEmpty) h
  | some (.dK kvs)=>.ok (!kvs.isEmpty) h
  | _=>.no
 | _=>.no
theorem Reps.emp {K:PySem.W.Frag} {ι:List Addr} {H:Hp} {vs:List V} {ds:List D} (r:Reps K ι H vs ds):vs.isEmpty=ds.isEmpty:=by cases r<;>rfl
theorem KRep.emp {κ:Type} {K:PySem.W.Frag} {ι:List Addr} {H:Hp} {us:List (κ × V)} {kvs:List (κ × D)} (r:KRep K ι H us kvs):us.isEmpty=kvs.isEmpty:=by
 have:=congrArg List.length r.1
 cases us<;>cases kvs<;>simp at this ⊢
theorem anu {K:PySem.W.Frag} {ι:List Addr} {H:Hp} {h:Hd} {x:V} {d:D} {Q:Bool→Hp→Prop} (r:Rep K ι H x d) (hr:HRep K ι H h) (o:out K E ant ι H (tru d h) Q):∃ k,awb K x H k∧Q k H:=by
 cases r with
 | non=>exact ⟨false,rfl,o ι H _ (.refl _ _) rfl hr⟩
 | bl b=>exact ⟨b,rfl,o ι H _ (.refl _ _) rfl hr⟩
 | int i=>exact ⟨_,rfl,o ι H _ (.refl _ _) rfl hr⟩
 | str x =>
  by_cases hl:x.length≤LINE
  ·simp only [tru,if_pos hl] at o
   exact ⟨_,⟨ll hl,rfl⟩,o ι H _ (.refl _ _) rfl hr⟩
  ·simp only [tru,if_neg hl] at o
   exact o.elim
 | ty n=>exact o.elim
 | rod _ _ _=>exact o.elim
 | scr _ _=>exact o.elim
 | rdT _ _ _=>exact o.elim
 | exc _ _ _=>exact o.elim
 | tup e rs=>exact ⟨_, .inr (.inl ⟨_,SqT.of e,rfl⟩),by rw [rs.emp];exact o ι H _ (.refl _ _) rfl hr⟩
 | rol e rs=>exact ⟨_, .inl ⟨_,e.l,rfl⟩,by rw [rs.emp];exact o ι H _ (.refl _ _) rfl hr⟩
 | @ref a i e =>
  obtain ⟨ob,h1,h2⟩:=hr.at e
  simp only [tru,h1] at o
  cases ob with
  | lst xs =>
   obtain ⟨vs,h3,h4⟩:=h2
   exact ⟨_, .inl ⟨_,SqL.of h3,rfl⟩,by rw [h4.emp];exact o ι H _ (.refl _ _) rfl hr⟩
  | dK kvs =>
   obtain ⟨us,h3,h4⟩:=h2
   exact ⟨_, .inr (.inr ⟨_,h3,rfl⟩),by rw [h4.emp];exact o ι H _ (.refl _ _) rfl hr⟩
  | dT kvs=>exact o.elim
def a0n (f:SE):ST:=fun τ h=>(f τ h).bind tru
theorem uv (ha:ME X E a fa) (he:∀ whole,isTrue a X.env whole=(do let v ← whole;standAt a.pos;holding [v] (truthy v)):=by intro _;rfl):MT X E a (a0n fa):=by
 refine PT.weak (aj1 ha he) fun σ H Q ⟨ι,τ,h,S,Rh,o⟩=>?_
 exact ⟨ι,τ,h,S,Rh,gj o fun d h1 ι1 H1 v g1 r1 hr1 o1=>anu r1 hr1 o1⟩
def af6 (f g:ST):ST:=fun τ h=>(f τ h).bind fun b h1=>if b=true then g τ h1 else .ok false h1
def sOr (f g:ST):ST:=fun τ h=>(f τ h).bind fun b h1=>if b=true then .ok true h1 else g τ h1
def a0b (f:ST):ST:=fun τ h=>(f τ h).bind fun b h1=>.ok (!b) h1
variable {ga gb:ST}
theorem anv (ha:MT X E a ga):MW X E (.BoolOp .And [a] pos) ga:=ams ha
theorem a3d (ha:MT X E a ga):MW X E (.BoolOp .Or [a] pos) ga:=aqr ha
theorem asb {rest:List Expr} (ha:MT X E a ga) (hb:MW X E (.BoolOp .And (b::rest) pos) gb):MW X E (.BoolOp .And (a::b::rest) pos) (af6 ga gb):=by
 refine PW.weak (aqs ha hb) fun σ H Q ⟨ι,τ,h,S,Rh,o⟩=>?_
 refine ⟨ι,τ,h,S,Rh,gj o fun d h1 ι1 H1 v g1 r1 hr1 o1=>?_⟩
 cases r1
 cases d with
 | true=>exact ⟨ι1,τ,h1,S.mono g1,hr1,o1⟩
 | false=>exact o1 ι1 H1 false (.refl _ _) rfl hr1
theorem a7g {rest:List Expr} (ha:MT X E a ga) (hb:MW X E (.BoolOp .Or (b::rest) pos) gb):MW X E (.BoolOp .Or (a::b::rest) pos) (sOr ga gb):=by
 refine PW.weak (avx ha hb) fun σ H Q ⟨ι,τ,h,S,Rh,o⟩=>?_
 refine ⟨ι,τ,h,S,Rh,gj o fun d h1 ι1 H1 v g1 r1 hr1 o1=>?_⟩
 cases r1
 cases d with
 | true=>exact o1 ι1 H1 true (.refl _ _) rfl hr1
 | false=>exact ⟨ι1,τ,h1,S.mono g1,hr1,o1⟩
theorem vp (ha:MT X E a ga):MT X E (.UnaryOp .Not a pos) (a0b ga):=by
 refine PT.weak (aqt ha) fun σ H Q ⟨ι,τ,h,S,Rh,o⟩=>?_
 refine ⟨ι,τ,h,S,Rh,gj o fun d h1 ι1 H1 v g1 r1 hr1 o1=>?_⟩
 cases r1
 exact o1 ι1 H1 _ (.refl _ _) rfl hr1
def v9 (f g:SE):SE:=fun τ h=>(f τ h).bind fun d h1=>match d with | .bl true=>g τ h1 | .bl false=>.ok (.bl false) h1 | _=>.no
def aq7 (f g:SE):SE:=fun τ h=>(f τ h).bind fun d h1=>match d with | .bl true=>.ok (.bl true) h1 | .bl false=>g τ h1 | _=>.no
def a5x (f:SE):SE:=fun τ h=>(f τ h).bind fun d h1=>match d with | .bl b=>.ok (.bl (!b)) h1 | _=>.no
theorem a0q {op} (ha:ME X E a fa):ME X E (.BoolOp op [a] pos) fa:=aqu ha
theorem a0c {rest:List Expr} (ha:ME X E a fa) (hb:ME X E (.BoolOp .And (b::rest) pos) fb):ME X E (.BoolOp .And (a::b::rest) pos) (v9 fa fb):=by
 refine PE.weak (aqv ha hb) fun σ H Q ⟨ι,τ,h,S,Rh,o⟩=>?_
 refine ⟨ι,τ,h,S,Rh,gj o fun d h1 ι1 H1 v g1 r1 hr1 o1=>?_⟩
 cases r1 with
 | bl k =>
  refine ⟨k,rfl,?_⟩
  cases k with
  | true=>exact ⟨ι1,τ,h1,S.mono g1,hr1,o1⟩
  | false=>exact o1 ι1 H1 _ (.refl _ _) (.bl _) hr1
 | _=>exact o1.elim
theorem alm (ha:ME X E a fa):ME X E (.UnaryOp .Not a pos) (a5x fa):=by
 refine PE.weak (aqw ha) fun σ H Q ⟨ι,τ,h,S,Rh,o⟩=>?_
 refine ⟨ι,τ,h,S,Rh,gj o fun d h1 ι1 H1 v g1 r1 hr1 o1=>?_⟩
 cases r1 with
 | bl k=>exact ⟨k,rfl,o1 ι1 H1 _ (.refl _ _) (.bl _) hr1⟩
 | _=>exact o1.elim
def aq8 (c:ST) (f g:SE):SE:=fun τ h=>(c τ h).bind fun b h1=>if b=true then f τ h1 else g τ h1
def bj:SA:=fun _ h=>.ok [] h
def aj (f:SE) (g:SA):SA:=fun τ h=>(f τ h).bind fun d h1=>(g τ h1).bind fun ds h2=>.ok (d::ds) h2
variable {es:List Expr} {ka:SA}
theorem ao:MA X E [] bj:=PA.weak a6d fun σ H Q ⟨ι,τ,h,S,Rh,o⟩=>o ι H [] (.refl _ _) .nil Rh
theorem aa (ha:ME X E e fa) (hr:MA X E es ka) (hs:starEach (e::es) X.env=(false,eval e X.env)::starEach es X.env:=by rfl):MA X E (e::es) (aj fa ka):=by
 refine PA.weak (v4 ha hr hs) fun σ H Q ⟨ι,τ,h,S,Rh,o⟩=>?_
 refine ⟨ι,τ,h,S,Rh,gj o fun d h1 ι1 H1 v g1 r1 hr1 o1=>?_⟩
 refine ⟨ι1,τ,h1,S.mono g1,hr1,gj o1 fun d2 h2 ι2 H2 u g2 r2 hr2 o2=>?_⟩
 exact o2 ι2 H2 _ (.refl _ _) (.cons (r1.mono g2) r2) hr2
def kh (ds:List D) (h:Hd):R D:=if ds.length≤LINE then .ok (.tup ds) h else .no
def a0d (ds:List D) (h:Hd):R D:=if ds.length≤LINE then .ok (.ref h.length) (h++[.lst ds]) else .no
def sA (g:List D→Hd→R D) (k:SA):SE:=fun τ h=>(k τ h).bind g
theorem a1z {K:PySem.W.Frag} {ι:List Addr} {H:Hp} {h:Hd} {vs:List V} {ds:List D} {Q:VK} (r:Reps K ι H vs ds) (hr:HRep K ι H h) (o:out K E (zp K) ι H (.ok (.tup ds) h) Q):∀ p,H p=none→Q (.ref p) (upd H p (.tup vs)):=fun p hp =>
 o ι _ _ (a0p hp _) (.tup ou (r.mono (a0p hp _))) (hr.aside hp _)
theorem yr {K:PySem.W.Frag} {ι:List Addr} {H:Hp} {h:Hd} {vs:List V} {ds:List D} {Q:VK} (r:Reps K ι H vs ds) (hr:HRep K ι H h) (o:out K E (zp K) ι H (.ok (.ref h.length) (h++[.lst ds])) Q):∀ p,H p=none→Q (.ref p) (upd H p (.lst vs)):=fun p hp =>
 o (ι++[p]) _ _ (acr hp _) (.ref (by rw [List.getElem?_append_right (by rw [hr.len];exact Nat.le_refl _),hr.len];simp)) (hr.add hp ⟨_,ou,r.mono (acr hp _)⟩)
theorem anw {K:PySem.W.Frag} {ι:List Addr} {H:Hp} {h:Hd} {i:Nat} {a:Addr} {vs:List V} {ds:List D} {d:D} {v:V} {Q:VK} (r:Reps K ι H vs ds) (hr:HRep K ι H h) (hi:ι[i]? = some a) (rd:Rep K ι H v d) (o:out K E (zp K) ι H (.ok d (h.set i (.lst ds))) Q):Q v (upd H a (.lst vs)) :=
 o ι _ _ (a3c hr hi _) (rd.mono (a3c hr hi _)) (hr.put hi ⟨_,ou,r.mono (a3c hr hi _)⟩)
theorem dq {x1} (h:MA X E es ka):ME X E (.Tuple es x1 pos) (sA kh ka):=by
 refine PE.weak (ald h) fun σ H Q ⟨ι,τ,h,S,Rh,o⟩=>?_
 refine ⟨ι,τ,h,S,Rh,gj o fun d h1 ι1 H1 v g1 r1 hr1 o1=>?_⟩
 unfold kh at o1
 split at o1
 ·rename_i hl
  exact ⟨ll (by rw [r1.len];exact hl),a1z r1 hr1 o1⟩
 ·exact o1.elim
theorem qz (h:MA X E es ka):ME X E (.List es pos) (sA a0d ka):=by
 refine PE.weak (arj h) fun σ H Q ⟨ι,τ,h,S,Rh,o⟩=>?_
 refine ⟨ι,τ,h,S,Rh,gj o fun d h1 ι1 H1 v g1 r1 hr1 o1=>?_⟩
 unfold a0d at o1
 split at o1
 ·rename_i hl
  exact ⟨ll (by rw [r1.len];exact hl),yr r1 hr1 o1⟩
 ·exact o1.elim
theorem lw {x:Str} {p:Pos} {id:String} {r:List V→Hp→VK→Prop} {g:List D→Hd→R D} (hc:CallR X (.builtin id) r) (hs:acs X.K g r) (hg:Gl X x) (hm:X.mg x=none) (hv:bootBuiltins x=some (.builtin id)) (ha:MA X E (e::es) ka) (hn:x ≠ "__name__":=by decide) (hdb:(x == ("__debug__" : Str))=false:=by decide)
  (he:starEach (e::es) X.env=(false,eval e X.env)::starEach es X.env:=by rfl) (hpl:(backTo pos (starEach es X.env)).any (·.1)=false:=by rfl):ME X E (.Call (.Name x p) (e::es) [] pos) (sA g ka):=by
 refine PE.weak (a65 hc hg hm hv ha hn hdb he hpl) fun σ H Q ⟨ι,τ,h,S,Rh,o⟩=>?_
 exact ⟨ι,τ,h,S,Rh,gj o fun d h1 ι1 H1 v g1 r1 hr1 o1=>hs E ι1 H1 h1 v d Q r1 hr1 o1⟩
theorem wz {x:Str} {p:Pos} {id:String} {r:List V→Hp→VK→Prop} {g:List D→Hd→R D} (hc:CallR X (.type id) r) (hs:acs X.K g r) (hg:Gl X x) (hm:X.mg x=none) (hv:bootBuiltins x=some (.type id)) (ha:MA X E (e::es) ka) (hn:x ≠ "__name__":=by decide) (hdb:(x == ("__debug__" : Str))=false:=by decide)
  (he:starEach (e::es) X.env=(false,eval e X.env)::starEach es X.env:=by rfl) (hpl:(backTo pos (starEach es X.env)).any (·.1)=false:=by rfl):ME X E (.Call (.Name x p) (e::es) [] pos) (sA g ka):=by
 refine PE.weak (aa3 hc hg hm hv ha hn hdb he hpl) fun σ H Q ⟨ι,τ,h,S,Rh,o⟩=>?_
 exact ⟨ι,τ,h,S,Rh,gj o fun d h1 ι1 H1 v g1 r1 hr1 o1=>hs E ι1 H1 h1 v d Q r1 hr1 o1⟩
end
end MI
namespace MI
open PySem L2
def jd (f g:SS):SS:=fun τ h=>match f τ h with | .nx τ1 h1=>g τ1 h1 | r=>r
def sNx:SS:=fun τ h=>.nx τ h
def ud (f:SE):SS:=fun τ h=>(f τ h).fl fun d h1=>.rt d h1
def a0o (f:SE):SS:=fun τ h=>(f τ h).fl fun _ h1=>.nx τ h1
def sIf (c:ST) (f g:SS):SS:=fun τ h=>(c τ h).fl fun b h1=>if b=true then f τ h1 else g τ h1
def o7 (i:Nat) (f:SE):SS:=fun τ h=>(f τ h).fl fun d h1=>.nx (τ.set i (some d)) h1
def af7 (i:Nat) (g:D→D→Hd→R D) (f:SE):SS:=fun τ h=>match τ[i]? with
 | some (some x)=>(f τ h).fl fun y h1=>(g x y h1).fl fun z h2=>.nx (τ.set i (some z)) h2
 | _=>.no
section
variable {X:Cx} {E:XD} {e o:Expr} {es:List Expr} {fa fb fc:SE} {ga:ST} {st:Stmt} {sts a b:List Stmt} {f g:SS} {pos:Pos}
theorem jr:MSs X E [] sNx:=PSs.weak amt fun N σ H ⟨ι,τ,h,S,Rh,o⟩=>o ι H σ (.refl _ _) S Rh
theorem asd {K:PySem.W.Frag} {N:Ends} {σ:St} {H:Hp} (q:a6m K E (jd f g) N σ H):a6m K E f { N with nx:=a6m K E g N } σ H:=by
 obtain ⟨ι,τ,h,S,Rh,o⟩:=q
 refine ⟨ι,τ,h,S,Rh,?_⟩
 unfold jd at o
 cases hf:f τ h with
 | nx τ1 h1 =>
  rw [hf] at o
  exact fun ι1 H1 σ1 g1 S1 R1=>⟨ι1,τ1,h1,S1,R1,vy o g1⟩
 | _=>rw [hf] at o;exact o
theorem bc (h1:MS X E st f) (h2:MSs X E sts g):MSs X E (st::sts) (jd f g):=PSs.weak (aiu h1 h2) fun N σ H q=>asd q
theorem dh (h1:MS X E st f):MSs X E [st] f:=amu h1
theorem ju (he:ME X E e fa):MS X E (.Return (some e) pos) (ud fa):=by
 refine PS.weak (aqx he) fun N σ H ⟨ι,τ,h,S,Rh,o⟩=>?_
 exact ⟨ι,τ,h,S,Rh,yh o fun d h1 ι1 H1 v g1 r1 hr1 o1=>o1 ι1 H1 v (.refl _ _) r1 hr1⟩
theorem a4p (he:ME X E e fa) (hs:swapsWith e none pos.line X.env=pure false:=by rfl):MS X E (.Expr e pos) (a0o fa):=by
 refine PS.weak (amv he hs) fun N σ H ⟨ι,τ,h,S,Rh,o⟩=>?_
 exact ⟨ι,τ,h,S,Rh,yh o fun d h1 ι1 H1 v g1 r1 hr1 o1=>o1 ι1 H1 σ (.refl _ _) (S.mono g1) hr1⟩
theorem ux {c:Expr} (hc:MT X E c ga) (ha:MSs X E a f) (hb:MSs X E b g):MS X E (.If c a b pos) (sIf ga f g):=by
 refine PS.weak (aw2 hc ha hb) fun N σ H ⟨ι,τ,h,S,Rh,o⟩=>?_
 refine ⟨ι,τ,h,S,Rh,yh o fun d h1 ι1 H1 v g1 r1 hr1 o1=>?_⟩
 cases r1
 cases d with
 | true=>exact ⟨ι1,τ,h1,S.mono g1,hr1,o1⟩
 | false=>exact ⟨ι1,τ,h1,S.mono g1,hr1,o1⟩
theorem gh {i:Nat} {x:Str} {pos':Pos} (hN:X.N.Nodup) (hi:X.N[i]? = some x) (hx:Loc X.env.scope x) (he:ME X E e fa) (hs:swapsWith e (some (.Name x pos')) pos.line X.env=pure false:=by rfl) (hf:X.fn x=true∨X.env.scope.names.lookup x=some .local:=by first | exact .inl rfl | exact .inr rfl | assumption) :
  MS X E (.Assign [.Name x pos'] e pos) (o7 i fa):=by
 refine PS.weak (ar5 hN hi hx he hs hf) fun N σ H ⟨ι,τ,h,S,Rh,o⟩=>?_
 exact ⟨ι,τ,h,S,Rh,yh o fun d h1 ι1 H1 v g1 r1 hr1 o1=>o1 ι1 H1 _ (.refl _ _) ((S.mono g1).set r1 i) hr1⟩
theorem ase {i:Nat} {x:Str} {op:Operator} {r:R2} {gg:D→D→Hd→R D} {pos':Pos} (hN:X.N.Nodup) (hi:X.N[i]? = some x) (hx:Loc X.env.scope x) (ho:OpR X (inplaceOp op) r) (hs:a2n X.K gg r) (he:ME X E e fa) (hf:X.fn x=true∨X.env.scope.names.lookup x=some .local:=by first | exact .inl rfl | exact .inr rfl | assumption) :
  MS X E (.AugAssign (.Name x pos') op e pos) (af7 i gg fa):=by
 refine PS.weak (ar6 hN hi hx he ho hf) fun N σ H ⟨ι,τ,h,S,Rh,o⟩=>?_
 unfold af7 at o
 split at o
 ·rename_i d ed
  obtain ⟨v,h1,h2⟩:=S.val i d ed
  refine ⟨v,h1,ι,τ,h,S,Rh,yh o fun d2 h3 ι1 H1 u g1 r1 hr1 o1=>?_⟩
  refine hs E ι1 H1 h3 v u d d2 _ (h2.mono g1) r1 hr1 (yh o1 fun d3 h4 ι2 H2 z g2 r2 hr2 o2=>?_)
  exact o2 ι2 H2 _ (.refl _ _) (((S.mono g1).mono g2).set r2 i) hr2
 ·exact o.elim
def put (o k v:D) (h:Hd):Option Hd:=match o,k with
 | .ref i, .int j=>match h[i]? with
  | some (.lst xs)=>match ixN xs.length j with
   | some m=>some (h.set i (.lst (xs.set m v)))
   | none=>none
  | _=>none
 | _,_=>none
theorem anx {K:PySem.W.Frag} {ι:List Addr} {H:Hp} {h h':Hd} {o k v:V} {od kd vd:D} {Q:Hp→Prop} (r1:Rep K ι H o od) (r2:Rep K ι H k kd) (r3:Rep K ι H v vd) (hr:HRep K ι H h) (e:put od kd vd h=some h')
  (q:∀ H',Gr ι H ι H'→HRep K ι H' h'→Q H'):ars o k v H Q:=by
 cases r1 with
 | @ref a i ha =>
  cases r2 with
  | int j =>
   obtain ⟨ob,h1,h2⟩:=hr.at ha
   cases ob with
   | lst xs =>
    obtain ⟨vs,h3,h4⟩:=h2
    simp only [put,h1] at e
    cases hm:ixN xs.length j with
    | none=>rw [hm] at e;cases e
    | some m =>
     rw [hm] at e
     cases e
     exact ⟨a,vs,j,m,rfl,rfl,h3,by rw [h4.len];exact hm,q _ (a3c hr ha _) (hr.put ha ⟨_,ou,(h4.set r3 m).mono (a3c hr ha _)⟩)⟩
   | dK _=>simp only [put,h1] at e;cases e
   | dT _=>simp only [put,h1] at e;cases e
  | _=>cases e
 | _=>cases e
def acu (fe fo fi:SE):SS:=fun τ h=>(fe τ h).fl fun v h1=>(fo τ h1).fl fun o h2=>(fi τ h2).fl fun k h3=>match put o k v h3 with | some h4=>.nx τ h4 | none=>.no
theorem acv {i:Expr} {pos':Pos} (he:ME X E e fa) (ho:ME X E o fb) (hi:ME X E i fc)
  (hs:swapsWithSole [.Subscript o i pos'] e pos.line X.env=pure false:=by rfl) (hw:swappedStores [.Subscript o i pos'] e X.env=pure none:=by rfl)
  (h1:(assignEach [.Subscript o i pos'] X.env).map (·.2)=[assign (.Subscript o i pos') X.env]:=by rfl)
  (ha:∀ v,assign (.Subscript o i pos') X.env v=(do
   let ov ← holding [v] (eval o X.env)
   let iv ← holding [v,ov] (eval i X.env)
   standAt pos'
   holding [v,ov,iv] (setItem ov iv v)
   release [v,ov,iv] []):=by intro _;rfl):MS X E (.Assign [.Subscript o i pos'] e pos) (acu fa fb fc):=by
 refine PS.weak (alb he (ar0 ho hi set_list ha) hs hw h1) fun N σ H ⟨ι,τ,h,S,Rh,oo⟩=>?_
 refine ⟨ι,τ,h,S,Rh,yh oo fun d h1 ι1 H1 v g1 r1 hr1 o1=>?_⟩
 refine ⟨ι1,τ,h1,S.mono g1,hr1,yh o1 fun d2 h2 ι2 H2 u g2 r2 hr2 o2=>?_⟩
 refine ⟨ι2,τ,h2,(S.mono g1).mono g2,hr2,yh o2 fun d3 h3 ι3 H3 w g3 r3 hr3 o3=>?_⟩
 cases hp:put d2 d3 d h3 with
 | none=>rw [hp] at o3;exact o3.elim
 | some h4 =>
  rw [hp] at o3
  exact anx (r2.mono g3) r3 ((r1.mono g2).mono g3) hr3 hp fun H' g4 hr4=>o3 ι3 H' σ g4 ((((S.mono g1).mono g2).mono g3).mono g4) hr4
def sWh (c:ST) (f:SS):Nat→SS
 | 0,_,_=>.no
 | n+1,τ,h=>(c τ h).fl fun b h1=>if b=true then (match f τ h1 with | .nx τ2 h2=>sWh c f n τ2 h2 | .ct τ2 h2=>sWh c f n τ2 h2 | .bk τ2 h2=>.nx τ2 h2 | r=>r) else .nx τ h1
theorem acw (n:Nat) {c:Expr} (hp:PassesOwn (model X.prog X.w) X.A X.env X.xe) (hc:MT X E c ga) (hb:MSs X E a f):MS X E (.While c a [] pos) (sWh ga f n):=by
 refine PS.weak (aiw hp hc hb) fun N σ H q=>?_
 refine ⟨fun m σ H=>a6m X.K E (sWh ga f m) N σ H,⟨n,q⟩,?_⟩
 rintro m σ1 H1 ⟨ι,τ,h,S,Rh,o⟩
 cases m with
 | zero=>exact o.elim
 | succ m =>
  refine ⟨ι,τ,h,S,Rh,yh o fun d h1 ι1 H1 v g1 r1 hr1 o1=>?_⟩
  cases r1
  cases d with
  | false=>exact o1 ι1 H1 _ (.refl _ _) (S.mono g1) hr1
  | true =>
   refine ⟨fun σ' H'=>a6m X.K E (sWh ga f m) N σ' H',fun σ' H' q=>⟨m,Nat.lt_succ_self m,q⟩,ι1,τ,h1,S.mono g1,hr1,?_⟩
   rw [if_pos rfl] at o1
   cases hf:f τ h1 with
   | nx τ2 h2=>rw [hf] at o1;exact fun ι2 H2 σ2 g2 S2 R2=>⟨ι2,τ2,h2,S2,R2,vy o1 g2⟩
   | ct τ2 h2=>rw [hf] at o1;exact fun ι2 H2 σ2 g2 S2 R2=>⟨ι2,τ2,h2,S2,R2,vy o1 g2⟩
   | bk τ2 h2=>rw [hf] at o1;exact o1
   | rt d h2=>rw [hf] at o1;exact o1
   | ex c h2=>rw [hf] at o1;exact o1
   | no=>rw [hf] at o1;exact o1.elim
end
abbrev SG:=D→Sd→Hd→Fl
def anz (K:PySem.W.Frag) (E:XD) (g:SG):TG:=fun v σ H Q=>∃ ι τ h d,Rep K ι H v d∧SRep K ι H σ τ∧HRep K ι H h∧aim K E ι H (g d τ h) { nx:=Q,rt:=fun _ _=>False }
abbrev MG (X:Cx) (E:XD) (tg:Expr) (g:SG):Prop:=PG X tg (anz X.K E g)
abbrev SGs:=List D→Sd→Hd→Fl
def ag9 (K:PySem.W.Frag) (E:XD) (g:SGs):TGs:=fun vs σ H Q=>∃ ι τ h ds,Reps K ι H vs ds∧SRep K ι H σ τ∧HRep K ι H h∧aim K E ι H (g ds τ h) { nx:=Q,rt:=fun _ _=>False }
abbrev MGs (X:Cx) (E:XD) (tg:List Expr) (g:SGs):Prop:=PGs X tg (ag9 X.K E g)
theorem PG.weak {X:Cx} {e:Expr} {t t':TG} (h:PG X e t) (i:∀ v σ H Q,t' v σ H Q→t v σ H Q):PG X e t':=fun pins s σ H v u Q I r q=>h pins s σ H v u Q I r (i _ _ _ _ q)
theorem PGs.weak {X:Cx} {e:List Expr} {t t':TGs} (h:PGs X e t) (i:∀ v σ H Q,t' v σ H Q→t v σ H Q):PGs X e t':=fun pins s σ H v u Q I r q=>h pins s σ H v u Q I r (i _ _ _ _ q)
def kN (i:Nat):SG:=fun d τ h=>.nx (τ.set i (some d)) h
def a8o:SGs:=fun ds τ h=>match ds with | []=>.nx τ h | _=>.no
def ue (g:SG) (k:SGs):SGs:=fun ds τ h=>match ds with | d::r=>(match g d τ h with | .nx τ1 h1=>k r τ1 h1 | _=>.no) | []=>.no
def a7w (n:Nat) (k:SGs):SG:=fun d τ h=>match d with | .tup ds=>if ds.length=n then k ds τ h else .no | _=>.no
section
variable {X:Cx} {E:XD} {e:Expr} {es:List Expr} {fa:SE} {pos:Pos} {g:SG} {ks:SGs}
theorem qj {i:Nat} {x:Str} (hN:X.N.Nodup) (hi:X.N[i]? = some x) (hx:Loc X.env.scope x) (hf:X.fn x=true∨X.env.scope.names.lookup x=some .local:=by first | exact .inl rfl | exact .inr rfl | assumption):MG X E (.Name x pos) (kN i) :=
 PG.weak (xu hN hi hx hf) fun v σ H Q ⟨ι,τ,h,d,r,S,Rh,o⟩=>o ι H _ (.refl _ _) (S.set r i) Rh
theorem a4q:MGs X E [] a8o:=by
 refine PGs.weak amw fun vs σ H Q ⟨ι,τ,h,ds,r,S,Rh,o⟩=>?_
 cases r with
 | nil=>exact ⟨rfl,o ι H σ (.refl _ _) S Rh⟩
 | cons _ _=>exact o.elim
theorem ajj {K:PySem.W.Frag} {vs:List V} {σ:St} {H:Hp} {Q:St→Hp→Prop} (q:ag9 K E (ue g ks) vs σ H Q):aqy (anz K E g) (ag9 K E ks) vs σ H Q:=by
 obtain ⟨ι,τ,h,ds,r,S,Rh,o⟩:=q
 cases r with
 | nil=>exact o.elim
 | @cons v d vs ds r rs =>
  refine ⟨v,vs,rfl,ι,τ,h,d,r,S,Rh,?_⟩
  simp only [ue] at o
  cases hg:g d τ h with
  | nx τ1 h1 =>
   rw [hg] at o
   exact fun ι1 H1 σ1 g1 S1 R1=>⟨ι1,τ1,h1,ds,rs.mono g1,S1,R1,vy o g1⟩
  | _=>rw [hg] at o;exact o.elim
theorem a7x {k n:Nat} (hc:X.calm=true) (h:MGs X E es ks) (hn:(assignEach es X.env).length=n:=by rfl) (hst:(assignEach es X.env).findIdx? (·.1)=none:=by rfl):MG X E (.Tuple es k pos) (a7w n ks):=by
 refine PG.weak (aqz hc h hn hst) fun v σ H Q ⟨ι,τ,h,d,r,S,Rh,o⟩=>?_
 cases r with
 | @tup a vs xs e rs =>
  simp only [a7w] at o
  by_cases hl:xs.length=n
  ·rw [if_pos hl] at o
   exact ⟨a,vs,rfl,SqT.of e,by rw [rs.len];exact hl,ι,τ,h,xs,rs,S,Rh,o⟩
  ·rw [if_neg hl] at o;exact o.elim
 | _=>exact o.elim
def a8p (f:SE) (g:SG):SS:=fun τ h=>(f τ h).fl fun d h1=>match g d τ h1 with | .nx τ2 h2=>.nx τ2 h2 | _=>.no
theorem aah {tg:Expr} (he:ME X E e fa) (hg:MG X E tg g) (hs:swapsWithSole [tg] e pos.line X.env=pure false:=by rfl) (hw:swappedStores [tg] e X.env=pure none:=by rfl)
  (h1:(assignEach [tg] X.env).map (·.2)=[assign tg X.env]:=by rfl):MS X E (.Assign [tg] e pos) (a8p fa g):=by
 refine PS.weak (alb he hg hs hw h1) fun N σ H ⟨ι,τ,h,S,Rh,o⟩=>?_
 refine ⟨ι,τ,h,S,Rh,yh o fun d h1 ι1 H1 v g1 r1 hr1 o1=>⟨ι1,τ,h1,d,r1,S.mono g1,hr1,?_⟩⟩
 cases hg:g d τ h1 with
 | nx τ1 h1=>rw [hg] at o1;exact o1
 | _=>rw [hg] at o1;exact o1.elim
end
structure Itm where
 xs:List D
 ck:Hd→Prop
def aq9 (K:PySem.W.Frag) (ι0:List Addr) (H0:Hp) (J:It) (it:Itm):Prop:=∀ ι H h,Gr ι0 H0 ι H→HRep K ι H h→it.ck h →
 (∀ (i:Nat) (d:D),it.xs[i]? = some d→J.go i H∧∀ x H',J.yld i H x H'→Gr ι H ι H'∧Rep K ι H' x d∧HRep K ι H' h)∧J.stop it.xs.length H
abbrev awr (K:PySem.W.Frag):List Addr→Hp→It→Itm→Prop:=fun ι H J it=>aq9 K ι H J it
abbrev SI:=Sd→Hd→R Itm
abbrev MI (X:Cx) (E:XD) (tg iter:Expr) (f:SI):Prop:=PI X tg iter (lift X.K E (awr X.K) f)
def a1d (x:Str):List D:=x.cps.toList.map fun c=>D.str ⟨#[c]⟩
def af8 (d:D) (h:Hd):R Itm:=match d with
 | .tup xs=>.ok ⟨xs,fun _=>True⟩ h
 | .rol xs=>.ok ⟨xs,fun _=>True⟩ h
 | .str x=>.ok ⟨a1d x,fun _=>True⟩ h
 | .ref i=>match h[i]? with
  | some (.lst xs)=>.ok ⟨xs,fun h=>h[i]? = some (.lst xs)⟩ h
  | _=>.no
 | _=>.no
def sIt (f:SE):SI:=fun τ h=>(f τ h).bind af8
theorem aln {K:PySem.W.Frag} {ι0:List Addr} {H0:Hp} {a:Addr} {xs:List D} {ck:Hd→Prop} (hl:∀ ι H h,Gr ι0 H0 ι H→HRep K ι H h→ck h→∃ vs,SqL K H a vs∧Reps K ι H vs xs):aq9 K ι0 H0 (Itl K a) ⟨xs,ck⟩:=by
 intro ι H h g hr c
 obtain ⟨vs,h1,h2⟩:=hl ι H h g hr c
 refine ⟨fun i d e=>?_,⟨vs,h1,by rw [h2.len];exact Nat.le_refl _⟩⟩
 obtain ⟨v,e1,r⟩:=h2.get e
 refine ⟨⟨vs,v,h1,e1⟩,fun x H' y=>?_⟩
 obtain ⟨rfl,y⟩:=y
 have:=y vs h1
 rw [e1] at this;cases this
 exact ⟨.refl _ _,r,hr⟩
theorem a1e {X:Cx} {E:XD} {tg l:Expr} {f:SE} (hl:ME X E l f):MI X E tg l (sIt f):=by
 intro pins s σ H Rr I ⟨ι,τ,h,S,Rh,o⟩
 unfold sIt at o
 cases hf:f τ h with
 | no=>rw [hf] at o;exact o.elim
 | ex c h1 =>
  rw [hf] at o
  exact ali hl pins s σ H Rr I ⟨ι,τ,h,S,Rh,by rw [hf];exact o⟩
 | ok d h1 =>
  rw [hf] at o
  cases d with
  | tup xs =>
   refine ar8 hl pins s σ H Rr I ⟨ι,τ,h,S,Rh,?_⟩
   rw [hf]
   intro ι1 H1 v g1 r1 hr1
   cases r1 with
   | @tup a vs _ e rs =>
    refine ⟨a,rfl,⟨vs,SqT.of e⟩,o ι1 H1 _ g1 ?_ hr1⟩
    intro ι2 H2 h2 g2 hr2 _
    have e2:=g2.tup _ _ e
    have rs2:=rs.mono g2
    refine ⟨fun i d ed=>?_,⟨vs,SqT.of e2,by rw [rs2.len];exact Nat.le_refl _⟩⟩
    obtain ⟨v,e1,r⟩:=rs2.get ed
    refine ⟨⟨vs,v,SqT.of e2,e1⟩,fun x H' y=>?_⟩
    obtain ⟨rfl,y⟩:=y
    have:=y vs (SqT.of e2)
    rw [e1] at this;cases this
    exact ⟨.refl _ _,r,hr2⟩
  | rol xs =>
   refine afj hl pins s σ H Rr I ⟨ι,τ,h,S,Rh,?_⟩
   rw [hf]
   intro ι1 H1 v g1 r1 hr1
   cases r1 with
   | @rol a vs _ e rs =>
    refine ⟨a,rfl,⟨vs,e.l⟩,o ι1 H1 _ g1 ?_ hr1⟩
    exact aln (fun ι2 H2 h2 g2 hr2 _=>⟨vs,(e.mono g2).l,rs.mono g2⟩)
  | str x =>
   refine ali hl pins s σ H Rr I ⟨ι,τ,h,S,Rh,?_⟩
   rw [hf]
   intro ι1 H1 v g1 r1 hr1
   cases r1
   refine ⟨x,rfl,o ι1 H1 _ g1 ?_ hr1⟩
   intro ι2 H2 h2 g2 hr2 _
   refine ⟨fun i d ed=>?_,by show (a1d x).length=_;simp [a1d]⟩
   simp only [a1d,List.getElem?_map,Option.map_eq_some_iff] at ed
   obtain ⟨c,ec,rfl⟩:=ed
   refine ⟨by show i<x.cps.size;have:=(List.getElem?_eq_some_iff.mp ec).1;simpa using this,fun y H' q=>?_⟩
   obtain ⟨rfl,c',ec',rfl⟩:=q
   rw [ec] at ec';cases ec'
   exact ⟨.refl _ _, .str _,hr2⟩
  | ref i =>
   simp only [R.bind,af8] at o
   cases ho:h1[i]? with
   | none=>rw [ho] at o;exact o.elim
   | some ob =>
    rw [ho] at o
    cases ob with
    | dK _=>exact o.elim
    | dT _=>exact o.elim
    | lst xs =>
     refine afj hl pins s σ H Rr I ⟨ι,τ,h,S,Rh,?_⟩
     rw [hf]
     intro ι1 H1 v g1 r1 hr1
     cases r1 with
     | @ref a _ e =>
      obtain ⟨vs,e1,rs⟩:=hr1.obj i a _ e ho
      refine ⟨a,rfl,⟨vs,SqL.of e1⟩,o ι1 H1 _ g1 ?_ hr1⟩
      refine aln (fun ι2 H2 h2 g2 hr2 c=>?_)
      obtain ⟨us,e3,rs3⟩:=hr2.obj i a _ (g2.at e) c
      exact ⟨us,SqL.of e3,rs3⟩
  | _=>exact o.elim
def rng (lo:Int) (n:Nat):List D:=(List.range n).map fun i=>D.int (lo+(i:Nat))
def B62 (j:Int):Prop := -(2 ^ 62)≤j∧j<2 ^ 62
instance (j:Int):Decidable (B62 j):=by unfold B62;exact inferInstance
def a2a (ds:List D) (h:Hd):R Itm:=match ds with
 | [.int j]=>if B62 j then .ok ⟨rng 0 j.toNat,fun _=>True⟩ h else .no
 | _=>.no
def ao0 (ds:List D) (h:Hd):R Itm:=match ds with
 | [.int i, .int j]=>if B62 i∧B62 j then .ok ⟨rng i (j - i).toNat,fun _=>True⟩ h else .no
 | _=>.no
def sRg (g:List D→Hd→R Itm) (k:SA):SI:=fun τ h=>(k τ h).bind g
theorem asf {K:PySem.W.Frag} {ι0:List Addr} {H0:Hp} (lo:Int) (n:Nat):aq9 K ι0 H0 (Itr lo n) ⟨rng lo n,fun _=>True⟩:=by
 intro ι H h g hr _
 refine ⟨fun i d ed=>?_,by show n≤(rng lo n).length;simp [rng]⟩
 simp only [rng,List.getElem?_map,Option.map_eq_some_iff] at ed
 obtain ⟨j,ej,rfl⟩:=ed
 obtain ⟨hj,e⟩:=List.getElem?_eq_some_iff.mp ej
 simp at e hj
 subst e
 refine ⟨hj,fun y H' q=>?_⟩
 obtain ⟨rfl,rfl⟩:=q
 exact ⟨.refl _ _, .int _,hr⟩
theorem a3k {X:Cx} {E:XD} {tg a:Expr} {k:SA} {p pos:Pos} (hg:Gl X "range") (hm:X.mg "range" = none) (ha:MA X E [a] k) (hs:starEach [a] X.env=[(false,eval a X.env)]:=by rfl):MI X E tg (.Call (.Name "range" p) [a] [] pos) (sRg a2a k):=by
 intro pins s σ H Rr I ⟨ι,τ,h,S,Rh,o⟩
 refine afk hg hm ha hs pins s σ H Rr I ⟨ι,τ,h,S,Rh,gj o fun ds h1 ι1 H1 vs g1 r1 hr1 o1=>?_⟩
 unfold a2a at o1
 split at o1
 ·rename_i j
  cases r1 with
  | cons r rs =>
   cases r;cases rs
   by_cases hb:B62 j
   ·rw [if_pos hb] at o1
    exact ⟨j,rfl,hb.1,hb.2,o1 ι1 H1 _ (.refl _ _) (asf 0 j.toNat) hr1⟩
   ·rw [if_neg hb] at o1;exact o1.elim
 ·exact o1.elim
open Classical in
noncomputable def forL (ck:Hd→Prop) (g:SG) (b:SS):List D→Sd→Hd→Fl
 | [],τ,h=>if ck h then .nx τ h else .no
 | x::xs,τ,h=>if ck h then (match g x τ h with
   | .nx τ1 h1=>(match b τ1 h1 with
    | .nx τ2 h2=>forL ck g b xs τ2 h2
    | .ct τ2 h2=>forL ck g b xs τ2 h2
    | .bk τ2 h2=>.nx τ2 h2
    | r=>r)
   | _=>.no) else .no
noncomputable def abr (f:SI) (g:SG) (b:SS):SS:=fun τ h=>(f τ h).fl fun it h1=>forL it.ck g b it.xs τ h1
theorem ao1 {K:PySem.W.Frag} {E:XD} {ι0:List Addr} {H0:Hp} {J:It} {it:Itm} {g:SG} {b:SS} {N:Ends} {σ0:St} {τ0:Sd} {h0:Hd} (ir:aq9 K ι0 H0 J it) (S:SRep K ι0 H0 σ0 τ0) (Rh:HRep K ι0 H0 h0) (o:aim K E ι0 H0 (forL it.ck g b it.xs τ0 h0) N) :
  ∃ W:Nat→Nat→St→Hp→Prop,(∃ m,W 0 m σ0 H0)∧∀ i m σ H,W i m σ H →
   (J.stop i H∧N.nx σ H)∨(J.go i H∧∃ M:St→Hp→Prop,(∀ σ' H',M σ' H'→∃ m',m'<m∧W (i+1) m' σ' H')∧∀ x H',J.yld i H x H'→anz K E g x σ H' fun σ2 H2=>a6m K E b { N with nx:=M,ct:=M,bk:=N.nx } σ2 H2):=by
 refine ⟨fun i m σ H=>m=it.xs.length - i∧i≤it.xs.length∧∃ ι τ h,Gr ι0 H0 ι H∧SRep K ι H σ τ∧HRep K ι H h∧aim K E ι H (forL it.ck g b (it.xs.drop i) τ h) N,⟨_,rfl,Nat.zero_le _,ι0,τ0,h0, .refl _ _,S,Rh,o⟩,?_⟩
 rintro i m σ H ⟨rfl,hi,ι,τ,h,g0,S,Rh,o⟩
 by_cases hlt:i<it.xs.length
 ·rw [List.drop_eq_getElem_cons hlt,forL] at o
  by_cases hc:it.ck h
  ·rw [if_pos hc] at o
   obtain ⟨go,yl⟩:=(ir ι H h g0 Rh hc).1 i _ (List.getElem?_eq_getElem hlt)
   refine .inr ⟨go,fun σ' H'=>it.xs.length - (i+1)<it.xs.length - i∧∃ ι τ h,Gr ι0 H0 ι H'∧SRep K ι H' σ' τ∧HRep K ι H' h∧aim K E ι H' (forL it.ck g b (it.xs.drop (i+1)) τ h) N,fun σ' H' q=>⟨_,q.1,rfl,hlt,q.2⟩,fun x H' y=>?_⟩
   obtain ⟨g1,r1,hr1⟩:=yl x H' y
   refine ⟨ι,τ,h,_,r1,S.mono g1,hr1,?_⟩
   have o':=vy o g1
   cases hg:g it.xs[i] τ h with
   | nx τ1 h1 =>
    rw [hg] at o'
    dsimp only at o'
    intro ι2 H2 σ2 g2 S2 R2
    refine ⟨ι2,τ1,h1,S2,R2,?_⟩
    have o2:=vy o' g2
    have gg:=(g0.trans g1).trans g2
    cases hb:b τ1 h1 with
    | nx τ2 h2=>rw [hb] at o2;exact fun ι3 H3 σ3 g3 S3 R3=>⟨by omega,ι3,τ2,h2,gg.trans g3,S3,R3,vy o2 g3⟩
    | ct τ2 h2=>rw [hb] at o2;exact fun ι3 H3 σ3 g3 S3 R3=>⟨by omega,ι3,τ2,h2,gg.trans g3,S3,R3,vy o2 g3⟩
    | bk τ2 h2=>rw [hb] at o2;exact o2
    | rt d h2=>rw [hb] at o2;exact o2
    | ex c h2=>rw [hb] at o2;exact o2
    | no=>rw [hb] at o2;exact o2.elim
   | _=>rw [hg] at o';exact o'.elim
  ·rw [if_neg hc] at o;exact o.elim
 ·have e:i=it.xs.length:=by omega
  subst e
  rw [List.drop_eq_nil_of_le (Nat.le_refl _),forL] at o
  by_cases hc:it.ck h
  ·rw [if_pos hc] at o
   exact .inl ⟨(ir ι H h g0 Rh hc).2,o ι H σ (.refl _ _) S Rh⟩
  ·rw [if_neg hc] at o;exact o.elim
theorem a5p {X:Cx} {E:XD} {tg iter:Expr} {body:List Stmt} {f:SI} {g:SG} {b:SS} {pos:Pos} (hp:PassesOwn (model X.prog X.w) X.A X.env X.xe) (hc:X.calm=true) (hi:MI X E tg iter f) (hg:MG X E tg g) (hb:MSs X E body b) (hs:∀ x,foldedSetIterable iter X.env x=pure x:=by intro _;rfl):MS X E (.For tg iter body [] pos) (abr f g b):=by
 refine PS.weak (ar9 hp hc hi hg hb hs) fun N σ H ⟨ι,τ,h,S,Rh,o⟩=>?_
 exact ⟨ι,τ,h,S,Rh,yh o fun it h1 ι1 H1 J g1 r1 hr1 o1=>ao1 r1 (S.mono g1) hr1 o1⟩
end MI
namespace MI
open PySem PySem.Spec L2
theorem R.bind_assoc {α β γ:Type} (r:R α) (f:α→Hd→R β) (g:β→Hd→R γ):(r.bind f).bind g=r.bind fun a h=>(f a h).bind g:=by cases r<;>rfl
open Classical in
noncomputable def mapR (ck:Hd→Prop) (f:D→Hd→R D):List D→Hd→R (List D)
 | [],h=>if ck h then .ok [] h else .no
 | x::xs,h=>if ck h then (f x h).bind fun y h1=>(mapR ck f xs h1).bind fun ys h2=>.ok (y::ys) h2 else .no
open Classical in
noncomputable def ain (ck:Hd→Prop) (f:D→Hd→R (Option D)):List D→Hd→R (List D)
 | [],h=>if ck h then .ok [] h else .no
 | x::xs,h=>if ck h then (f x h).bind fun y h1=>(ain ck f xs h1).bind fun ys h2=>.ok (y.toList++ys) h2 else .no
def frs' (ix:List Nat) (τ:Sd):Sd:=ix.map fun i=>(τ[i]?).join
def t1 (d:D):Option Sd:=some [some d]
def a7h (t:D→Option Sd) (fe:SE) (rest:Sd) (x:D) (h:Hd):R D:=match t x with | some ts=>fe (ts++rest) h | none=>.no
def abt (t:D→Option Sd) (c:ST) (fe:SE) (rest:Sd) (x:D) (h:Hd):R (Option D):=match t x with
 | some ts=>(c (ts++rest) h).bind fun b h1=>if b=true then (fe (ts++rest) h1).bind fun y h2=>.ok (some y) h2 else .ok none h1
 | none=>.no
def acx (yd zs:List D) (h:Hd):R D:=.ok (.ref h.length) (h++[.lst (yd++zs)])
theorem ash (r:R D) (m:Hd→R (List D)) (yd:List D):(r.bind fun y h1=>(m h1).bind fun ys h2=>.ok (y::ys) h2).bind (acx yd)=r.bind fun y h1=>(m h1).bind (acx (yd++[y])):=by
 cases r with
 | ok y h1 =>
  show ((m h1).bind _).bind _=(m h1).bind _
  cases m h1 with
  | ok ys h2=>simp [R.bind,acx]
  | _=>rfl
 | _=>rfl
theorem aws (r:R (Option D)) (m:Hd→R (List D)) (yd:List D):(r.bind fun y h1=>(m h1).bind fun ys h2=>.ok (y.toList++ys) h2).bind (acx yd)=r.bind fun y h1=>(m h1).bind (acx (yd++y.toList)):=by
 cases r with
 | ok y h1 =>
  show ((m h1).bind _).bind _=(m h1).bind _
  cases m h1 with
  | ok ys h2=>simp [R.bind,acx]
  | _=>rfl
 | _=>rfl
noncomputable def uy (fi:SI) (t:D→Option Sd) (fe:SE) (ix:List Nat):SE:=fun τ h=>(fi τ h).bind fun it h1=>if it.xs.length≤LINE then (mapR it.ck (a7h t fe (frs' ix τ)) it.xs h1).bind (acx []) else .no
noncomputable def a7y (fi:SI) (t:D→Option Sd) (c:ST) (fe:SE) (ix:List Nat):SE:=fun τ h=>(fi τ h).bind fun it h1=>if it.xs.length≤LINE then (ain it.ck (abt t c fe (frs' ix τ)) it.xs h1).bind (acx []) else .no
def alo (K:PySem.W.Frag) (n:Nat) (g:TG) (t:D→Option Sd):Prop:=∀ ι H v d ts (r:St) (Q:St→Hp→Prop),Rep K ι H v d→t d=some ts→(∀ us:St,us.length=n→SRep K ι H us ts→Q (us++r) H)→g v (List.replicate n none++r) H Q
theorem acy {K:PySem.W.Frag} {ι:List Addr} {H:Hp}:SRep K ι H [] []:=⟨rfl,fun i d e=>by simp at e⟩
theorem aai {K:PySem.W.Frag} {ι:List Addr} {H:Hp} {v:V} {d:D} {σ:St} {τ:Sd} (r:Rep K ι H v d) (s:SRep K ι H σ τ):SRep K ι H (some v::σ) (some d::τ):=by
 refine ⟨by simp [s.len],fun i d' e=>?_⟩
 cases i with
 | zero=>simp at e;subst e;exact ⟨v,rfl,r⟩
 | succ i=>simpa using s.val i d' (by simpa using e)
theorem a66 {K:PySem.W.Frag} {ι:List Addr} {H:Hp} {σ σ':St} {τ τ':Sd} (s:SRep K ι H σ τ) (s':SRep K ι H σ' τ'):SRep K ι H (σ++σ') (τ++τ'):=by
 refine ⟨by simp [s.len,s'.len],fun i d e=>?_⟩
 by_cases hi:i<τ.length
 ·rw [List.getElem?_append_left hi] at e
  rw [List.getElem?_append_left (by rw [s.len];exact hi)]
  exact s.val i d e
 ·rw [List.getElem?_append_right (by omega)] at e
  rw [List.getElem?_append_right (by rw [s.len];omega),s.len]
  exact s'.val _ d e
theorem a8q {K:PySem.W.Frag} {ι:List Addr} {H:Hp} {σ:St} {τ:Sd} (s:SRep K ι H σ τ) (ix:List Nat):SRep K ι H (ix.map fun i=>(σ[i]?).join) (frs' ix τ):=by
 refine ⟨by simp [frs'],fun j d e=>?_⟩
 simp only [frs',List.getElem?_map,Option.map_eq_some_iff] at e
 obtain ⟨i,hi,e⟩:=e
 have:τ[i]? = some (some d):=by
  cases q:τ[i]? with
  | none=>rw [q] at e;cases e
  | some o=>rw [q] at e;simp at e;rw [e]
 obtain ⟨v,h1,h2⟩:=s.val i d this
 exact ⟨v,by simp [hi,h1],h2⟩
theorem a1f {K:PySem.W.Frag}:alo K 1 (ae3 0) t1:=fun ι H v d ts r Q hr e q=>by
 cases e
 exact q [some v] rfl (aai hr acy)
theorem aga {n:Nat} {us r:St} (h:us.length=n):L2.Ext (List.replicate n none++r) (us++r):=by
 refine ⟨by simp [h],fun i v e=>?_⟩
 by_cases hi:i<n
 ·rw [List.getElem?_append_left (by simpa using hi),List.getElem?_replicate,if_pos hi] at e
  cases e
 ·rw [List.getElem?_append_right (by simpa using hi),List.length_replicate] at e
  rw [List.getElem?_append_right (by omega),h]
  exact e
theorem acz {K:PySem.W.Frag} {E:XD} {ι0:List Addr} {H0:Hp} {J:It} {it:Itm} {g:TG} {t:D→Option Sd} {fe:SE} {n:Nat} {r:St} {rd:Sd} {h0:Hd} {Q:VK} (ir:aq9 K ι0 H0 J it) (tg:alo K n g t) (S:SRep K ι0 H0 r rd) (Rh:HRep K ι0 H0 h0) (hl:it.xs.length≤LINE)
  (o:out K E (zp K) ι0 H0 ((mapR it.ck (a7h t fe rd) it.xs h0).bind (acx [])) Q):as7 J (List.replicate n none++r) g (lift K E (zp K) fe) Q H0:=by
 refine ⟨fun i m ys H=>m=it.xs.length - i∧i≤it.xs.length∧ys.length≤i∧∃ ι h yd,Gr ι0 H0 ι H∧HRep K ι H h∧Reps K ι H ys yd∧out K E (zp K) ι H ((mapR it.ck (a7h t fe rd) (it.xs.drop i) h).bind (acx yd)) Q,
  ⟨_,rfl,Nat.zero_le _,Nat.zero_le _,ι0,h0,[], .refl _ _,Rh, .nil,o⟩,?_⟩
 rintro i m ys H ⟨rfl,hi,hy,ι,h,yd,g0,Rh,ry,o⟩
 by_cases hlt:i<it.xs.length
 ·rw [List.drop_eq_getElem_cons hlt,mapR] at o
  by_cases hc:it.ck h
  ·rw [if_pos hc,ash] at o
   obtain ⟨go,yl⟩:=(ir ι H h g0 Rh hc).1 i _ (List.getElem?_eq_getElem hlt)
   refine .inr ⟨go,Nat.lt_of_le_of_lt hy (Nat.lt_of_lt_of_le hlt (ll hl)),fun x H' y=>?_⟩
   obtain ⟨g1,r1,hr1⟩:=yl x H' y
   have o':=a3z o g1
   cases ht:t it.xs[i] with
   | none=>simp only [a7h,ht] at o';exact o'.elim
   | some ts =>
    simp only [a7h,ht] at o'
    refine tg ι H' x _ ts r _ r1 ht fun us hus su=>⟨aga hus,ι,ts++rd,h,a66 su (S.mono (g0.trans g1)),hr1,gj o' fun d2 h2 ι2 H2 u g2 r2 hr2 o2=>?_⟩
    refine ⟨it.xs.length - (i+1),by omega,rfl,hlt,by simp;omega,ι2,h2,yd++[d2],(g0.trans g1).trans g2,hr2,((ry.mono g1).mono g2).snoc r2,o2⟩
  ·rw [if_neg hc] at o;exact o.elim
 ·have e:i=it.xs.length:=by omega
  subst e
  rw [List.drop_eq_nil_of_le (Nat.le_refl _),mapR] at o
  by_cases hc:it.ck h
  ·rw [if_pos hc] at o
   refine .inl ⟨(ir ι H h g0 Rh hc).2,yr (E:=E) ry Rh ?_⟩
   simpa [R.bind,acx] using o
  ·rw [if_neg hc] at o;exact o.elim
theorem agb {K:PySem.W.Frag} {E:XD} {ι0:List Addr} {H0:Hp} {J:It} {it:Itm} {g:TG} {t:D→Option Sd} {c:ST} {fe:SE} {n:Nat} {r:St} {rd:Sd} {h0:Hd} {Q:VK} (ir:aq9 K ι0 H0 J it) (tg:alo K n g t) (S:SRep K ι0 H0 r rd) (Rh:HRep K ι0 H0 h0) (hl:it.xs.length≤LINE)
  (o:out K E (zp K) ι0 H0 ((ain it.ck (abt t c fe rd) it.xs h0).bind (acx [])) Q):ag6 J (List.replicate n none++r) g (lift K E ant c) (lift K E (zp K) fe) Q H0:=by
 refine ⟨fun i m ys H=>m=it.xs.length - i∧i≤it.xs.length∧ys.length≤i∧∃ ι h yd,Gr ι0 H0 ι H∧HRep K ι H h∧Reps K ι H ys yd∧out K E (zp K) ι H ((ain it.ck (abt t c fe rd) (it.xs.drop i) h).bind (acx yd)) Q,
  ⟨_,rfl,Nat.zero_le _,Nat.zero_le _,ι0,h0,[], .refl _ _,Rh, .nil,o⟩,?_⟩
 rintro i m ys H ⟨rfl,hi,hy,ι,h,yd,g0,Rh,ry,o⟩
 by_cases hlt:i<it.xs.length
 ·rw [List.drop_eq_getElem_cons hlt,ain] at o
  by_cases hc:it.ck h
  ·rw [if_pos hc,aws] at o
   obtain ⟨go,yl⟩:=(ir ι H h g0 Rh hc).1 i _ (List.getElem?_eq_getElem hlt)
   refine .inr ⟨go,Nat.lt_of_le_of_lt hy (Nat.lt_of_lt_of_le hlt (ll hl)),fun x H' y=>?_⟩
   obtain ⟨g1,r1,hr1⟩:=yl x H' y
   have o':=a3z o g1
   cases ht:t it.xs[i] with
   | none=>simp only [abt,ht] at o';exact o'.elim
   | some ts =>
    simp only [abt,ht] at o'
    rw [R.bind_assoc] at o'
    refine tg ι H' x _ ts r _ r1 ht fun us hus su=>⟨aga hus,ι,ts++rd,h,a66 su (S.mono (g0.trans g1)),hr1,gj o' fun b h1 ι1 H1 b' g2 rb hrb ob=>?_⟩
    have su1:SRep K ι1 H1 (us++r) (ts++rd):=(a66 su (S.mono (g0.trans g1))).mono g2
    cases rb
    cases b with
    | true =>
     rw [if_pos rfl] at ob ⊢
     rw [R.bind_assoc] at ob
     refine ⟨ι1,ts++rd,h1,su1,hrb,gj ob fun d2 h2 ι2 H2 u g3 r2 hr2 o2=>?_⟩
     refine ⟨it.xs.length - (i+1),by omega,rfl,hlt,by simp;omega,ι2,h2,yd++[d2],((g0.trans g1).trans g2).trans g3,hr2,(((ry.mono g1).mono g2).mono g3).snoc r2,?_⟩
     simpa [R.bind] using o2
    | false =>
     rw [if_neg Bool.false_ne_true] at ob ⊢
     refine ⟨it.xs.length - (i+1),by omega,rfl,hlt,by omega,ι1,h1,yd,(g0.trans g1).trans g2,hrb,(ry.mono g1).mono g2,?_⟩
     simpa [R.bind] using ob
  ·rw [if_neg hc] at o;exact o.elim
 ·have e:i=it.xs.length:=by omega
  subst e
  rw [List.drop_eq_nil_of_le (Nat.le_refl _),ain] at o
  by_cases hc:it.ck h
  ·rw [if_pos hc] at o
   refine .inl ⟨(ir ι H h g0 Rh hc).2,yr (E:=E) ry Rh ?_⟩
   simpa [R.bind,acx] using o
  ·rw [if_neg hc] at o;exact o.elim
section
variable {X:Cx} {E:XD} {elt tg iter cnd:Expr} {scope:Scope} {pos:Pos} {cl:List (Str × Addr)} {ts fr:List Str} {ix:List Nat} {fi:SI} {g:TG} {t:D→Option Sd} {fe:SE} {fc:ST}
theorem a0e (hc:X.calm=true) (S:CSc X scope cl ts fr ix) (hi:MI X E tg iter fi) (hg:∀ C fp s H,PG (cxC X (ts++fr) scope cl C fp s H) tg g) (ht:alo X.K ts.length g t) (he:∀ C fp s H,ME (cxC X (ts++fr) scope cl C fp s H) E elt fe)
  (hs:∀ x,foldedSetIterable iter X.env x=pure x:=by intro _;rfl):ME X E (.ListComp elt [⟨tg,iter,[],0⟩] scope pos) (uy fi t fe ix):=by
 refine PE.weak (aje (te:=lift X.K E (zp X.K) fe) hc S hi hg he hs) fun σ H Q ⟨ι,τ,h,Sr,Rh,o⟩=>?_
 refine ⟨ι,τ,h,Sr,Rh,gj o fun it h1 ι1 H1 J g1 r1 hr1 o1=>?_⟩
 by_cases hl:it.xs.length≤LINE
 ·rw [if_pos hl] at o1
  exact acz r1 ht (a8q (Sr.mono g1) ix) hr1 hl o1
 ·rw [if_neg hl] at o1;exact o1.elim
end
mutual
def clo (n:Nat):D→Prop
 | .tup xs=>clos n xs
 | .rol xs=>clos n xs
 | .rod _ xs=>clos n xs
 | .scr xs=>clos n xs
 | .rdT _ xs=>clos n xs
 | .ref i=>i<n
 | _=>True
def clos (n:Nat):List D→Prop
 | []=>True
 | x::xs=>clo n x∧clos n xs
end
mutual
theorem Rep.clo {K:PySem.W.Frag} {ι:List Addr} {H:Hp}:∀ {v:V} {d:D},Rep K ι H v d→clo ι.length d
 | _,_, .non=>by simp [MI.clo]
 | _,_, .bl b=>by simp [MI.clo]
 | _,_, .int i=>by simp [MI.clo]
 | _,_, .str x=>by simp [MI.clo]
 | _,_, .ty n=>by simp [MI.clo]
 | _,_, .tup h r=>by simp only [MI.clo];exact Reps.clo r
 | _,_, .rol h r=>by simp only [MI.clo];exact Reps.clo r
 | _,_, .ref h=>by simp only [MI.clo];exact (List.getElem?_eq_some_iff.mp h).1
 | _,_, .rod h e r=>by simp only [MI.clo];exact Reps.clo r
 | _,_, .scr h r=>by simp only [MI.clo];exact Reps.clo r
 | _,_, .rdT h e r=>by simp only [MI.clo];exact Reps.clo r
 | _,_, .exc h hc hn=>by simp [MI.clo]
theorem Reps.clo {K:PySem.W.Frag} {ι:List Addr} {H:Hp}:∀ {vs:List V} {ds:List D},Reps K ι H vs ds→clos ι.length ds
 | _,_, .nil=>by simp [MI.clos]
 | _,_, .cons r rs=>by simp only [MI.clos];exact ⟨Rep.clo r,Reps.clo rs⟩
end
mutual
theorem Rep.cut {K:PySem.W.Frag} {ι:List Addr} {H:Hp} {n:Nat}:∀ {v:V} {d:D},Rep K ι H v d→clo n d→Rep K (ι.take n) H v d
 | _,_, .non,_=>.non
 | _,_, .bl b,_=>.bl b
 | _,_, .int i,_=>.int i
 | _,_, .str x,_=>.str x
 | _,_, .ty n,_=>.ty n
 | _,_, .tup h r,c=>.tup h (Reps.cut r (by simpa only [MI.clo] using c))
 | _,_, .rol h r,c=>.rol h (Reps.cut r (by simpa only [MI.clo] using c))
 | _,_, .ref h,c=>.ref (by simp only [MI.clo] at c;rw [List.getElem?_take,if_pos c];exact h)
 | _,_, .rod h e r,c=>.rod h e (Reps.cut r (by simpa only [MI.clo] using c))
 | _,_, .scr h r,c=>.scr h (Reps.cut r (by simpa only [MI.clo] using c))
 | _,_, .rdT h e r,c=>.rdT h e (Reps.cut r (by simpa only [MI.clo] using c))
 | _,_, .exc h hc hn,_=>.exc h hc hn
theorem Reps.cut {K:PySem.W.Frag} {ι:List Addr} {H:Hp} {n:Nat}:∀ {vs:List V} {ds:List D},Reps K ι H vs ds→clos n ds→Reps K (ι.take n) H vs ds
 | _,_, .nil,_=>.nil
 | _,_, .cons r rs,c=>by simp only [MI.clos] at c;exact .cons (Rep.cut r c.1) (Reps.cut rs c.2)
end
def a1r (n:Nat):O→Prop
 | .lst xs=>clos n xs
 | .dK kvs=>clos n (kvs.map (·.2))
 | .dT kvs=>clos n (kvs.map (·.2))
def asi (n:Nat) (h:Hd):Prop:=∀ o∈h,a1r n o
theorem ORep.clo {K:PySem.W.Frag} {ι:List Addr} {H:Hp} {a:Addr} {o:O} (r:ORep K ι H a o):a1r ι.length o:=by
 cases o with
 | lst xs=>obtain ⟨vs,_,r⟩:=r;exact r.clo
 | dK kvs=>obtain ⟨us,_,_,r⟩:=r;exact r.clo
 | dT kvs=>obtain ⟨us,_,_,r⟩:=r;exact r.clo
theorem ORep.cut {K:PySem.W.Frag} {ι:List Addr} {H:Hp} {a:Addr} {o:O} {n:Nat} (r:ORep K ι H a o) (c:a1r n o):ORep K (ι.take n) H a o:=by
 cases o with
 | lst xs=>obtain ⟨vs,h,r⟩:=r;exact ⟨vs,h,r.cut c⟩
 | dK kvs=>obtain ⟨us,h,e,r⟩:=r;exact ⟨us,h,e,r.cut c⟩
 | dT kvs=>obtain ⟨us,h,e,r⟩:=r;exact ⟨us,h,e,r.cut c⟩
theorem HRep.clo {K:PySem.W.Frag} {ι:List Addr} {H:Hp} {h:Hd} (r:HRep K ι H h):asi h.length h:=fun o ho=>by
 obtain ⟨i,hi⟩:=List.getElem?_of_mem ho
 obtain ⟨a,_,q⟩:=r.addr hi
 rw [← r.len];exact q.clo
theorem HRep.cut {K:PySem.W.Frag} {ι:List Addr} {H:Hp} {h g:Hd} (r:HRep K ι H (h++g)) (c:asi h.length h):HRep K (ι.take h.length) H h:=by
 refine ⟨r.nd.sublist (List.take_sublist _ _),?_,fun i a o e1 e2=>?_⟩
 ·have:=r.len
  rw [List.length_append] at this
  rw [List.length_take];omega
 ·have hi:i<h.length:=(List.getElem?_eq_some_iff.mp e2).1
  rw [List.getElem?_take,if_pos hi] at e1
  exact (r.obj i a o e1 (by rw [List.getElem?_append_left hi];exact e2)).cut (c o (List.mem_of_getElem? e2))
def X0:XD:=fun _ _ _ _=>False
abbrev SF:=List D→Hd→R D
def qu (K:PySem.W.Frag) (n:Nat) (F:SF):Sp:=fun vs H Q _=>vs.length=n∧∃ ι ds h,Reps K ι H vs ds∧HRep K ι H h∧out K X0 (zp K) ι H (F ds h) Q
def a2b (n:Nat) (ds:List D):Sd:=ds.map some++List.replicate (n - ds.length) none
def o8 (b:SS) (n:Nat) (ds:List D) (h:Hd):R D:=match b (a2b n ds) h with
 | .rt d h1=>.ok d h1
 | .nx _ h1=>.ok .non h1
 | .ex c h1=>.ex c h1
 | _=>.no
def Rf (n:Nat) (r' r:R D):Prop:=match r with
 | .no=>True
 | .ok d h1=>∃ g,r' = .ok d (h1++g)∧(g=[]∨(n≤h1.length∧clo h1.length d∧asi h1.length h1))
 | .ex c h1=>∃ g,r' = .ex c (h1++g)∧(g=[]∨(n≤h1.length∧asi h1.length h1))
theorem Rf.same {n:Nat} {r' r:R D} (h:r'=r):Rf n r' r:=by
 subst h
 cases r' with
 | ok d h1=>exact ⟨[],by simp, .inl rfl⟩
 | ex c h1=>exact ⟨[],by simp, .inl rfl⟩
 | no=>exact True.intro
theorem a7z {K:PySem.W.Frag} {ι:List Addr} {H:Hp} {vs:List V} {ds:List D} {N:List Str} (r:Reps K ι H vs ds):SRep K ι H (start N vs) (a2b N.length ds):=by
 refine a66 ?_ ?_
 ·clear N
  induction r using Reps.rec (motive_1:=fun _ _ _=>True) with
  | nil=>exact acy
  | cons r rs _ ih=>exact aai r ih
  | _=>trivial
 ·rw [r.len]
  exact ⟨by simp,fun i d e=>by rw [List.getElem?_replicate] at e;split at e<;>cases e⟩
theorem alp {ι ι':List Addr} {H H':Hp} {n:Nat} (g:Gr ι H ι' H') (hn:ι.length≤n):Gr ι H (ι'.take n) H':=by
 obtain ⟨m,rfl,hm⟩:=g.pre
 exact ⟨⟨m.take (n - ι.length),by rw [List.take_append,List.take_of_length_le hn],fun a ha=>hm a (List.mem_of_mem_take ha)⟩,g.tup,g.frz,g.oth,g.kp⟩
section
variable {P:Program} {w:World} {K:PySem.W.Frag} {mg:Str→Option Value} {base:Heap}
theorem asj {x qual:Str} {st:Stmt} {f:Addr} {fd:FuncData} {N ps:List Str} {k:Nat} {b:SS} {F:SF} (Fu:Fun K x qual st f fd) (S:FnScope N ps (bf st))
  (hb:∀ (cdv:Value) (A:Around) (outer:List Env) (s:Shared) (H:Hp) (E:XK),Room k (A.deeper (PyProof.Rows.envOfC qual (bf st) s.heap.objs.size f cdv))→MSs (a1k CX0 P w K mg base N qual (bf st) f cdv A outer s H E).nox X0 (j9 st) b)
  (hF:∀ ds h,ds.length=ps.length→clos h.length ds→asi h.length h→Rf h.length (o8 b N.length ds h) (F ds h)):FnOk P w K mg base CX0 (k+1) f fd ps (qu K ps.length F):=by
 refine Fu.ok S (fun vs H Q E h=>h.1) fun cdv A outer s H vs Q E hr h=>⟨_,hb cdv A outer s H E hr,?_⟩
 obtain ⟨hl,ι,ds,h,r,hr',o⟩:=h
 refine ⟨ι,a2b N.length ds,h,a7z r,hr',?_⟩
 have q:=hF ds h (by rw [← r.len];exact hl) (by rw [← hr'.len];exact r.clo) hr'.clo
 unfold o8 at q
 cases hFd:F ds h with
 | no=>rw [hFd] at o;exact o.elim
 | ex c h1 =>
  rw [hFd] at q o
  obtain ⟨g,e,cl⟩:=q
  have fin:∀ ι' H',Gr ι H ι' H'→HRep K ι' H' (h1++g)→X0 c ι' H' (h1++g):=fun ι' H' g1 hr1=>by
   rcases cl with rfl | ⟨hn,c2⟩
   ·rw [List.append_nil] at hr1
    exact o ι' H' g1 hr1
   ·exact o (ι'.take h1.length) H' (alp g1 (by rw [hr'.len];exact hn)) (hr1.cut c2)
  cases hbd:b (a2b N.length ds) h with
  | ex c' h' =>
   rw [hbd] at e
   injection e with e1 e2
   subst e1 e2
   exact fin
  | _=>rw [hbd] at e;cases e
 | ok d h1 =>
  rw [hFd] at q o
  obtain ⟨g,e,cl⟩:=q
  have fin:∀ ι' H' v,Gr ι H ι' H'→Rep K ι' H' v d→HRep K ι' H' (h1++g)→Q v H':=fun ι' H' v g1 r1 hr1=>by
   rcases cl with rfl | ⟨hn,c1,c2⟩
   ·rw [List.append_nil] at hr1
    exact o ι' H' v g1 r1 hr1
   ·exact o (ι'.take h1.length) H' v (alp g1 (by rw [hr'.len];exact hn)) (r1.cut c1) (hr1.cut c2)
  cases hbd:b (a2b N.length ds) h with
  | rt d' h' =>
   rw [hbd] at e
   injection e with e1 e2
   subst e1 e2
   exact fin
  | nx τ' h' =>
   rw [hbd] at e
   injection e with e1 e2
   subst e1 e2
   exact fun ι' H' σ' g1 S1 hr1=>fin ι' H' .non g1 .non hr1
  | _=>rw [hbd] at e;cases e
def sN (n:Nat) (F:SF):SF:=fun ds h=>if ds.length=n then F ds h else .no
theorem asl {n:Nat} {F:SF} {ι:List Addr} {H:Hp} {vs:List V} {ds:List D} {h:Hd} {Q:VK} (r:Reps K ι H vs ds) (hr:HRep K ι H h) (o:out K X0 (zp K) ι H (sN n F ds h) Q) (E:XK):qu K n F vs H Q E:=by
 unfold sN at o
 split at o
 ·rename_i hl
  exact ⟨by rw [r.len];exact hl,ι,ds,h,r,hr,o⟩
 ·exact o.elim
end
theorem ao2 {X:Cx} {k n:Nat} {f:Addr} {fd:FuncData} {ps:List Str} {x:Str} {F:SF} {ka:SA} {e:Expr} {es:List Expr} {p pos:Pos} (G:Dn X.prog X.w X.K X.mg X.base k x ps (qu X.K n F) f fd) (hr:Room k X.A) (hg:Gl X x) (ha:MA X X0 (e::es) ka)
  (hdb:(x == ("__debug__" : Str))=false:=by decide) (he:starEach (e::es) X.env=(false,eval e X.env)::starEach es X.env:=by rfl) (hpl:(backTo pos (starEach es X.env)).any (·.1)=false:=by rfl):ME X X0 (.Call (.Name x p) (e::es) [] pos) (sA (sN n F) ka):=by
 refine PE.weak (a8e G.ok hr hg G.m G.kp G.b .nil aj7 ha hdb he hpl) fun σ H Q ⟨ι,τ,h,S,Rh,o⟩=>?_
 refine ⟨ι,τ,h,S,Rh,gj o fun ds h1 ι1 H1 vs g1 r1 hr1 o1=>?_⟩
 rw [List.append_nil]
 exact asl r1 hr1 o1 _
end MI
namespace MI
open PySem PySem.Spec L2
section
variable {K:PySem.W.Frag} {E:XD} {ι:List Addr} {H:Hp} {h:Hd} {Q:VK}
theorem ans {d:D} {v:V} (o:out K E (zp K) ι H (.ok d h) Q) (r:Rep K ι H v d) (hr:HRep K ι H h):Q v H:=o ι H v (.refl _ _) r hr
theorem HRep.lst (hr:HRep K ι H h) {i:Nat} {a:Addr} {xs:List D} (e:ι[i]? = some a) (hi:h[i]? = some (.lst xs)):∃ vs,H a=some (.lst vs)∧Reps K ι H vs xs:=hr.obj i a _ e hi
end
def a7f:D→D→Hd→R D
 | .int i, .int j,h=>.ok (.int (i - j)) h
 | _,_,_=>.no
open Classical in
noncomputable def asm:D→D→Hd→R D
 | .int i, .int j,h=>if CMul i j then .ok (.int (i*j)) h else .no
 | .ref i, .int k,h=>match h[i]? with
  | some (.lst xs)=>if (-(2 ^ 63)≤k∧k<2 ^ 63)∧xs.length*k.toNat≤LINE then .ok (.ref h.length) (h++[.lst (List.replicate k.toNat xs).flatten]) else .no
  | _=>.no
 | _,_,_=>.no
def a5q:D→D→Hd→R D
 | .int i, .int j,h=>if 0<j then .ok (.int (i % j)) h else .no
 | _,_,_=>.no
def aef:D→D→Hd→R D
 | .int i, .int j,h=>if 0<j∧j<1073741824 then .ok (.int (i / j)) h else .no
 | _,_,_=>.no
def agc:D→D→Hd→R D
 | .int i, .int j,h=>if 0≤j∧j≤1000000∧i.natAbs<2 ^ 64 then .ok (.int (i ^ j.toNat)) h else .no
 | _,_,_=>.no
section
variable {X:Cx} {K:PySem.W.Frag}
theorem ao3:a2n K a7f (rI0 fun i j=>.int (i - j)):=by
 intro E ι H h x y dx dy Q rx ry hr o
 cases rx with
 | int i =>
  cases ry with
  | int j=>exact ⟨i,j,rfl,rfl,ans o (.int _) hr⟩
  | _=>exact o.elim
 | _=>exact o.elim
theorem ao4:a2n K a5q (rI (fun _ j=>0<j) fun i j=>.int (i % j)):=by
 intro E ι H h x y dx dy Q rx ry hr o
 cases rx with
 | int i =>
  cases ry with
  | int j =>
   by_cases hc:0<j
   ·simp only [a5q,if_pos hc] at o;exact ⟨i,j,rfl,rfl,hc,ans o (.int _) hr⟩
   ·simp only [a5q,if_neg hc] at o;exact o.elim
  | _=>exact o.elim
 | _=>exact o.elim
theorem ao5:a2n K aef (rI axp fun i j=>.int (i / j)):=by
 intro E ι H h x y dx dy Q rx ry hr o
 cases rx with
 | int i =>
  cases ry with
  | int j =>
   by_cases hc:0<j∧j<1073741824
   ·simp only [aef,if_pos hc] at o;exact ⟨i,j,rfl,rfl,hc,ans o (.int _) hr⟩
   ·simp only [aef,if_neg hc] at o;exact o.elim
  | _=>exact o.elim
 | _=>exact o.elim
theorem ao6:a2n K agc (rI axq fun i j=>.int (i ^ j.toNat)):=by
 intro E ι H h x y dx dy Q rx ry hr o
 cases rx with
 | int i =>
  cases ry with
  | int j =>
   by_cases hc:0≤j∧j≤1000000∧i.natAbs<2 ^ 64
   ·simp only [agc,if_pos hc] at o;exact ⟨i,j,rfl,rfl,hc,ans o (.int _) hr⟩
   ·simp only [agc,if_neg hc] at o;exact o.elim
  | _=>exact o.elim
 | _=>exact o.elim
theorem agd:a2n K asm (fun x y H Q=>rI CMul (fun i j=>.int (i*j)) x y H Q∨avk x y H Q):=by
 intro E ι H h x y dx dy Q rx ry hr o
 cases rx with
 | int i =>
  cases ry with
  | int j =>
   by_cases hc:CMul i j
   ·simp only [asm,if_pos hc] at o;exact .inl ⟨i,j,rfl,rfl,hc,ans o (.int _) hr⟩
   ·simp only [asm,if_neg hc] at o;exact o.elim
  | _=>exact o.elim
 | @ref a i ha =>
  cases ry with
  | int k =>
   simp only [asm] at o
   split at o
   ·rename_i xs hx
    obtain ⟨vs,h3,h4⟩:=hr.lst ha hx
    split at o
    ·rename_i hc
     exact .inr ⟨a,k,vs,rfl,rfl,h3,hc.1.1,hc.1.2,ll (by rw [h4.len];exact hc.2),yr (h4.flat _) hr o⟩
    ·exact o.elim
   ·exact o.elim
  | _=>exact o.elim
 | _=>exact o.elim
variable {E:XD} {a b e:Expr} {es:List Expr} {fa fb:SE} {ka:SA} {pos:Pos}
theorem a6n (ha:ME X E a fa) (hb:ME X E b fb):ME X E (.BinOp a .Sub b pos) (s2 a7f fa fb):=abq arb ao3 ha hb
theorem a3e (ha:ME X E a fa) (hb:ME X E b fb):ME X E (.BinOp a .Mod b pos) (s2 a5q fa fb):=abq arc ao4 ha hb
theorem age (ha:ME X E a fa) (hb:ME X E b fb):ME X E (.BinOp a .FloorDiv b pos) (s2 aef fa fb):=abq amx ao5 ha hb
theorem alq (ha:ME X E a fa) (hb:ME X E b fb):ME X E (.BinOp a .Pow b pos) (s2 agc fa fb):=abq ard ao6 ha hb
def a4r:D→Hd→R D
 | .int i,h=>.ok (.int (-i)) h
 | _,_=>.no
theorem zu (ha:ME X E a fa):ME X E (.UnaryOp .USub a pos) (s1 a4r fa):=awp arf (fun E ι H h x dx Q rx hr o=>by
 cases rx with
 | int i=>exact ⟨i,rfl,ans o (.int _) hr⟩
 | _=>exact o.elim) ha
def gLt:D→D→Hd→R D
 | .int i, .int j,h=>.ok (.bl (decide (i<j))) h
 | .str i, .str j,h=>.ok (.bl (decide (i.cps.toList<j.cps.toList))) h
 | _,_,_=>.no
def gLe:D→D→Hd→R D
 | .int i, .int j,h=>.ok (.bl (decide (i≤j))) h
 | .str i, .str j,h=>.ok (.bl (!decide (j.cps.toList<i.cps.toList))) h
 | _,_,_=>.no
def gGt:D→D→Hd→R D
 | .int i, .int j,h=>.ok (.bl (decide (j<i))) h
 | _,_,_=>.no
def gGe:D→D→Hd→R D
 | .int i, .int j,h=>.ok (.bl (decide (j≤i))) h
 | _,_,_=>.no
theorem a5r:a2n K gLt (fun x y H Q=>rI0 (fun i j=>.bl (decide (i<j))) x y H Q∨∃ i j,x = .str i∧y = .str j∧Q (.bl (decide (i.cps.toList<j.cps.toList))) H):=by
 intro E ι H h x y dx dy Q rx ry hr o
 cases rx with
 | int i =>
  cases ry with
  | int j=>exact .inl ⟨i,j,rfl,rfl,ans o (.bl _) hr⟩
  | _=>exact o.elim
 | str i =>
  cases ry with
  | str j=>exact .inr ⟨i,j,rfl,rfl,ans o (.bl _) hr⟩
  | _=>exact o.elim
 | _=>exact o.elim
theorem a5s:a2n K gLe (fun x y H Q=>rI0 (fun i j=>.bl (decide (i≤j))) x y H Q∨∃ i j,x = .str i∧y = .str j∧Q (.bl (!decide (j.cps.toList<i.cps.toList))) H):=by
 intro E ι H h x y dx dy Q rx ry hr o
 cases rx with
 | int i =>
  cases ry with
  | int j=>exact .inl ⟨i,j,rfl,rfl,ans o (.bl _) hr⟩
  | _=>exact o.elim
 | str i =>
  cases ry with
  | str j=>exact .inr ⟨i,j,rfl,rfl,ans o (.bl _) hr⟩
  | _=>exact o.elim
 | _=>exact o.elim
theorem a6o:a2n K gGt (rI0 fun i j=>.bl (decide (j<i))):=by
 intro E ι H h x y dx dy Q rx ry hr o
 cases rx with
 | int i =>
  cases ry with
  | int j=>exact ⟨i,j,rfl,rfl,ans o (.bl _) hr⟩
  | _=>exact o.elim
 | _=>exact o.elim
theorem asn:a2n K gGe (rI0 fun i j=>.bl (decide (j≤i))):=by
 intro E ι H h x y dx dy Q rx ry hr o
 cases rx with
 | int i =>
  cases ry with
  | int j=>exact ⟨i,j,rfl,rfl,ans o (.bl _) hr⟩
  | _=>exact o.elim
 | _=>exact o.elim
def a7i:D→Bool
 | .non=>true
 | _=>false
theorem ajk {ι:List Addr} {H:Hp} {x:V} {d:D} (r:Rep K ι H x d):decide (x = .non)=a7i d:=by cases r<;>simp [a7i]
def gIs:D→D→Hd→R D
 | x, .non,h=>.ok (.bl (a7i x)) h
 | .bl i, .bl j,h=>.ok (.bl (i == j)) h
 | _,_,_=>.no
def alr:D→D→Hd→R D
 | x, .non,h=>.ok (.bl (!a7i x)) h
 | .bl i, .bl j,h=>.ok (.bl (i != j)) h
 | _,_,_=>.no
theorem aso:a2n K gIs (fun x y H Q=>(y = .non∧Q (.bl (decide (x = .non))) H)∨∃ i j,x = .bl i∧y = .bl j∧Q (.bl (i == j)) H):=by
 intro E ι H h x y dx dy Q rx ry hr o
 cases ry with
 | non=>exact .inl ⟨rfl,by rw [ajk rx];simp only [gIs] at o;exact ans o (.bl _) hr⟩
 | bl j =>
  cases rx with
  | bl i=>exact .inr ⟨i,j,rfl,rfl,ans o (.bl _) hr⟩
  | _=>exact o.elim
 | _=>cases rx<;>exact o.elim
def a3l:D→Bool
 | .non=>true | .bl _=>true | .int _=>true | .str _=>true
 | _=>false
def eqF:D→D→Bool
 | .non, .non=>true
 | .bl i, .bl j=>i == j
 | .int i, .int j=>i == j
 | .str i, .str j=>i == j
 | .int i, .bl j=>i == (if j then 1 else 0)
 | .bl i, .int j=>(if i then 1 else 0) == j
 | _,_=>false
end
end MI
namespace MI
open PySem PySem.Spec L2
section
variable {X:Cx} {K:PySem.W.Frag} {E:XD} {a b e o:Expr} {es:List Expr} {fa fb:SE} {ka:SA} {pos:Pos}
def a1a (d:D) (h:Hd):Option (List D):=match d with
 | .tup xs=>some xs
 | .rol xs=>some xs
 | .ref i=>match h[i]? with | some (.lst xs)=>some xs | _=>none
 | _=>none
def gIx (x y:D) (h:Hd):R D:=match y with
 | .int i=>(match x with
  | .str z=>if z.length≤LINE then (match atI z.cps.toList i with | some c=>.ok (.str ⟨#[c]⟩) h | none=>.no) else .no
  | x=>match a1a x h with
   | some xs=>(match atI xs i with | some d=>.ok d h | none=>.no)
   | none=>.no)
 | _=>.no
theorem ajl {ι:List Addr} {H:Hp} {vs:List V} {xs:List D} {i:Int} {d:D} (r:Reps K ι H vs xs) (e:atI xs i=some d):∃ v,atI vs i=some v∧Rep K ι H v d:=by
 unfold atI at e ⊢
 rw [r.len]
 cases hx:ixN xs.length i with
 | none=>rw [hx] at e;cases e
 | some j=>rw [hx] at e;exact r.get e
theorem asp:a2n K gIx (rIx K):=by
 intro E ι H h x y dx dy Q rx ry hr o
 cases ry with
 | int i =>
  have go:∀ {p:Addr} {vs:List V} {xs:List D},Reps K ι H vs xs→out K E (zp K) ι H (match atI xs i with | some d=>.ok d h | none=>.no) Q→∃ v,atI vs i=some v∧Q v H:=fun {p vs xs} r o=>by
   cases he:atI xs i with
   | none=>rw [he] at o;exact o.elim
   | some d =>
    rw [he] at o
    obtain ⟨v,h1,h2⟩:=ajl r he
    exact ⟨v,h1,ans o h2 hr⟩
  cases rx with
  | str z =>
   by_cases hc:z.length≤LINE
   ·simp only [gIx,if_pos hc] at o
    cases he:atI z.cps.toList i with
    | none=>rw [he] at o;exact o.elim
    | some c=>rw [he] at o;exact .inr (.inr ⟨z,i,c,rfl,rfl,ll hc,he,ans o (.str _) hr⟩)
   ·simp only [gIx,if_neg hc] at o;exact o.elim
  | @tup p vs xs hp r =>
   simp only [gIx,a1a] at o
   obtain ⟨v,h1,h2⟩:=go (p:=p) r o
   exact .inr (.inl ⟨p,vs,i,v,rfl,rfl,SqT.of hp,h1,h2⟩)
  | @rol p vs xs hp r =>
   simp only [gIx,a1a] at o
   obtain ⟨v,h1,h2⟩:=go (p:=p) r o
   exact .inl ⟨p,vs,i,v,rfl,rfl,hp.l,h1,h2⟩
  | @ref p j hp =>
   obtain ⟨ob,e1,e2⟩:=hr.at hp
   cases ob with
   | lst xs =>
    simp only [gIx,a1a,e1] at o
    obtain ⟨vs,h3,h4⟩:=e2
    obtain ⟨v,h1,h2⟩:=go (p:=p) h4 o
    exact .inl ⟨p,vs,i,v,rfl,rfl,SqL.of h3,h1,h2⟩
   | dK _=>simp only [gIx,a1a,e1] at o;exact o.elim
   | dT _=>simp only [gIx,a1a,e1] at o;exact o.elim
  | _=>exact o.elim
 | _=>exact o.elim
theorem j7 (ha:ME X E a fa) (hb:ME X E b fb) (hp:abi b):ME X E (.Subscript a b pos) (s2 gIx fa fb):=awq arq asp ha hb hp
abbrev SO:=Sd→Hd→R (Option Int)
abbrev MO (X:Cx) (E:XD) (e:Option Expr) (f:SO):Prop:=PO X e (lift X.K E az0 f)
def oN:SO:=fun _ h=>.ok none h
def oS (f:SE):SO:=fun τ h=>(f τ h).bind fun d h1=>match d with | .int i=>.ok (some i) h1 | _=>.no
theorem PO.weak {e:Option Expr} {t t':St→Hp→(Option Int→Hp→Prop)→Prop} (h:PO X e t) (i:∀ σ H Q,t' σ H Q→t σ H Q):PO X e t':=fun pins s σ H Q I q=>h pins s σ H Q I (i _ _ _ q)
theorem ql:MO X E none oN:=PO.weak anf fun σ H Q ⟨ι,τ,h,S,Rh,o⟩=>o ι H none (.refl _ _) rfl Rh
theorem p6 (he:ME X E e fa):MO X E (some e) (oS fa):=by
 refine PO.weak (ang he) fun σ H Q ⟨ι,τ,h,S,Rh,o⟩=>?_
 refine ⟨ι,τ,h,S,Rh,gj o fun d h1 ι1 H1 v g1 r1 hr1 o1=>?_⟩
 cases r1 with
 | int i=>exact ⟨i,rfl,o1 ι1 H1 _ (.refl _ _) rfl hr1⟩
 | _=>exact o1.elim
def whole (n:Nat) (lo hi:Option Int):Prop:=HT.sIx n 0 lo=0∧HT.sIx n n hi=n
instance (n:Nat) (lo hi:Option Int):Decidable (whole n lo hi):=by unfold whole;exact inferInstance
def gSl (d:D) (lo hi:Option Int) (h:Hd):R D:=match d with
 | .str z=>if z.length≤LINE then .ok (.str ⟨(a4o z.cps.toList lo hi).toArray⟩) h else .no
 | .tup xs=>if ¬ whole xs.length lo hi then .ok (.tup (a4o xs lo hi)) h else .no
 | .rol xs=>.ok (.ref h.length) (h++[.lst (a4o xs lo hi)])
 | .scr xs=>.ok (.ref h.length) (h++[.lst (a4o xs lo hi)])
 | .ref i=>match h[i]? with | some (.lst xs)=>.ok (.ref h.length) (h++[.lst (a4o xs lo hi)]) | _=>.no
 | _=>.no
theorem a4a {ι:List Addr} {H:Hp} {vs:List V} {xs:List D} (r:Reps K ι H vs xs) (lo hi:Option Int):Reps K ι H (alf vs lo hi) (a4o xs lo hi):=by
 unfold alf a4o
 rw [r.len]
 exact (r.drop _).take _
theorem ad0 {ι:List Addr} {H:Hp} {h:Hd} {x:V} {d:D} {lo hi:Option Int} {Q:VK} (rx:Rep K ι H x d) (hr:HRep K ι H h) (o:out K E (zp K) ι H (gSl d lo hi h) Q):awm x lo hi H Q∨awe K x lo hi H Q∨awg K x lo hi H Q:=by
 cases rx with
 | str z =>
  by_cases hc:z.length≤LINE
  ·simp only [gSl,if_pos hc] at o;exact .inl ⟨z,rfl,ll hc,ans o (.str _) hr⟩
  ·simp only [gSl,if_neg hc] at o;exact o.elim
 | @tup p vs xs hp r =>
  by_cases hc:¬ whole xs.length lo hi
  ·simp only [gSl,if_pos hc] at o
   exact .inr (.inl ⟨p,vs,rfl,SqT.of hp,by rw [r.len];exact hc,a1z (a4a r lo hi) hr o⟩)
  ·simp only [gSl,if_neg hc] at o;exact o.elim
 | @rol p vs xs hp r=>exact .inr (.inr ⟨p,vs,rfl,hp.l,yr (a4a r lo hi) hr o⟩)
 | @scr p vs xs hp r=>exact .inr (.inr ⟨p,vs,rfl,hp.l,yr (a4a r lo hi) hr o⟩)
 | @ref p j hp =>
  obtain ⟨ob,e1,e2⟩:=hr.at hp
  cases ob with
  | lst xs =>
   simp only [gSl,e1] at o
   obtain ⟨vs,h3,h4⟩:=e2
   exact .inr (.inr ⟨p,vs,rfl,SqL.of h3,yr (a4a h4 lo hi) hr o⟩)
  | dK _=>simp only [gSl,e1] at o;exact o.elim
  | dT _=>simp only [gSl,e1] at o;exact o.elim
 | _=>exact o.elim
theorem agf {ι:List Addr} {H:Hp} {x:V} {d:D} (r:Rep K ι H x d) (f:a3l d=true):a3g x=true:=by cases r<;>first | rfl | cases f
theorem asq {ι:List Addr} {H:Hp} {x y:V} {d c:D} (r:Rep K ι H x d) (q:Rep K ι H y c):a3l d=true→a3l c=true→eqV x y=eqF d c:=fun f g=>by
 cases r<;>cases q<;>first | rfl | (cases f;done) | (cases g;done)
def inD (x:D) (xs:List D):Bool:=xs.any fun y=>eqF y x
theorem ajm {ι:List Addr} {H:Hp} {vs:List V} {xs:List D} (r:Reps K ι H vs xs) (f:xs.all a3l=true):vs.all a3g=true:=by
 induction r using Reps.rec (motive_1:=fun _ _ _=>True) with
 | nil=>rfl
 | cons r rs _ ih =>
  rw [List.all_cons,Bool.and_eq_true] at f ⊢
  exact ⟨agf r f.1,ih f.2⟩
 | _=>trivial
theorem asr {ι:List Addr} {H:Hp} {x:V} {d:D} {vs:List V} {xs:List D} (rx:Rep K ι H x d) (fx:a3l d=true) (r:Reps K ι H vs xs) (f:xs.all a3l=true):inV x vs=inD d xs:=by
 unfold inV inD
 induction r using Reps.rec (motive_1:=fun _ _ _=>True) with
 | nil=>rfl
 | cons r rs _ ih =>
  rw [List.all_cons,Bool.and_eq_true] at f
  rw [List.any_cons,List.any_cons,ih f.2,asq r rx f.1 fx]
 | _=>trivial
def gIn (neg:Bool) (x y:D) (h:Hd):R D:=match y with
 | .str T=>(match x with
  | .str z=>(match z.cps.toList with | [c]=>.ok (.bl (if neg then !decide (c∈T.cps.toList) else decide (c∈T.cps.toList))) h | _=>.no)
  | _=>.no)
 | y=>match a1a y h with
  | some xs=>if a3l x=true∧xs.all a3l=true then .ok (.bl (if neg then !inD x xs else inD x xs)) h else .no
  | none=>.no
theorem one_sign {z:Str} {c:Nat} (h:z.cps.toList=[c]):z=⟨#[c]⟩:=by
 obtain ⟨cps⟩:=z
 congr
 exact Array.ext' (by simpa using h)
theorem als (neg:Bool) {r1:R2} (h1:∀ c T H (Q:VK),Q (.bl (if neg then !decide (c∈T.cps.toList) else decide (c∈T.cps.toList))) H→r1 (.str ⟨#[c]⟩) (.str T) H Q):a2n K (gIn neg) (fun x y H Q=>r1 x y H Q∨rIn K neg x y H Q):=by
 intro E ι H h x y dx dy Q rx ry hr o
 have go:∀ {p:Addr} {vs:List V} {xs:List D},(SqL K H p vs∨SqT K H p vs)→Reps K ι H vs xs→out K E (zp K) ι H (if a3l dx=true∧xs.all a3l=true then .ok (.bl (if neg then !inD dx xs else inD dx xs)) h else .no) Q→rIn K neg x (.ref p) H Q:=fun {p vs xs} sq r o=>by
  split at o
  ·rename_i hc
   exact ⟨p,vs,rfl,sq,agf rx hc.1,ajm r hc.2,by rw [asr rx hc.1 r hc.2];exact ans o (.bl _) hr⟩
  ·exact o.elim
 cases ry with
 | str T =>
  cases rx with
  | str z =>
   simp only [gIn] at o
   split at o
   ·rename_i c hz
    rw [one_sign hz]
    exact .inl (h1 c T H Q (ans o (.bl _) hr))
   ·exact o.elim
  | _=>exact o.elim
 | @tup p vs xs hp r=>simp only [gIn,a1a] at o;exact .inr (go (.inr (SqT.of hp)) r o)
 | @rol p vs xs hp r=>simp only [gIn,a1a] at o;exact .inr (go (.inl hp.l) r o)
 | @ref p j hp =>
  obtain ⟨ob,e1,e2⟩:=hr.at hp
  cases ob with
  | lst xs =>
   simp only [gIn,a1a,e1] at o
   obtain ⟨vs,h3,h4⟩:=e2
   exact .inr (go (.inl (SqL.of h3)) h4 o)
  | dK _=>simp only [gIn,a1a,e1] at o;exact o.elim
  | dT _=>simp only [gIn,a1a,e1] at o;exact o.elim
 | _=>exact o.elim
theorem agg:a2n K (gIn false) (fun x y H Q=>(∃ c T,x = .str ⟨#[c]⟩∧y = .str T∧Q (.bl (decide (c∈T.cps.toList))) H)∨rIn K false x y H Q):=als false fun c T H Q q=>⟨c,T,rfl,rfl,q⟩
theorem agh:a2n K (gIn true) (fun x y H Q=>(∃ c T,x = .str ⟨#[c]⟩∧y = .str T∧Q (.bl (!decide (c∈T.cps.toList))) H)∨rIn K true x y H Q):=als true fun c T H Q q=>⟨c,T,rfl,rfl,q⟩
def um:List D→Hd→R D
 | [.str z],h=>if z.length≤LINE then .ok (.int z.length) h else .no
 | [x],h=>(match a1a x h with | some xs=>.ok (.int xs.length) h | none=>.no)
 | _,_=>.no
theorem jx:acs K um (fun xs H Q=>(∃ p ys,xs=[.ref p]∧(SqL K H p ys∨SqT K H p ys)∧Q (.int ys.length) H)∨∃ z,xs=[.str z]∧z.length≤sizeLine∧Q (.int z.length) H):=by
 intro E ι H h xs ds Q r hr o
 cases r with
 | nil=>exact o.elim
 | cons r rs =>
  cases rs with
  | cons _ _=>exact (show False by cases r<;>exact o).elim
  | nil =>
   cases r with
   | str z =>
    by_cases hc:z.length≤LINE
    ·simp only [um,if_pos hc] at o;exact .inr ⟨z,rfl,ll hc,ans o (.int _) hr⟩
    ·simp only [um,if_neg hc] at o;exact o.elim
   | @tup p vs xs hp r=>simp only [um,a1a] at o;exact .inl ⟨p,vs,rfl, .inr (SqT.of hp),by rw [r.len];exact ans o (.int _) hr⟩
   | @rol p vs xs hp r=>simp only [um,a1a] at o;exact .inl ⟨p,vs,rfl, .inl hp.l,by rw [r.len];exact ans o (.int _) hr⟩
   | @ref p j hp =>
    obtain ⟨ob,e1,e2⟩:=hr.at hp
    cases ob with
    | lst xs =>
     simp only [um,a1a,e1] at o
     obtain ⟨vs,h3,h4⟩:=e2
     exact .inl ⟨p,vs,rfl, .inl (SqL.of h3),by rw [h4.len];exact ans o (.int _) hr⟩
    | dK _=>simp only [um,a1a,e1] at o;exact o.elim
    | dT _=>simp only [um,a1a,e1] at o;exact o.elim
   | _=>exact o.elim
def ass:List D→Hd→R D
 | [.int i],h=>.ok (.int (if i<0 then -i else i)) h
 | _,_=>.no
theorem agi:acs K ass (fun xs H Q=>∃ i,xs=[.int i]∧Q (.int (if i<0 then -i else i)) H):=by
 intro E ι H h xs ds Q r hr o
 unfold ass at o
 split at o
 ·cases r with | cons r rs=>cases r;cases rs;exact ⟨_,rfl,ans o (.int _) hr⟩
 ·exact o.elim
def aeg:List D→Hd→R D
 | [.int i, .int j],h=>.ok (.int (if j > i then j else i)) h
 | _,_=>.no
def a4s:List D→Hd→R D
 | [.int i, .int j],h=>.ok (.int (if j<i then j else i)) h
 | _,_=>.no
theorem ad1:acs K a4s (fun xs H Q=>∃ i j,xs=[.int i, .int j]∧Q (.int (if j<i then j else i)) H):=by
 intro E ι H h xs ds Q r hr o
 unfold a4s at o
 split at o
 ·cases r with | cons r rs=>cases rs with | cons q rs=>cases r;cases q;cases rs;exact ⟨_,_,rfl,ans o (.int _) hr⟩
 ·exact o.elim
def aio:List D→Hd→R D
 | [.int i],h=>.ok (.int i) h
 | [.bl k],h=>.ok (.int (if k then 1 else 0)) h
 | _,_=>.no
theorem agj:acs K aio (fun xs H Q=>(∃ i,xs=[.int i]∧Q (.int i) H)∨∃ k,xs=[.bl k]∧Q (.int (if k then 1 else 0)) H):=by
 intro E ι H h xs ds Q r hr o
 unfold aio at o
 split at o
 ·cases r with | cons r rs=>cases r;cases rs;exact .inl ⟨_,rfl,ans o (.int _) hr⟩
 ·cases r with | cons r rs=>cases r;cases rs;exact .inr ⟨_,rfl,ans o (.int _) hr⟩
 ·exact o.elim
def aqa:List D→Hd→R D
 | [.str x],h=>if x.length=1 then .ok (.int (x.cps.getD 0 0:Nat)) h else .no
 | _,_=>.no
theorem ao7:acs K aqa (fun xs H Q=>∃ x,xs=[.str x]∧x.length=1∧Q (.int (x.cps.getD 0 0:Nat)) H):=by
 intro E ι H h xs ds Q r hr o
 unfold aqa at o
 split at o
 ·split at o
  ·rename_i hc
   cases r with | cons r rs=>cases r;cases rs;exact ⟨_,rfl,hc,ans o (.int _) hr⟩
  ·exact o.elim
 ·exact o.elim
def tyD (d:D) (h:Hd):Option String:=match d with
 | .non=>some "NoneType" | .bl _=>some "bool" | .int _=>some "int" | .str _=>some "str" | .tup _=>some "tuple" | .rol _=>some "list"
 | .ref i=>(match h[i]? with | some (.lst _)=>some "list" | some (.dK _)=>some "dict" | _=>none)
 | _=>none
def a80 (t T:String):Option Bool :=
 if t∈["NoneType", "bool", "int", "str", "tuple", "list", "dict"]∧T∈["bool", "int", "str", "tuple", "list", "dict"] then some (t == T || (t == "bool" && T == "int")) else none
theorem abu {t T:String} {b:Bool} (e:a80 t T=some b):PySem.W.kitOne K (.type t) (.type T)=some b:=by
 unfold a80 at e
 split at e
 ·rename_i h
  obtain ⟨h1,h2⟩:=h
  simp only [List.mem_cons,List.not_mem_nil,or_false] at h1 h2
  rcases h1 with rfl | rfl | rfl | rfl | rfl | rfl | rfl<;>rcases h2 with rfl | rfl | rfl | rfl | rfl | rfl<;>(cases e;rfl)
 ·cases e
def aeh:List D→Hd→R D
 | [x, .ty T],h=>(match tyD x h with | some t=>(match a80 t T with | some b=>.ok (.bl b) h | none=>.no) | none=>.no)
 | _,_=>.no
theorem alu {ι:List Addr} {H:Hp} {h:Hd} {x:V} {d:D} {t:String} (r:Rep K ι H x d) (hr:HRep K ι H h) (e:tyD d h=some t):TyOf K H x (.type t):=by
 cases r with
 | non=>cases e;exact .non
 | bl b=>cases e;exact .bl b
 | int b=>cases e;exact .int b
 | str b=>cases e;exact .str b
 | ty _=>cases e
 | tup hp r=>cases e;exact .tup hp
 | rol hp r=>cases e;obtain ⟨o,hp⟩:=hp;exact .frz hp
 | scr _ _=>cases e
 | rod _ _ _=>cases e
 | rdT _ _ _=>cases e
 | exc _ _ _=>cases e
 | ref hp =>
  obtain ⟨ob,e1,e2⟩:=hr.at hp
  cases ob with
  | lst xs=>simp only [tyD,e1] at e;cases e;obtain ⟨vs,h3,h4⟩:=e2;exact .lst h3
  | dK _=>simp only [tyD,e1] at e;cases e;obtain ⟨vs,h3,h4⟩:=e2;exact .dK h3
  | dT _=>simp only [tyD,e1] at e;cases e
theorem ao8:acs K aeh (fun xs H Q=>∃ x T t b,xs=[x, .ty T]∧TyOf K H x t∧PySem.W.kitOne K t (.type T)=some b∧Q (.bl b) H):=by
 intro E ι H h xs ds Q r hr o
 unfold aeh at o
 split at o
 ·rename_i d T
  cases r with
  | cons r rs =>
   cases rs with
   | cons q rs =>
    cases q;cases rs
    cases ht:tyD d h with
    | none=>rw [ht] at o;exact o.elim
    | some t =>
     rw [ht] at o
     cases hb:a80 t T with
     | none=>simp only [hb] at o;exact o.elim
     | some b =>
      simp only [hb] at o
      exact ⟨_,T, .type t,b,rfl,alu r hr ht,abu hb,ans o (.bl _) hr⟩
 ·exact o.elim
end
end MI
namespace MI
open PySem PySem.Spec L2
section
variable {X:Cx} {K:PySem.W.Frag} {E:XD} {a b e o:Expr} {es:List Expr} {fa fb fo:SE} {ka:SA} {pos apos cpos:Pos} {name:Str} {idn:String}
def awt (K:PySem.W.Frag) (g:D→List D→Hd→R D) (r:V→List V→Hp→VK→Prop):Prop:=∀ (E:XD) ι H h x dx xs ds Q,Rep K ι H x dx→Reps K ι H xs ds→HRep K ι H h→out K E (zp K) ι H (g dx ds h) Q→r x xs H Q
def isL (d:D) (h:Hd):Bool:=match d with | .ref i=>(match h[i]? with | some (.lst _)=>true | _=>false) | .rol _=>true | _=>false
def sML (g:D→List D→Hd→R D) (f:SE) (k:SA):SE:=fun τ h=>(f τ h).bind fun d h1=>if isL d h1=true then (k τ h1).bind fun ds h2=>g d ds h2 else .no
theorem asu {ι:List Addr} {H:Hp} {h:Hd} {x:V} {d:D} (r:Rep K ι H x d) (hr:HRep K ι H h) (e:isL d h=true):tyV K "list" x H:=by
 cases r with
 | rol hp _=>exact .inl ⟨rfl,_,hp.l⟩
 | ref hp =>
  obtain ⟨ob,e1,e2⟩:=hr.at hp
  cases ob with
  | lst xs=>obtain ⟨vs,h3,_⟩:=e2;exact .inl ⟨rfl,_,SqL.of h3⟩
  | dK _=>simp [isL,e1] at e
  | dT _=>simp [isL,e1] at e
 | _=>cases e
theorem abv {r:V→List V→Hp→VK→Prop} {g:D→List D→Hd→R D} (slot:Slot "list" name idn) (hty:typeOf (.builtin idn)=pure (.type "method_descriptor")) (hm:MtR X idn r) (hs:awt X.K g r) (ho:ME X E o fo) (ha:MA X E (e::es) ka)
  (hbase:attributeBase o name X.env (eval o X.env)=eval o X.env:=by rfl)
  (hfew:((backTo cpos (starEach (e::es) X.env)).all (fun x => !x.1) && (backToKw cpos (keywordEach [] X.env)).all (fun x=>x.1.isSome)
   && decide ((e::es).length+([]:List Keyword).length+(if ([]:List Keyword).isEmpty then 0 else 1)<30))=true:=by rfl)
  (hline:(apos.endLine == cpos.line)=true:=by rfl) (hst:starEach (e::es) X.env=(false,eval e X.env)::starEach es X.env:=by rfl) (hplain:(backTo cpos (starEach es X.env)).any (·.1)=false:=by rfl) :
  ME X E (.Call (.Attribute o name apos) (e::es) [] cpos) (sML g fo ka):=by
 refine PE.weak (awh PySem.F.plainAttrs_list slot hty hm ho ha hbase hfew hline hst hplain) fun σ H Q ⟨ι,τ,h,S,Rh,o⟩=>?_
 refine ⟨ι,τ,h,S,Rh,gj o fun d h1 ι1 H1 v g1 r1 hr1 o1=>?_⟩
 by_cases hc:isL d h1=true
 ·rw [if_pos hc] at o1
  refine ⟨asu r1 hr1 hc,ι1,τ,h1,S.mono g1,hr1,gj o1 fun ds h2 ι2 H2 vs g2 r2 hr2 o2=>?_⟩
  exact hs E ι2 H2 h2 v d vs ds Q (r1.mono g2) r2 hr2 o2
 ·rw [if_neg hc] at o1;exact o1.elim
def a8r:D→List D→Hd→R D
 | .ref i,[y],h=>(match h[i]? with | some (.lst xs)=>if xs.length<LINE then .ok .non (h.set i (.lst (xs++[y]))) else .no | _=>.no)
 | _,_,_=>.no
theorem a4t:awt K a8r afv:=by
 intro E ι H h x dx xs ds Q rx r hr o
 unfold a8r at o
 split at o
 ·rename_i i y
  cases rx with
  | @ref p _ hp =>
   cases r with
   | cons r1 rs =>
    cases rs
    split at o
    ·rename_i xs hx
     obtain ⟨vs,h3,h4⟩:=hr.lst hp hx
     split at o
     ·rename_i hc
      exact ⟨p,vs,_,rfl,rfl,h3,by rw [h4.len,anq];exact hc,anw (h4.snoc r1) hr hp .non o⟩
     ·exact o.elim
    ·exact o.elim
 ·exact o.elim
def agk:List D→Option (List Str)
 | []=>some []
 | .str z::r=>(agk r).map (z::·)
 | _::_=>none
theorem ajn {ι:List Addr} {H:Hp}:∀ {vs:List V} {xs:List D} {zs:List Str},Reps K ι H vs xs→agk xs=some zs→vs=zs.map V.str
 | _,_,_, .nil,e=>by cases e;rfl
 | _,_,zs, .cons (d:=d) r rs,e=>by
  cases r with
  | str z =>
   simp only [agk,Option.map_eq_some_iff] at e
   obtain ⟨ws,h1,rfl⟩:=e
   rw [ajn rs h1];rfl
  | _=>cases e
def a2c:List D→Hd→R D
 | [.str z],h=>if z.length≤LINE then .ok (.ref h.length) (h++[.lst (a1d z)]) else .no
 | [x],h=>(match a1a x h with | some xs=>.ok (.ref h.length) (h++[.lst xs]) | none=>.no)
 | _,_=>.no
theorem a4u {ι:List Addr} {H:Hp} (z:Str):Reps K ι H (zr z) (a1d z):=by
 unfold zr a1d
 induction z.cps.toList with
 | nil=>exact .nil
 | cons c cs ih=>exact .cons (.str _) ih
theorem a2o:acs K a2c (fun xs H Q=>(∃ p ys,xs=[.ref p]∧(SqL K H p ys∨SqT K H p ys)∧∀ l,H l=none→Q (.ref l) (upd H l (.lst ys)))∨∃ z,xs=[.str z]∧z.length≤sizeLine∧∀ l,H l=none→Q (.ref l) (upd H l (.lst (zr z)))):=by
 intro E ι H h xs ds Q r hr o
 cases r with
 | nil=>exact o.elim
 | cons r rs =>
  cases rs with
  | cons _ _=>exact (show False by cases r<;>exact o).elim
  | nil =>
   cases r with
   | str z =>
    by_cases hc:z.length≤LINE
    ·simp only [a2c,if_pos hc] at o;exact .inr ⟨z,rfl,ll hc,yr (a4u z) hr o⟩
    ·simp only [a2c,if_neg hc] at o;exact o.elim
   | @tup p vs xs hp r=>simp only [a2c,a1a] at o;exact .inl ⟨p,vs,rfl, .inr (SqT.of hp),yr r hr o⟩
   | @rol p vs xs hp r=>simp only [a2c,a1a] at o;exact .inl ⟨p,vs,rfl, .inl hp.l,yr r hr o⟩
   | @ref p j hp =>
    obtain ⟨ob,e1,e2⟩:=hr.at hp
    cases ob with
    | lst xs =>
     simp only [a2c,a1a,e1] at o
     obtain ⟨vs,h3,h4⟩:=e2
     exact .inl ⟨p,vs,rfl, .inl (SqL.of h3),yr h4 hr o⟩
    | dK _=>simp only [a2c,a1a,e1] at o;exact o.elim
    | dT _=>simp only [a2c,a1a,e1] at o;exact o.elim
   | _=>exact o.elim
def xn:List D→Hd→R D
 | [.str z],h=>if z.length≤LINE then .ok (.tup (a1d z)) h else .no
 | [x],h=>(match a1a x h with | some xs=>.ok (.tup xs) h | none=>.no)
 | _,_=>.no
theorem a0f:acs K xn (fun xs H Q=>(∃ p ys,xs=[.ref p]∧((SqL K H p ys∧∀ l,H l=none→Q (.ref l) (upd H l (.tup ys)))∨(SqT K H p ys∧Q (.ref p) H)))∨∃ z,xs=[.str z]∧z.length≤sizeLine∧∀ l,H l=none→Q (.ref l) (upd H l (.tup (zr z)))):=by
 intro E ι H h xs ds Q r hr o
 cases r with
 | nil=>exact o.elim
 | cons r rs =>
  cases rs with
  | cons _ _=>exact (show False by cases r<;>exact o).elim
  | nil =>
   cases r with
   | str z =>
    by_cases hc:z.length≤LINE
    ·simp only [xn,if_pos hc] at o;exact .inr ⟨z,rfl,ll hc,a1z (a4u z) hr o⟩
    ·simp only [xn,if_neg hc] at o;exact o.elim
   | @tup p vs xs hp r=>simp only [xn,a1a] at o;exact .inl ⟨p,vs,rfl, .inr ⟨SqT.of hp,ans o (.tup hp r) hr⟩⟩
   | @rol p vs xs hp r=>simp only [xn,a1a] at o;exact .inl ⟨p,vs,rfl, .inl ⟨hp.l,a1z r hr o⟩⟩
   | @ref p j hp =>
    obtain ⟨ob,e1,e2⟩:=hr.at hp
    cases ob with
    | lst xs =>
     simp only [xn,a1a,e1] at o
     obtain ⟨vs,h3,h4⟩:=e2
     exact .inl ⟨p,vs,rfl, .inl ⟨SqL.of h3,a1z h4 hr o⟩⟩
    | dK _=>simp only [xn,a1a,e1] at o;exact o.elim
    | dT _=>simp only [xn,a1a,e1] at o;exact o.elim
   | _=>exact o.elim
def ao9:List D→Option (List Bool)
 | []=>some []
 | .bl z::r=>(ao9 r).map (z::·)
 | _::_=>none
def a7j:List D→Option (List Int)
 | []=>some []
 | .int z::r=>(a7j r).map (z::·)
 | _::_=>none
theorem abw {ι:List Addr} {H:Hp}:∀ {vs:List V} {xs:List D} {zs:List Bool},Reps K ι H vs xs→ao9 xs=some zs→vs=zs.map V.bl
 | _,_,_, .nil,e=>by cases e;rfl
 | _,_,zs, .cons (d:=d) r rs,e=>by
  cases r with
  | bl z =>
   simp only [ao9,Option.map_eq_some_iff] at e
   obtain ⟨ws,h1,rfl⟩:=e
   rw [abw rs h1];rfl
  | _=>cases e
theorem a67 {ι:List Addr} {H:Hp}:∀ {vs:List V} {xs:List D} {zs:List Int},Reps K ι H vs xs→a7j xs=some zs→vs=zs.map V.int
 | _,_,_, .nil,e=>by cases e;rfl
 | _,_,zs, .cons (d:=d) r rs,e=>by
  cases r with
  | int z =>
   simp only [a7j,Option.map_eq_some_iff] at e
   obtain ⟨ws,h1,rfl⟩:=e
   rw [a67 rs h1];rfl
  | _=>cases e
theorem ajo (bs:List Bool):ao9 (bs.map D.bl)=some bs:=by
 induction bs with
 | nil=>rfl
 | cons b bs ih=>simp [ao9,ih]
def aaj:List D→Hd→R D
 | [.ref i],h=>(match h[i]? with | some (.lst xs)=>(match ao9 xs with | some bs=>.ok (.bl (bs.all id)) h | none=>.no) | _=>.no)
 | [.rol xs],h=>(match ao9 xs with | some bs=>.ok (.bl (bs.all id)) h | none=>.no)
 | _,_=>.no
theorem a4v:acs K aaj (fun xs H Q=>∃ (p:Addr) (bs:List Bool),xs=[.ref p]∧SqL K H p (bs.map V.bl)∧Q (.bl (bs.all id)) H):=by
 intro E ι H h xs ds Q r hr o
 unfold aaj at o
 split at o
 ·cases r with
  | cons r rs =>
   cases rs
   cases r with
   | @ref p _ hp =>
    split at o
    ·rename_i xs hx
     obtain ⟨vs,h3,h4⟩:=hr.lst hp hx
     split at o
     ·rename_i bs hb
      exact ⟨p,bs,rfl,SqL.of (by rw [h3,abw h4 hb]),ans o (.bl _) hr⟩
     ·exact o.elim
    ·exact o.elim
 ·cases r with
  | cons r rs =>
   cases rs
   cases r with
   | @rol p vs xs hp r =>
    split at o
    ·rename_i bs hb
     exact ⟨p,bs,rfl,by rw [← abw r hb];exact hp.l,ans o (.bl _) hr⟩
    ·exact o.elim
 ·exact o.elim
def a2d (d:D) (h:Hd):R D:=match d with | .str z=>if z.length≤1000 then .ok (.int ((a5w z.cps.toList).length:Nat)) h else .no | _=>.no
theorem agl {e:Expr} {p1 p2 pos1 pos2:Pos} (hc:X.calm=true) (hg1:Gl X "len") (hm1:X.mg "len" = none) (hg2:Gl X "set") (hm2:X.mg "set" = none) (ha:ME X E e fa)
  (h1:starEach [e] X.env=[(false,eval e X.env)]:=by rfl) (h2:starEach [.Call (.Name "set" p2) [e] [] pos2] X.env=[(false,eval (.Call (.Name "set" p2) [e] [] pos2) X.env)]:=by rfl) :
  ME X E (.Call (.Name "len" p1) [.Call (.Name "set" p2) [e] [] pos2] [] pos1) (s1 a2d fa):=by
 have q:=a65 (pos:=pos1) (p:=p1) call_len_set hg1 hm1 o6 (v4 (aa3 (pos:=pos2) (p:=p2) (aec hc) hg2 hm2 as9 (v4 ha a6d (by rw [h1];rfl)) (by decide) (by decide) (by rw [h1];rfl) rfl) a6d (by rw [h2];rfl)) (by decide) (by decide) (by rw [h2];rfl) rfl
 refine PE.weak q fun σ H Q ⟨ι,τ,h,S,Rh,o⟩=>?_
 refine ⟨ι,τ,h,S,Rh,gj o fun d h1 ι1 H1 v g1 r1 hr1 o1=>?_⟩
 cases r1 with
 | str z =>
  by_cases hz:z.length≤1000
  ·simp only [a2d,if_pos hz] at o1
   refine ⟨z,rfl,hz,fun l hl=>⟨l,_,rfl,ou,o1 ι1 _ _ (a0p hl _) (.int _) (hr1.aside hl _)⟩⟩
  ·simp only [a2d,if_neg hz] at o1;exact o1.elim
 | _=>exact o1.elim
end
end MI
theorem L2.Room.u {k:Nat} {A:PySem.Around} (r:L2.Room k A):A.units+64<PySem.cLine:=r.units
namespace MI
open PySem PySem.Spec L2
mutual
def eqD:D→D→Bool
 | .non, .non=>true
 | .bl a, .bl b=>a == b
 | .bl a, .int b=>(if a then 1 else 0) == b
 | .int a, .bl b=>a == (if b then 1 else 0)
 | .int a, .int b=>a == b
 | .str a, .str b=>a == b
 | .tup xs, .tup ys=>alv xs ys
 | _,_=>false
def alv:List D→List D→Bool
 | [],[]=>true
 | x::xs,y::ys=>eqD x y && alv xs ys
 | _,_=>false
end
def pur:Nat→D→Bool
 | _, .non=>true
 | _, .bl _=>true
 | _, .int _=>true
 | _, .str _=>true
 | n+1, .tup xs=>xs.all (pur n)
 | _,_=>false
def pairE (xs ys:List D) (j:Nat):Bool:=match xs[j]?,ys[j]? with | some x,some y=>eqD x y | _,_=>false
theorem a8s:∀ xs ys:List D,((List.range (min xs.length ys.length)).all (pairE xs ys) && xs.length == ys.length)=alv xs ys
 | [],[]=>by simp [alv]
 | [],_::_=>by simp [alv]
 | _::_,[]=>by simp [alv]
 | x::xs,y::ys=>by
  have ih:=a8s xs ys
  rw [show min (x::xs).length (y::ys).length=min xs.length ys.length+1 by simp only [List.length_cons];omega,List.range_succ_eq_map]
  rw [List.all_cons,List.all_map]
  have e:(pairE (x::xs) (y::ys) ∘ Nat.succ)=pairE xs ys:=by funext j;simp [pairE]
  rw [e]
  simp only [alv]
  rw [← ih]
  have e2:((x::xs).length == (y::ys).length)=(xs.length == ys.length):=by simp
  rw [e2,Bool.and_assoc]
  rfl
section
variable {K:PySem.W.Frag} {ι:List Addr} {H:Hp}
theorem ajp:∀ (n:Nat) {v:V} {d e:D},Rep K ι H v d→Rep K ι H v e→pur n d=true→pur n e=true→eqD d e=true:=by
 intro n
 induction n with
 | zero=>intro v d e r q p1 p2;cases r<;>cases q<;>first | (simp [eqD];done) | (cases p1;done) | (cases p2;done)
 | succ n ih =>
  intro v d e r q p1 p2
  cases r with
  | @tup a vs xs h rs =>
   cases q with
   | @tup _ us ys h' qs =>
    rw [h] at h';cases h'
    simp only [eqD]
    simp only [pur,List.all_eq_true] at p1 p2
    clear h
    induction rs using Reps.rec (motive_1:=fun _ _ _=>True) generalizing ys with
    | nil=>cases qs;rfl
    | cons r rs _ ih2 =>
     cases qs with
     | cons q qs =>
      simp only [alv,Bool.and_eq_true]
      exact ⟨ih r q (p1 _ (List.mem_cons_self ..)) (p2 _ (List.mem_cons_self ..)),ih2 qs (fun x hx=>p1 x (List.mem_cons_of_mem _ hx)) (fun x hx=>p2 x (List.mem_cons_of_mem _ hx))⟩
    | _=>trivial
   | _=>cases p2
  | _=>cases q<;>first | (simp [eqD];done) | (cases p1;done) | (cases p2;done)
theorem a5t {n:Nat} {v:V} {d:D} (r:Rep K ι H v d) (p:pur n d=true):(∃ xs,d = .tup xs)∨(a3g v=true∧a3l d=true):=by
 cases r<;>first | exact .inr ⟨rfl,rfl⟩ | exact .inl ⟨_,rfl⟩ | (cases n<;>cases p)
theorem a8t {x y:V} {d e:D} (r:Rep K ι H x d) (q:Rep K ι H y e) (f:a3l d=true) (g:a3l e=true):eqV x y=eqD d e:=by
 cases r<;>cases q<;>first | rfl | (simp [eqV,eqD];done) | (cases f;done) | (cases g;done)
open SeqAt in
theorem asv {P:Program} {w:World} {s:Shared} (hok:HOk P w H s.heap):∀ (n:Nat) (A:Around) {x y:V} {u v:Value} {d e:D},Rep K ι H x d→Rep K ι H y e→RelV x u→RelV y v→pur n d=true→pur n e=true→A.units+n<cLine→EqAt A s u v (eqD d e):=by
 intro n
 induction n with
 | zero =>
  intro A x y u v d e r q rx ry p1 p2 hu
  rcases a5t r p1 with ⟨xs,rfl⟩ | ⟨f1,f2⟩
  ·cases p1
  ·rcases a5t q p2 with ⟨xs,rfl⟩ | ⟨g1,g2⟩
   ·cases p2
   ·rw [← a8t r q f2 g2];exact afu rx ry f1 g1
 | succ n ih =>
  intro A x y u v d e r q rx ry p1 p2 hu
  rcases a5t r p1 with ⟨xs,rfl⟩ | ⟨f1,f2⟩
  ·cases r with
   | @tup a vs _ ha rs =>
    cases rx
    obtain ⟨_,its,r1,t1⟩:=(Rd.of ha).ok hok
    rcases a5t q p2 with ⟨ys,rfl⟩ | ⟨g1,g2⟩
    ·cases q with
     | @tup b us _ hb qs =>
      cases ry
      obtain ⟨_,its2,r2,t2⟩:=(Rd.of hb).ok hok
      by_cases hab:a=b
      ·subst hab
       rw [ajp (n+1) (.tup ha rs) (.tup hb qs) p1 p2]
       exact EqAt.same _
      ·have l1:its.toArray.size=xs.length:=by rw [List.size_toArray,← r1.length,rs.len]
       have l2:its2.toArray.size=ys.length:=by rw [List.size_toArray,← r2.length,qs.len]
       have:=RcAt.tuples (A:=A) (s:=s) (e:=pairE xs ys) t1 t2 (by omega) (fun j h1 h2=>by
        have j1:j<xs.length:=by omega
        have j2:j<ys.length:=by omega
        obtain ⟨v1,e1,q1⟩:=rs.get (List.getElem?_eq_getElem j1)
        obtain ⟨v2,e2,q2⟩:=qs.get (List.getElem?_eq_getElem j2)
        obtain ⟨u1,e3,q3⟩:=r1.get e1
        obtain ⟨u2,e4,q4⟩:=r2.get e2
        have f1:its.toArray[j]=u1:=by simpa using (List.getElem?_eq_some_iff.mp e3).2
        have f2:its2.toArray[j]=u2:=by simpa using (List.getElem?_eq_some_iff.mp e4).2
        have pe:pairE xs ys j=eqD xs[j] ys[j]:=by simp [pairE,List.getElem?_eq_getElem j1,List.getElem?_eq_getElem j2]
        rw [f1,f2,pe]
        simp only [pur,List.all_eq_true] at p1 p2
        exact ih A.in1 q1 q2 q3 q4 (p1 _ (List.getElem_mem j1)) (p2 _ (List.getElem_mem j2)) (by rw [Around.in1_units];omega))
       rw [l1,l2,a8s] at this
       exact EqAt.of_refs hab this
    ·have e0:eqD (.tup xs) e=false:=by cases e<;>first | rfl | (cases g2;done)
     rw [e0]
     cases y with
     | non=>cases ry;exact EqAt.tuple_none t1 (by omega)
     | bl b=>cases ry;exact EqAt.tuple_bool b t1 (by omega)
     | int b=>obtain ⟨t,rfl⟩:=ry;exact EqAt.tuple_int b t t1 (by omega)
     | str b=>obtain ⟨t,rfl⟩:=ry;exact EqAt.tuple_str b t t1 (by omega)
     | _=>cases g1
  ·rcases a5t q p2 with ⟨ys,rfl⟩ | ⟨g1,g2⟩
   ·cases q with
    | @tup b us _ hb qs =>
     cases ry
     obtain ⟨_,its2,r2,t2⟩:=(Rd.of hb).ok hok
     have e0:eqD d (.tup ys)=false:=by cases d<;>first | rfl | (cases f2;done)
     rw [e0]
     cases x with
     | non=>cases rx;exact EqAt.none_tuple t2 (by omega)
     | bl b=>cases rx;exact EqAt.bool_tuple b t2 (by omega)
     | int b=>obtain ⟨t,rfl⟩:=rx;exact EqAt.int_tuple b t t2 (by omega)
     | str b=>obtain ⟨t,rfl⟩:=rx;exact EqAt.str_tuple b t t2 (by omega)
     | _=>cases f1
   ·rw [← a8t r q f2 g2];exact afu rx ry f1 g1
open SeqAt in
theorem asw {A:Around} {s:Shared} {y x:V} {u v:Value} (ry:RelV y u) (rx:RelV x v) (fy:a3g y=true) (fx:a3g x=true):RcAt A s u v (eqV y x):=by
 cases y with
 | non =>
  cases ry
  cases x with
  | non=>cases rx;exact RcAt.none_none
  | bl b=>cases rx;exact RcAt.none_bool b
  | int b=>obtain ⟨t,rfl⟩:=rx;exact RcAt.none_int b t
  | str b=>obtain ⟨t,rfl⟩:=rx;exact RcAt.none_str b t
  | _=>cases fx
 | bl a =>
  cases ry
  cases x with
  | non=>cases rx;exact RcAt.bool_none a
  | bl b=>cases rx;exact RcAt.bool_bool a b
  | int b=>obtain ⟨t,rfl⟩:=rx;exact RcAt.bool_int a b t
  | str b=>obtain ⟨t,rfl⟩:=rx;exact RcAt.bool_str a b t
  | _=>cases fx
 | int a =>
  obtain ⟨t',rfl⟩:=ry
  cases x with
  | non=>cases rx;exact RcAt.int_none a t'
  | bl b=>cases rx;exact RcAt.int_bool a t' b
  | int b=>obtain ⟨t,rfl⟩:=rx;exact RcAt.int_int a t' b t
  | str b=>obtain ⟨t,rfl⟩:=rx;exact RcAt.int_str a t' b t
  | _=>cases fx
 | str a =>
  obtain ⟨t',rfl⟩:=ry
  cases x with
  | non=>cases rx;exact RcAt.str_none a t'
  | bl b=>cases rx;exact RcAt.str_bool a t' b
  | int b=>obtain ⟨t,rfl⟩:=rx;exact RcAt.str_int a t' b t
  | str b=>obtain ⟨t,rfl⟩:=rx;exact RcAt.str_str a t' b t
  | _=>cases fx
 | _=>cases fy
open SeqAt in
theorem ajq {A:Around} {s:Shared} {y x:V} {u v:Value} (ry:RelV y u) (rx:RelV x v) (fy:a3g y=true) (fx:a3g x=true):RcNeAt A s u v (!eqV y x):=by
 cases y with
 | non =>
  cases ry
  cases x with
  | non=>cases rx;exact RcNeAt.none_none
  | bl b=>cases rx;exact RcNeAt.none_bool b
  | int b=>obtain ⟨t,rfl⟩:=rx;exact RcNeAt.none_int b t
  | str b=>obtain ⟨t,rfl⟩:=rx;exact RcNeAt.none_str b t
  | _=>cases fx
 | bl a =>
  cases ry
  cases x with
  | non=>cases rx;exact RcNeAt.bool_none a
  | bl b=>cases rx;exact RcNeAt.bool_bool a b
  | int b=>obtain ⟨t,rfl⟩:=rx;exact RcNeAt.bool_int a b t
  | str b=>obtain ⟨t,rfl⟩:=rx;exact RcNeAt.bool_str a b t
  | _=>cases fx
 | int a =>
  obtain ⟨t',rfl⟩:=ry
  cases x with
  | non=>cases rx;exact RcNeAt.int_none a t'
  | bl b=>cases rx;exact RcNeAt.int_bool a t' b
  | int b=>obtain ⟨t,rfl⟩:=rx;exact RcNeAt.int_int a t' b t
  | str b=>obtain ⟨t,rfl⟩:=rx;exact RcNeAt.int_str a t' b t
  | _=>cases fx
 | str a =>
  obtain ⟨t',rfl⟩:=ry
  cases x with
  | non=>cases rx;exact RcNeAt.str_none a t'
  | bl b=>cases rx;exact RcNeAt.str_bool a t' b
  | int b=>obtain ⟨t,rfl⟩:=rx;exact RcNeAt.str_int a t' b t
  | str b=>obtain ⟨t,rfl⟩:=rx;exact RcNeAt.str_str a t' b t
  | _=>cases fx
 | _=>cases fy
open SeqAt in
theorem tops {P:Program} {w:World} {s:Shared} {A:Around} (hok:HOk P w H s.heap) {x y:V} {u v:Value} {d e:D} (r:Rep K ι H x d) (q:Rep K ι H y e) (rx:RelV x u) (ry:RelV y v) (p1:pur 60 d=true) (p2:pur 60 e=true) (hu:A.units+64<cLine) :
  RcAt A s u v (eqD d e)∧RcNeAt A s u v (!eqD d e):=by
 rcases a5t r p1 with ⟨xs,rfl⟩ | ⟨f1,f2⟩
 ·cases r with
  | @tup a vs _ ha rs =>
   cases rx
   obtain ⟨_,its,r1,t1⟩:=(Rd.of ha).ok hok
   rcases a5t q p2 with ⟨ys,rfl⟩ | ⟨g1,g2⟩
   ·cases q with
    | @tup b us _ hb qs =>
     cases ry
     obtain ⟨_,its2,r2,t2⟩:=(Rd.of hb).ok hok
     have l1:its.toArray.size=xs.length:=by rw [List.size_toArray,← r1.length,rs.len]
     have l2:its2.toArray.size=ys.length:=by rw [List.size_toArray,← r2.length,qs.len]
     have step:∀ j (h1:j<its.toArray.size) (h2:j<its2.toArray.size),EqAt A.in1 s its.toArray[j] its2.toArray[j] (pairE xs ys j):=fun j h1 h2=>by
      have j1:j<xs.length:=by omega
      have j2:j<ys.length:=by omega
      obtain ⟨v1,e1,q1⟩:=rs.get (List.getElem?_eq_getElem j1)
      obtain ⟨v2,e2,q2⟩:=qs.get (List.getElem?_eq_getElem j2)
      obtain ⟨u1,e3,q3⟩:=r1.get e1
      obtain ⟨u2,e4,q4⟩:=r2.get e2
      have f1:its.toArray[j]=u1:=by simpa using (List.getElem?_eq_some_iff.mp e3).2
      have f2:its2.toArray[j]=u2:=by simpa using (List.getElem?_eq_some_iff.mp e4).2
      have pe:pairE xs ys j=eqD xs[j] ys[j]:=by simp [pairE,List.getElem?_eq_getElem j1,List.getElem?_eq_getElem j2]
      rw [f1,f2,pe]
      simp only [pur,List.all_eq_true] at p1 p2
      exact asv hok 59 A.in1 q1 q2 q3 q4 (p1 _ (List.getElem_mem j1)) (p2 _ (List.getElem_mem j2)) (by rw [Around.in1_units];omega)
     have c1:=RcAt.tuples (A:=A) (s:=s) (e:=pairE xs ys) t1 t2 (by omega) step
     have c2:=RcNeAt.tuples (A:=A) (s:=s) (e:=pairE xs ys) t1 t2 (by omega) step
     rw [l1,l2,a8s] at c1 c2
     exact ⟨c1,c2⟩
   ·have e0:eqD (.tup xs) e=false:=by cases e<;>first | rfl | (cases g2;done)
    rw [e0]
    cases y with
    | non=>cases ry;exact ⟨RcAt.tuple_none t1 (by omega),RcNeAt.tuple_none t1 (by omega)⟩
    | bl b=>cases ry;exact ⟨RcAt.tuple_bool b t1 (by omega),RcNeAt.tuple_bool b t1 (by omega)⟩
    | int b=>obtain ⟨t,rfl⟩:=ry;exact ⟨RcAt.tuple_int b t t1 (by omega),RcNeAt.tuple_int b t t1 (by omega)⟩
    | str b=>obtain ⟨t,rfl⟩:=ry;exact ⟨RcAt.tuple_str b t t1 (by omega),RcNeAt.tuple_str b t t1 (by omega)⟩
    | _=>cases g1
 ·rcases a5t q p2 with ⟨ys,rfl⟩ | ⟨g1,g2⟩
  ·cases q with
   | @tup b us _ hb qs =>
    cases ry
    obtain ⟨_,its2,r2,t2⟩:=(Rd.of hb).ok hok
    have e0:eqD d (.tup ys)=false:=by cases d<;>first | rfl | (cases f2;done)
    rw [e0]
    cases x with
    | non=>cases rx;exact ⟨RcAt.none_tuple t2 (by omega),RcNeAt.none_tuple t2 (by omega)⟩
    | bl b=>cases rx;exact ⟨RcAt.bool_tuple b t2 (by omega),RcNeAt.bool_tuple b t2 (by omega)⟩
    | int b=>obtain ⟨t,rfl⟩:=rx;exact ⟨RcAt.int_tuple b t t2 (by omega),RcNeAt.int_tuple b t t2 (by omega)⟩
    | str b=>obtain ⟨t,rfl⟩:=rx;exact ⟨RcAt.str_tuple b t t2 (by omega),RcNeAt.str_tuple b t t2 (by omega)⟩
    | _=>cases f1
  ·rw [← a8t r q f2 g2];exact ⟨asw rx ry f1 g1,ajq rx ry f1 g1⟩
def axx (K:PySem.W.Frag):R2:=fun x y H Q=>∃ ι d e,Rep K ι H x d∧Rep K ι H y e∧pur 60 d=true∧pur 60 e=true∧Q (.bl (eqD d e)) H
def axy (K:PySem.W.Frag):R2:=fun x y H Q=>∃ ι d e,Rep K ι H x d∧Rep K ι H y e∧pur 60 d=true∧pur 60 e=true∧Q (.bl (!eqD d e)) H
theorem a2e {X:Cx} (hu:X.A.units+64<cLine):OpR X (compareOp .Eq) (axx X.K):=by
 intro pins s σ H x y v u Q I rx ry h
 obtain ⟨ι,d,e,r,q,p1,p2,hq⟩:=h
 exact (tops (A:=X.A) I.hok r q rx ry p1 p2 hu).1 X.prog X.w X.xe _ ⟨.bl _,H,I,rfl,hq⟩
theorem aak {X:Cx} (hu:X.A.units+64<cLine):OpR X (compareOp .NotEq) (axy X.K):=by
 intro pins s σ H x y v u Q I rx ry h
 obtain ⟨ι,d,e,r,q,p1,p2,hq⟩:=h
 exact (tops (A:=X.A) I.hok r q rx ry p1 p2 hu).2 X.prog X.w X.xe _ ⟨.bl _,H,I,rfl,hq⟩
def hEq (x y:D) (h:Hd):R D:=if pur 60 x=true∧pur 60 y=true then .ok (.bl (eqD x y)) h else .no
def hNe (x y:D) (h:Hd):R D:=if pur 60 x=true∧pur 60 y=true then .ok (.bl (!eqD x y)) h else .no
theorem a0g:a2n K hEq (axx K):=by
 intro E ι H h x y dx dy Q rx ry hr o
 unfold hEq at o
 split at o
 ·rename_i hc;exact ⟨ι,dx,dy,rx,ry,hc.1,hc.2,ans o (.bl _) hr⟩
 ·exact o.elim
theorem a6p:a2n K hNe (axy K):=by
 intro E ι H h x y dx dy Q rx ry hr o
 unfold hNe at o
 split at o
 ·rename_i hc;exact ⟨ι,dx,dy,rx,ry,hc.1,hc.2,ans o (.bl _) hr⟩
 ·exact o.elim
end
section
variable {X:Cx} {E:XD} {K:PySem.W.Frag}
def ajr:SE:=fun _ h=>.ok (.ref h.length) (h++[.dK []])
theorem aoa {pos:Pos}:ME X E (.Dict [] [] pos) ajr:=by
 refine PE.weak aj9 fun σ H Q ⟨ι,τ,h,S,Rh,o⟩=>fun p hp=>?_
 exact o (ι++[p]) _ _ (acr hp _) (.ref (by rw [List.getElem?_append_right (by rw [Rh.len];exact Nat.le_refl _),Rh.len];simp)) (Rh.add hp ⟨[],ou,rfl, .nil⟩)
def aal:D→D→Hd→R D
 | .int i, .int j,h=>.ok (.int (i+j)) h
 | .str x, .str y,h=>if x.length+y.length≤LINE then .ok (.str (x++y)) h else .no
 | _,_,_=>.no
theorem ajs:a2n K aal (fun x y H Q=>rI0 (fun i j=>.int (i+j)) x y H Q∨∃ i j,x = .str i∧y = .str j∧i.length+j.length≤sizeLine∧Q (.str (i++j)) H):=by
 intro E ι H h x y dx dy Q rx ry hr o
 cases rx with
 | int i =>
  cases ry with
  | int j=>exact .inl ⟨i,j,rfl,rfl,ans o (.int _) hr⟩
  | _=>exact o.elim
 | str i =>
  cases ry with
  | str j =>
   by_cases hc:i.length+j.length≤LINE
   ·simp only [aal,if_pos hc] at o;exact .inr ⟨i,j,rfl,rfl,ll hc,ans o (.str _) hr⟩
   ·simp only [aal,if_neg hc] at o;exact o.elim
  | _=>exact o.elim
 | _=>exact o.elim
theorem agm:bootBuiltins "max" = some (.builtin "max"):=by first | exact PySem.boot_max | exact PyProof.Rows.boot_max
theorem alw:bootBuiltins "min" = some (.builtin "min"):=by first | exact PySem.boot_min | exact PyProof.Rows.boot_min
theorem agn:bootBuiltins "bool" = some (.type "bool"):=by first | exact PySem.boot_bool | exact PyProof.Rows.boot_bool
theorem uh {e:Expr} {es:List Expr} {g:SG} {ks:SGs} (h1:MG X E e g) (h2:MGs X E es ks) (hs:(assignEach (e::es) X.env).map (·.2)=assign e X.env::(assignEach es X.env).map (·.2):=by rfl):MGs X E (e::es) (ue g ks) :=
 PGs.weak (aiv h1 h2 hs) fun vs σ H Q q=>ajj q
end
end MI
namespace ZP
open PySem PySem.Spec PySem.Builtin PySem.Builtin.SmallTypes
section
variable {prog:Program} {w:World} {A:Around} {E:Value→Shared→Prop} {s:Shared}
theorem aob {α:Type} {Q:α→Shared→Prop} (hh:A.handled=none) (q:∀ h' e,(∀ b o,s.heap.get? b=some o→h'.get? b=some o)→(∃ o,h'.get? e=some o∧o.cls = .type "StopIteration")→E (.ref e) { s with heap:=h' }) :
  wpAny (model prog w) A (stopIteration:Sem α) Q E s:=by
 have none_first:firstArgMember (.type "StopIteration") []=pure Value.none:=by first | rfl | (simp only [firstArgMember];rfl)
 rw [stopIteration]
 apply wpAny_bind
 rw [newExc,newTuple]
 apply wpAny_bind
 apply wpAny_newObj_type _ (by size_fits)
 rw [none_first,pure_bind]
 apply wpAny_newObj_type _ (by size_fits)
 apply wpAny_raiseNew_none hh
 exact q _ _ (fun b o z=>Heap.get?_push_of_some _ (Heap.get?_push_of_some _ z)) ⟨_,Heap.get?_push_size _ rfl,rfl⟩
theorem ajt {it t:Addr} {i:Nat} {items:Array Value} {x:Value} {Q:Value→Shared→Prop} (hi:s.heap.IsTupleIter it t i) (ht:s.heap.IsTuple t items) (hx:items[i]? = some x)
  (q:∀ h',h'.IsTupleIter it t (i+1)→Heap.SameBut it s.heap h'→Q x { s with heap:=h' }):wpAny (model prog w) A (nextOf (.ref it)) Q E s:=by
 have ty:=hi.typeIs
 obtain ⟨o,e1,e2,e3⟩:=id hi
 obtain ⟨p,f1,f2,n,f3⟩:=ht
 rw [nextOf]
 apply wpAny_bind
 apply wpAny_callSpecial?_slot (name:=Str.ofString "__next__") ty F.slot_tuple_iterator_next
 apply wpAny_call_entry F.slot_tuple_iterator_next ty F.entry_tuple_iterator_next _ (F.args_tuple_iterator_next_1 _)
 change wpAny (model prog w) A.in1 (field (.ref it) 0>>=_) _ _ _
 apply wpAny_bind;apply wpAny_field e1 e3 (x:=.ref t) rfl
 change wpAny (model prog w) A.in1 (field (.ref it) 1>>=_) _ _ _
 apply wpAny_bind;apply wpAny_field e1 e3 (x:=.int i 0) rfl
 change wpAny (model prog w) A.in1 (seqItems? (.ref t)>>=_) _ _ _
 apply wpAny_bind;apply wpAny_seqItems f1 f3
 dsimp only
 rw [Int.toNat_natCast,hx]
 apply wpAny_bind
 obtain ⟨c,dd,dt,sl⟩:=o
 simp only at e2 e3
 subst e2 e3
 apply wpAny_setField e1 rfl (Nat.lt_succ_self 1)
 apply wpAny_pure
 exact ⟨x,rfl,wpAny_pure (q _ ⟨_,Heap.get?_update_self _ e1 rfl,rfl,rfl⟩ (Heap.SameBut.update ..))⟩
theorem aoc {it t:Addr} {i:Nat} {items:Array Value} {Q:Value→Shared→Prop} (hh:A.handled=none) (hi:s.heap.IsTupleIter it t i) (ht:s.heap.IsTuple t items) (hx:items[i]? = none)
  (q:∀ h' e,Heap.ExtBut it s.heap h'→(∃ o,h'.get? e=some o∧o.cls = .type "StopIteration")→E (.ref e) { s with heap:=h' }):wpAny (model prog w) A (nextOf (.ref it)) Q E s:=by
 have ty:=hi.typeIs
 obtain ⟨o,e1,e2,e3⟩:=id hi
 obtain ⟨p,f1,f2,n,f3⟩:=ht
 rw [nextOf]
 apply wpAny_bind
 apply wpAny_callSpecial?_slot (name:=Str.ofString "__next__") ty F.slot_tuple_iterator_next
 apply wpAny_call_entry F.slot_tuple_iterator_next ty F.entry_tuple_iterator_next _ (F.args_tuple_iterator_next_1 _)
 change wpAny (model prog w) A.in1 (field (.ref it) 0>>=_) _ _ _
 apply wpAny_bind;apply wpAny_field e1 e3 (x:=.ref t) rfl
 change wpAny (model prog w) A.in1 (field (.ref it) 1>>=_) _ _ _
 apply wpAny_bind;apply wpAny_field e1 e3 (x:=.int i 0) rfl
 change wpAny (model prog w) A.in1 (seqItems? (.ref t)>>=_) _ _ _
 apply wpAny_bind;apply wpAny_seqItems f1 f3
 dsimp only
 rw [Int.toNat_natCast,hx]
 dsimp only
 obtain ⟨c,dd,dt,sl⟩:=o
 simp only at e2 e3
 subst e2 e3
 apply wpAny_bind;apply wpAny_rule
 apply wpAny_bind;apply wpAny_setField e1 rfl (Nat.succ_pos 1)
 apply aob (show A.in1.handled=none from hh)
 exact fun h' e k z=>q h' e (fun b o nb eb=>k b o ((Heap.SameBut.update ..).extBut b o nb eb)) z
theorem ago {prog:Program} {w:World} {A:Around} (hh:A.handled=none) (it t:Addr) (ne:t≠it) (items:Array Value):Draws prog w A it [it,t] items.size (fun i v=>items[i]? = some v) (fun i h=>h.IsTupleIter it t i∧h.IsTuple t items) where
 live:=fun _ _ st=>let ⟨o,e,_⟩:=st.1; ⟨o,e⟩
 frame:=fun _ _ _ st k=>⟨let ⟨o,e,r⟩:=st.1; ⟨o,k it (by simp) o e,r⟩,let ⟨o,e,r⟩:=st.2; ⟨o,k t (by simp) o e,r⟩⟩
 item:=fun i s Q E hi st q=>ajt st.1 st.2 (Array.getElem?_eq_getElem hi) fun h' a b=>q _ h' s.toks (Array.getElem?_eq_getElem hi) ⟨a,st.2.extBut b.extBut ne⟩ b
 done:=fun s Q E st q=>aoc hh st.1 st.2 (by simp) q
end
end ZP
namespace ZP
open PySem PySem.Spec PySem.Builtin PySem.Builtin.SmallTypes
structure Ap (z TI TO i1 i2:Addr) (p q:List Addr):Prop where
 m1:i1∈p
 m2:i2∈q
 z1:z ∉ p
 z2:z ∉ q
 o1:TO ∉ p
 o2:TO ∉ q
 oz:TO≠z
 x1:i1 ∉ q
 x2:i2 ∉ p
section
variable {prog:Program} {w:World} {A:Around} {E:Value→Shared→Prop} {s:Shared} {z TI TO i1 i2:Addr} {p q:List Addr} {n1 n2 k:Nat} {P1 P2:Nat→Value→Prop} {S1 S2:Nat→Heap→Prop} {a b:Value}
theorem far {D:Draws prog w A i1 p n1 P1 S1} {h h':Heap} {c:Addr} (sb:Heap.SameBut c h h') (nc:c ∉ p) (st:S1 k h):S1 k h':=D.frame _ _ _ st fun x hx o e=>sb.extBut x o (fun y=>nc (y ▸ hx)) e
theorem agp {Q:Fin→Shared→Prop} (hz:IsZip s.heap z TI TO .none) (hi:IsPair s.heap TI (.ref i1) (.ref i2)) (ho:IsPair s.heap TO a b) (oz:TO≠z)
  (go:∀ h1,IsZip h1 z TI TO .ellipsis→Heap.SameBut z s.heap h1→wpAny (model prog w) A (nextOf (.ref i1))
   (fun x s2=>IsPair s2.heap TO a b∧∀ h3,IsPair h3 TO x b→Heap.SameBut TO s2.heap h3→wpAny (model prog w) A (nextOf (.ref i2))
    (fun y s4=>IsPair s4.heap TO x b∧∀ h5,IsPair h5 TO x y→Heap.SameBut TO s4.heap h5→IsZip h5 z TI TO .ellipsis∧∀ h8,IsZip h8 z TI TO (rawInt h5.objs.size)→IsPair h8 h5.objs.size x y→h8.objs.size=h5.objs.size+1 →
     (∀ c o,c≠z→h5.get? c=some o→h8.get? c=some o)→Q (.done (.ret (.ref h5.objs.size))) { s4 with heap:=h8 })
    (fun e s4=>wpAny (model prog w) A (setField (.ref z) 0 .none) (fun _ s5=>E e s5) E s4) { s2 with heap:=h3 })
   (fun e s2=>wpAny (model prog w) A (setField (.ref z) 0 .none) (fun _ s3=>E e s3) E s2) { s with heap:=h1 }) :
  wpAny (model prog w) A (Builtin.«zip.__next__» ⟨[.ref z],[]⟩) Q E s:=by
 change wpAny (model prog w) A (field (.ref z) 2>>=_) _ _ _
 apply wpAny_bind;apply wpAny_field hz rfl (x:=.bool false) rfl
 change wpAny (model prog w) A (field (.ref z) 3>>=_) _ _ _
 apply wpAny_bind;apply wpAny_field hz rfl (x:=.ref TI) rfl
 apply wpAny_bind;apply wpAny_seqItems hi rfl
 change wpAny (model prog w) A (ownedTupleIsFree (.ref z)>>=_) _ _ _
 apply wpAny_bind
 rw [ownedTupleIsFree]
 apply wpAny_bind;apply wpAny_field hz rfl (x:=.none) rfl
 apply wpAny_pure
 rw [if_pos rfl]
 apply wpAny_bind;apply wpAny_rule
 apply wpAny_bind;apply wpAny_field hz rfl (x:=.ref TO) rfl
 apply wpAny_bind;apply wpAny_setField_rec hz (Nat.succ_pos _)
 intro h1 z1 b1
 apply wpAny_bind
 simp only [List.zipIdx_cons,List.zipIdx_nil,List.forIn_cons,List.forIn_nil]
 apply wpAny_bind;apply wpAny_bind;apply wpAny_onRaise
 change wpAny (model prog w) A (nextOf (.ref i1)>>=_) _ _ _
 apply wpAny_bind
 apply wpAny_mono (go h1 z1 b1) _ fun _ _ r=>r
 rintro x s2 ⟨o2,g2⟩
 apply wpAny_pure
 apply wpAny_bind;apply wpAny_seqItems o2 rfl
 apply wpAny_bind;apply wpAny_updateSeq_pair o2
 intro h3 o3 b3
 apply wpAny_bind;apply wpAny_letGo;apply wpAny_pure
 apply wpAny_bind;apply wpAny_bind;apply wpAny_onRaise
 change wpAny (model prog w) A (nextOf (.ref i2)>>=_) _ _ _
 apply wpAny_bind
 apply wpAny_mono (g2 h3 o3 b3) _ fun _ _ r=>r
 rintro y s4 ⟨o4,g4⟩
 apply wpAny_pure
 apply wpAny_bind;apply wpAny_seqItems o4 rfl
 apply wpAny_bind;apply wpAny_updateSeq_pair o4
 intro h5 o5 b5
 obtain ⟨z5,g5⟩:=g4 h5 o5 b5
 apply wpAny_bind;apply wpAny_letGo;apply wpAny_pure;apply wpAny_pure
 apply wpAny_bind;apply wpAny_seqItems o5 rfl
 apply wpAny_bind;refine wpAny_newTuple ?_ (by show 2≤sizeLine;decide)
 change wpAny (model prog w) A (ownedTupleHandOut (.ref z) (.ref h5.objs.size)>>=_) _ _ _
 apply wpAny_bind
 rw [ownedTupleHandOut]
 have z6:IsZip (h5.push { cls:=.type "tuple",data:=.seq #[x,y] }) z TI TO .ellipsis:=Heap.get?_push_of_some _ z5
 have lt:z<h5.objs.size:=Heap.lt_size z5
 apply wpAny_bind;apply wpAny_setField_rec z6 (Nat.succ_pos _)
 intro h7 z7 b7
 apply wpAny_setField_rec z7 (by show 1<5;decide)
 intro h8 z8 b8
 apply wpAny_pure
 refine g5 h8 z8 (b8.extBut _ _ (Nat.ne_of_gt lt) (b7.extBut _ _ (Nat.ne_of_gt lt) (Heap.get?_push_size _ rfl))) ?_ fun c o nc e=>b8.extBut _ _ nc (b7.extBut _ _ nc (Heap.get?_push_of_some _ e))
 rw [b8.1,b7.1,Heap.size_push]
theorem aju {Q:Value→Shared→Prop} (D1:Draws prog w A i1 p n1 P1 S1) (D2:Draws prog w A i2 q n2 P2 S2) (ap:Ap z TI TO i1 i2 p q) (hz:IsZip s.heap z TI TO .none) (hi:IsPair s.heap TI (.ref i1) (.ref i2)) (ho:IsPair s.heap TO a b)
  (s1:S1 k s.heap) (s2:S2 k s.heap) (k1:k<n1) (k2:k<n2)
  (hQ:∀ x y h' tk,P1 k x→P2 k y→IsZip h' z TI TO (rawInt s.heap.objs.size)→IsPair h' TO x y→S1 (k+1) h'→S2 (k+1) h'→IsPair h' s.heap.objs.size x y→h'.objs.size=s.heap.objs.size+1 →
   (∀ c o,c≠z→c≠TO→c≠i1→c≠i2→s.heap.get? c=some o→h'.get? c=some o)→Q (.ref s.heap.objs.size) { s with heap:=h',toks:=tk }) :
  wpAny (model prog w) A (Builtin.«zip.__next__» ⟨[.ref z],[]⟩) (fun fin s'=>∃ v,fin = .done (.ret v)∧Q v s') E s:=by
 have ni1:i1≠z:=fun e=>ap.z1 (e ▸ ap.m1)
 have ni2:i2≠z:=fun e=>ap.z2 (e ▸ ap.m2)
 have no1:TO≠i1:=fun e=>ap.o1 (e ▸ ap.m1)
 have no2:TO≠i2:=fun e=>ap.o2 (e ▸ ap.m2)
 refine agp hz hi ho ap.oz fun h1 z1 b1=>?_
 refine D1.item k _ _ _ k1 (far (D:=D1) b1 ap.z1 s1) fun x h2 t2 px st2 b2=>?_
 refine ⟨b2.extBut _ _ no1 (b1.extBut _ _ ap.oz ho),fun h3 o3 b3=>?_⟩
 refine D2.item k _ _ _ k2 (far (D:=D2) b3 ap.o2 (far (D:=D2) b2 ap.x1 (far (D:=D2) b1 ap.z2 s2))) fun y h4 t4 py st4 b4=>?_
 refine ⟨b4.extBut _ _ no2 o3,fun h5 o5 b5=>⟨b5.extBut _ _ ap.oz.symm (b4.extBut _ _ ni2.symm (b3.extBut _ _ ap.oz.symm (b2.extBut _ _ ni1.symm z1))),fun h8 z8 t8 l8 k8=>⟨_,rfl,?_⟩⟩⟩
 have sz:h5.objs.size=s.heap.objs.size:=by rw [b5.1,b4.1,b3.1,b2.1,b1.1]
 have g1:S1 (k+1) h8:=D1.frame _ _ _ (far (D:=D1) b5 ap.o1 (far (D:=D1) b4 ap.x2 (far (D:=D1) b3 ap.o1 st2))) fun c hc o e=>k8 c o (fun y=>ap.z1 (y ▸ hc)) e
 have g2:S2 (k+1) h8:=D2.frame _ _ _ (far (D:=D2) b5 ap.o2 st4) fun c hc o e=>k8 c o (fun y=>ap.z2 (y ▸ hc)) e
 rw [sz] at z8 t8 l8 ⊢
 exact hQ x y h8 t4 px py z8 (k8 _ _ ap.oz o5) g1 g2 t8 l8 fun c o c1 c2 c3 c4 e=>k8 c o c1 (b5.extBut _ _ c2 (b4.extBut _ _ c4 (b3.extBut _ _ c2 (b2.extBut _ _ c3 (b1.extBut _ _ c1 e)))))
theorem aod {Q:Fin→Shared→Prop} (D1:Draws prog w A i1 p n1 P1 S1) (D2:Draws prog w A i2 q n2 P2 S2) (ap:Ap z TI TO i1 i2 p q) (hz:IsZip s.heap z TI TO .none) (hi:IsPair s.heap TI (.ref i1) (.ref i2)) (ho:IsPair s.heap TO a b)
  (s1:S1 k s.heap) (s2:S2 k s.heap) (kk:k=n1∨(k<n1∧k=n2))
  (hE:∀ h' tk e,(∀ c o,c≠z→c≠TO→c≠i1→c≠i2→s.heap.get? c=some o→h'.get? c=some o)→(∃ o,h'.get? e=some o∧o.cls = .type "StopIteration")→E (.ref e) { s with heap:=h',toks:=tk }) :
  wpAny (model prog w) A (Builtin.«zip.__next__» ⟨[.ref z],[]⟩) Q E s:=by
 have ni1:i1≠z:=fun e=>ap.z1 (e ▸ ap.m1)
 have ni2:i2≠z:=fun e=>ap.z2 (e ▸ ap.m2)
 have no1:TO≠i1:=fun e=>ap.o1 (e ▸ ap.m1)
 have stop:∀ {h:Heap} {e:Addr},(∃ o,h.get? e=some o∧o.cls = .type "StopIteration")→IsZip h z TI TO .ellipsis→e≠z:=fun {h e} ⟨o,eo,ec⟩ zz y=>by
  subst y;rw [zz] at eo;cases eo;simp at ec
 refine agp hz hi ho ap.oz fun h1 z1 b1=>?_
 rcases kk with rfl | ⟨k1,rfl⟩
 ·refine D1.done _ _ _ (far (D:=D1) b1 ap.z1 s1) fun h2 e x2 st=>?_
  have z2:IsZip h2 z TI TO .ellipsis:=x2 _ _ ni1.symm z1
  have ne:=stop st z2
  obtain ⟨oe,f1,f2⟩:=st
  refine wpAny_setField_rec z2 (Nat.succ_pos _) fun h3 _ b3=>?_
  exact hE h3 _ e (fun c o c1 _ c3 _ y=>b3.extBut _ _ c1 (x2 _ _ c3 (b1.extBut _ _ c1 y))) ⟨oe,b3.extBut _ _ ne f1,f2⟩
 ·refine D1.item k _ _ _ k1 (far (D:=D1) b1 ap.z1 s1) fun x h2 t2 px st2 b2=>?_
  refine ⟨b2.extBut _ _ no1 (b1.extBut _ _ ap.oz ho),fun h3 o3 b3=>?_⟩
  refine D2.done _ _ _ (far (D:=D2) b3 ap.o2 (far (D:=D2) b2 ap.x1 (far (D:=D2) b1 ap.z2 s2))) fun h4 e x4 st=>?_
  have z4:IsZip h4 z TI TO .ellipsis:=x4 _ _ ni2.symm (b3.extBut _ _ ap.oz.symm (b2.extBut _ _ ni1.symm z1))
  have ne:=stop st z4
  obtain ⟨oe,f1,f2⟩:=st
  refine wpAny_setField_rec z4 (Nat.succ_pos _) fun h5 _ b5=>?_
  exact hE h5 _ e (fun c o c1 c2 c3 c4 y=>b5.extBut _ _ c1 (x4 _ _ c4 (b3.extBut _ _ c2 (b2.extBut _ _ c3 (b1.extBut _ _ c1 y))))) ⟨oe,b5.extBut _ _ ne f1,f2⟩
theorem next_item {Q:Option Value→Shared→Prop} (D1:Draws prog w A.in1 i1 p n1 P1 S1) (D2:Draws prog w A.in1 i2 q n2 P2 S2) (ap:Ap z TI TO i1 i2 p q) (hz:IsZip s.heap z TI TO .none) (hi:IsPair s.heap TI (.ref i1) (.ref i2)) (ho:IsPair s.heap TO a b)
  (s1:S1 k s.heap) (s2:S2 k s.heap) (k1:k<n1) (k2:k<n2)
  (hQ:∀ x y h' tk,P1 k x→P2 k y→IsZip h' z TI TO (rawInt s.heap.objs.size)→IsPair h' TO x y→S1 (k+1) h'→S2 (k+1) h'→IsPair h' s.heap.objs.size x y→h'.objs.size=s.heap.objs.size+1 →
   (∀ c o,c≠z→c≠TO→c≠i1→c≠i2→s.heap.get? c=some o→h'.get? c=some o)→Q (some (.ref s.heap.objs.size)) { s with heap:=h',toks:=tk }):wpAny (model prog w) A (pyNext (.ref z)) Q E s:=by
 have ty:s.TypeIs (.ref z) "zip":=⟨_,hz,rfl⟩
 rw [pyNext]
 apply wpAny_bind;apply wpAny_attempt
 apply wpAny_callSpecial?_slot (name:=Str.ofString "__next__") ty F.slot_zip_next
 apply wpAny_call_entry F.slot_zip_next ty F.entry_zip_next _ (F.args_zip_next_1 _)
 exact aju D1 D2 ap hz hi ho s1 s2 k1 k2 fun x y h' tk c1 c2 c3 c4 c5 c6 c7 c8 c9=>wpAny_pure (hQ x y h' tk c1 c2 c3 c4 c5 c6 c7 c8 c9)
theorem next_end {Q:Option Value→Shared→Prop} (D1:Draws prog w A.in1 i1 p n1 P1 S1) (D2:Draws prog w A.in1 i2 q n2 P2 S2) (ap:Ap z TI TO i1 i2 p q) (hz:IsZip s.heap z TI TO .none) (hi:IsPair s.heap TI (.ref i1) (.ref i2)) (ho:IsPair s.heap TO a b)
  (s1:S1 k s.heap) (s2:S2 k s.heap) (kk:k=n1∨(k<n1∧k=n2))
  (hQ:∀ h' tk,(∀ c o,c≠z→c≠TO→c≠i1→c≠i2→s.heap.get? c=some o→h'.get? c=some o)→Q none { s with heap:=h',toks:=tk }):wpAny (model prog w) A (pyNext (.ref z)) Q E s:=by
 have ty:s.TypeIs (.ref z) "zip":=⟨_,hz,rfl⟩
 rw [pyNext]
 apply wpAny_bind;apply wpAny_attempt
 apply wpAny_callSpecial?_slot (name:=Str.ofString "__next__") ty F.slot_zip_next
 apply wpAny_call_entry F.slot_zip_next ty F.entry_zip_next _ (F.args_zip_next_1 _)
 refine aod D1 D2 ap hz hi ho s1 s2 kk fun h' tk e kp ⟨o,f1,f2⟩=>?_
 refine wpAny_bind (wpAny_isInstance (b:=true) (T := "StopIteration") ⟨o,f1,f2⟩ isSubtype_stop (wpAny_pure (hQ h' tk kp)))
end
end ZP
namespace ZP
open PySem PySem.Spec PySem.Builtin PySem.Builtin.SmallTypes L2
inductive Srk where
 | tup (a:Addr) | lst (a:Addr) | str (x:Str)
def Srk.v:Srk→V
 | .tup a=>.ref a
 | .lst a=>.ref a
 | .str x=>.str x
def its (H:Hp):Srk→Option (List V)
 | .tup a=>match H a with | some (.tup vs)=>some vs | _=>none
 | .lst a=>match H a with | some (.lst vs)=>some vs | some (.frz _ (.lst vs))=>some vs | _=>none
 | .str x=>some (zr x)
def own (it:Addr) (t:Tok):Srk→Nat→Heap→Prop
 | .tup a,i,h=>h.IsTupleIter it a i
 | .lst a,i,h=>h.IsListIter it a i
 | .str x,i,h=>h.IsStrIter it (strIterType x) x t i
def iob (t:Tok):Srk→Obj
 | .tup a=>{ cls:=.type "tuple_iterator",data:=.fields #[.ref a, .int 0 0] }
 | .lst a=>{ cls:=.type "list_iterator",data:=.fields #[.ref a, .int 0 0] }
 | .str x=>{ cls:=.type (strIterType x),data:=.fields #[.str x t, .int 0 0] }
def val (t:Tok):Srk→Value
 | .tup a=>.ref a
 | .lst a=>.ref a
 | .str x=>.str x t
def cont (h:Heap):Srk→List Value→Prop
 | .tup a,us=>h.IsTuple a us.toArray
 | .lst a,us=>h.IsList a us.toArray
 | .str x,us=>True
theorem axz {it:Addr} {t:Tok} {k:Srk} {h:Heap} (e:h.get? it=some (iob t k)):own it t k 0 h:=by
 cases k with
 | tup a=>exact ⟨_,e,rfl,rfl⟩
 | lst a=>exact ⟨_,e,rfl,rfl⟩
 | str x=>exact ⟨_,e,rfl,rfl⟩
theorem a8u {it:Addr} {t:Tok} {k:Srk} {i:Nat} {h:Heap} (o:own it t k i h):∃ ob,h.get? it=some ob∧∀ v,ob.data≠.cell v:=by
 cases k with
 | tup a=>obtain ⟨ob,e,_,d⟩:=o;exact ⟨ob,e,fun v z=>by rw [d] at z;cases z⟩
 | lst a=>obtain ⟨ob,e,_,d⟩:=o;exact ⟨ob,e,fun v z=>by rw [d] at z;cases z⟩
 | str x=>obtain ⟨ob,e,_,d⟩:=o;exact ⟨ob,e,fun v z=>by rw [d] at z;cases z⟩
theorem a68 {it:Addr} {t:Tok} {k:Srk} {i:Nat} {h h':Heap} (o:own it t k i h) (kk:∀ ob,h.get? it=some ob→h'.get? it=some ob):own it t k i h':=by
 cases k with
 | tup a=>obtain ⟨ob,e,r⟩:=o;exact ⟨ob,kk _ e,r⟩
 | lst a=>obtain ⟨ob,e,r⟩:=o;exact ⟨ob,kk _ e,r⟩
 | str x=>obtain ⟨ob,e,r⟩:=o;exact ⟨ob,kk _ e,r⟩
section
variable {P:Program} {w:World} {H:Hp} {s:Shared}
theorem a8v {X:Cx} {pins:List (Addr × Obj)} {σ:St} (I:Inv X pins σ H s) {k:Srk} {xs:List V} (e:its H k=some xs):∃ us,cont s.heap k us∧((∀ x,k≠.str x)→Vals xs us):=by
 cases k with
 | tup a =>
  cases q:H a with
  | none=>simp [its,q] at e
  | some o =>
   cases o with
   | tup vs =>
    simp [its,q] at e;subst e
    obtain ⟨us,r,t,_⟩:=I.tuple (SqT.of q)
    exact ⟨us,t,fun _=>r⟩
   | _=>simp [its,q] at e
 | lst a =>
  cases q:H a with
  | none=>simp [its,q] at e
  | some o =>
   cases o with
   | lst vs =>
    simp [its,q] at e;subst e
    obtain ⟨us,r,t,_⟩:=I.list (SqL.of q)
    exact ⟨us,t.isList,fun _=>r⟩
   | frz ob u =>
    cases u with
    | lst vs =>
     simp [its,q] at e;subst e
     obtain ⟨us,r,t,_⟩:=I.list (.inl (.inr ⟨_,q⟩))
     exact ⟨us,t.isList,fun _=>r⟩
    | _=>simp [its,q] at e
   | _=>simp [its,q] at e
 | str x=>exact ⟨[],True.intro,fun n=>absurd rfl (n x)⟩
theorem a8w {X:Cx} {pins:List (Addr × Obj)} {σ:St} (I:Inv X pins σ H s) {k:Srk} {xs:List V} {it:Addr} {t:Tok} (e:its H k=some xs) (hn:H it=none) :
  ∃ (cs:List Addr) (P1:Nat→Value→Prop) (S1:Nat→Heap→Prop),(∀ A:Around,A.handled=none→Draws X.prog X.w A it (it::cs) xs.length P1 S1)∧(∀ i,own it t k i s.heap→S1 i s.heap)∧(∀ i h,S1 i h→own it t k i h)∧(∀ c∈cs,H c≠none) ∧
   ∀ i v,P1 i v→∃ x,xs[i]? = some x∧RelV x v:=by
 cases k with
 | tup a =>
  obtain ⟨us,c,r⟩:=a8v I e
  have r:=r (by intro x z;cases z)
  have ha:H a≠none:=fun z=>by simp [its,z] at e
  have l:us.toArray.size=xs.length:=by rw [List.size_toArray,r.length]
  refine ⟨[a],fun i v=>us.toArray[i]? = some v,fun i h=>h.IsTupleIter it a i∧h.IsTuple a us.toArray,fun A hA=>?_,fun i o=>⟨o,c⟩,fun i h z=>z.1,fun c hc=>by rw [List.mem_singleton.mp hc];exact ha,fun i v z=>?_⟩
  ·have:=ago (prog:=X.prog) (w:=X.w) hA it a (fun y=>ha (y ▸ hn)) us.toArray
   rw [l] at this;exact this
  ·have z':us[i]? = some v:=by simpa using z
   have hi:i<xs.length:=by rw [r.length];exact (List.getElem?_eq_some_iff.mp z').1
   obtain ⟨u,e1,e2⟩:=r.get (List.getElem?_eq_getElem hi)
   rw [z'] at e1;cases e1
   exact ⟨_,List.getElem?_eq_getElem hi,e2⟩
 | lst a =>
  obtain ⟨us,c,r⟩:=a8v I e
  have r:=r (by intro x z;cases z)
  have ha:H a≠none:=fun z=>by simp [its,z] at e
  have l:us.toArray.size=xs.length:=by rw [List.size_toArray,r.length]
  refine ⟨[a],fun i v=>us.toArray[i]? = some v,fun i h=>h.IsListIter it a i∧h.IsList a us.toArray,fun A hA=>?_,fun i o=>⟨o,c⟩,fun i h z=>z.1,fun c hc=>by rw [List.mem_singleton.mp hc];exact ha,fun i v z=>?_⟩
  ·have:=Draws.list (prog:=X.prog) (w:=X.w) hA it a (fun y=>ha (y ▸ hn)) us.toArray
   rw [l] at this;exact this
  ·have z':us[i]? = some v:=by simpa using z
   have hi:i<xs.length:=by rw [r.length];exact (List.getElem?_eq_some_iff.mp z').1
   obtain ⟨u,e1,e2⟩:=r.get (List.getElem?_eq_getElem hi)
   rw [z'] at e1;cases e1
   exact ⟨_,List.getElem?_eq_getElem hi,e2⟩
 | str x =>
  cases e
  have l:(zr x).length=x.cps.size:=by simp [zr]
  refine ⟨[],fun i v=>∃ c u,x.cps[i]? = some c∧v = .str ⟨#[c]⟩ u,fun i h=>h.IsStrIter it (strIterType x) x t i,fun A hA=>?_,fun i o=>o,fun i h z=>z,fun c hc=>(by cases hc),fun i v z=>?_⟩
  ·rw [l]
   cases ha:x.cps.all (· < 128)
   ·have:=Draws.strWide (prog:=X.prog) (w:=X.w) hA it x t
    simpa [strIterType,ha] using this
   ·have:=Draws.strAscii (prog:=X.prog) (w:=X.w) hA it x t
    simpa [strIterType,ha] using this
  ·obtain ⟨c,u,e1,rfl⟩:=z
   exact ⟨.str ⟨#[c]⟩,by simp [zr,e1],⟨_,rfl⟩⟩
end
def ItZ (k1 k2:Srk):It where
 go:=fun i H=>∃ xs ys x y,its H k1=some xs∧its H k2=some ys∧xs[i]? = some x∧ys[i]? = some y
 yld:=fun i H v H'=>∃ xs ys x y p,its H k1=some xs∧its H k2=some ys∧xs[i]? = some x∧ys[i]? = some y∧H p=none∧v = .ref p∧H'=upd H p (.tup [x,y])
 stop:=fun i H=>∃ xs ys,its H k1=some xs∧its H k2=some ys∧(i=xs.length∨(i<xs.length∧i=ys.length))
def tnZ (z TI TO i1 i2:Addr) (t1 t2:Tok) (k1 k2:Srk) (i:Nat) (h:Heap):Prop :=
 IsZip h z TI TO .none∧IsPair h TI (.ref i1) (.ref i2)∧(∃ a b,IsPair h TO a b)∧own i1 t1 k1 i h∧own i2 t2 k2 i h
structure Far (z TI TO i1 i2:Addr):Prop where
 a:TI≠z
 b:TO≠z
 c:i1≠z
 d:i2≠z
 e:TI≠TO
 f:TI≠i1
 g:TI≠i2
 h:TO≠i1
 i:TO≠i2
 j:i1≠i2
theorem agq {X:Cx} {pins:List (Addr × Obj)} {σ:St} {H:Hp} {s:Shared} {h':Heap} {t':Nat} {ch:List Addr} (I:Inv X pins σ H s) (hf:∀ b∈ch,aba X pins H b) (k:∀ b o,b ∉ ch→s.heap.get? b=some o→h'.get? b=some o) :
  Inv X pins σ H { s with heap:=h',toks:=t' }:=by
 have nit:∀ b u,H b=some u→b ∉ ch:=fun b u e z=>by rw [(hf b z).1] at e;cases e
 refine I.step (g':=s.gens) (d':=s.drawn) (ch:=ch) (fun b hb=>?_) (fun b o _ _ hc e _=>k b o hc e) (fun b o _ _ hc e _=>⟨o.slots,k b o hc e⟩) (fun _ _ _ _ n=>n) (fun b o hc e=>⟨o,k b o hc e⟩) (fun _ _ e=>e) (fun _ _ _ e=>e)
  (fun b ps e=>⟨#[],by rw [e];simp⟩) (fun m hm=>?_) (fun b u e=>?_) I.bare
 ·obtain ⟨_,f1,_,f3,f4,f5⟩:=hf b hb
  exact ⟨f3,f1,f4,f5⟩
 ·obtain ⟨o,es,ep,ho,r⟩:=hm
  exact ⟨o,es,ep,k _ o (fun z=>(hf _ z).2.1 rfl) ho,r⟩
 ·refine (I.hok b u e).stay (fun c v hc q=>k c v ?_ q) (fun _ q=>q) fun _ _ q=>q
  rcases hc with z | z
  ·rw [z];exact nit b u e
  ·exact nit c _ z
theorem ajv {P:Program} {w:World} {K:PySem.W.Frag} {elts:List Expr} {x1:Nat} {pos:Pos} {z TI TO i1 i2:Addr} {t1 t2:Tok} {k1 k2:Srk} (f:Far z TI TO i1 i2):Turn P w K (.Tuple elts x1 pos) (ItZ k1 k2) [z,TI,TO,i1,i2] z (tnZ z TI TO i1 i2 t1 t2 k1 k2) where
 mem:=by simp
 obj:=fun i h st b hb=>by
  obtain ⟨h1,h2,⟨a,b',h3⟩,h4,h5⟩:=st
  simp only [List.mem_cons,List.not_mem_nil,or_false] at hb
  rcases hb with rfl | rfl | rfl | rfl | rfl
  ·exact ⟨_,h1,fun v z=>(by cases z)⟩
  ·exact ⟨_,h2,fun v z=>(by cases z)⟩
  ·exact ⟨_,h3,fun v z=>(by cases z)⟩
  ·exact a8u h4
  ·exact a8u h5
 keep:=fun i h h' st k=>by
  obtain ⟨h1,h2,⟨a,b',h3⟩,h4,h5⟩:=st
  exact ⟨k z (by simp) _ h1,k TI (by simp) _ h2,⟨a,b',k TO (by simp) _ h3⟩,a68 h4 fun ob e=>k i1 (by simp) ob e,a68 h5 fun ob e=>k i2 (by simp) ob e⟩
 item:=by
  intro X hP hw hK hc i pins s σ H E I hf st hg
  subst hP hw hK
  obtain ⟨xs,ys,x,y,e1,e2,g1,g2⟩:=hg
  obtain ⟨h1,h2,⟨a,b,h3⟩,h4,h5⟩:=st
  have n:∀ c∈[z,TI,TO,i1,i2],H c=none:=fun c hc=>(hf c hc).1
  obtain ⟨cs,P1,S1,D1,a1,b1,c1,d1⟩:=a8w I (t:=t1) e1 (n i1 (by simp))
  obtain ⟨ds,P2,S2,D2,a2,b2,c2,d2⟩:=a8w I (t:=t2) e2 (n i2 (by simp))
  have hd:=I.ok.hd hc
  have out1:∀ c,H c=none→c ∉ cs:=fun c e z=>c1 c z e
  have out2:∀ c,H c=none→c ∉ ds:=fun c e z=>c2 c z e
  have ap:Ap z TI TO i1 i2 (i1::cs) (i2::ds):=⟨by simp,by simp,by simp [f.c.symm,out1 z (n z (by simp))],by simp [f.d.symm,out2 z (n z (by simp))],by simp [f.h,out1 TO (n TO (by simp))],by simp [f.i,out2 TO (n TO (by simp))],f.b,by simp [f.j,out2 i1 (n i1 (by simp))],by simp [f.j.symm,out1 i2 (n i2 (by simp))]⟩
  refine next_item (D1 X.A.in1 hd) (D2 X.A.in1 hd) ap h1 h2 h3 (a1 i h4) (a2 i h5) (List.getElem?_eq_some_iff.mp g1).1 (List.getElem?_eq_some_iff.mp g2).1 fun u v h' tk pu pv z' to' s1' s2' pr sz kp=>?_
  obtain ⟨x',q1,r1⟩:=d1 i u pu
  obtain ⟨y',q2,r2⟩:=d2 i v pv
  rw [g1] at q1;cases q1
  rw [g2] at q2;cases q2
  refine ⟨_,rfl,wpAny_letOwnedTupleGo_zip z' fun h2' z2' sb=>?_⟩
  have hp:H s.heap.objs.size=none:=I.hok.fresh (Nat.le_refl _)
  have lt:∀ c∈[z,TI,TO,i1,i2],c<s.heap.objs.size:=fun c hc=>by
   simp only [List.mem_cons,List.not_mem_nil,or_false] at hc
   rcases hc with rfl | rfl | rfl | rfl | rfl
   ·exact Heap.lt_size h1
   ·exact Heap.lt_size h2
   ·exact Heap.lt_size h3
   ·obtain ⟨_,e,_⟩:=a8u h4;exact Heap.lt_size e
   ·obtain ⟨_,e,_⟩:=a8u h5;exact Heap.lt_size e
  have all:∀ c o,c ∉ [z,TI,TO,i1,i2]→s.heap.get? c=some o→h2'.get? c=some o:=fun c o nc e=>by
   simp only [List.mem_cons,List.not_mem_nil,or_false,not_or] at nc
   exact (sb.2 c nc.1).trans (kp c o nc.1 nc.2.2.1 nc.2.2.2.1 nc.2.2.2.2 e)
  have nT:∀ c∈[z,TI,TO,i1,i2],c≠s.heap.objs.size:=fun c hc=>Nat.ne_of_lt (lt c hc)
  have I0:Inv X pins σ (upd H s.heap.objs.size (.tup [x,y])) { s with heap:=s.heap.push { cls:=.type "tuple",data:=.seq #[u,v] } } :=
   I.laid (t':=s.toks) (o:=.tup [x,y]) (fun b o e=>Heap.get?_push_of_some _ e) (Nat.le_refl _) ⟨by show 2≤sizeLine;decide,[u,v], .cons r1 (.cons r2 .nil),⟨_,Heap.get?_push_size _ rfl,rfl,_,rfl⟩⟩
  have I1:Inv X pins σ (upd H s.heap.objs.size (.tup [x,y])) { s with heap:=h2',toks:=tk }:=by
   refine agq (s:={ s with heap:=s.heap.push { cls:=.type "tuple",data:=.seq #[u,v] } }) (ch:=[z,TI,TO,i1,i2]) I0 (fun b hb=>?_) fun c o nc e=>?_
   ·obtain ⟨f0,f1⟩:=hf b hb
    exact ⟨by rw [jn (nT b hb)];exact f0,f1⟩
   ·rcases Heap.get?_push_cases e with ⟨rfl,rfl⟩ | e
    ·exact (sb.2 _ (nT z (by simp)).symm).trans pr
    ·exact all c o nc e
  refine ⟨.ref s.heap.objs.size,_,I1,rfl,⟨xs,ys,x,y,_,e1,e2,g1,g2,hp,rfl,rfl⟩,⟨z2',?_,⟨u,v,(sb.2 _ f.b).trans to'⟩,a68 (b1 _ _ s1') fun ob e=>(sb.2 _ f.c).trans e,a68 (b2 _ _ s2') fun ob e=>(sb.2 _ f.d).trans e⟩,fun b hb=>?_⟩
  ·exact (sb.2 _ f.a).trans (kp TI _ f.a f.e f.f f.g h2)
  ·rw [jn (nT b hb)];exact n b hb
 done:=by
  intro X hP hw hK hc i pins s σ H E I hf st hg
  subst hP hw hK
  obtain ⟨xs,ys,e1,e2,g⟩:=hg
  obtain ⟨h1,h2,⟨a,b,h3⟩,h4,h5⟩:=st
  have n:∀ c∈[z,TI,TO,i1,i2],H c=none:=fun c hc=>(hf c hc).1
  obtain ⟨cs,P1,S1,D1,a1,b1,c1,d1⟩:=a8w I (t:=t1) e1 (n i1 (by simp))
  obtain ⟨ds,P2,S2,D2,a2,b2,c2,d2⟩:=a8w I (t:=t2) e2 (n i2 (by simp))
  have hd:=I.ok.hd hc
  have out1:∀ c,H c=none→c ∉ cs:=fun c e z=>c1 c z e
  have out2:∀ c,H c=none→c ∉ ds:=fun c e z=>c2 c z e
  have ap:Ap z TI TO i1 i2 (i1::cs) (i2::ds):=⟨by simp,by simp,by simp [f.c.symm,out1 z (n z (by simp))],by simp [f.d.symm,out2 z (n z (by simp))],by simp [f.h,out1 TO (n TO (by simp))],by simp [f.i,out2 TO (n TO (by simp))],f.b,by simp [f.j,out2 i1 (n i1 (by simp))],by simp [f.j.symm,out1 i2 (n i2 (by simp))]⟩
  refine next_end (D1 X.A.in1 hd) (D2 X.A.in1 hd) ap h1 h2 h3 (a1 i h4) (a2 i h5) g fun h' tk kp=>⟨rfl,agq I hf fun c o nc e=>?_⟩
  simp only [List.mem_cons,List.not_mem_nil,or_false,not_or] at nc
  exact kp c o nc.1 nc.2.2.1 nc.2.2.2.1 nc.2.2.2.2 e
 self:=fun _ _ _ _ _ st h=>wpAny_pyIter_zip st.1 h
end ZP
namespace ZP
open PySem PySem.Spec PySem.Builtin PySem.Builtin.SmallTypes L2
theorem agr {h:Heap} {k:Srk} {us:List Value} (c:cont h k us) (o:Obj):cont (h.push o) k us:=by
 cases k with
 | tup a=>obtain ⟨ob,e,r⟩:=c;exact ⟨ob,Heap.get?_push_of_some _ e,r⟩
 | lst a=>obtain ⟨ob,e,r⟩:=c;exact ⟨ob,Heap.get?_push_of_some _ e,r⟩
 | str x=>trivial
theorem ad2 {prog:Program} {w:World} {A:Around} {E:Value→Shared→Prop} {s:Shared} {k:Srk} {t:Tok} {us:List Value} {Q:Value→Shared→Prop} (c:cont s.heap k us) (q:Q (.ref s.heap.objs.size) { s with heap:=s.heap.push (iob t k) }) :
  wpAny (model prog w) A (pyIter (val t k)) Q E s:=by
 cases k with
 | tup a=>exact wpAny_pyIter_tuple c q
 | lst a=>exact wpAny_pyIter_list c q
 | str x=>exact wpAny_pyIter_strU q
def mk2 (h:Heap) (t1 t2:Tok) (k1 k2:Srk):Heap:=(h.push (iob t1 k1)).push (iob t2 k2)
def mk5 (h:Heap) (t1 t2:Tok) (k1 k2:Srk):Heap :=
 (((mk2 h t1 t2 k1 k2).push { cls:=.type "tuple",data:=.seq #[.ref h.objs.size, .ref (h.objs.size+1)] }).push { cls:=.type "tuple",data:=.seq #[.none, .none] }).push
  { cls:=.type "zip",data:=.fields #[.none, .bool false, .bool false, .ref (h.objs.size+2), .ref (h.objs.size+3)] }
theorem ajw (t1 t2:Tok) (k1 k2:Srk) (us1 us2:List Value):Meets (Builtin.«zip.__new__» ⟨[.type "zip",val t1 k1,val t2 k2],[]⟩)
  (fun _ R s=>cont s.heap k1 us1∧cont s.heap k2 us2∧R (.ok (.ret (.ref (s.heap.objs.size+4)))) { s with heap:=mk5 s.heap t1 t2 k1 k2 }) :=
 .of_wp fun prog w A R s h=>by
  obtain ⟨hp,g,d,tk,os⟩:=s
  obtain ⟨c1,c2,h⟩:=h
  have sub:=sub_zip
  have c1':cont (Shared.heap ⟨hp,g,d,tk,os⟩) k1 us1:=c1
  have c2':cont (Shared.heap ⟨hp.push (iob t1 k1),g,d,tk,os⟩) k2 us2:=agr c2 _
  wp_walk using ad2 (t:=t1) c1',ad2 (t:=t2) c2'
  refine ⟨_,rfl,?_⟩
  simpa [mk5,mk2,Heap.size_push,ownedTupleFields,Nat.add_assoc] using h
theorem awu (n:Nat):Far (n+4) (n+2) (n+3) n (n+1):=by
 refine ⟨?_,?_,?_,?_,?_,?_,?_,?_,?_,?_⟩<;>(intro z;have z:(_:Nat)=_:=z;omega)
theorem az2 (n b:Nat) (h:b∈[n+4,n+2,n+3,n,n+1]):n≤b:=by
 simp only [List.mem_cons,List.not_mem_nil,or_false] at h
 omega
section
variable {X:Cx} {elts:List Expr} {x1:Nat} {tpos:Pos}
def az3 (ta:TA):TI:=fun σ H R=>ta σ H fun vs H1=>∃ k1 k2 xs ys,vs=[Srk.v k1,Srk.v k2]∧its H1 k1=some xs∧its H1 k2=some ys∧R (ItZ k1 k2) H1
theorem alx {k:Srk} {u:Value} (r:RelV k.v u):∃ t,u=val t k:=by
 cases k with
 | tup a=>cases r;exact ⟨0,rfl⟩
 | lst a=>cases r;exact ⟨0,rfl⟩
 | str x=>obtain ⟨t,rfl⟩:=r;exact ⟨t,rfl⟩
theorem asx {e1 e2:Expr} {ta:TA} {p pos:Pos} (hg:Gl X "zip") (hm:X.mg "zip" = none) (hb:bootBuiltins "zip" = some (.type "zip")) (ha:PA X [e1,e2] ta)
  (h1:starEach [e1,e2] X.env=[(false,eval e1 X.env),(false,eval e2 X.env)]:=by rfl) (h2:starEach [e2] X.env=[(false,eval e2 X.env)]:=by rfl):PI X (.Tuple elts x1 tpos) (.Call (.Name "zip" p) [e1,e2] [] pos) (az3 ta):=by
 intro pins s σ H R I h
 refine wpAny_Call_Name_kw (a9s I hg hm hb ?_ (by decide) (by decide))
 refine PyProof.Rows.callWith_type1 (thn (ha pos pins s σ H _ I h) fun us s1 ⟨vs,H1,I1,r1,q1⟩=>?_) (by rw [h1,h2]) (by rw [h2];rfl)
 obtain ⟨k1,k2,xs,ys,rfl,e1,e2,q⟩:=q1
 obtain ⟨v1,v2,rfl,rv1,rv2⟩:=vals2 r1
 obtain ⟨t1,rfl⟩:=alx rv1
 obtain ⟨t2,rfl⟩:=alx rv2
 obtain ⟨us1,c1,_⟩:=a8v I1 e1
 obtain ⟨us2,c2,_⟩:=a8v I1 e2
 refine callType_new F.called_zip (by decide) (F.typeCall_zip_2 _ _) (F.newCall_zip_2 _ _) (fun obj=>F.args_object_init_3 obj _ _) F.entry_zip_new (ajw t1 t2 k1 k2 us1 us2) ⟨c1,c2,?_⟩
 have z2:(mk2 s1.heap t1 t2 k1 k2).objs.size=s1.heap.objs.size+2:=by simp [mk2,Heap.size_push]
 have at0:(mk5 s1.heap t1 t2 k1 k2).get? s1.heap.objs.size=some (iob t1 k1):=by
  unfold mk5 mk2
  exact Heap.get?_push_of_some _ (Heap.get?_push_of_some _ (Heap.get?_push_of_some _ (Heap.get?_push_of_some _ (Heap.get?_push_size _ (by cases k1<;>rfl)))))
 have at1:(mk5 s1.heap t1 t2 k1 k2).get? (s1.heap.objs.size+1)=some (iob t2 k2):=by
  unfold mk5 mk2
  have:=Heap.get?_push_size (o:=iob t2 k2) (s1.heap.push (iob t1 k1)) (by cases k2<;>rfl)
  rw [Heap.size_push] at this
  exact Heap.get?_push_of_some _ (Heap.get?_push_of_some _ (Heap.get?_push_of_some _ this))
 have at2:IsPair (mk5 s1.heap t1 t2 k1 k2) (s1.heap.objs.size+2) (.ref s1.heap.objs.size) (.ref (s1.heap.objs.size+1)):=by
  unfold mk5
  rw [← z2]
  exact Heap.get?_push_of_some _ (Heap.get?_push_of_some _ (Heap.get?_push_size _ rfl))
 have at3:IsPair (mk5 s1.heap t1 t2 k1 k2) (s1.heap.objs.size+3) .none .none:=by
  unfold mk5
  have:=Heap.get?_push_size (o:={ cls:=.type "tuple",data:=.seq #[.none, .none] }) ((mk2 s1.heap t1 t2 k1 k2).push { cls:=.type "tuple",data:=.seq #[.ref s1.heap.objs.size, .ref (s1.heap.objs.size+1)] }) rfl
  rw [Heap.size_push,z2] at this
  exact Heap.get?_push_of_some _ this
 have at4:IsZip (mk5 s1.heap t1 t2 k1 k2) (s1.heap.objs.size+4) (s1.heap.objs.size+2) (s1.heap.objs.size+3) .none:=by
  unfold mk5
  have:=Heap.get?_push_size (o:={ cls:=.type "zip",data:=.fields #[.none, .bool false, .bool false, .ref (s1.heap.objs.size+2), .ref (s1.heap.objs.size+3)] }) (((mk2 s1.heap t1 t2 k1 k2).push { cls:=.type "tuple",data:=.seq #[.ref s1.heap.objs.size, .ref (s1.heap.objs.size+1)] }).push { cls:=.type "tuple",data:=.seq #[.none, .none] }) rfl
  rw [Heap.size_push,Heap.size_push,z2] at this
  exact this
 have keepA:∀ b o,s1.heap.get? b=some o→(mk5 s1.heap t1 t2 k1 k2).get? b=some o:=fun b o e=>by
  unfold mk5 mk2
  exact Heap.get?_push_of_some _ (Heap.get?_push_of_some _ (Heap.get?_push_of_some _ (Heap.get?_push_of_some _ (Heap.get?_push_of_some _ e))))
 have I2:Inv X pins σ H1 { s1 with heap:=mk5 s1.heap t1 t2 k1 k2 }:=I1.kept (t':=s1.toks) keepA
 refine ⟨⟨_,at4,rfl⟩,?_⟩
 refine wpAny_pyIter_zip (s:={ s1 with heap:=mk5 s1.heap t1 t2 k1 k2 }) at4 ?_
 refine ⟨s1.heap.objs.size+4,[s1.heap.objs.size+4,s1.heap.objs.size+2,s1.heap.objs.size+3,s1.heap.objs.size,s1.heap.objs.size+1],tnZ _ _ _ _ _ t1 t2 k1 k2,ItZ k1 k2,H1,rfl,I2,ajv (awu s1.heap.objs.size),
  ⟨at4,at2,⟨_,_,at3⟩,axz at0,axz at1⟩,fun b hb=>?_,q⟩
 have:s1.heap.objs.size≤b:=az2 _ b hb
 exact I1.fpOk this (I1.hok.fresh this)
end
end ZP
namespace MI
open PySem PySem.Spec L2 ZP
def srcOf (d:D) (h:Hd):Option (List D × (Hd→Prop)):=match d with
 | .tup xs=>some (xs,fun _=>True)
 | .rol xs=>some (xs,fun _=>True)
 | .str x=>some (a1d x,fun _=>True)
 | .ref i=>(match h[i]? with | some (.lst xs)=>some (xs,fun h=>h[i]? = some (.lst xs)) | _=>none)
 | _=>none
def asy (x y:D) (h:Hd):R Itm:=match srcOf x h,srcOf y h with
 | some (xs,c1),some (ys,c2)=>.ok ⟨(xs.zip ys).map fun p=>.tup [p.1,p.2],fun h=>c1 h∧c2 h⟩ h
 | _,_=>.no
def aoe (f g:SE):SI:=fun τ h=>(f τ h).bind fun x h1=>(g τ h1).bind fun y h2=>asy x y h2
theorem aly {K:PySem.W.Frag} {ι:List Addr} {H:Hp} {h:Hd} {v:V} {d:D} {xs:List D} {ck:Hd→Prop} (r:Rep K ι H v d) (hr:HRep K ι H h) (e:srcOf d h=some (xs,ck)) :
  ∃ k:Srk,v=k.v∧ck h∧∀ ι' H' h',Gr ι H ι' H'→HRep K ι' H' h'→ck h'→∃ vs,its H' k=some vs∧Reps K ι' H' vs xs:=by
 cases r with
 | @tup a vs ys ha rs =>
  cases e
  exact ⟨.tup a,rfl,True.intro,fun ι' H' h' g _ _=>⟨vs,by simp [its,g.tup _ _ ha],rs.mono g⟩⟩
 | @rol a vs ys ha rs =>
  cases e
  refine ⟨.lst a,rfl,True.intro,fun ι' H' h' g _ _=>⟨vs,?_,rs.mono g⟩⟩
  obtain ⟨o,q⟩:=ha.mono g
  simp [its,q]
 | str x =>
  cases e
  exact ⟨.str x,rfl,True.intro,fun ι' H' h' g _ _=>⟨_,rfl,a4u x⟩⟩
 | @ref a i ha =>
  obtain ⟨ob,e1,e2⟩:=hr.at ha
  cases ob with
  | lst zs =>
   simp only [srcOf,e1] at e
   cases e
   refine ⟨.lst a,rfl,e1,fun ι' H' h' g hr' c=>?_⟩
   obtain ⟨us,q1,q2⟩:=hr'.obj i a _ (g.at ha) c
   exact ⟨us,by simp [its,q1],q2⟩
  | dK _=>simp only [srcOf,e1] at e;cases e
  | dT _=>simp only [srcOf,e1] at e;cases e
 | _=>cases e
theorem asz {X:Cx} {E:XD} {elts:List Expr} {x1:Nat} {tpos:Pos} {e1 e2:Expr} {f g:SE} {p pos:Pos} (hg:Gl X "zip") (hm:X.mg "zip" = none) (hb:bootBuiltins "zip" = some (.type "zip")) (ha:ME X E e1 f) (hb':ME X E e2 g)
  (h1:starEach [e1,e2] X.env=[(false,eval e1 X.env),(false,eval e2 X.env)]:=by rfl) (h2:starEach [e2] X.env=[(false,eval e2 X.env)]:=by rfl) :
  MI X E (.Tuple elts x1 tpos) (.Call (.Name "zip" p) [e1,e2] [] pos) (aoe f g):=by
 intro pins s σ H Rr I ⟨ι,τ,h,S,Rh,o⟩
 refine asx hg hm hb (v4 ha (v4 hb' a6d (by rw [h2];rfl)) (by rw [h1,h2])) h1 h2 pins s σ H Rr I ?_
 refine ⟨ι,τ,h,S,Rh,gj o fun d h1 ι1 H1 v g1 r1 hr1 o1=>?_⟩
 refine ⟨ι1,τ,h1,S.mono g1,hr1,gj o1 fun d2 h2 ι2 H2 u g2 r2 hr2 o2=>?_⟩
 unfold asy at o2
 split at o2
 ·rename_i xs c1 ys c2 q1 q2
  obtain ⟨k1,rfl,k1c,k1f⟩:=aly (r1.mono g2) hr2 q1
  obtain ⟨k2,rfl,k2c,k2f⟩:=aly r2 hr2 q2
  obtain ⟨vs1,w1,w2⟩:=k1f ι2 H2 h2 (.refl _ _) hr2 k1c
  obtain ⟨vs2,w3,w4⟩:=k2f ι2 H2 h2 (.refl _ _) hr2 k2c
  refine ⟨k1,k2,vs1,vs2,rfl,w1,w3,o2 ι2 H2 _ (.refl _ _) ?_ hr2⟩
  intro ι3 H3 h3 g3 hr3 c
  obtain ⟨us1,a1,a2⟩:=k1f ι3 H3 h3 g3 hr3 c.1
  obtain ⟨us2,a3,a4⟩:=k2f ι3 H3 h3 g3 hr3 c.2
  refine ⟨fun i d ed=>?_,us1,us2,a1,a3,?_⟩
  ·simp only [List.getElem?_map,Option.map_eq_some_iff] at ed
   obtain ⟨⟨x,y⟩,ez,rfl⟩:=ed
   obtain ⟨ex,ey⟩:=List.getElem?_zip_eq_some.mp ez
   obtain ⟨v1,b1,b2⟩:=a2.get ex
   obtain ⟨v2,b3,b4⟩:=a4.get ey
   refine ⟨⟨us1,us2,v1,v2,a1,a3,b1,b3⟩,fun x H' yl=>?_⟩
   obtain ⟨xs',ys',x',y',p,c1,c2,c3,c4,c5,rfl,rfl⟩:=yl
   rw [a1] at c1;cases c1
   rw [a3] at c2;cases c2
   rw [b1] at c3;cases c3
   rw [b3] at c4;cases c4
   exact ⟨a0p c5 _, .tup ou (.cons (b2.mono (a0p c5 _)) (.cons (b4.mono (a0p c5 _)) .nil)),hr3.aside c5 _⟩
  ·rw [List.length_map,List.length_zip,a2.len,a4.len]
   omega
 ·exact o2.elim
theorem at5:bootBuiltins "zip" = some (.type "zip"):=by first | exact PySem.boot_zip | exact PyProof.Rows.boot_zip | rfl
end MI
namespace MI
open PySem PySem.Spec L2
section
variable {P:Program} {w:World} {K:PySem.W.Frag} {mg:Str→Option Value} {base:Heap}
theorem awv {k:Nat} {f:Addr} {fd:FuncData} {ps:List Str}:FnOk P w K mg base CX0 k f fd ps (qu K ps.length fun _ _=>.no) :=
 ⟨fun vs H Q E h=>h.1,fun A outer s H args us vs Q E hr he hb hv hs=>by obtain ⟨_,ι,ds,h,_,_,o⟩:=hs;exact o.elim⟩
end
end MI
namespace MI
open PySem PySem.Spec L2
def FrzOf (L:List Addr) (H H2:Hp):Prop:=∀ a,(a ∉ L→H2 a=H a)∧(a∈L→∃ o u,H a=some u∧H2 a=some (.frz o u))
def aam (H:Hp) (L:List Addr):Prop:=∀ a∈L,(∃ xs,H a=some (.lst xs))∨(∃ kvs,H a=some (.dK kvs))∨∃ kvs,H a=some (.dT kvs)
def still:HO→Prop
 | .lst _=>False | .dK _=>False | .dT _=>False
 | _=>True
theorem FrzOf.still {L:List Addr} {H H2:Hp} (f:FrzOf L H H2) (ab:aam H L) {a:Addr} {u:HO} (e:H a=some u) (st:MI.still u):H2 a=some u:=by
 rw [(f a).1 fun z=>?_]
 ·exact e
 ·rcases ab a z with ⟨_,q⟩ | ⟨_,q⟩ | ⟨_,q⟩<;>(rw [e] at q;cases q;exact st)
theorem Inv.frz {X:Cx} {pins:List (Addr × Obj)} {σ:St} {H:Hp} {s:Shared} {L:List Addr} (I:Inv X pins σ H s) (ab:aam H L):∃ H2,FrzOf L H H2∧Inv X pins σ H2 s:=by
 have obj:∀ a∈L,∀ u,H a=some u→∃ o,s.heap.get? a=some o:=fun a ha u e=>by
  rcases ab a ha with ⟨_,q⟩ | ⟨_,q⟩ | ⟨_,q⟩
  ·obtain ⟨_,_,_,_,z⟩:=I.hok a _ q;exact ⟨_,z⟩
  ·obtain ⟨_,_,_,_,z⟩:=I.hok a _ q
   obtain ⟨o,_,_,z,_⟩:=z
   exact ⟨o,z⟩
  ·obtain ⟨_,_,_,_,o,_,_,z,_⟩:=I.hok a _ q;exact ⟨o,z⟩
 let H2:Hp:=fun a=>if a∈L then (match s.heap.get? a,H a with | some o,some u=>some (.frz o u) | _,w=>w) else H a
 have f:FrzOf L H H2:=fun a=>⟨fun h=>by simp [H2,h],fun h=>by
  obtain ⟨u,e⟩:∃ u,H a=some u:=by
   rcases ab a h with ⟨_,q⟩ | ⟨_,q⟩ | ⟨_,q⟩<;>exact ⟨_,q⟩
  obtain ⟨o,eo⟩:=obj a h u e
  exact ⟨o,u,e,by simp [H2,h,e,eo]⟩⟩
 refine ⟨H2,f,?_⟩
 have mv:∀ a u,ObjOk X.prog X.w H s.heap a u→ObjOk X.prog X.w H2 s.heap a u:=fun a u x=>x.stay (fun b v _ q=>q) (fun c q=>f.still ab q True.intro) fun c xs q=>f.still ab q True.intro
 have ok:HOk X.prog X.w H2 s.heap:=fun a u e=>by
  by_cases hl:a∈L
  ·obtain ⟨u0,e0⟩:∃ u,H a=some u:=by
    rcases ab a hl with ⟨_,q⟩ | ⟨_,q⟩ | ⟨_,q⟩<;>exact ⟨_,q⟩
   obtain ⟨o,eo⟩:=obj a hl u0 e0
   have e':H2 a=some (.frz o u0):=by simp [H2,hl,e0,eo]
   rw [e'] at e
   cases e
   exact ⟨eo,mv a u0 (I.hok a u0 e0)⟩
  ·rw [(f a).1 hl] at e
   exact mv a u (I.hok a u e)
 have fn:∀ b,H b=none→H2 b=none:=fun b n=>by
  rw [(f b).1 fun z=>?_]
  ·exact n
  ·rcases ab b z with ⟨_,q⟩ | ⟨_,q⟩ | ⟨_,q⟩<;>(rw [n] at q;cases q)
 have un:Un X.fs [] H H2 s.heap s.heap:=⟨fun b o q _ _ _=>q,fun b o q _ _ _=>⟨o.slots,q⟩,fun b o _ n _=>fn b n,fun b o q _=>⟨o,q⟩,fun b xs q=>f.still ab q True.intro,fun b o u q=>f.still ab q True.intro,fun b ps q=>⟨#[],by rw [f.still ab q True.intro];simp⟩⟩
 exact I.un (t':=s.toks) un ok
theorem aan {X:Cx} {e:Expr} {t:TE} (h:PE X e t):PE X e (fun σ H Q=>t σ H fun v H1=>∃ L,aam H1 L∧∀ H2,FrzOf L H1 H2→Q v H2):=fun pins s σ H Q I q =>
 thn (h pins s σ H _ I q) fun u s' ⟨v,H1,I1,r,L,ab,k⟩=>let ⟨H2,f,I2⟩:=Inv.frz I1 ab; ⟨v,H2,I2,r,k H2 f⟩
def a2f {α β:Type} (f:α→Option β):List α→Option (List β)
 | []=>some []
 | x::xs=>match f x,a2f f xs with | some y,some ys=>some (y::ys) | _,_=>none
open Classical in
noncomputable def a81 (n:Nat) (h:Hd):Nat→D→Option D
 | 0,_=>none
 | k+1,d=>if clo n d then some d else match d with
  | .tup xs=>(a2f (a81 n h k) xs).map .tup
  | .rol xs=>(a2f (a81 n h k) xs).map .rol
  | .scr xs=>(a2f (a81 n h k) xs).map .scr
  | .rod ks xs=>(a2f (a81 n h k) xs).map (.rod ks)
  | .rdT ks xs=>(a2f (a81 n h k) xs).map (.rdT ks)
  | .ref i=>match h[i]? with
   | some (.lst xs)=>(a2f (a81 n h k) xs).map .rol
   | some (.dK kvs)=>(a2f (a81 n h k) (kvs.map (·.2))).map (.rod (kvs.map (·.1)))
   | some (.dT kvs)=>(a2f (a81 n h k) (kvs.map (·.2))).map (.rdT (kvs.map (·.1)))
   | none=>none
  | _=>none
open Classical in
noncomputable def at6 (n:Nat) (h:Hd) (k:Nat) (o:O):Option O:=if a1r n o then some o else match o with
 | .lst xs=>(a2f (a81 n h k) xs).map .lst
 | .dK kvs=>(a2f (a81 n h k) (kvs.map (·.2))).map fun ys=>.dK ((kvs.map (·.1)).zip ys)
 | .dT kvs=>(a2f (a81 n h k) (kvs.map (·.2))).map fun ys=>.dT ((kvs.map (·.1)).zip ys)
abbrev FU:Nat:=20
noncomputable def ad3 (n:Nat):R D→R D
 | .ok d h1=>match a81 n h1 FU d,a2f (at6 n h1 FU) (h1.take n) with | some d',some g=>.ok d' g | _,_=>.no
 | _=>.no
open Classical in
noncomputable def aqb (n:Nat):R D→R D
 | .ok (.ref i) h1=>(match h1[i]? with
   | some o=>if n≤i∧a1r n o∧∀ u∈h1.take n,a1r n u then .ok (.ref n) (h1.take n++[o]) else .no
   | none=>.no)
 | _=>.no
section
variable {K:PySem.W.Frag} {ι ι':List Addr} {H H' H2:Hp} {h1:Hd} {n:Nat} {L:List Addr}
theorem ad4 (f:FrzOf L H' H2) (ab:aam H' L) (κ:List Addr):Gw κ H' κ H2:=⟨⟨[],by simp⟩,fun a vs e=>f.still ab e True.intro,fun a o u e=>f.still ab e True.intro⟩
theorem uo {K:PySem.W.Frag} {ι κ:List Addr} {H H2:Hp} {f:D→Option D} (ih:∀ {v d d'},Rep K ι H v d→f d=some d'→Rep K κ H2 v d'):∀ {vs:List V} {ds ds':List D},Reps K ι H vs ds→a2f f ds=some ds'→Reps K κ H2 vs ds'
 | _,_,_, .nil,e=>by cases e;exact .nil
 | _,x::xs,_, .cons r rs,e=>by
  unfold a2f at e
  split at e
  ·rename_i y ys h1 h2
   cases e
   exact .cons (ih r h1) (uo ih rs h2)
  ·cases e
theorem a8x (hr:HRep K ι' H' h1) (hL:∀ (i:Nat) a,ι'[i]? = some a→n≤i→a∈L) (f:FrzOf L H' H2) (ab:aam H' L):∀ (k:Nat) {v:V} {d d':D},Rep K ι' H' v d→a81 n h1 k d=some d'→Rep K (ι'.take n) H2 v d':=by
 intro k
 induction k with
 | zero=>intro v d d' r e;cases e
 | succ k ih =>
  intro v d d' r e
  unfold a81 at e
  split at e
  ·rename_i c
   cases e
   exact (r.cut c).monoW (ad4 f ab _)
  ·rename_i c
   cases r with
   | tup h rs =>
    simp only [Option.map_eq_some_iff] at e
    obtain ⟨ys,e1,rfl⟩:=e
    exact .tup (f.still ab h True.intro) (uo (fun r e=>ih r e) rs e1)
   | rol h rs =>
    simp only [Option.map_eq_some_iff] at e
    obtain ⟨ys,e1,rfl⟩:=e
    exact .rol (h.monoW (ad4 f ab ι')) (uo (fun r e=>ih r e) rs e1)
   | scr h rs =>
    simp only [Option.map_eq_some_iff] at e
    obtain ⟨ys,e1,rfl⟩:=e
    exact .scr (h.monoW (ad4 f ab ι')) (uo (fun r e=>ih r e) rs e1)
   | rod h ek rs =>
    simp only [Option.map_eq_some_iff] at e
    obtain ⟨ys,e1,rfl⟩:=e
    exact .rod (f.still ab h True.intro) ek (uo (fun r e=>ih r e) rs e1)
   | rdT h ek rs =>
    simp only [Option.map_eq_some_iff] at e
    obtain ⟨ys,e1,rfl⟩:=e
    exact .rdT (f.still ab h True.intro) ek (uo (fun r e=>ih r e) rs e1)
   | @ref a i ha =>
    have hi:n≤i:=by
     simp only [clo] at c
     omega
    obtain ⟨o,u,e1,e2⟩:=(f a).2 (hL i a ha hi)
    obtain ⟨ob,h3,h4⟩:=hr.at ha
    simp only [h3] at e
    cases ob with
    | lst xs =>
     simp only [Option.map_eq_some_iff] at e
     obtain ⟨ys,e3,rfl⟩:=e
     obtain ⟨vs,h5,h6⟩:=h4
     rw [e1] at h5;cases h5
     exact .rol ⟨o,e2⟩ (uo (fun r e=>ih r e) h6 e3)
    | dK kvs =>
     simp only [Option.map_eq_some_iff] at e
     obtain ⟨ys,e3,rfl⟩:=e
     obtain ⟨us,h5,h6,h7⟩:=h4
     rw [e1] at h5;cases h5
     exact .rod e2 h6 (uo (fun r e=>ih r e) h7 e3)
    | dT kvs =>
     simp only [Option.map_eq_some_iff] at e
     obtain ⟨ys,e3,rfl⟩:=e
     obtain ⟨us,h5,h6,h7⟩:=h4
     rw [e1] at h5;cases h5
     exact .rdT e2 h6 (uo (fun r e=>ih r e) h7 e3)
   | non=>simp only [clo,not_true_eq_false] at c
   | exc _ _ _=>simp only [clo,not_true_eq_false] at c
   | bl b=>simp only [clo,not_true_eq_false] at c
   | int b=>simp only [clo,not_true_eq_false] at c
   | str b=>simp only [clo,not_true_eq_false] at c
   | ty b=>simp only [clo,not_true_eq_false] at c
theorem a8y {κ:Type} {H:Hp} {us:List (κ × V)} {ks:List κ} {ys:List D} (e:us.map (·.1)=ks) (r:Reps K ι H (us.map (·.2)) ys):KRep K ι H us (ks.zip ys):=by
 have l:ks.length=ys.length:=by rw [← e,List.length_map,← r.len,List.length_map]
 refine ⟨?_,?_⟩
 ·rw [List.map_fst_zip (by omega)];exact e
 ·rw [List.map_snd_zip (by omega)];exact r
theorem aog (hr:HRep K ι' H' h1) (hL:∀ (i:Nat) a,ι'[i]? = some a→n≤i→a∈L) (f:FrzOf L H' H2) (ab:aam H' L) {k:Nat} {a:Addr} {o o':O} (na:a ∉ L) (r:ORep K ι' H' a o) (e:at6 n h1 k o=some o'):ORep K (ι'.take n) H2 a o':=by
 have same:H2 a=H' a:=(f a).1 na
 unfold at6 at e
 split at e
 ·rename_i c
  cases e
  exact (r.cut c).monoW (ad4 f ab _) same
 ·cases o with
  | lst xs =>
   simp only [Option.map_eq_some_iff] at e
   obtain ⟨ys,e1,rfl⟩:=e
   obtain ⟨vs,h3,h4⟩:=r
   exact ⟨vs,by rw [same];exact h3,uo (fun r e=>a8x hr hL f ab k r e) h4 e1⟩
  | dK kvs =>
   simp only [Option.map_eq_some_iff] at e
   obtain ⟨ys,e1,rfl⟩:=e
   obtain ⟨us,h3,h4,h5⟩:=r
   exact ⟨us,by rw [same];exact h3,a8y h4 (uo (fun r e=>a8x hr hL f ab k r e) h5 e1)⟩
  | dT kvs =>
   simp only [Option.map_eq_some_iff] at e
   obtain ⟨ys,e1,rfl⟩:=e
   obtain ⟨us,h3,h4,h5⟩:=r
   exact ⟨us,by rw [same];exact h3,a8y h4 (uo (fun r e=>a8x hr hL f ab k r e) h5 e1)⟩
theorem a2p {α β:Type} {f:α→Option β}:∀ {xs:List α} {ys:List β},a2f f xs=some ys→xs.length=ys.length∧∀ (i:Nat) y,ys[i]? = some y→∃ x,xs[i]? = some x∧f x=some y
 | [],_,e=>by cases e;exact ⟨rfl,fun i y e=>by simp at e⟩
 | x::xs,ys,e=>by
  unfold a2f at e
  split at e
  ·rename_i y ys h1 h2
   cases e
   obtain ⟨l,g⟩:=a2p h2
   refine ⟨by simp [l],fun i z e=>?_⟩
   cases i with
   | zero=>simp at e;subst e;exact ⟨x,rfl,h1⟩
   | succ i=>simpa using g i z (by simpa using e)
  ·cases e
theorem ags (hr:HRep K ι' H' h1) (M:List Addr) (hM:∀ a∈M,a∈ι'):aam H' M:=fun a ha=>by
 obtain ⟨i,hi⟩:=List.getElem?_of_mem (hM a ha)
 obtain ⟨o,_,q⟩:=hr.at hi
 cases o with
 | lst xs=>obtain ⟨vs,h,_⟩:=q;exact .inl ⟨_,h⟩
 | dK xs=>obtain ⟨vs,h,_⟩:=q;exact .inr (.inl ⟨_,h⟩)
 | dT xs=>obtain ⟨vs,h,_⟩:=q;exact .inr (.inr ⟨_,h⟩)
theorem a6q {α:Type} {l:List α} (nd:l.Nodup) {i j:Nat} {a:α} (h1:l[i]? = some a) (h2:l[j]? = some a):i=j:=by
 obtain ⟨l1,e1⟩:=List.getElem?_eq_some_iff.mp h1
 obtain ⟨l2,e2⟩:=List.getElem?_eq_some_iff.mp h2
 rcases Nat.lt_trichotomy i j with l | l | l
 ·exact absurd (e1.trans e2.symm) (List.pairwise_iff_getElem.mp nd i j l1 l2 l)
 ·exact l
 ·exact absurd (e2.trans e1.symm) (List.pairwise_iff_getElem.mp nd j i l2 l1 l)
theorem at7 (g:Gr ι H ι' H') (f:FrzOf L H' H2) (ab:aam H' L) (hL:∀ a∈L,H a=none) {m:List Addr} (hm:∀ a∈m,H a=none):Gr ι H (ι++m) H2:=by
 refine ⟨⟨m,rfl,hm⟩,fun a vs e=>f.still ab (g.tup a vs e) True.intro,fun a o u e=>f.still ab (g.frz a o u e) True.intro,fun a u e hn=>?_,fun a u e=>?_⟩
 ·rw [(f a).1 fun z=>by rw [hL a z] at e;cases e]
  exact g.oth a u e hn
 ·obtain ⟨u',e'⟩:=g.kp a u e
  rw [(f a).1 fun z=>by rw [hL a z] at e;cases e]
  exact ⟨u',e'⟩
theorem agt {d d':D} {v:V} {g':Hd} (g:Gr ι H ι' H') (rb:Rep K ι' H' v d) (hr:HRep K ι' H' h1) (e:ad3 ι.length (.ok d h1) = .ok d' g') :
  ∃ L,aam H' L∧∀ H2,FrzOf L H' H2→Gr ι H ι H2∧Rep K ι H2 v d'∧HRep K ι H2 g':=by
 obtain ⟨m,rfl,hm⟩:=g.pre
 have tk:(ι++m).take ι.length=ι:=by simp
 have ab:aam H' m:=ags hr m fun a ha=>List.mem_append_right _ ha
 have hL:∀ (i:Nat) a,(ι++m)[i]? = some a→ι.length≤i→a∈m:=fun i a e hi=>by
  rw [List.getElem?_append_right hi] at e
  exact List.mem_of_getElem? e
 refine ⟨m,ab,fun H2 f=>?_⟩
 unfold ad3 at e
 simp only at e
 split at e
 ·rename_i dd gg e1 e2
  cases e
  refine ⟨by simpa using at7 g f ab hm (m:=[]) (by simp),by have:=a8x hr hL f ab FU rb e1;rwa [tk] at this,?_⟩
  obtain ⟨l,gt⟩:=a2p e2
  have hl:=hr.len
  have ln:ι.length≤h1.length:=by rw [← hl];simp
  refine ⟨(List.nodup_append.mp hr.nd).1,by rw [← l,List.length_take];omega,fun i a o q1 q2=>?_⟩
  obtain ⟨x,hx,fx⟩:=gt i o q2
  have hi:i<ι.length:=(List.getElem?_eq_some_iff.mp q1).1
  rw [List.getElem?_take,if_pos hi] at hx
  have q3:(ι++m)[i]? = some a:=by rw [List.getElem?_append_left hi];exact q1
  have na:a ∉ m:=fun z=>(List.nodup_append.mp hr.nd).2.2 a (List.mem_of_getElem? q1) a z rfl
  have:=aog hr hL f ab na (hr.obj i a x q3 hx) fx
  rwa [tk] at this
 ·cases e
theorem ajx {d d':D} {v:V} {g':Hd} (g:Gr ι H ι' H') (rb:Rep K ι' H' v d) (hr:HRep K ι' H' h1) (e:aqb ι.length (.ok d h1) = .ok d' g') :
  ∃ b,H b=none∧Gr ι H (ι++[b]) H'∧Rep K (ι++[b]) H' v d'∧HRep K (ι++[b]) H' g':=by
 obtain ⟨m,rfl,hm⟩:=g.pre
 have tk:(ι++m).take ι.length=ι:=by simp
 have up:∀ b,Gw ι H' (ι++[b]) H':=fun b=>⟨⟨[b],rfl⟩,fun _ _ h=>h,fun _ _ _ h=>h⟩
 cases rb with
 | @ref b i hb =>
  unfold aqb at e
  simp only at e
  split at e
  ·rename_i ob ho
   split at e
   ·rename_i hc
    obtain ⟨hi,c1,c2⟩:=hc
    cases e
    have hb':=hb
    rw [List.getElem?_append_right hi] at hb'
    have bm:b∈m:=List.mem_of_getElem? hb'
    obtain ⟨nd1,nd2,nd3⟩:=List.nodup_append.mp hr.nd
    have hl:=hr.len
    have ln:ι.length≤h1.length:=by rw [← hl];simp
    have lt:(h1.take ι.length).length=ι.length:=by rw [List.length_take];omega
    refine ⟨b,hm b bm,⟨⟨[b],rfl,by simpa using hm b bm⟩,g.tup,g.frz,g.oth,g.kp⟩, .ref (by simp),?_⟩
    refine ⟨List.nodup_append.mpr ⟨nd1,by simp,fun a ha c hc z=>nd3 a ha c (by rw [List.mem_singleton.mp hc];exact bm) z⟩,by simp [lt],fun j a o q1 q2=>?_⟩
    by_cases hj:j<ι.length
    ·rw [List.getElem?_append_left hj] at q1
     rw [List.getElem?_append_left (by omega)] at q2
     have q2':=q2
     rw [List.getElem?_take,if_pos hj] at q2'
     have:=(hr.obj j a o (by rw [List.getElem?_append_left hj];exact q1) q2').cut (c2 o (List.mem_of_getElem? q2))
     rw [tk] at this
     exact this.monoW (up b) rfl
    ·have hj2:j<(ι++[b]).length:=(List.getElem?_eq_some_iff.mp q1).1
     have:j=ι.length:=by simp at hj2;omega
     subst this
     rw [List.getElem?_append_right (Nat.le_refl _)] at q1
     rw [List.getElem?_append_right (by omega),lt] at q2
     simp at q1 q2
     subst q1 q2
     have:=(hr.obj i b ob hb ho).cut c1
     rw [tk] at this
     exact this.monoW (up b) rfl
   ·cases e
  ·cases e
 | _=>cases e
end
noncomputable def sZ (f:SE):SE:=fun τ h=>ad3 h.length (f τ h)
abbrev az4 (Q:VK):VK:=fun v H1=>∃ L,aam H1 L∧∀ H2,FrzOf L H1 H2→Q v H2
theorem ay0 {K:PySem.W.Frag} {E:XD} {fa:SE} {σ:St} {H:Hp} {Q:VK} (q:lift K E (zp K) (sZ fa) σ H Q):lift K E (zp K) fa σ H (az4 Q):=by
 obtain ⟨ι,τ,h,S,Rh,o⟩:=q
 refine ⟨ι,τ,h,S,Rh,?_⟩
 unfold sZ at o
 rw [← Rh.len] at o
 cases hf:fa τ h with
 | ok d h1 =>
  rw [hf] at o
  intro ι' H' v g r hr
  cases hz:ad3 ι.length (.ok d h1) with
  | ok d' g' =>
   rw [hz] at o
   obtain ⟨L,ab,k⟩:=agt g r hr hz
   refine ⟨L,ab,fun H2 f=>?_⟩
   obtain ⟨k1,k2,k3⟩:=k H2 f
   exact o ι H2 v k1 k2 k3
  | ex c hx=>unfold ad3 at hz;simp only at hz;split at hz<;>cases hz
  | no=>rw [hz] at o;exact o.elim
 | ex c h1=>rw [hf] at o;exact o.elim
 | no=>rw [hf] at o;exact o.elim
theorem zy {X:Cx} {E:XD} {e:Expr} {fa:SE} (ha:ME X E e fa):ME X E e (sZ fa):=PE.weak (aan ha) fun σ H Q q=>ay0 q
def refOf:D→Option Nat
 | .ref i=>some i
 | _=>none
def a3m (ds:List D):List Nat:=ds.filterMap refOf
def a2g:Nat→List D→List D
 | _,[]=>[]
 | k,d::ds=>match d with
  | .ref _=>.ref k::a2g (k+1) ds
  | d=>d::a2g k ds
def yj:Hd→List Nat→List O→Hd
 | h,i::is,o::os=>yj (h.set i o) is os
 | h,_,_=>h
def isRef (d:D):Prop:=∃ i,d = .ref i
open Classical in
noncomputable def aoh (m:Bool) (F:SF) (ds:List D) (h:Hd):R D:=match a2f (fun i=>h[i]?) (a3m ds) with
 | none=>.no
 | some os=>if (a3m ds).Nodup∧(∀ d∈ds,clo 0 d∨isRef d)∧(∀ o∈os,a1r 0 o) then
   (match (if m then aqb os.length (F (a2g 0 ds) os) else ad3 os.length (F (a2g 0 ds) os)) with
   | .ok d h1=>if ∀ o∈h1,a1r 0 o then
     (if m then .ok (.ref h.length) (yj h (a3m ds) h1++h1.drop os.length)
      else if clo 0 d then .ok d (yj h (a3m ds) h1) else .no) else .no
   | _=>.no)
  else .no
noncomputable def jo (m:Bool) (n:Nat) (F:SF):SF:=fun ds h=>if ds.length=n then aoh m F ds h else .no
section
variable {K:PySem.W.Frag} {ι ι':List Addr} {H H' H2:Hp} {h h1:Hd} {n:Nat}
theorem alz (κ:List Addr):Gw [] H κ H:=⟨⟨κ,rfl⟩,fun _ _ h=>h,fun _ _ _ h=>h⟩
theorem Rep.any {v:V} {d:D} (r:Rep K ι H v d) (c:MI.clo 0 d) (κ:List Addr):Rep K κ H v d:=by
 have:=r.cut c
 rw [List.take_zero] at this
 exact this.monoW (alz κ)
theorem ORep.any {a:Addr} {o:O} (r:ORep K ι H a o) (c:a1r 0 o) (κ:List Addr):ORep K κ H a o:=by
 have:=r.cut c
 rw [List.take_zero] at this
 exact this.monoW (alz κ) rfl
theorem aao {α:Type} (l:List α):∀ {is:List Nat},(∀ i∈is,i<l.length)→∃ ys,a2f (fun i=>l[i]?) is=some ys
 | [],_=>⟨[],rfl⟩
 | i::is,hi=>by
  obtain ⟨ys,e⟩:=aao l (is:=is) fun j hj=>hi j (List.mem_cons_of_mem _ hj)
  have:=hi i List.mem_cons_self
  exact ⟨l[i]::ys,by unfold a2f;rw [e,List.getElem?_eq_getElem this]⟩
theorem a4w:∀ {ds:List D} {vs:List V} {pre κ:List Addr},Reps K ι H vs ds→(∀ d∈ds,clo 0 d∨isRef d)→a2f (fun i=>ι[i]?) (a3m ds)=some κ→Reps K (pre++κ) H vs (a2g pre.length ds)
 | [],_,_,_, .nil,_,_=>.nil
 | d::ds,_,pre,κ, .cons r rs,hc,e=>by
  have hc':∀ d∈ds,clo 0 d∨isRef d:=fun x hx=>hc x (List.mem_cons_of_mem _ hx)
  by_cases hd:isRef d
  ·obtain ⟨i,rfl⟩:=hd
   have e':a2f (fun i=>ι[i]?) (i::a3m ds)=some κ:=e
   unfold a2f at e'
   split at e'
   ·rename_i a κ' h1 h2
    cases e'
    cases r with
    | ref ha =>
     rw [ha] at h1;cases h1
     have:=a4w (pre:=pre++[a]) rs hc' h2
     simp only [List.append_assoc,List.singleton_append,List.length_append,List.length_singleton] at this
     refine .cons (.ref ?_) this
     rw [List.getElem?_append_right (Nat.le_refl _)]
     simp
   ·cases e'
  ·have c:=(hc d List.mem_cons_self).resolve_right hd
   have e1:a3m (d::ds)=a3m ds:=by
    unfold a3m
    cases d<;>first | rfl | exact absurd ⟨_,rfl⟩ hd
   have e2:a2g pre.length (d::ds)=d::a2g pre.length ds:=by
    cases d<;>first | rfl | exact absurd ⟨_,rfl⟩ hd
   rw [e1] at e
   rw [e2]
   exact .cons (r.any c _) (a4w rs hc' e)
theorem a1g:∀ {is:List Nat} {os:List O} {h:Hd},(yj h is os).length=h.length
 | [],_,_=>by simp [yj]
 | _::_,[],_=>by simp [yj]
 | i::is,o::os,h=>by rw [yj,a1g,List.length_set]
theorem a4x {i:Nat}:∀ {is:List Nat} {os:List O} {h:Hd},i ∉ is→(yj h is os)[i]? = h[i]?
 | [],_,_,_=>by simp [yj]
 | _::_,[],_,_=>by simp [yj]
 | j::is,o::os,h,n=>by
  rw [yj,a4x fun z=>n (List.mem_cons_of_mem _ z),List.getElem?_set_ne fun z=>n (by rw [z];exact List.mem_cons_self)]
theorem aap {i:Nat} {o:O}:∀ {is:List Nat} {os:List O} {h:Hd} {j:Nat},is.Nodup→is[j]? = some i→os[j]? = some o→i<h.length→(yj h is os)[i]? = some o
 | [],_,_,_,_,e,_,_=>by simp at e
 | _::_,[],_,_,_,_,e,_=>by simp at e
 | k::is,o'::os,h,j,nd,e1,e2,hl=>by
  cases j with
  | zero =>
   simp at e1 e2
   subst e1 e2
   rw [yj,a4x (List.nodup_cons.mp nd).1,List.getElem?_set_self hl]
  | succ j =>
   rw [yj]
   exact aap (j:=j) (List.nodup_cons.mp nd).2 (by simpa using e1) (by simpa using e2) (by simpa using hl)
theorem aaq {α:Type} {l:List α} (nl:l.Nodup) {is:List Nat} {ys:List α} (e:a2f (fun i=>l[i]?) is=some ys) (ni:is.Nodup):ys.Nodup:=by
 obtain ⟨le,g⟩:=a2p e
 refine List.pairwise_iff_getElem.mpr fun i j hi hj lt z=>?_
 obtain ⟨x,h1,h2⟩:=g i _ (List.getElem?_eq_getElem hi)
 obtain ⟨y,h3,h4⟩:=g j _ (List.getElem?_eq_getElem hj)
 rw [← z] at h4
 have:=a6q nl h2 h4
 subst this
 have:=a6q ni h1 h3
 omega
theorem ad5 {is:List Nat} {κ m:List Addr} {g:Hd} (hr:HRep K ι H h) (e1:a2f (fun i=>ι[i]?) is=some κ) (nd:is.Nodup) (gr:Gr κ H (κ++m) H2) (hg:HRep K (κ++m) H2 g) (cg:∀ o∈g,a1r 0 o) (hm:m.length≤1) :
  Gr ι H (ι++m) H2∧HRep K (ι++m) H2 (yj h is g++g.drop κ.length):=by
 obtain ⟨l1,g1⟩:=a2p e1
 have mn:∀ a∈m,H a=none:=by
  obtain ⟨m',e,hm'⟩:=gr.pre
  rw [List.append_cancel_left e];exact hm'
 have sub:∀ a∈κ,a∈ι:=fun a ha=>by
  obtain ⟨j,hj⟩:=List.getElem?_of_mem ha
  obtain ⟨i,_,q⟩:=g1 j a hj
  exact List.mem_of_getElem? q
 have some_of:∀ a∈ι,∃ u,H a=some u:=fun a ha=>by
  obtain ⟨i,hi⟩:=List.getElem?_of_mem ha
  obtain ⟨o,_,q⟩:=hr.at hi
  obtain ⟨u,q,_⟩:=q.some
  exact ⟨u,q⟩
 have G:Gr ι H (ι++m) H2:=⟨⟨m,rfl,mn⟩,gr.tup,gr.frz,fun a u e n=>gr.oth a u e fun z=>n (sub a z),gr.kp⟩
 have lg:=hg.len
 rw [List.length_append] at lg
 refine ⟨G,?_,?_,fun j a o q1 q2=>?_⟩
 ·refine List.nodup_append.mpr ⟨hr.nd,(List.nodup_append.mp hg.nd).2.1,fun a ha b hb z=>?_⟩
  obtain ⟨u,q⟩:=some_of a ha
  rw [z,mn b hb] at q;cases q
 ·rw [List.length_append,List.length_append,a1g,List.length_drop,hr.len];omega
 ·by_cases hj:j<ι.length
  ·rw [List.getElem?_append_left hj] at q1
   rw [List.getElem?_append_left (by rw [a1g,← hr.len];exact hj)] at q2
   by_cases hp:j∈is
   ·obtain ⟨k,hk⟩:=List.getElem?_of_mem hp
    have hkl:k<κ.length:=by rw [← l1];exact (List.getElem?_eq_some_iff.mp hk).1
    obtain ⟨i,h3,h4⟩:=g1 k _ (List.getElem?_eq_getElem hkl)
    rw [hk] at h3;cases h3
    rw [q1] at h4
    have hkg:k<g.length:=by omega
    have e5:=aap (h:=h) nd hk (List.getElem?_eq_getElem hkg) (by rw [← hr.len];exact hj)
    rw [e5] at q2
    cases q2
    have ea:(κ++m)[k]? = some a:=by rw [List.getElem?_append_left hkl,List.getElem?_eq_getElem hkl];exact h4.symm
    exact (hg.obj k a _ ea (List.getElem?_eq_getElem hkg)).any (cg _ (List.getElem_mem hkg)) _
   ·rw [a4x hp] at q2
    have r:=hr.obj j a o q1 q2
    obtain ⟨u,hu,_⟩:=r.some
    have na:a ∉ κ:=fun z=>by
     obtain ⟨k,hk⟩:=List.getElem?_of_mem z
     obtain ⟨i,h3,h4⟩:=g1 k a hk
     have:=a6q hr.nd q1 h4
     subst this
     exact hp (List.mem_of_getElem? h3)
    exact r.mono G (by rw [hu];exact gr.oth a u hu na)
  ·have q1':=q1
   rw [List.getElem?_append_right (by omega)] at q1
   rw [List.getElem?_append_right (by rw [a1g,← hr.len];omega),a1g,← hr.len,List.getElem?_drop] at q2
   have ea:(κ++m)[κ.length+(j - ι.length)]? = some a:=by rw [List.getElem?_append_right (by omega)];simpa using q1
   exact (hg.obj _ a o ea q2).any (cg o (List.mem_of_getElem? q2)) _
theorem a8z {m:Bool} {F:SF} {vs:List V} {ds:List D} {Q:VK} (r:Reps K ι H vs ds) (hr:HRep K ι H h) (o:out K X0 (zp K) ι H (jo m n F ds h) Q) (E:XK) :
  qu K n F vs H (fun v H1=>∃ L,aam H1 L∧∀ H2,FrzOf L H1 H2→Q v H2) E:=by
 unfold jo at o
 split at o
 ·rename_i hl
  refine ⟨by rw [r.len];exact hl,?_⟩
  unfold aoh at o
  split at o
  ·exact o.elim
  ·rename_i os hos
   split at o
   ·rename_i hc
    obtain ⟨nd,hd,hcl⟩:=hc
    obtain ⟨l0,g0⟩:=a2p hos
    obtain ⟨κ,e1⟩:=aao ι (is:=a3m ds) fun i hi=>by
     obtain ⟨j,hj⟩:=List.getElem?_of_mem hi
     have hjl:j<os.length:=by rw [← l0];exact (List.getElem?_eq_some_iff.mp hj).1
     obtain ⟨x,h3,h4⟩:=g0 j _ (List.getElem?_eq_getElem hjl)
     rw [hj] at h3;cases h3
     rw [hr.len]
     exact (List.getElem?_eq_some_iff.mp h4).1
    obtain ⟨l1,g1⟩:=a2p e1
    have lk:κ.length=os.length:=by omega
    have R0:Reps K κ H vs (a2g 0 ds):=by simpa using a4w (pre:=[]) r hd e1
    have H0:HRep K κ H os:=by
     refine ⟨aaq hr.nd e1 nd,lk,fun j a ob q1 q2=>?_⟩
     obtain ⟨i,h3,h4⟩:=g1 j a q1
     obtain ⟨i',h5,h6⟩:=g0 j ob q2
     rw [h3] at h5;cases h5
     exact (hr.obj i a ob h4 h6).any (hcl ob (List.mem_of_getElem? q2)) _
    refine ⟨κ,a2g 0 ds,os,R0,H0,?_⟩
    cases hF:F (a2g 0 ds) os with
    | no=>rw [hF] at o;cases m<;>exact o.elim
    | ex c hx=>rw [hF] at o;cases m<;>exact o.elim
    | ok d h1 =>
     rw [hF] at o
     intro ι' H' v g rb hr1
     rw [← lk] at o
     cases m with
     | false =>
      simp only [Bool.false_eq_true,if_false] at o
      cases hz:ad3 κ.length (.ok d h1) with
      | ok d' g' =>
       rw [hz] at o
       simp only at o
       obtain ⟨L,ab,k⟩:=agt g rb hr1 hz
       refine ⟨L,ab,fun H2 f=>?_⟩
       obtain ⟨k1,k2,k3⟩:=k H2 f
       split at o
       ·rename_i cg
        split at o
        ·rename_i cd
         have q:=ad5 (m:=[]) hr e1 nd (by simpa using k1) (by simpa using k3) cg (by simp)
         have lg:=k3.len
         have dr:g'.drop κ.length=[]:=List.drop_eq_nil_of_le (by omega)
         rw [dr,List.append_nil,List.append_nil] at q
         exact o ι H2 v q.1 (k2.any cd _) q.2
        ·exact o.elim
       ·exact o.elim
      | ex c hx=>rw [hz] at o;exact o.elim
      | no=>rw [hz] at o;exact o.elim
     | true =>
      simp only [if_true] at o
      cases hz:aqb κ.length (.ok d h1) with
      | ok d' g' =>
       rw [hz] at o
       simp only at o
       obtain ⟨b,hb,k1,k2,k3⟩:=ajx g rb hr1 hz
       refine ⟨[],fun a ha=>(by simp at ha),fun H2 f=>?_⟩
       have e2:H2=H':=by funext a;exact (f a).1 (by simp)
       subst e2
       split at o
       ·rename_i cg
        have q:=ad5 (m:=[b]) hr e1 nd k1 k3 cg (by simp)
        refine o (ι++[b]) H2 v q.1 ?_ q.2
        have hd':d' = .ref κ.length:=by
         unfold aqb at hz
         split at hz
         ·rename_i i h2 hh
          injection hh with z1 z2
          split at hz
          ·split at hz
           ·injection hz with z3 z4;exact z3.symm
           ·cases hz
          ·cases hz
         ·cases hz
        subst hd'
        cases k2 with
        | ref hk =>
         rw [List.getElem?_append_right (Nat.le_refl _)] at hk
         simp at hk
         subst hk
         exact .ref (by rw [← hr.len];simp)
       ·exact o.elim
      | ex c hx=>rw [hz] at o;exact o.elim
      | no=>rw [hz] at o;exact o.elim
   ·exact o.elim
 ·exact o.elim
end
theorem bz (m:Bool) {X:Cx} {k n:Nat} {f:Addr} {fd:FuncData} {ps:List Str} {x:Str} {F:SF} {ka:SA} {e:Expr} {es:List Expr} {p pos:Pos} (G:Dn X.prog X.w X.K X.mg X.base k x ps (qu X.K n F) f fd) (hr:Room k X.A) (hg:Gl X x) (ha:MA X X0 (e::es) ka)
  (hdb:(x == ("__debug__" : Str))=false:=by decide) (he:starEach (e::es) X.env=(false,eval e X.env)::starEach es X.env:=by rfl) (hpl:(backTo pos (starEach es X.env)).any (·.1)=false:=by rfl):ME X X0 (.Call (.Name x p) (e::es) [] pos) (sA (jo m n F) ka):=by
 refine PE.weak (aan (a8e G.ok hr hg G.m G.kp G.b .nil aj7 ha hdb he hpl)) fun σ H Q ⟨ι,τ,h,S,Rh,o⟩=>?_
 refine ⟨ι,τ,h,S,Rh,gj o fun ds h1 ι1 H1 vs g1 r1 hr1 o1=>?_⟩
 rw [List.append_nil]
 exact a8z r1 hr1 o1 _
theorem aar (m:Bool) {X:Cx} {k n:Nat} {f:Addr} {fd:FuncData} {ps:List Str} {x:Str} {F:SF} {p pos:Pos} (G:Dn X.prog X.w X.K X.mg X.base k x ps (qu X.K n F) f fd) (hr:Room k X.A) (hg:Gl X x) (hdb:(x == ("__debug__" : Str))=false:=by decide) :
  ME X X0 (.Call (.Name x p) [] [] pos) (sA (jo m n F) bj):=by
 refine PE.weak (aan (aj3 G.ok hr hg G.m G.kp G.b .nil aj7 hdb)) fun σ H Q ⟨ι,τ,h,S,Rh,o⟩=>?_
 exact a8z (vs:=[]) .nil Rh o E0
end MI
namespace MI
open PySem PySem.Spec L2
def aei:SS:=fun _ _=>.no
section
variable {X:Cx} {E:XD}
theorem a3f {st:List Stmt}:MSs X E st aei:=fun _ _ _ _ _ _ ⟨_,_,_,_,_,o⟩=>o.elim
end
theorem at8 {X:Cx} {st:Stmt} {t:TS} (h:PS X st t):PS X st (fun D σ H=>t { D with nx:=fun σ' H1=>∃ L,aam H1 L∧∀ H2,FrzOf L H1 H2→D.nx σ' H2 } σ H):=fun pins s σ H D I q =>
 thn (h pins s σ H _ I q) fun f s' k=>by
  cases f with
  | next =>
   obtain ⟨σ',H1,I1,L,ab,k⟩:=k
   obtain ⟨H2,f,I2⟩:=Inv.frz I1 ab
   exact ⟨σ',H2,I2,k H2 f⟩
  | brk=>exact k
  | cont=>exact k
  | ret u=>exact k
theorem am0 {K:PySem.W.Frag} {E:XD} {f:SE} {i:Nat} {N:Ends} {σ:St} {H:Hp} (q:a6m K E (o7 i f) N σ H):lift K E (zp K) f σ H (fun v H1=>N.nx (σ.set i (some v)) H1):=by
 obtain ⟨ι,τ,h,S,Rh,o⟩:=q
 exact ⟨ι,τ,h,S,Rh,yh o fun d h1 ι1 H1 v g1 r1 hr1 o1=>o1 ι1 H1 _ (.refl _ _) ((S.mono g1).set r1 i) hr1⟩
theorem aoi {K:PySem.W.Frag} {E:XD} {fi:SI} {t:D→Option Sd} {fe:SE} {ix:List Nat} {n:Nat} {g:TG} {σ:St} {H:Hp} {Q:VK} (ht:alo K n g t) (q:lift K E (zp K) (uy fi t fe ix) σ H Q):ajc (lift K E (awr K) fi) (xm n ix) g (lift K E (zp K) fe) σ H Q:=by
 obtain ⟨ι,τ,h,Sr,Rh,o⟩:=q
 refine ⟨ι,τ,h,Sr,Rh,gj o fun it h1 ι1 H1 J g1 r1 hr1 o1=>?_⟩
 by_cases hl:it.xs.length≤LINE
 ·rw [if_pos hl] at o1
  exact acz r1 ht (a8q (Sr.mono g1) ix) hr1 hl o1
 ·rw [if_neg hl] at o1;exact o1.elim
theorem ajy {K:PySem.W.Frag} {E:XD} {fi:SI} {t:D→Option Sd} {fc:ST} {fe:SE} {ix:List Nat} {n:Nat} {g:TG} {σ:St} {H:Hp} {Q:VK} (ht:alo K n g t) (q:lift K E (zp K) (a7y fi t fc fe ix) σ H Q):abo (lift K E (awr K) fi) (xm n ix) g (lift K E ant fc) (lift K E (zp K) fe) σ H Q:=by
 obtain ⟨ι,τ,h,Sr,Rh,o⟩:=q
 refine ⟨ι,τ,h,Sr,Rh,gj o fun it h1 ι1 H1 J g1 r1 hr1 o1=>?_⟩
 by_cases hl:it.xs.length≤LINE
 ·rw [if_pos hl] at o1
  exact agb r1 ht (a8q (Sr.mono g1) ix) hr1 hl o1
 ·rw [if_neg hl] at o1;exact o1.elim
section
variable {X:Cx} {E:XD} {elt tg iter cnd:Expr} {scope:Scope} {pos spos pos':Pos} {cl:List (Str × Addr)} {ts fr:List Str} {ix:List Nat} {fi:SI} {g:TG} {t:D→Option Sd} {fe:SE} {fc:ST} {i:Nat} {x:Str}
theorem aoj (hN:X.N.Nodup) (hi':X.N[i]? = some x) (hx:Loc X.env.scope x) (hc:X.calm=true) (S:CSc X scope cl ts fr ix) (hi:MI X E tg iter fi) (hg:∀ C fp s H,PG (cxC X (ts++fr) scope cl C fp s H) tg g) (ht:alo X.K ts.length g t) (he:∀ C fp s H,ME (cxC X (ts++fr) scope cl C fp s H) E elt fe)
  (hs:∀ x,foldedSetIterable iter X.env x=pure x:=by intro _;rfl) (hsw:swapsWith (.ListComp elt [⟨tg,iter,[],0⟩] scope pos) (some (.Name x pos')) spos.line X.env=pure true:=by rfl) (hf:X.fn x=true∨X.env.scope.names.lookup x=some .local:=by first | exact .inl rfl | exact .inr rfl | assumption) :
  MS X E (.Assign [.Name x pos'] (.ListComp elt [⟨tg,iter,[],0⟩] scope pos) spos) (o7 i (uy fi t fe ix)) :=
 PS.weak (ajf (te:=lift X.K E (zp X.K) fe) hN hi' hx hc S hi hg he hs hsw hf) fun N σ H q=>aoi ht (am0 q)
theorem ajz (hN:X.N.Nodup) (hi':X.N[i]? = some x) (hx:Loc X.env.scope x) (hc:X.calm=true) (S:CSc X scope cl ts fr ix) (hi:MI X E tg iter fi) (hg:∀ C fp s H,PG (cxC X (ts++fr) scope cl C fp s H) tg g) (ht:alo X.K ts.length g t) (he:∀ C fp s H,ME (cxC X (ts++fr) scope cl C fp s H) E elt fe)
  (hq:∀ C fp s H,MT (cxC X (ts++fr) scope cl C fp s H) E cnd fc)
  (hs:∀ x,foldedSetIterable iter X.env x=pure x:=by intro _;rfl) (hsw:swapsWith (.ListComp elt [⟨tg,iter,[cnd],0⟩] scope pos) (some (.Name x pos')) spos.line X.env=pure true:=by rfl) (hf:X.fn x=true∨X.env.scope.names.lookup x=some .local:=by first | exact .inl rfl | exact .inr rfl | assumption) :
  MS X E (.Assign [.Name x pos'] (.ListComp elt [⟨tg,iter,[cnd],0⟩] scope pos) spos) (o7 i (sZ (a7y fi t fc fe ix))) :=
 PS.weak (at8 (aee (te:=lift X.K E (zp X.K) fe) (tc:=lift X.K E ant fc) hN hi' hx hc S hi hg he hq hs hsw hf)) fun N σ H q=>ajy ht (ay0 (am0 q))
end
theorem qg {P:Program} {w:World} {K:PySem.W.Frag} {mg:Str→Option Value} {base:Heap} {x qual:Str} {st:Stmt} {f:Addr} {fd:FuncData} {N ps:List Str} {k:Nat} {b:SS} (Fu:Fun K x qual st f fd) (S:FnScope N ps (bf st))
  (hb:∀ (cdv:Value) (A:Around) (outer:List Env) (s:Shared) (H:Hp) (E:XK),Room k (A.deeper (PyProof.Rows.envOfC qual (bf st) s.heap.objs.size f cdv))→MSs (a1k CX0 P w K mg base N qual (bf st) f cdv A outer s H E).nox X0 (j9 st) b) :
  FnOk P w K mg base CX0 (k+1) f fd ps (qu K ps.length (o8 b N.length)):=asj Fu S hb fun ds h _ _ _=>Rf.same rfl
end MI
namespace MI
open PySem PySem.Spec L2 HT
theorem aej {prog:Program} {w:World} {A:Around} {E:Value→Shared→Prop} {s:Shared} {t sl:Addr} {items:Array Value} {vl vu:Value} {lo hi:Option Int} {Q:Value→Shared→Prop} (ht:PyProof.Rows.IsTup s.heap t items) (hs:s.heap.IsSliceOf sl vl vu .none) (pl:IsPart vl lo) (pu:IsPart vu hi)
  (hw:HT.sIx items.size 0 lo=0∧HT.sIx items.size items.size hi=items.size) (h:Q (.ref t) s):wpAny (model prog w) A (getItem (.ref t) (.ref sl)) Q E s:=by
 obtain ⟨os,f1,f2,f3⟩:=id hs
 have ty:s.TypeIs (.ref sl) "slice":=⟨os,f1,f2⟩
 have tt:s.TypeIs (.ref t) "tuple":=ht.typeIs
 rw [getItem]
 try apply wpAny_holding
 first | (apply wpAny_bind;apply wpAny_pure) | skip
 apply wpAny_bind;apply wpAny_sequenceKey tt (by decide)
 apply wpAny_bind
 apply wpAny_callSpecial?_slot (name:=Str.ofString "__getitem__") tt PyProof.Rows.slot_tuple_getitem
 apply wpAny_call_entry PyProof.Rows.slot_tuple_getitem tt PyProof.Rows.entry_tuple_getitem _ (PyProof.Rows.args_tuple_getitem _ _)
 change wpAny (model prog w) A.in1 (Builtin.Tuple.tupleItemsOf (.ref t)>>=_) _ _ s
 apply wpAny_bind;apply PyProof.Rows.tupleItemsOf_ ht
 apply wpAny_bind;apply wpAny_typeOf ty
 rw [if_pos (by decide)]
 apply wpAny_bind;apply HT.a1q hs pl pu
 rw [hw.1,hw.2]
 dsimp only
 rw [if_pos (by simp)]
 apply wpAny_bind
 rw [Builtin.Tuple.tupleIsExact]
 apply wpAny_bind;apply wpAny_typeOf tt
 apply wpAny_pure
 rw [if_pos (by decide)]
 apply wpAny_bind;apply wpAny_rule
 apply wpAny_pure
 exact ⟨_,rfl,wpAny_pure h⟩
def ay1 (K:PySem.W.Frag):V→Option Int→Option Int→Hp→VK→Prop:=fun x lo hi H Q=>∃ a xs,x = .ref a∧SqT K H a xs∧whole xs.length lo hi∧Q (.ref a) H
theorem ak0 {X:Cx}:SlR X (ay1 X.K):=by
 intro pins s σ H x v vl vu lo hi sl Q I rx hs pl pu h
 obtain ⟨a,xs,rfl,hx,hw,q⟩:=h
 cases rx
 obtain ⟨its,r,ht,hz⟩:=I.tuple hx
 have hlen:its.toArray.size=xs.length:=by rw [List.size_toArray];exact r.length.symm
 exact ⟨"tuple",_,PyProof.Rows.slot_tuple_getitem.lookup,ht.typeIs,aej ht hs pl pu (by rw [hlen];exact hw) ⟨.ref a,H,I,rfl,q⟩⟩
def a6r (d:D) (lo hi:Option Int) (h:Hd):R D:=match d with
 | .tup xs=>if whole xs.length lo hi then .ok (.tup xs) h else .ok (.tup (a4o xs lo hi)) h
 | d=>gSl d lo hi h
def a0h (f:SE) (l u:SO):SE:=fun τ h=>(f τ h).bind fun d h1=>(l τ h1).bind fun lo h2=>(u τ h2).bind fun hi h3=>a6r d lo hi h3
theorem aok {K:PySem.W.Frag} {E:XD} {ι:List Addr} {H:Hp} {h:Hd} {x:V} {d:D} {lo hi:Option Int} {Q:VK} (rx:Rep K ι H x d) (hr:HRep K ι H h) (o:out K E (zp K) ι H (a6r d lo hi h) Q):(awm x lo hi H Q∨awe K x lo hi H Q∨awg K x lo hi H Q)∨ay1 K x lo hi H Q:=by
 cases rx with
 | @tup p vs xs hp r =>
  by_cases hc:whole xs.length lo hi
  ·simp only [a6r,if_pos hc] at o
   exact .inr ⟨p,vs,rfl,SqT.of hp,by rw [r.len];exact hc,ans o (.tup hp r) hr⟩
  ·simp only [a6r,if_neg hc] at o
   exact .inl (.inr (.inl ⟨p,vs,rfl,SqT.of hp,by rw [r.len];exact hc,a1z (a4a r lo hi) hr o⟩))
 | non=>exact o.elim
 | bl _=>exact o.elim
 | int _=>exact o.elim
 | ty _=>exact o.elim
 | str z=>exact .inl (ad0 (.str z) hr o)
 | rol a b=>exact .inl (ad0 (.rol a b) hr o)
 | scr a b=>exact .inl (ad0 (.scr a b) hr o)
 | rod a b c=>exact o.elim
 | rdT a b c=>exact o.elim
 | exc a b c=>exact o.elim
 | ref a=>exact .inl (ad0 (.ref a) hr o)
theorem jt {X:Cx} {E:XD} {e:Expr} {fa:SE} {lo hi:Option Expr} {l u:SO} {p2 pos:Pos} (he:ME X E e fa) (hl:MO X E lo l) (hu:MO X E hi u):ME X E (.Subscript e (.Slice lo hi none p2) pos) (a0h fa l u):=by
 refine PE.weak (aj5 ((as6.or (arn.or anj)).or ak0) he hl hu) fun σ H Q ⟨ι,τ,h,S,Rh,o⟩=>?_
 refine ⟨ι,τ,h,S,Rh,gj o fun d h1 ι1 H1 v g1 r1 hr1 o1=>?_⟩
 refine ⟨ι1,τ,h1,S.mono g1,hr1,gj o1 fun lo h2 ι2 H2 lv g2 r2 hr2 o2=>?_⟩
 refine ⟨ι2,τ,h2,(S.mono g1).mono g2,hr2,gj o2 fun hi h3 ι3 H3 hv g3 r3 hr3 o3=>?_⟩
 cases r2;cases r3
 exact aok ((r1.mono g2).mono g3) hr3 o3
end MI
namespace TPM
open PySem PySem.Spec PySem.W L2 HT MI
theorem a1s:fillsNumberSlot (.type "tuple") "mul" = pure false :=
 fillsNumberSlot_seq (id := "tuple.__mul__") (r:=some (.builtin "tuple.__rmul__")) F.slot_tuple_mul.lookup (by decide +kernel) F.slot_tuple_rmul.lookup (by decide +kernel)
theorem agu (t:Addr) (items:Array Value) (n:Nat) (dd:Option Addr) (sl:Array (Option Value)) (x:Int) (u:Tok) (h0:items.isEmpty=false) (h2:2≤x) (h3:x<2 ^ 63) (hz:items.size*x.toNat≤sizeLine) :
  Meets (Builtin.«tuple.__mul__» ⟨[.ref t, .int x u],[]⟩) (fun _ R s=>s.heap.get? t=some { cls:=.type "tuple",dict:=dd,data:=.seq items n,slots:=sl }∧R (.ok (.ret (.ref s.heap.objs.size))) { s with heap:=s.heap.push { cls:=.type "tuple",data:=.seq (List.foldl (fun x1 x2=>x1++x2) #[] (List.replicate x.toNat items)) } }) :=
 .of_wp fun prog w A R s h=>by
  obtain ⟨hp,g,d,tk,os⟩:=s;obtain ⟨hl,h⟩:=h
  have c1:¬ (decide (x < -2 ^ 63) || decide (x≥2 ^ 63))=true:=by
   rw [Bool.or_eq_true,decide_eq_true_eq,decide_eq_true_eq];omega
  have c2:¬ (items.isEmpty || x == 1)=true:=by
   rw [h0,Bool.false_or];simp;omega
  have c3:¬ (decide (x≤0) || items.isEmpty)=true:=by
   rw [h0,Bool.or_false,decide_eq_true_eq];omega
  have ex:((items.size:Nat):Int)*x=((items.size*x.toNat:Nat):Int):=by
   rw [Int.natCast_mul,Int.toNat_of_nonneg (by omega)]
  have sl':(sizeLine:Nat)≤(2 ^ 63 - 1) / 8:=by decide
  have c4:¬ (items.size:Int)*x > (2 ^ 63 - 1) / 8:=by rw [ex];omega
  have c5:¬ Builtin.Tuple.tupleTooMany ((items.size:Int)*x)=true:=by
   rw [ex]
   simp only [Builtin.Tuple.tupleTooMany,decide_eq_true_eq];omega
  wp_walk
  rw [if_neg c1]
  wp_walk
  rw [if_neg c2]
  wp_walk
  rw [if_neg c3]
  wp_walk
  rw [if_neg c4]
  wp_walk
  rw [if_neg c5]
  wp_walk
  have fs:¬ (List.foldl (fun x1 x2=>x1++x2) #[] (List.replicate x.toNat items)).size > sizeLine:=by
   have:=foldl_rep items.toList x.toNat []
   rw [List.nil_append,Array.toArray_toList] at this
   rw [show (#[]:Array Value)=([]:List Value).toArray from rfl,this,List.size_toArray,len_rep,Array.length_toList,Nat.mul_comm]
   omega
  rw [if_neg fs]
  wp_walk
  exact ⟨_,rfl,h⟩
theorem a5u (a:Int) (t:Tok) (l:Addr) (items:Array Value) (n:Nat) (dd:Option Addr) (sl:Array (Option Value)) :
  Meets (Builtin.«int.__rmul__» ⟨[.int a t, .ref l],[]⟩) (fun _ R s=>s.heap.get? l=some { cls:=.type "tuple",dict:=dd,data:=.seq items n,slots:=sl }∧R (.ok (.ret Value.notImplemented)) s):=by
 refine .of_wp fun prog w A R s h=>?_
 obtain ⟨hp,g,d,tk,os⟩:=s
 obtain ⟨hl,h⟩:=h
 wp_walk
 exact ⟨_,rfl,h⟩
theorem aas:seqRepeat? (.type "tuple")=pure (some (.builtin "tuple.__mul__")):=by
 unfold seqRepeat?
 rw [seqSlot_of (T := "tuple") (name := "__mul__") (id := "tuple.__mul__") F.slot_tuple_mul.lookup (by decide +kernel),seqSlot_of (T := "tuple") (name := "__rmul__") (id := "tuple.__rmul__") F.slot_tuple_rmul.lookup (by decide +kernel)]
 rfl
def aol (K:PySem.W.Frag):R2:=fun x y H Q=>∃ a k xs,x = .ref a∧y = .int k∧SqT K H a xs∧xs≠[]∧2≤k∧k<2 ^ 63∧xs.length*k.toNat≤sizeLine∧∀ p,H p=none→Q (.ref p) (upd H p (.tup (List.replicate k.toNat xs).flatten))
theorem aom {X:Cx}:OpR X (binaryOp .Mult) (aol X.K):=by
 intro pins s σ H x y v u Q I rx ry h
 obtain ⟨a,k,xs,rfl,rfl,ha,hx,h1,h2,hz,q⟩:=h
 cases rx
 obtain ⟨t,rfl⟩:=ry
 obtain ⟨its,r1,p1,_⟩:=I.tuple ha
 obtain ⟨⟨cls,dd,data,sl⟩,ho,hc,n,hd⟩:=id p1
 simp only at hc hd
 subst hc hd
 have he:its.toArray.isEmpty=false:=by
  cases its with
  | nil=>exact (hx (r1.nil_iff.mp rfl)).elim
  | cons _ _=>rfl
 have hz2:its.toArray.size*k.toNat≤sizeLine:=by rw [List.size_toArray,← r1.length];exact hz
 have hnew:List.foldl (fun x1 x2=>x1++x2) #[] (List.replicate k.toNat its.toArray)=(List.replicate k.toNat its).flatten.toArray:=by
  have:=foldl_rep its k.toNat []
  rw [List.nil_append] at this
  exact this
 refine wpAny_binaryOp_repeat_ref (T := "tuple") (U := "int") (by decide) ⟨_,ho,rfl⟩ (fun s'=>typeIs_int s' k t) a1s F.fills_int_mul F.slot_int_rmul aas F.slot_int_index.lookup
  (call_meets F.slot_int_rmul (typeIs_int s k t) F.entry_int_rmul (F.args_int_rmul_2 _ _) (a5u k t a its.toArray n dd sl)
   ⟨ho,rfl,⟨_,ho,rfl⟩,call_meets F.slot_tuple_mul ⟨_,ho,rfl⟩ F.entry_tuple_mul (F.args_tuple_mul_2 _ _) (agu a its.toArray n dd sl k t he h1 h2 hz2) ⟨ho,?_⟩⟩)
 rw [hnew]
 refine ⟨.ref s.heap.objs.size,_,I.laid (t':=s.toks) (o:=.tup (List.replicate k.toNat xs).flatten) (fun b ob q=>Heap.get?_push_of_some _ q) (Nat.le_refl _) ?_,rfl,q _ (I.hok.fresh (Nat.le_refl _))⟩
 exact ⟨by rw [len_rep,Nat.mul_comm];exact hz,_,r1.rep k.toNat,PyProof.Rows.IsTup.new _ _⟩
end TPM
namespace MI
open PySem PySem.Spec L2 TPM
open Classical in
noncomputable def agv (x y:D) (h:Hd):R D:=match x,y with
 | .tup xs, .int k=>if (xs≠[]∧2≤k∧k<2 ^ 63)∧xs.length*k.toNat≤LINE then .ok (.tup (List.replicate k.toNat xs).flatten) h else .no
 | x,y=>asm x y h
theorem a90 {K:PySem.W.Frag}:a2n K agv (fun x y H Q=>(rI CMul (fun i j=>.int (i*j)) x y H Q∨avk x y H Q)∨aol K x y H Q):=by
 intro E ι H h x y dx dy Q rx ry hr o
 cases rx with
 | @tup a vs xs ha rs =>
  cases ry with
  | int k =>
   simp only [agv] at o
   split at o
   ·rename_i hc
    refine .inr ⟨a,k,vs,rfl,rfl,SqT.of ha,fun z=>?_,hc.1.2.1,hc.1.2.2,ll (by rw [rs.len];exact hc.2),a1z (rs.flat _) hr o⟩
    subst z
    cases rs
    exact hc.1.1 rfl
   ·exact o.elim
  | _=>exact o.elim
 | int i=>exact .inl (agd _ _ _ _ _ _ _ _ _ (.int i) ry hr o)
 | ref e=>exact .inl (agd _ _ _ _ _ _ _ _ _ (.ref e) ry hr o)
 | _=>exact o.elim
end MI
namespace L2
open PySem PySem.Spec PyProof.Rows
end L2
namespace MI
open PySem PySem.Spec L2
def aon (x y:D) (h:Hd):R D:=match x,y with
 | .ref p, .int i=>(match h[p]? with | some (.lst xs)=>(match atI xs i with | some d=>.ok d h | none=>.no) | _=>.no)
 | _,_=>.no
def aek (g:D→D→Hd→R D) (fo fi fe:SE):SS:=fun τ h=>(fo τ h).fl fun o h1=>(fi τ h1).fl fun i h2=>(aon o i h2).fl fun x h3=>(fe τ h3).fl fun y h4=>(g x y h4).fl fun z h5=>match put o i z h5 with | some h6=>.nx τ h6 | none=>.no
end MI
namespace TPM
open PySem PySem.Spec PySem.W L2 HT MI
theorem ael (t b:Addr) (items2:Array Value) (n n2:Nat) (dd dd2:Option Addr) (sl sl2:Array (Option Value)) :
  Meets (Builtin.«tuple.__add__» ⟨[.ref t, .ref b],[]⟩) (fun _ R s=>s.heap.get? t=some { cls:=.type "tuple",dict:=dd,data:=.seq #[] n,slots:=sl }∧s.heap.get? b=some { cls:=.type "tuple",dict:=dd2,data:=.seq items2 n2,slots:=sl2 }∧R (.ok (.ret (.ref b))) s):=by
 refine .of_wp fun prog w A R s h=>?_
 obtain ⟨hp,g,d,tk,os⟩:=s
 obtain ⟨hl,hb,h⟩:=h
 wp_walk
 refine wpAny_of_eq sub_tuple_self ?_
 wp_walk
 exact ⟨_,rfl,h⟩
def at9 (K:PySem.W.Frag):R2:=fun x y H Q=>∃ a b ys,x = .ref a∧y = .ref b∧SqT K H a []∧SqT K H b ys∧Q (.ref b) H
theorem aoo {X:Cx}:OpR X (binaryOp .Add) (at9 X.K):=by
 intro pins s σ H x y v u Q I rx ry h
 obtain ⟨a,b,ys,rfl,rfl,ha,hb,q⟩:=h
 cases rx
 cases ry
 obtain ⟨its,r1,p1,_⟩:=I.tuple ha
 obtain ⟨its2,r2,p2,_⟩:=I.tuple hb
 cases r1
 obtain ⟨⟨cls,dd,data,sl⟩,ho,hc,n,hd⟩:=id p1
 obtain ⟨⟨cls2,dd2,data2,sl2⟩,ho2,hc2,n2,hd2⟩:=id p2
 simp only at hc hd hc2 hd2
 subst hc hd hc2 hd2
 exact concat_meets ⟨_,ho,rfl⟩ ⟨_,ho2,rfl⟩ noFill_tuple_add seq_tuple_add F.slot_tuple_add F.entry_tuple_add (F.args_tuple_add_2 _ _) (ael a b its2.toArray n n2 dd dd2 sl sl2) ⟨ho,ho2,⟨.ref b,H,I,rfl,q⟩⟩
end TPM
namespace MI
open PySem PySem.Spec L2 TPM
end MI
namespace TPM
open PySem PySem.Spec PySem.W L2 HT MI PyProof.Rows
end TPM
namespace MI
open PySem PySem.Spec L2 TPM
end MI
namespace L2
open PySem PySem.Spec PyProof.Rows
section
variable {X:Cx}
theorem Inv.lstR {pins:List (Addr × Obj)} {σ:St} {H:Hp} {s:Shared} {l:Addr} {xs:List V} (I:Inv X pins σ H s) (hH:Rd H l (.lst xs)):xs.length≤sizeLine∧∃ (its:List Value) (n:Nat),Vals xs its∧xs.length=its.length∧s.heap.get? l=some { cls:=.type "list",data:=.seq its.toArray n }:=by
 obtain ⟨z,its,n,r,e⟩:=hH.ok I.hok
 exact ⟨z,its,n,r,r.length,e⟩
def aop:R2:=fun x y H Q=>∃ l b xs zs,x = .ref l∧y = .ref b∧Rd H l (.lst xs)∧Rd H b (.lst zs)∧xs.length+zs.length≤sizeLine∧∀ p,H p=none→Q (.ref p) (upd H p (.lst (xs++zs)))
theorem aoq:OpR X (binaryOp .Add) aop:=fun pins s σ H x y v u Q I rx ry ⟨l,b,xs,zs,ex,ey,h1,h2,hz,q⟩=>by
 subst ex ey
 cases rx
 cases ry
 obtain ⟨_,as,_,va,la,ea⟩:=I.lstR h1
 obtain ⟨_,bs,_,vb,lb,eb⟩:=I.lstR h2
 have app:as.toArray++bs.toArray=(as++bs).toArray:=by simp
 refine PySem.P.add_list ea eb ?_ (by simp;omega)
 rw [app]
 exact ⟨.ref _,_,I.lnew (t':=s.toks) (va.append vb) (by simpa using hz),rfl,q _ I.fresh⟩
def ata:R2:=fun x y H Q=>∃ l k xs,x = .ref l∧y = .int k∧Rd H l (.lst xs) ∧ -(2 ^ 63)≤k∧k<2 ^ 63∧xs.length*k.toNat≤sizeLine∧∀ p,H p=none→Q (.ref p) (upd H p (.lst (List.replicate k.toNat xs).flatten))
theorem aor (its:List Value) (k:Nat):List.foldl (fun x1 x2=>x1++x2) #[] (List.replicate (if its.toArray.isEmpty=true then 0 else k) its.toArray)=(List.replicate k its).flatten.toArray:=by
 have g:∀ m:Nat,List.foldl (fun x1 x2=>x1++x2) #[] (List.replicate m its.toArray)=(List.replicate m its).flatten.toArray:=fun m=>by simpa using foldl_rep its m []
 cases its with
 | nil=>simp
 | cons a r=>rw [if_neg (by simp),g]
theorem aos:OpR X (binaryOp .Mult) ata:=fun pins s σ H x y v u Q I rx ry ⟨l,k,xs,ex,ey,h1,k1,k2,hz,q⟩=>by
 subst ex ey
 cases rx
 obtain ⟨t,rfl⟩:=ry
 obtain ⟨_,as,n,va,la,ea⟩:=I.lstR h1
 have few:as.toArray.size*k.toNat≤sizeLine:=by rw [List.size_toArray,← la];exact hz
 have top:(sizeLine:Nat)≤(2 ^ 63 - 1) / 8:=by decide
 refine wpAny_binaryOp_repeat_ref (T := "list") (U := "int") (by decide) ⟨_,ea,rfl⟩ (fun s'=>typeIs_int s' k t) noFill_list_mul F.fills_int_mul F.slot_int_rmul repeat_list F.slot_int_index.lookup
  (call_meets F.slot_int_rmul (typeIs_int s k t) F.entry_int_rmul (F.args_int_rmul_2 _ _) (int___rmul___int_list k t l as.toArray n)
   ⟨ea,rfl,⟨_,ea,rfl⟩,call_meets F.slot_list_mul ⟨_,ea,rfl⟩ F.entry_list_mul (F.args_list_mul_2 _ _)
    (AutoListH.list___mul___list_int_3 l as.toArray n k t (by rw [fitsIndex_both k1 k2];exact Bool.false_ne_true) (by omega) (by rw [acj few];exact Bool.false_ne_true)) ⟨ea,?_⟩⟩)
 rw [aor]
 exact ⟨.ref _,_,I.lnew (t':=s.toks) (va.rep k.toNat) (by rw [len_rep,Nat.mul_comm];exact hz),rfl,q _ I.fresh⟩
end
end L2
namespace MI
open PySem PySem.Spec L2 TPM
def a1t (d:D) (h:Hd):Option (List D):=match d with
 | .rol xs=>some xs
 | .ref i=>(match h[i]? with | some (.lst xs)=>some xs | _=>none)
 | _=>none
section
variable {K:PySem.W.Frag} {ι:List Addr} {H:Hp} {h:Hd}
theorem a91 {x:V} {d:D} {xs:List D} (r:Rep K ι H x d) (hr:HRep K ι H h) (e:a1t d h=some xs):∃ a vs,x = .ref a∧Rd H a (.lst vs)∧Reps K ι H vs xs:=by
 cases r with
 | @rol a vs ys hp rs=>cases e;exact ⟨a,vs,rfl, .inr hp,rs⟩
 | @ref a i hp =>
  obtain ⟨ob,e1,e2⟩:=hr.at hp
  simp only [a1t,e1] at e
  cases ob with
  | lst ys=>cases e;obtain ⟨vs,h3,h4⟩:=e2;exact ⟨a,vs,rfl, .inl h3,h4⟩
  | _=>cases e
 | _=>cases e
def j8:D→D→Hd→R D
 | .int i, .int j,h=>.ok (.int (i+j)) h
 | .str x, .str y,h=>if x.length+y.length≤LINE then .ok (.str (x++y)) h else .no
 | .tup [], .tup ys,h=>.ok (.tup ys) h
 | .tup (x::xs), .tup ys,h=>if (x::xs).length+ys.length≤LINE then .ok (.tup (x::xs++ys)) h else .no
 | x,y,h=>match a1t x h,a1t y h with
  | some xs,some ys=>if xs.length+ys.length≤LINE then .ok (.ref h.length) (h++[.lst (xs++ys)]) else .no
  | _,_=>.no
theorem a92 {x y:D} {xs ys:List D} (e1:a1t x h=some xs) (e2:a1t y h=some ys):j8 x y h=if xs.length+ys.length≤LINE then .ok (.ref h.length) (h++[.lst (xs++ys)]) else .no:=by
 cases x<;>first | (cases e1;done) | (cases y<;>first | (cases e2;done) | (simp only [j8,e1,e2]))
theorem ak1:a2n K j8 (fun x y H Q=>(rI0 (fun i j=>.int (i+j)) x y H Q∨(∃ i j,x = .str i∧y = .str j∧i.length+j.length≤sizeLine∧Q (.str (i++j)) H)∨aro K x y H Q∨aop x y H Q)∨at9 K x y H Q):=by
 intro E ι H h x y dx dy Q rx ry hr o
 have lists:∀ xs ys,a1t dx h=some xs→a1t dy h=some ys→aop x y H Q:=fun xs ys e1 e2=>by
  rw [a92 e1 e2] at o
  obtain ⟨a,vs,rfl,h1,h2⟩:=a91 rx hr e1
  obtain ⟨b,us,rfl,h3,h4⟩:=a91 ry hr e2
  split at o
  ·rename_i hc
   exact ⟨a,b,vs,us,rfl,rfl,h1,h3,ll (by rw [h2.len,h4.len];exact hc),yr (h2.app h4) hr o⟩
  ·exact o.elim
 cases hx:a1t dx h with
 | some xs =>
  cases hy:a1t dy h with
  | some ys=>exact .inl (.inr (.inr (.inr (lists xs ys hx hy))))
  | none =>
   exfalso
   cases rx<;>first | (cases hx;done) | (cases ry<;>first | (simp only [j8,hx,hy] at o;exact o) | (simp only [j8] at o;exact o))
 | none =>
  cases rx with
  | int i =>
   cases ry with
   | int j=>exact .inl (.inl ⟨i,j,rfl,rfl,ans o (.int _) hr⟩)
   | _=>exact o.elim
  | str i =>
   cases ry with
   | str j =>
    simp only [j8] at o
    split at o
    ·rename_i hc;exact .inl (.inr (.inl ⟨i,j,rfl,rfl,ll hc,ans o (.str _) hr⟩))
    ·exact o.elim
   | _=>exact o.elim
  | @tup a vs xs ha r1 =>
   cases ry with
   | @tup b us ys hb r2 =>
    cases xs with
    | nil=>cases r1;exact .inr ⟨a,b,us,rfl,rfl,SqT.of ha,SqT.of hb,ans o (.tup hb r2) hr⟩
    | cons z xs =>
     simp only [j8] at o
     split at o
     ·rename_i hc
      refine .inl (.inr (.inr (.inl ⟨a,b,vs,us,rfl,rfl,SqT.of ha,SqT.of hb,fun z=>(by subst z;cases r1),ll (by rw [r1.len,r2.len];exact hc),fun z=>?_,fun _=>?_⟩)))
      ·subst z;cases r2
       rw [List.append_nil] at o
       exact ans o (.tup ha r1) hr
      ·exact a1z (r1.app r2) hr o
     ·exact o.elim
   | _=>cases xs<;>exact o.elim
  | rol _ _=>cases hx
  | ref _=>cases ry<;>(simp only [j8,hx] at o;exact o.elim)
  | _=>cases ry<;>exact o.elim
theorem iu {X:Cx} {E:XD} {a b:Expr} {fa fb:SE} {pos:Pos} (ha:ME X E a fa) (hb:ME X E b fb):ME X E (.BinOp a .Add b pos) (s2 j8 fa fb) :=
 abq (OpR.or (ara.or (ae7.or (anh.or aoq))) aoo) ak1 ha hb
open Classical in
noncomputable def a2x:D→D→Hd→R D
 | .int i, .int j,h=>if CMul i j then .ok (.int (i*j)) h else .no
 | x, .int k,h=>match a1t x h with
  | some xs=>if (-(2 ^ 63)≤k∧k<2 ^ 63)∧xs.length*k.toNat≤LINE then .ok (.ref h.length) (h++[.lst (List.replicate k.toNat xs).flatten]) else .no
  | none=>.no
 | _,_,_=>.no
theorem ak2:a2n K a2x (fun x y H Q=>rI CMul (fun i j=>.int (i*j)) x y H Q∨ata x y H Q):=by
 intro E ι H h x y dx dy Q rx ry hr o
 cases ry with
 | int k =>
  cases hx:a1t dx h with
  | some xs =>
   obtain ⟨a,vs,rfl,h1,h2⟩:=a91 rx hr hx
   have o':out K E (zp K) ι H (if (-(2 ^ 63)≤k∧k<2 ^ 63)∧xs.length*k.toNat≤LINE then .ok (.ref h.length) (h++[.lst (List.replicate k.toNat xs).flatten]) else .no) Q:=by
    cases dx<;>first | (cases hx;done) | (simp only [a2x,hx] at o;exact o)
   split at o'
   ·rename_i hc
    exact .inr ⟨a,k,vs,rfl,rfl,h1,hc.1.1,hc.1.2,ll (by rw [h2.len];exact hc.2),yr (h2.flat _) hr o'⟩
   ·exact o'.elim
  | none =>
   cases rx with
   | int i =>
    by_cases hc:CMul i k
    ·simp only [a2x,if_pos hc] at o;exact .inl ⟨i,k,rfl,rfl,hc,ans o (.int _) hr⟩
    ·simp only [a2x,if_neg hc] at o;exact o.elim
   | _=>simp only [a2x,hx] at o;exact o.elim
 | _=>cases rx<;>exact o.elim
theorem a4y {X:Cx} {E:XD} {a b:Expr} {fa fb:SE} {pos:Pos} (ha:ME X E a fa) (hb:ME X E b fb):ME X E (.BinOp a .Mult b pos) (s2 a2x fa fb):=abq (alc.or aos) ak2 ha hb
end
end MI
namespace MI
open PySem PySem.Spec L2
def aat (d:D) (h:Hd):Option (List Int):=match d with
 | .ref i=>(match h[i]? with | some (.lst xs)=>a7j xs | _=>none)
 | .rol xs=>a7j xs
 | _=>none
theorem agw {K:PySem.W.Frag} {ι:List Addr} {H:Hp} {h:Hd} {v:V} {d:D} {ns:List Int} (r:Rep K ι H v d) (hr:HRep K ι H h) (e:aat d h=some ns):∃ p,v = .ref p∧SqL K H p (ns.map V.int):=by
 unfold aat at e
 split at e
 ·cases r with
  | @ref p _ hp =>
   split at e
   ·rename_i xs hx
    obtain ⟨vs,h3,h4⟩:=hr.lst hp hx
    exact ⟨p,rfl,SqL.of (by rw [h3,a67 h4 e])⟩
   ·cases e
 ·cases r with
  | @rol p vs xs hp r=>exact ⟨p,rfl,by rw [← a67 r e];exact hp.l⟩
 ·cases e
end MI
namespace L2
open PySem PySem.Spec PyProof.Rows
end L2
namespace MI
open PySem PySem.Spec L2
end MI
namespace L2
open PySem PySem.Spec PyProof.Rows
def ixI (n:Int):List Int→Option Nat
 | []=>none
 | a::l=>if a=n then some 0 else (ixI n l).map (·+1)
theorem ad6 {n:Int}:∀ {l:List Int} {j:Nat},ixI n l=some j→l[j]? = some n∧∀ i,i<j→l[i]?≠some n
 | [],_,h=>by cases h
 | a::l,j,h=>by
  unfold ixI at h
  split at h
  ·rename_i e
   cases h
   exact ⟨by rw [e];rfl,fun i hi=>absurd hi (Nat.not_lt_zero i)⟩
  ·rename_i e
   obtain ⟨k,hk,rfl⟩:=Option.map_eq_some_iff.mp h
   obtain ⟨h1,h2⟩:=ad6 hk
   refine ⟨h1,fun i hi=>?_⟩
   cases i with
   | zero=>intro z;exact e (Option.some.inj z)
   | succ i=>exact h2 i (Nat.lt_of_succ_lt_succ hi)
theorem ad8 {n:Int}:∀ {l:List Int},n∈l→∃ j,ixI n l=some j
 | [],h=>by cases h
 | a::l,h=>by
  unfold ixI
  split
  ·exact ⟨0,rfl⟩
  ·rename_i e
   rcases List.mem_cons.mp h with h | h
   ·exact absurd h.symm e
   ·obtain ⟨j,hj⟩:=ad8 h
    exact ⟨j+1,by rw [hj];rfl⟩
def eqI (n:Int):Value→Bool
 | .int a _=>a == n
 | _=>false
def agx (K:PySem.W.Frag):V→List V→Hp→VK→Prop:=fun x vs H Q=>∃ (l:Addr) (ns:List Int) (n:Int) (j:Nat),x = .ref l∧vs=[.int n]∧SqL K H l (ns.map V.int)∧ixI n ns=some j∧Q (.int (j:Nat)) H
theorem agy {X:Cx}:MtR X "list.index" (agx X.K):=by
 intro pins s σ H x vs v us Q I rx rv h
 obtain ⟨l,ns,n,j,rfl,rfl,hq,hj,q⟩:=h
 cases rx
 obtain ⟨u,rfl,ru⟩:=rv.one
 obtain ⟨t,rfl⟩:=ru
 obtain ⟨its,r,⟨⟨cls,dict,data,slots⟩,m,e1,e2,e3,e4⟩,hz⟩:=I.list hq
 have e2:cls = .type "list":=e2
 have e3:dict=none:=e3
 have e4:data = .seq its.toArray m:=e4
 subst e2 e3 e4
 have hl:its.length=ns.length:=by have:=r.length;simp at this;omega
 have each:∀ i (h:i<its.length),∃ a t,its[i] = .int a t∧ns[i]? = some a:=fun i h=>by
  obtain ⟨y,h1,h2⟩:=r.get (show (ns.map V.int)[i]? = some (V.int (ns[i]'(by omega))) by rw [List.getElem?_map,List.getElem?_eq_getElem (by omega)];rfl)
  obtain ⟨t,rfl⟩:=h2
  exact ⟨_,t,(List.getElem?_eq_some_iff.mp h1).2,List.getElem?_eq_getElem _⟩
 obtain ⟨p1,p2⟩:=ad6 hj
 have jl:j<ns.length:=(List.getElem?_eq_some_iff.mp p1).1
 rw [List.length_map] at hz
 rw [sizeLine_eq] at hz
 refine call_meets F.slot_list_index ⟨_,e1,rfl⟩ F.entry_list_index (F.args_list_index_2 _ _)
  (SeqAt.list_indexAt l its.toArray m none slots (.int n t) (eqI n) j (by simp;omega) (by omega) ?_ ?_) ⟨e1,fun y hy=>?_, .int (j:Nat),H,I.tok _,⟨_,rfl⟩,q⟩
 ·obtain ⟨a,t,h1,h2⟩:=each j (by omega)
  rw [p1] at h2;cases h2
  rw [List.getElem_toArray,h1]
  exact beq_self_eq_true _
 ·intro i hi hij
  obtain ⟨a,t,h1,h2⟩:=each i (by simpa using hi)
  rw [List.getElem_toArray,h1]
  exact beq_eq_false_iff_ne.mpr fun z=>p2 i hij (by rw [h2,z])
 ·obtain ⟨i,hi,rfl⟩:=List.getElem_of_mem (List.mem_toArray.mp hy)
  obtain ⟨a,t',h1,_⟩:=each i hi
  rw [h1]
  exact SeqAt.EqAt.int_int a t' n t
end L2
namespace MI
open PySem PySem.Spec L2
def a6s (d:D) (ds:List D) (h:Hd):R D:=match aat d h,ds with
 | some ns,[.int n]=>(match ixI n ns with | some j=>.ok (.int (j:Nat)) h | none=>.no)
 | _,_=>.no
theorem aem {K:PySem.W.Frag}:awt K a6s (agx K):=by
 intro E ι H h x dx xs ds Q rx r hr o
 unfold a6s at o
 split at o
 ·rename_i ns n e
  cases r with
  | cons r rs =>
   cases r;cases rs
   split at o
   ·rename_i j hj
    obtain ⟨p,rfl,q⟩:=agw rx hr e
    exact ⟨p,ns,n,j,rfl,rfl,q,hj,ans o (.int _) hr⟩
   ·exact o.elim
 ·exact o.elim
end MI
namespace MI
open PySem PySem.Spec L2
def aip:D→Option Key
 | .int i=>some (.inl i)
 | .str x=>some (.inr x)
 | _=>none
def aqc:D→Option (List Key)
 | .tup xs=>a2f aip xs
 | _=>none
def abb {κ:Type} [DecidableEq κ] (kvs:List (κ × D)) (k:κ):Option D:=(kvs.find? fun kv=>decide (kv.1=k)).map (·.2)
def putD {κ:Type} [DecidableEq κ] (kvs:List (κ × D)) (k:κ) (d:D):List (κ × D):=if (kvs.any fun kv=>decide (kv.1=k))=true then kvs.map fun kv=>if kv.1=k then (kv.1,d) else kv else kvs++[(k,d)]
section
variable {K:PySem.W.Frag} {ι:List Addr} {H:Hp} {h:Hd}
theorem a93 {v:V} {d:D} {k:Key} (r:Rep K ι H v d) (e:aip d=some k):v=kV k:=by
 cases r with
 | int i=>cases e;rfl
 | str x=>cases e;rfl
 | _=>cases e
theorem ad9:∀ {vs:List V} {ds:List D} {ks:List Key},Reps K ι H vs ds→a2f aip ds=some ks→vs=ks.map kV
 | _,_,_, .nil,e=>by cases e;rfl
 | _,d::ds,_, .cons r rs,e=>by
  unfold a2f at e
  split at e
  ·rename_i y ys h1 h2
   cases e
   rw [a93 r h1,ad9 rs h2];rfl
  ·cases e
theorem agz {v:V} {d:D} {ks:List Key} (r:Rep K ι H v d) (e:aqc d=some ks):∃ b,v = .ref b∧H b=some (.tup (ks.map kV)):=by
 cases r with
 | @tup a vs xs hp rs=>exact ⟨a,rfl,by rw [← ad9 rs e];exact hp⟩
 | _=>cases e
theorem a94 {κ:Type} [DecidableEq κ] (k:κ):∀ {us:List (κ × V)} {kvs:List (κ × D)},KRep K ι H us kvs→match abb kvs k with | some d=>∃ v,ack us k=some v∧Rep K ι H v d | none=>ack us k=none
 | [],[],_=>rfl
 | [],_::_,r=>by have:=congrArg List.length r.1;simp at this
 | _::_,[],r=>by have:=congrArg List.length r.1;simp at this
 | (a,v)::us,(b,d)::kvs,r=>by
  obtain ⟨e,rs⟩:=r
  simp only [List.map_cons,List.cons.injEq] at e
  obtain ⟨e1,e2⟩:=e
  subst e1
  cases rs with
  | cons r1 rs =>
   by_cases hk:a=k
   ·simp only [abb,ack,List.find?_cons,hk,decide_true,Option.map_some]
    exact ⟨v,rfl,r1⟩
   ·have ih:=a94 k (us:=us) (kvs:=kvs) ⟨e2,rs⟩
    simp only [abb,ack,List.find?_cons,hk,decide_false] at ih ⊢
    exact ih
theorem ada {κ:Type} [DecidableEq κ] {us:List (κ × V)} {kvs:List (κ × D)} (k:κ) {v:V} {d:D} (r:KRep K ι H us kvs) (rv:Rep K ι H v d):KRep K ι H (putK us k v) (putD kvs k d):=by
 have anyEq:∀ {us:List (κ × V)} {kvs:List (κ × D)},us.map (·.1)=kvs.map (·.1)→(us.any fun kv=>decide (kv.1=k))=(kvs.any fun kv=>decide (kv.1=k)):=fun {us kvs} e=>by
  have h1:(us.any fun kv=>decide (kv.1=k))=(us.map (·.1)).any fun a=>decide (a=k):=by rw [List.any_map];rfl
  have h2:(kvs.any fun kv=>decide (kv.1=k))=(kvs.map (·.1)).any fun a=>decide (a=k):=by rw [List.any_map];rfl
  rw [h1,h2,e]
 have rmap:∀ {us:List (κ × V)} {kvs:List (κ × D)},KRep K ι H us kvs→KRep K ι H (us.map fun kv=>if kv.1=k then (kv.1,v) else kv) (kvs.map fun kv=>if kv.1=k then (kv.1,d) else kv):=fun {us}=>by
  induction us with
  | nil=>intro kvs r;cases kvs with
   | nil=>exact ⟨rfl, .nil⟩
   | cons _ _=>have:=congrArg List.length r.1;simp at this
  | cons a us ih=>intro kvs r;cases kvs with
   | nil=>have:=congrArg List.length r.1;simp at this
   | cons b kvs =>
    obtain ⟨e,rs⟩:=r
    simp only [List.map_cons,List.cons.injEq] at e
    obtain ⟨e1,e2⟩:=e
    cases rs with
    | cons r1 rs =>
     obtain ⟨i1,i2⟩:=ih ⟨e2,rs⟩
     obtain ⟨a1,a2⟩:=a
     obtain ⟨b1,b2⟩:=b
     simp only at e1
     subst e1
     by_cases hk:a1=k
     ·simp only [List.map_cons,hk,if_true]
      exact ⟨by simp only [List.map_cons,i1], .cons rv i2⟩
     ·simp only [List.map_cons,hk,if_false]
      exact ⟨by simp only [List.map_cons,i1], .cons r1 i2⟩
 have ae:=anyEq r.1
 unfold putK putD
 rw [ae]
 split
 ·exact rmap r
 ·exact ⟨by simp [r.1],by simpa using r.2.snoc rv⟩
def aww (x y:D) (h:Hd):Option (Option D):=match x with
 | .ref i=>(match h[i]? with
  | some (.dK kvs)=>(aip y).map fun k=>abb kvs k
  | some (.dT kvs)=>(aqc y).map fun k=>abb kvs k
  | _=>none)
 | .rod ks xs=>(aip y).map fun k=>abb (ks.zip xs) k
 | .rdT ks xs=>(aqc y).map fun k=>abb (ks.zip xs) k
 | _=>none
def awx (K:PySem.W.Frag) (ι:List Addr) (H:Hp) (a:Addr) (y:V):Option D→Prop
 | some d=>∃ v,avl H a y (some v)∧Rep K ι H v d
 | none=>avl H a y none
theorem ah0 {κ:Type} {us:List (κ × V)} {ks:List κ} {xs:List D} (e:us.map (·.1)=ks) (r:Reps K ι H (us.map (·.2)) xs):KRep K ι H us (ks.zip xs):=a8y e r
theorem aot {x y:V} {dx dy:D} {r:Option D} (rx:Rep K ι H x dx) (ry:Rep K ι H y dy) (hr:HRep K ι H h) (e:aww dx dy h=some r):∃ a,x = .ref a∧awx K ι H a y r:=by
 have goK:∀ {a:Addr} {us:List (Key × V)} {kvs:List (Key × D)},Rd H a (.dK us)→KRep K ι H us kvs→(aip dy).map (fun k=>abb kvs k)=some r→awx K ι H a y r:=fun {a us kvs} rd kr e=>by
  simp only [Option.map_eq_some_iff] at e
  obtain ⟨k,ek,rfl⟩:=e
  have ey:=a93 ry ek
  have q:=a94 k kr
  cases hv:abb kvs k with
  | none=>rw [hv] at q;exact .inl ⟨us,k,rd,ey,q.symm⟩
  | some d=>rw [hv] at q;obtain ⟨v,q1,q2⟩:=q;exact ⟨v, .inl ⟨us,k,rd,ey,q1.symm⟩,q2⟩
 have goT:∀ {a:Addr} {us:List (List Key × V)} {kvs:List (List Key × D)},Rd H a (.dT us)→KRep K ι H us kvs→(aqc dy).map (fun k=>abb kvs k)=some r→awx K ι H a y r:=fun {a us kvs} rd kr e=>by
  simp only [Option.map_eq_some_iff] at e
  obtain ⟨k,ek,rfl⟩:=e
  obtain ⟨b,ey,eb⟩:=agz ry ek
  have q:=a94 k kr
  cases hv:abb kvs k with
  | none=>rw [hv] at q;exact .inr ⟨us,k,b,rd,ey,eb,q.symm⟩
  | some d=>rw [hv] at q;obtain ⟨v,q1,q2⟩:=q;exact ⟨v, .inr ⟨us,k,b,rd,ey,eb,q1.symm⟩,q2⟩
 cases rx with
 | @ref a i ha =>
  obtain ⟨ob,e1,e2⟩:=hr.at ha
  simp only [aww,e1] at e
  cases ob with
  | lst _=>cases e
  | dK kvs=>obtain ⟨us,h3,h4⟩:=e2;exact ⟨a,rfl,goK (.inl h3) h4 e⟩
  | dT kvs=>obtain ⟨us,h3,h4⟩:=e2;exact ⟨a,rfl,goT (.inl h3) h4 e⟩
 | @rod a o us ks xs hp ek rs=>exact ⟨a,rfl,goK (.inr ⟨o,hp⟩) (ah0 ek rs) e⟩
 | @rdT a o us ks xs hp ek rs=>exact ⟨a,rfl,goT (.inr ⟨o,hp⟩) (ah0 ek rs) e⟩
 | _=>cases e
def atb (neg:Bool) (y x:D) (h:Hd):R D:=match aww x y h with
 | some r=>.ok (.bl (if neg then !r.isSome else r.isSome)) h
 | none=>.no
def ah1:R2:=fun y x H Q=>∃ a o,x = .ref a∧avl H a y o∧Q (.bl (!o.isSome)) H
theorem u1 {A:Around} (hu:A.units+64<cLine):A.units+1<cLine:=by omega
theorem ah2 {X:Cx} (hu:X.A.units+64<cLine):OpR X (compareOp .NotIn) ah1:=fun pins s σ H y x v u Q I ry rx ⟨a,o,ex,g,q⟩=>by
 subst ex
 obtain rfl:u=Value.ref a:=rx
 exact anl (u1 hu) I g ry fun s3 I3=>⟨.bl (!o.isSome),H,I3,rfl,q⟩
theorem aen:a2n K (atb true) ah1:=by
 intro E ι H h y x dy dx Q ry rx hr o
 unfold atb at o
 split at o
 ·rename_i r e
  obtain ⟨a,rfl,q⟩:=aot rx ry hr e
  cases r with
  | none=>exact ⟨a,none,rfl,q,ans o (.bl _) hr⟩
  | some d=>obtain ⟨v,q,_⟩:=q;exact ⟨a,some v,rfl,q,ans o (.bl _) hr⟩
 ·exact o.elim
variable {X:Cx} {E:XD} {a b e o i:Expr} {fa fb fc:SE} {pos:Pos}
def aqd (o k v:D) (h:Hd):Option Hd:=match o with
 | .ref i=>(match h[i]? with
  | some (.dK kvs)=>(match aip k with | some kk=>if kvs.length<LINE then some (h.set i (.dK (putD kvs kk v))) else none | none=>none)
  | some (.dT kvs)=>(match aqc k with | some kk=>if kvs.length<LINE then some (h.set i (.dT (putD kvs kk v))) else none | none=>none)
  | _=>none)
 | _=>none
def a6t (fe fo fi:SE):SS:=fun τ h=>(fe τ h).fl fun v h1=>(fo τ h1).fl fun o h2=>(fi τ h2).fl fun k h3=>match aqd o k v h3 with | some h4=>.nx τ h4 | none=>.no
theorem KRep.mono {κ:Type} {ι':List Addr} {H':Hp} {us:List (κ × V)} {kvs:List (κ × D)} (g:Gr ι H ι' H') (r:KRep K ι H us kvs):KRep K ι' H' us kvs:=⟨r.1,r.2.mono g⟩
theorem ak3 {h':Hd} {o k v:V} {od kd vd:D} {Q:Hp→Prop} (r1:Rep K ι H o od) (r2:Rep K ι H k kd) (r3:Rep K ι H v vd) (hr:HRep K ι H h) (e:aqd od kd vd h=some h') (q:∀ H',Gr ι H ι H'→HRep K ι H' h'→Q H') :
  ∃ a H4,o = .ref a∧awj H a k v H4∧Q H4:=by
 cases r1 with
 | @ref a i ha =>
  obtain ⟨ob,h1,h2⟩:=hr.at ha
  simp only [aqd,h1] at e
  cases ob with
  | lst _=>cases e
  | dK kvs =>
   obtain ⟨us,h3,h4⟩:=h2
   cases hk:aip kd with
   | none=>simp only [hk] at e;cases e
   | some kk =>
    simp only [hk] at e
    split at e
    ·rename_i hl
     cases e
     have lu:us.length=kvs.length:=by simpa using congrArg List.length h4.1
     exact ⟨a,_,rfl, .inl ⟨us,kk,h3,a93 r2 hk,by rw [anq,lu];exact hl,rfl⟩,q _ (a3c hr ha _) (hr.put ha ⟨_,ou,(ada kk h4 r3).mono (a3c hr ha _)⟩)⟩
    ·cases e
  | dT kvs =>
   obtain ⟨us,h3,h4⟩:=h2
   cases hk:aqc kd with
   | none=>simp only [hk] at e;cases e
   | some kk =>
    simp only [hk] at e
    split at e
    ·rename_i hl
     cases e
     have lu:us.length=kvs.length:=by simpa using congrArg List.length h4.1
     obtain ⟨b,eb,tb⟩:=agz r2 hk
     exact ⟨a,_,rfl, .inr ⟨us,kk,b,h3,eb,tb,by rw [anq,lu];exact hl,rfl⟩,q _ (a3c hr ha _) (hr.put ha ⟨_,ou,(ada kk h4 r3).mono (a3c hr ha _)⟩)⟩
    ·cases e
 | _=>cases e
theorem aou {pos':Pos} (hu:X.A.units+64<cLine) (he:ME X E e fa) (ho:ME X E o fb) (hi:ME X E i fc) (hs:swapsWith e (some (.Subscript o i pos')) pos.line X.env=pure false:=by rfl):MS X E (.Assign [.Subscript o i pos'] e pos) (a6t fa fb fc):=by
 refine PS.weak (anm (u1 hu) ho hi he hs) fun N σ H ⟨ι,τ,h,S,Rh,oo⟩=>?_
 refine ⟨ι,τ,h,S,Rh,yh oo fun d h1 ι1 H1 v g1 r1 hr1 o1=>?_⟩
 refine ⟨ι1,τ,h1,S.mono g1,hr1,yh o1 fun d2 h2 ι2 H2 u g2 r2 hr2 o2=>?_⟩
 refine ⟨ι2,τ,h2,(S.mono g1).mono g2,hr2,yh o2 fun d3 h3 ι3 H3 w g3 r3 hr3 o3=>?_⟩
 cases hp:aqd d2 d3 d h3 with
 | none=>rw [hp] at o3;exact o3.elim
 | some h4 =>
  rw [hp] at o3
  exact ak3 (r2.mono g3) r3 ((r1.mono g2).mono g3) hr3 hp fun H' g4 hr4=>o3 ι3 H' σ g4 ((((S.mono g1).mono g2).mono g3).mono g4) hr4
def gD1 (x y:D) (h:Hd):R D:=match aip x with
 | some k=>.ok (.ref h.length) (h++[.dK [(k,y)]])
 | none=>.no
theorem ah3 {p:Addr} {o:HO} {ob:O} (hr:HRep K ι H h) (pn:p ∉ ι) (gw:Gw ι H (ι++[p]) (upd H p o)) (q:ORep K (ι++[p]) (upd H p o) p ob):HRep K (ι++[p]) (upd H p o) (h++[ob]):=by
 refine ⟨List.nodup_append.mpr ⟨hr.nd,by simp,fun a ha b hb z=>pn (by rw [List.mem_singleton.mp hb] at z;rw [← z];exact ha)⟩,by simp [hr.len],fun j a o' q1 q2=>?_⟩
 by_cases hj:j<ι.length
 ·rw [List.getElem?_append_left hj] at q1
  rw [List.getElem?_append_left (by rw [← hr.len];exact hj)] at q2
  exact (hr.obj j a o' q1 q2).monoW gw (jn fun z=>pn (by rw [← z];exact List.mem_of_getElem? q1))
 ·have hj2:j<(ι++[p]).length:=(List.getElem?_eq_some_iff.mp q1).1
  have:j=ι.length:=by simp at hj2;omega
  subst this
  rw [List.getElem?_append_right (Nat.le_refl _)] at q1
  rw [hr.len,List.getElem?_append_right (Nat.le_refl _)] at q2
  simp at q1 q2
  subst q1 q2
  exact q
theorem awy (ha:ME X E a fa) (hb:ME X E b fb):ME X E (.Dict [some a] [b] pos) (s2 gD1 fa fb):=by
 refine PE.weak (anp (aja ha hb ano) rfl rfl (by simp) (by simp)) fun σ H Q ⟨ι,τ,h,S,Rh,o⟩ p hp=>?_
 have pn:p ∉ ι:=Rh.notin hp
 have g0:Gr ι H ι (upd H p (.dK [])):=a0p hp _
 unfold s2 at o
 refine ⟨ι,τ,h,S.mono g0,Rh.aside hp _,?_⟩
 cases hfa:fa τ h with
 | no=>rw [hfa] at o;exact o.elim
 | ex c hx=>rw [hfa] at o;exact a3z (Rp:=zp X.K) (r:=.ex c hx) (Q:=Q) o g0
 | ok d h1 =>
  rw [hfa] at o
  intro ι1 H1 v g1 r1 hr1
  refine ⟨ι1,τ,h1,(S.mono g0).mono g1,hr1,?_⟩
  simp only [R.bind] at o
  cases hfb:fb τ h1 with
  | no=>rw [hfb] at o;exact o.elim
  | ex c hx=>rw [hfb] at o;exact a3z (Rp:=zp X.K) (r:=.ex c hx) (Q:=Q) o (g0.trans g1)
  | ok d2 h2 =>
   rw [hfb] at o
   intro ι2 H2 u g2 r2 hr2
   have g12:=g1.trans g2
   have e2:H2 p=some (.dK []):=g12.oth p _ ou pn
   simp only [gD1] at o
   cases hk:aip d with
   | none=>rw [hk] at o;exact o.elim
   | some k =>
    rw [hk] at o
    refine ⟨e2,[(k,u)],?_,by simp,?_⟩
    ·rw [a93 (r1.mono g2) hk];rfl
    ·obtain ⟨m,em,hm⟩:=g12.pre
     have nm:∀ c∈m,c≠p∧H c=none:=fun c hc=>by
      have q:=hm c hc
      by_cases z:c=p
      ·subst z;rw [ou] at q;cases q
      ·rw [jn z] at q;exact ⟨z,q⟩
     have pn2:p ∉ ι2:=fun z=>by
      rw [em] at z
      rcases List.mem_append.mp z with z | z
      ·exact pn z
      ·exact (nm p z).1 rfl
     have ne:∀ {c u'},H c=some u'→c≠p:=fun e=>jw e hp
     have up:∀ {c u'},H c=some u'→(upd H p (.dK [])) c=some u':=fun e=>by rw [jn (ne e)];exact e
     have gw:Gw ι2 H2 (ι2++[p]) (upd H2 p (.dK [(k,u)])):=⟨⟨[p],rfl⟩,fun c vs e=>by rw [jn (fun z=>by subst z;rw [e2] at e;cases e)];exact e,fun c o u' e=>by rw [jn (fun z=>by subst z;rw [e2] at e;cases e)];exact e⟩
     have G:Gr ι H (ι2++[p]) (upd H2 p (.dK [(k,u)])):=by
      refine ⟨⟨m++[p],by rw [em];simp,fun c hc=>?_⟩,fun c vs e=>?_,fun c o u' e=>?_,fun c u' e hn=>?_,fun c u' e=>?_⟩
      ·rcases List.mem_append.mp hc with hc | hc
       ·exact (nm c hc).2
       ·rw [List.mem_singleton.mp hc];exact hp
      ·rw [jn (ne e)];exact g12.tup _ _ (up e)
      ·rw [jn (ne e)];exact g12.frz _ _ _ (up e)
      ·rw [jn (ne e)];exact g12.oth _ _ (up e) hn
      ·obtain ⟨w,q⟩:=g12.kp _ _ (up e)
       exact ⟨w,by rw [jn (ne e)];exact q⟩
     refine o (ι2++[p]) _ (.ref p) G (.ref (by rw [List.getElem?_append_right (by rw [hr2.len];exact Nat.le_refl _),hr2.len];simp)) (ah3 hr2 pn2 gw ⟨_,ou,rfl, .cons (r2.monoW gw) .nil⟩)
end
end MI
namespace ZP
open PySem PySem.Spec PySem.Builtin PySem.Builtin.SmallTypes L2
end ZP
namespace MI
open PySem PySem.Spec L2 ZP
def ak4 (x:D) (h:Hd):R Itm:=match srcOf x h with
 | some (xs,c)=>.ok ⟨((List.range xs.length).zip xs).map fun p=>.tup [.int (p.1:Nat),p.2],c⟩ h
 | none=>.no
def aov (f:SE):SI:=fun τ h=>(f τ h).bind ak4
end MI
namespace L2
open PySem PySem.Spec PyProof.Rows
end L2
namespace MI
open PySem PySem.Spec L2
end MI
namespace L2
open PySem PySem.Spec PyProof.Rows
end L2
namespace MI
open PySem PySem.Spec L2
def az6 (lo:Int) (n:Nat):List D:=(List.range n).map fun i=>D.int (lo - (i:Nat))
def aow (ds:List D) (h:Hd):R Itm:=match ds with
 | [.int i, .int j, .int k]=>if k = -1∧B62 i∧B62 j then .ok ⟨az6 i (i - j).toNat,fun _=>True⟩ h else .no
 | _=>.no
end MI
namespace MI
open PySem PySem.Spec L2
end MI
namespace MI
open PySem PySem.Spec L2
theorem di {α β:Type} (a:α) (h:Hd) (k:α→Hd→R β):(R.ok a h).bind k=k a h:=rfl
theorem a2h {α:Type} (a:α) (h:Hd) (k:α→Hd→Fl):(R.ok a h).fl k=k a h:=rfl
def thn (r:Fl) (g:SS):Fl:=match r with | .nx τ h=>g τ h | r=>r
theorem wj (f g:SS) (τ:Sd) (h:Hd):jd f g τ h=thn (f τ h) g:=by unfold jd thn;cases f τ h<;>rfl
theorem a0i (τ:Sd) (h:Hd) (g:SS):thn (.nx τ h) g=g τ h:=rfl
theorem a82 (d:D) (h:Hd) (g:SS):thn (.rt d h) g = .rt d h:=rfl
def toR (r:Fl):R D:=match r with | .rt d h1=>.ok d h1 | .nx _ h1=>.ok .non h1 | .ex c h1=>.ex c h1 | _=>.no
theorem j6 (b:SS) (n:Nat) (ds:List D) (h:Hd):o8 b n ds h=toR (b (a2b n ds) h):=by unfold o8 toR;cases b (a2b n ds) h<;>rfl
theorem a4b (d:D) (h:Hd):toR (.rt d h) = .ok d h:=rfl
theorem a83 (τ:Sd) (h:Hd):toR (.nx τ h) = .ok .non h:=rfl
theorem m7 {n:Nat}:∀ {xs:List D},clos n xs↔∀ x∈xs,clo n x
 | []=>by simp [clos]
 | x::xs=>by simp [clos,m7 (xs:=xs)]
theorem iw {n:Nat} (i:Int):clo n (.int i):=by simp [clo]
theorem nj {n:Nat} (i:Str):clo n (.str i):=by simp [clo]
theorem a84 {n:Nat} (i:Bool):clo n (.bl i):=by simp [clo]
theorem ah4 {n:Nat}:clo n .non:=by simp [clo]
theorem n6 {n:Nat}:clos n []:=by simp [clos]
theorem dj {n:Nat} {x:D} {xs:List D} (a:clo n x) (b:clos n xs):clos n (x::xs):=by simp only [clos];exact ⟨a,b⟩
theorem gk {n:Nat} {xs:List D} (h:clos n xs):clo n (.tup xs):=by simpa [clo] using h
theorem a95 {n:Nat} {xs:List D} (h:clos n xs):clo n (.rol xs):=by simpa [clo] using h
theorem jg {α:Type} {n:Nat} {f:α→D} {l:List α} (h:∀ a∈l,clo n (f a)):clos n (l.map f):=by
 rw [m7]
 intro x hx
 obtain ⟨a,ha,rfl⟩:=List.mem_map.mp hx
 exact h a ha
mutual
theorem a85 {n m:Nat} (hm:n≤m):∀ {d:D},clo n d→clo m d
 | .non,_=>by simp [clo]
 | .bl _,_=>by simp [clo]
 | .int _,_=>by simp [clo]
 | .str _,_=>by simp [clo]
 | .ty _,_=>by simp [clo]
 | .tup xs,h=>by simp only [clo] at h ⊢;exact a0t hm h
 | .rol xs,h=>by simp only [clo] at h ⊢;exact a0t hm h
 | .scr xs,h=>by simp only [clo] at h ⊢;exact a0t hm h
 | .rod _ xs,h=>by simp only [clo] at h ⊢;exact a0t hm h
 | .rdT _ xs,h=>by simp only [clo] at h ⊢;exact a0t hm h
 | .exc _,_=>by simp [clo]
 | .ref i,h=>by simp only [clo] at h ⊢;omega
theorem a0t {n m:Nat} (hm:n≤m):∀ {xs:List D},clos n xs→clos m xs
 | [],_=>by simp [clos]
 | x::xs,h=>by simp only [clos] at h ⊢;exact ⟨a85 hm h.1,a0t hm h.2⟩
end
theorem ul {n m:Nat} (hm:n≤m) {o:O} (h:a1r n o):a1r m o:=by
 cases o with
 | lst xs=>exact a0t hm h
 | dK kvs=>exact a0t hm h
 | dT kvs=>exact a0t hm h
theorem abx {α:Type} {f:α→Option α}:∀ {xs:List α},(∀ x∈xs,f x=some x)→a2f f xs=some xs
 | [],_=>rfl
 | x::xs,h=>by
  unfold a2f
  rw [h x List.mem_cons_self,abx fun y hy=>h y (List.mem_cons_of_mem _ hy)]
theorem adb {n k:Nat} {h:Hd} {d:D} (c:clo n d):a81 n h (k+1) d=some d:=by unfold a81;rw [if_pos c]
theorem ak5 {n k:Nat} {h:Hd} {o:O} (c:a1r n o):at6 n h k o=some o:=by unfold at6;rw [if_pos c]
theorem ak6 {n k i:Nat} {h:Hd} {xs:List D} (hi:n≤i) (e:h[i]? = some (.lst xs)) (c:clos n xs):a81 n h (k+2) (.ref i)=some (.rol xs):=by
 unfold a81
 rw [if_neg (by simp only [clo];omega)]
 simp only [e]
 rw [abx fun x hx=>adb (m7.mp c x hx)]
 rfl
theorem aby {n:Nat} {d d':D} {h1:Hd} (e:a81 n h1 FU d=some d') (c:∀ o∈h1.take n,a1r n o):ad3 n (.ok d h1) = .ok d' (h1.take n):=by
 unfold ad3
 simp only [e]
 rw [abx fun o ho=>ak5 (c o ho)]
theorem qw {n:Nat} {d:D} {h1:Hd} (e:clo n d) (c:∀ o∈h1.take n,a1r n o):ad3 n (.ok d h1) = .ok d (h1.take n):=aby (adb e) c
theorem a96 {n i:Nat} {h1:Hd} {xs:List D} (hi:n≤i) (e:h1[i]? = some (.lst xs)) (cx:clos n xs) (c:∀ o∈h1.take n,a1r n o):ad3 n (.ok (.ref i) h1) = .ok (.rol xs) (h1.take n):=aby (ak6 hi e cx) c
theorem a7k {f:SE} {τ:Sd} {h:Hd} {xs:List D} (e:f τ h = .ok (.ref h.length) (h++[.lst xs])) (cx:clos h.length xs) (c:∀ o∈h,a1r h.length o):sZ f τ h = .ok (.rol xs) h:=by
 unfold sZ
 rw [e,a96 (Nat.le_refl _) (by simp) cx (by simpa using c)]
 simp
def Pu (F:SF) (n:Nat) (ds:List D) (d:D):Prop:=∀ h,jo false n F ds h = .ok d h
def Dr (F:SF) (n:Nat) (ds:List D) (o:O) (d:D) (o':O):Prop:=∀ p h,h[p]? = some o→jo false n F (.ref p::ds) h = .ok d (h.set p o')
theorem a4c:∀ {ds:List D},(∀ d∈ds,clo 0 d)→a3m ds=[]∧a2g 0 ds=ds∧∀ k,a2g k ds=ds
 | [],_=>⟨rfl,rfl,fun _=>rfl⟩
 | d::ds,h=>by
  obtain ⟨a,b,c⟩:=a4c (ds:=ds) fun x hx=>h x (List.mem_cons_of_mem _ hx)
  have hd:=h d List.mem_cons_self
  have nr:refOf d=none:=by cases d<;>first | rfl | (simp only [clo] at hd;omega)
  refine ⟨?_,?_,fun k=>?_⟩
  ·simpa [a3m,nr] using a
  ·cases d<;>first | (simp only [clo] at hd;omega) | (simp only [a2g,b])
  ·cases d<;>first | (simp only [clo] at hd;omega) | (simp only [a2g,c])
theorem Pu.of {F:SF} {n:Nat} {ds:List D} {r:R D} {d:D} (hn:ds.length=n) (cd:∀ x∈ds,clo 0 x) (e:F ds []=r) (z:ad3 0 r = .ok d []) (c:clo 0 d):Pu F n ds d:=fun h=>by
 obtain ⟨p1,p2,_⟩:=a4c cd
 unfold jo
 rw [if_pos hn]
 unfold aoh
 rw [p1]
 simp only [a2f,List.length_nil,Bool.false_eq_true,if_false]
 rw [if_pos ⟨List.nodup_nil,fun x hx=>.inl (cd x hx),fun o ho=>by simp at ho⟩,p2,e,z]
 simp [c,yj]
theorem Dr.of {F:SF} {n:Nat} {ds:List D} {o o':O} {r:R D} {d:D} (hn:ds.length+1=n) (cd:∀ x∈ds,clo 0 x) (co:a1r 0 o) (e:F (.ref 0::ds) [o]=r) (z:ad3 1 r = .ok d [o']) (c:clo 0 d) (co':a1r 0 o'):Dr F n ds o d o':=fun p h hp=>by
 obtain ⟨p1,_,p3⟩:=a4c cd
 have e1:a3m (.ref p::ds)=[p]:=by
  have:a3m (.ref p::ds)=p::a3m ds:=rfl
  rw [this,p1]
 have e2:a2g 0 (.ref p::ds) = .ref 0::ds:=by
  have:a2g 0 (.ref p::ds) = .ref 0::a2g 1 ds:=rfl
  rw [this,p3]
 unfold jo
 rw [if_pos (by simpa using hn)]
 unfold aoh
 rw [e1]
 simp only [a2f,hp,List.length_singleton,Bool.false_eq_true,if_false]
 have all:∀ x∈(D.ref p::ds),clo 0 x∨isRef x:=fun x hx=>by
  rcases List.mem_cons.mp hx with rfl | hx
  ·exact .inr ⟨p,rfl⟩
  ·exact .inl (cd x hx)
 rw [if_pos ⟨by simp,all,fun u hu=>by rw [List.mem_singleton.mp hu];exact co⟩,e2,e,z]
 simp [c,co',yj]
theorem atc {F:SF} {n i:Nat} {ds:List D} {o:O} {h1:Hd} (hn:ds.length=n) (cd:∀ x∈ds,clo 0 x) (e:F ds [] = .ok (.ref i) h1) (ho:h1[i]? = some o) (co:a1r 0 o) (h:Hd):jo true n F ds h = .ok (.ref h.length) (h++[o]):=by
 obtain ⟨p1,p2,_⟩:=a4c cd
 unfold jo
 rw [if_pos hn]
 unfold aoh
 rw [p1]
 simp only [a2f,List.length_nil,if_true]
 rw [if_pos ⟨List.nodup_nil,fun x hx=>.inl (cd x hx),fun o ho=>by simp at ho⟩,p2,e]
 unfold aqb
 simp only [ho]
 rw [if_pos ⟨Nat.zero_le _,co,by simp⟩]
 simp [co,yj]
theorem ak7 (g:SG) (b:SS) (τ:Sd) (h:Hd):forL (fun _=>True) g b [] τ h = .nx τ h:=by rw [forL,if_pos True.intro]
def trn (r:Fl) (k:Sd→Hd→Fl):Fl:=match r with | .nx τ h=>k τ h | .ct τ h=>k τ h | .bk τ h=>.nx τ h | r=>r
theorem ah5 (g:SG) (b:SS) (x:D) (xs:List D) (τ τ1:Sd) (h h1:Hd) (e:g x τ h = .nx τ1 h1):forL (fun _=>True) g b (x::xs) τ h=trn (b τ1 h1) (forL (fun _=>True) g b xs):=by
 rw [forL,if_pos True.intro,e]
 dsimp only
 unfold trn
 cases b τ1 h1<;>rfl
theorem atd (τ:Sd) (h:Hd) (k:Sd→Hd→Fl):trn (.nx τ h) k=k τ h:=rfl
theorem ate (d:D) (h:Hd) (k:Sd→Hd→Fl):trn (.rt d h) k = .rt d h:=rfl
theorem adc {g:SG} {b:SS} {α:Type} (f:α→D) (I:List α→Sd→Hd→Prop) (Rt:D→Hd→Prop):∀ (xs pre:List α) (τ:Sd) (h:Hd),
  (∀ pre' x post τ h,pre++xs=pre'++x::post→I pre' τ h→∃ τ1 h1,g (f x) τ h = .nx τ1 h1∧((∃ τ2 h2,b τ1 h1 = .nx τ2 h2∧I (pre'++[x]) τ2 h2)∨∃ d h2,b τ1 h1 = .rt d h2∧Rt d h2))→I pre τ h →
  (∃ τ' h',forL (fun _=>True) g b (xs.map f) τ h = .nx τ' h'∧I (pre++xs) τ' h')∨∃ d h',forL (fun _=>True) g b (xs.map f) τ h = .rt d h'∧Rt d h'
 | [],pre,τ,h,_,i0=>.inl ⟨τ,h,ak7 ..,by simpa using i0⟩
 | x::xs,pre,τ,h,st,i0=>by
  obtain ⟨τ1,h1,e1,q⟩:=st pre x xs τ h rfl i0
  rw [List.map_cons,ah5 _ _ _ _ _ _ _ _ e1]
  rcases q with ⟨τ2,h2,e2,i2⟩ | ⟨d,h2,e2,r⟩
  ·rw [e2,atd]
   have:=adc f I Rt xs (pre++[x]) τ2 h2 (fun pre' y post τ h e=>st pre' y post τ h (by simpa using e)) i2
   simpa using this
  ·rw [e2,ate]
   exact .inr ⟨d,h2,rfl,r⟩
theorem a0r {g:SG} {b:SS} {α:Type} (f:α→D) (I:List α→Sd→Hd→Prop) (xs:List α) (τ:Sd) (h:Hd)
  (st:∀ pre x post τ h,xs=pre++x::post→I pre τ h→∃ τ1 h1,g (f x) τ h = .nx τ1 h1∧∃ τ2 h2,b τ1 h1 = .nx τ2 h2∧I (pre++[x]) τ2 h2) (i0:I [] τ h) :
  ∃ τ' h',forL (fun _=>True) g b (xs.map f) τ h = .nx τ' h'∧I xs τ' h':=by
 rcases adc f I (fun _ _=>False) xs [] τ h (fun pre' x post τ h e i=>let ⟨τ1,h1,a,b⟩:=st pre' x post τ h e i; ⟨τ1,h1,a, .inl b⟩) i0 with ⟨τ',h',a,b⟩ | ⟨_,_,_,z⟩
 ·exact ⟨τ',h',a,b⟩
 ·exact z.elim
theorem ade {f:D→Hd→R D} {α:Type} (g:α→D) (I:List α→List D→Hd→Prop):∀ (xs pre:List α) (ys:List D) (h:Hd),
  (∀ pre' x post ys h,pre++xs=pre'++x::post→I pre' ys h→∃ y h',f (g x) h = .ok y h'∧I (pre'++[x]) (ys++[y]) h')→I pre ys h→∃ zs h',mapR (fun _=>True) f (xs.map g) h = .ok zs h'∧I (pre++xs) (ys++zs) h'
 | [],pre,ys,h,_,i0=>⟨[],h,by rw [List.map_nil,mapR,if_pos True.intro],by simpa using i0⟩
 | x::xs,pre,ys,h,st,i0=>by
  obtain ⟨y,h1,e1,i1⟩:=st pre x xs ys h rfl i0
  obtain ⟨zs,h',e2,i2⟩:=ade g I xs (pre++[x]) (ys++[y]) h1 (fun pre' z post ys h e=>st pre' z post ys h (by simpa using e)) i1
  refine ⟨y::zs,h',?_,by simpa using i2⟩
  rw [List.map_cons,mapR,if_pos True.intro,e1]
  show (mapR _ f (xs.map g) h1).bind _=_
  rw [e2];rfl
theorem aau {f:D→Hd→R D} {α:Type} (g F:α→D) {h:Hd}:∀ {xs:List α},(∀ x∈xs,f (g x) h = .ok (F x) h)→mapR (fun _=>True) f (xs.map g) h = .ok (xs.map F) h
 | [],_=>by rw [List.map_nil,mapR,if_pos True.intro];rfl
 | x::xs,st=>by
  rw [List.map_cons,mapR,if_pos True.intro,st x List.mem_cons_self]
  show (mapR _ f (xs.map g) h).bind _=_
  rw [aau g F fun y hy=>st y (List.mem_cons_of_mem _ hy)];rfl
theorem aav {f:D→Hd→R (Option D)} {α:Type} (g:α→D) (F:α→Option D) {h:Hd}:∀ {xs:List α},(∀ x∈xs,f (g x) h = .ok (F x) h)→ain (fun _=>True) f (xs.map g) h = .ok (xs.filterMap F) h
 | [],_=>by rw [List.map_nil,ain,if_pos True.intro];rfl
 | x::xs,st=>by
  rw [List.map_cons,ain,if_pos True.intro,st x List.mem_cons_self]
  show (ain _ f (xs.map g) h).bind _=_
  rw [aav g F fun y hy=>st y (List.mem_cons_of_mem _ hy)]
  show R.ok ((F x).toList++xs.filterMap F) h=_
  cases e:F x<;>simp [List.filterMap_cons,e]
theorem aox {c:ST} {f:SS} (I:Nat→Sd→Hd→Prop) (N:Sd→Hd→Prop) (Rt:D→Hd→Prop)
  (st:∀ m τ h,I m τ h→(∃ h1,c τ h = .ok false h1∧N τ h1)∨∃ h1,c τ h = .ok true h1∧((∃ τ2 h2 m',f τ h1 = .nx τ2 h2∧m'<m∧I m' τ2 h2)∨∃ d h2,f τ h1 = .rt d h2∧Rt d h2)) :
  ∀ (m n:Nat) (τ:Sd) (h:Hd),m<n→I m τ h→(∃ τ' h',sWh c f n τ h = .nx τ' h'∧N τ' h')∨∃ d h',sWh c f n τ h = .rt d h'∧Rt d h':=by
 intro m
 induction m using Nat.strongRecOn with
 | ind m ih =>
  intro n τ h hn i0
  cases n with
  | zero=>omega
  | succ n =>
   rcases st m τ h i0 with ⟨h1,e1,q⟩ | ⟨h1,e1,q⟩
   ·exact .inl ⟨τ,h1,by rw [sWh,e1];rfl,q⟩
   ·rcases q with ⟨τ2,h2,m',e2,lt,i2⟩ | ⟨d,h2,e2,r⟩
    ·have e3:sWh c f (n+1) τ h=sWh c f n τ2 h2:=by
      rw [sWh,e1,a2h,if_pos rfl,e2]
     rw [e3]
     exact ih m' lt n τ2 h2 (by omega) i2
    ·refine .inr ⟨d,h2,?_,r⟩
     rw [sWh,e1,a2h,if_pos rfl,e2]
end MI
namespace MI
open PySem PySem.Spec L2
end MI
namespace MI
open PySem PySem.Spec L2
mutual
def toPy:D→Option PyData
 | .non=>some .none
 | .bl b=>some (.bool b)
 | .int i=>some (.int i)
 | .str x=>some (.str x)
 | .tup xs=>(aoy xs).map .tuple
 | .rol xs=>(aoy xs).map .list
 | .rod [] []=>some (.dict [])
 | _=>none
def aoy:List D→Option (List PyData)
 | []=>some []
 | x::xs=>match toPy x,aoy xs with | some p,some ps=>some (p::ps) | _,_=>none
end
mutual
def noL:D→Bool
 | .rol _=>false
 | .tup xs=>ay2 xs
 | _=>true
def ay2:List D→Bool
 | []=>true
 | x::xs=>noL x && ay2 xs
end
open Classical in
theorem jz {X:Cx}:CallR X (.builtin "isinstance") (fun xs H Q=>∃ a o us T b,xs=[.ref a, .ty T]∧H a=some (.frz o (.dK us))∧PySem.W.kitOne X.K (.type "dict") (.type T)=some b∧Q (.bl b) H):=by
 intro pins s σ H xs us Q I r h
 obtain ⟨a,o,kv,T,b,rfl,ea,e,q⟩:=h
 obtain ⟨u,w',rfl,rx,rt⟩:=vals2 r
 cases rt
 obtain rfl:u=Value.ref a:=rx
 obtain ⟨_,_,_,vs,_,p⟩:=(show ObjOk X.prog X.w H s.heap a (.frz o (.dK kv)) from I.hok a _ ea)
 obtain ⟨o',es,ep,h1,h2,_⟩:=p
 exact PySem.W.kia_one PySem.W.kitx_dict I.kIn ⟨o',h1,h2.1⟩ e (fun z=>nomatch z) fun tk=>⟨.bl b,H,I.tok tk,rfl,q⟩
def p7:List D→Hd→R D
 | [.rod ks xs, .ty T],h=>(match a80 "dict" T with | some b=>.ok (.bl b) h | none=>.no)
 | ds,h=>aeh ds h
theorem uw {K:PySem.W.Frag}:acs K p7 (fun xs H Q=>(∃ x T t b,xs=[x, .ty T]∧TyOf K H x t∧PySem.W.kitOne K t (.type T)=some b∧Q (.bl b) H)∨∃ a o us T b,xs=[.ref a, .ty T]∧H a=some (.frz o (.dK us))∧PySem.W.kitOne K (.type "dict") (.type T)=some b∧Q (.bl b) H):=by
 intro E ι H h xs ds Q r hr o
 unfold p7 at o
 split at o
 ·split at o
  ·rename_i b hb
   cases r with
   | cons r1 rs =>
    cases rs with
    | cons r2 rs2 =>
     cases rs2
     cases r2
     cases r1 with
     | rod hp ek rr=>exact .inr ⟨_,_,_,_,b,rfl,hp,abu hb,ans o (.bl _) hr⟩
  ·exact o.elim
 ·exact .inl (ao8 E ι H h xs _ Q r hr o)
end MI
namespace TPM
open PySem PySem.Spec PySem.W L2 HT MI PyProof.Rows
end TPM
namespace MI
open PySem PySem.Spec L2 TPM
end MI
namespace L2
open PySem PySem.Spec PyProof.Rows
section
variable {X:Cx}
theorem a4z (hc:X.calm=true):CallR X (.builtin "max") (fun xs H Q=>∃ (p:Addr) (ns:List Int),xs=[.ref p]∧SqT X.K H p (ns.map V.int)∧ns≠[]∧Q (.int (mxI ns)) H):=by
 intro pins s σ H xs us Q I r h
 obtain ⟨p,ns,rfl,hq,hn,q⟩:=h
 obtain ⟨u,rfl,rx⟩:=vals1 r
 cases rx
 obtain ⟨its,r',ht,hz⟩:=I.tuple hq
 have hInts:IntsAre its ns:=intsAre_of r'
 obtain ⟨prs,ep⟩:=hInts.allInts.items
 have nums:prs.toList.map (·.1)=ns:=by
  rw [← nums_intItems,← ep]
  exact hInts.numsOf
 have sz:prs.size=ns.length:=by rw [← nums,List.length_map,Array.length_toList]
 have pos:0<ns.length:=List.length_pos_iff.mpr hn
 have at':∀ j,j<ns.length→ns[j]? = some (numAt prs j):=fun j hj=>by
  rw [← nums,List.getElem?_map,Array.getElem?_toList]
  unfold numAt
  rw [Array.getElem?_eq_getElem (by omega)]
  rfl
 have hT:s.heap.IsTuple p (intItems prs):=ep ▸ ht
 have hlt:p<s.heap.objs.size:=by obtain ⟨_,e,_⟩:=hT;exact Heap.lt_size e
 refine call_max_walk (wpAny_pyIter_tuple hT ⟨_,_,_,_,_,_,_,rfl,Walks.tuple (A:=X.A.in1) (I.ok.hd hc) s.heap.objs.size p (Nat.ne_of_lt hlt) (intItems prs),⟨⟨_,Heap.get?_push_size _ rfl,rfl,rfl⟩,hT.at fun o e=>Heap.get?_push_of_some _ e⟩,fun b hb=>?_,by simp [intItems];omega,CmpOf.ints_gt (numAt prs) (fun _ _=>intItems_at),fun v h' tk hv hk=>?_⟩)
 ·show b<(s.heap.push _).objs.size
  rw [Heap.size_push]
  simp only [List.mem_cons,List.not_mem_nil,or_false] at hb
  rcases hb with rfl | rfl
  ·exact Nat.lt_succ_self _
  ·exact Nat.lt_succ_of_lt hlt
 ·have hv':(intItems prs)[argBest (fun i j=>decide (numAt prs i > numAt prs j)) (prs.size - 1)]? = some v:=by simpa [intItems] using hv
  obtain ⟨t,rfl⟩:=intItems_at hv'
  obtain ⟨b1,b2⟩:=argBest_gt (numAt prs) (prs.size - 1)
  generalize argBest (fun i j=>decide (numAt prs i > numAt prs j)) (prs.size - 1)=b at b1 b2
  have e:numAt prs b=mxI ns:=asa (List.mem_of_getElem? (at' b (by omega))) fun x hx=>by
   obtain ⟨j,hj,rfl⟩:=List.getElem_of_mem hx
   have:=at' j hj
   rw [List.getElem?_eq_getElem hj] at this
   rw [Option.some.inj this]
   exact b2 j (by omega)
  refine ⟨.int (mxI ns),H,I.kept fun b o e=>hk b o (fun hm=>?_) (Heap.get?_push_of_some _ e),⟨t,by rw [e]⟩,q⟩
  rw [List.mem_singleton] at hm
  exact absurd (hm ▸ Heap.lt_size e) (Nat.lt_irrefl _)
end
end L2
namespace MI
open PySem PySem.Spec L2
def aaw:List D→Hd→R D
 | [.tup xs],h=>(match a7j xs with | some (n::ns)=>.ok (.int (mxI (n::ns))) h | _=>.no)
 | _,_=>.no
theorem a97 {K:PySem.W.Frag}:acs K aaw (fun xs H Q=>∃ (p:Addr) (ns:List Int),xs=[.ref p]∧SqT K H p (ns.map V.int)∧ns≠[]∧Q (.int (mxI ns)) H):=by
 intro E ι H h xs ds Q r hr o
 unfold aaw at o
 split at o
 ·cases r with
  | cons r rs =>
   cases rs
   split at o
   ·rename_i n ns e
    cases r with
    | @tup p vs xs hp r=>exact ⟨p,n::ns,rfl,by rw [← a67 r e];exact SqT.of hp,by simp,ans o (.int _) hr⟩
   ·exact o.elim
 ·exact o.elim
theorem ah6 {xs:List Int} {h:Hd} (ne:xs≠[]):aaw [.tup (xs.map D.int)] h = .ok (.int (mxI xs)) h:=by
 have e:∀ l:List Int,a7j (l.map D.int)=some l:=fun l=>by
  induction l with
  | nil=>rfl
  | cons a l ih=>rw [List.map_cons];simp only [a7j,ih,Option.map_some]
 unfold aaw
 simp only [e]
 cases xs with
 | nil=>exact absurd rfl ne
 | cons n ns=>rfl
end MI
namespace PN
open PySem PySem.Spec L2 MI
noncomputable def a4d:SS :=
 (ud (sA a0d (aj (sZ (a0h (sV 0) oN (oS (sC (.int 63))))) (aj (sC (.int 0)) (aj (sC (.int 0)) bj)))))
noncomputable def a5a:SS :=
 (jd (sIf (sT (s2 gGt (s2 gIx (sV 0) (sC (.int 2))) (sC (.int 0))))
 (jd (o7 2 (s2 a5q (s2 gIx (sV 0) (sC (.int 2))) (sV 1)))
 (jd (acu (s2 aef (s2 gIx (sV 0) (sC (.int 2))) (sV 1)) (sV 0) (sC (.int 2)))
 (ud (sV 2))))
 sNx)
 (jd (o7 3 (s2 gIx (sV 0) (sC (.int 1))))
 (jd (acu (s2 j8 (sV 3) (sC (.int 1))) (sV 0) (sC (.int 1)))
 (jd (o7 4 (sC (.int 5)))
 (jd (sIf (sT (s2 gGt (sA um (aj (s2 gIx (sV 0) (sC (.int 0))) bj)) (sC (.int 0))))
 (o7 4 (s2 gIx (s2 gIx (sV 0) (sC (.int 0))) (s2 a5q (sV 3) (sA um (aj (s2 gIx (sV 0) (sC (.int 0))) bj)))))
 sNx)
 (jd (sIf (af6 (sT (s2 gLt (sV 3) (sA um (aj (s2 gIx (sV 0) (sC (.int 0))) bj)))) (sT (s2 gGe (sA ass (aj (sV 4) bj)) (s2 agc (sC (.int 10)) (sC (.int 18))))))
 (jd (o7 5 (s2 j8 (s2 a2x (sC (.int 2)) (sA ass (aj (sV 4) bj))) (sA aio (aj (s2 gLt (sV 4) (sC (.int 0))) bj))))
 (jd (acu (s2 aef (sV 5) (sV 1)) (sV 0) (sC (.int 2)))
 (ud (s2 a5q (sV 5) (sV 1)))))
 sNx)
 (jd (o7 6 (s2 a5q (s2 agc (s2 j8 (s2 j8 (s2 a5q (sV 4) (sC (.int 2147483587))) (s2 a2x (sC (.int 40709)) (sV 3))) (sC (.int 31))) (sC (.int 3))) (sC (.int 2147483647))))
 (jd (o7 6 (s2 a5q (s2 j8 (s2 j8 (s2 a2x (sV 6) (sV 6)) (s2 a2x (sC (.int 48271)) (sV 6))) (sV 3)) (sC (.int 2147483629))))
 (ud (s2 a5q (s2 aef (sV 6) (sC (.int 64))) (sV 1)))))))))))
noncomputable def a0j:SS :=
 (jd (o7 0 (sC (.str " !\"#$&'()*+,-./0123456789:;<=>?@ABCDEFGHIJKLMNOPQRSTUVWXYZ[\\]^_`")))
 (ud (s2 j8 (sV 0) (sC (.str "abcdefghijklmnopqrstuvwxyz{|}~\n")))))
noncomputable def a00 (az:SF):SS :=
 (jd (o7 5 (sA (jo false 2 az) (aj (sV 0) (aj (sA um (aj (sV 1) bj)) bj))))
 (jd (o7 3 (s2 j8 (sV 3) (s2 gIx (sV 1) (sV 5))))
 (o7 1 (s2 j8 (a0h (sV 1) oN (oS (sV 5))) (a0h (sV 1) (oS (s2 j8 (sV 5) (sC (.int 1)))) oN)))))
noncomputable def a5b (az:SF):SS :=
 (jd (o7 3 (sC (.str "")))
 (jd (abr (sRg a2a (aj (s2 j8 (sC (.int 1)) (sA (jo false 2 az) (aj (sV 0) (aj (sV 2) bj)))) bj)) (kN 4) (a00 az))
 (ud (sV 3))))
noncomputable def vf:SS :=
 (sIf (sT (s2 (gIn true) (sV 6) (sV 4)))
 (a0o (sML a8r (sV 4) (aj (sV 6) bj)))
 sNx)
noncomputable def yt:ST :=
 (sT (s2 gLt (sV 5) (sA um (aj (sV 4) bj))))
noncomputable def vg:SS :=
 (jd (abr (sIt (s2 gIx (sV 1) (s2 gIx (sV 4) (sV 5)))) (kN 6) vf)
 (o7 5 (s2 j8 (sV 5) (sC (.int 1)))))
noncomputable def yu:SE :=
 (sML a6s (sV 1) (aj (sV 0) bj))
noncomputable def vh:SE :=
 (sA xn (aj (sZ (uy (sIt (s2 gIx (sV 1) (sV 0))) t1 yu [2])) bj))
noncomputable def vm:SE :=
 (s2 gIx (sV 1) (sV 0))
noncomputable def zc:SS :=
 (jd (o7 4 (sA a0d (aj (sC (.int 0)) bj)))
 (jd (o7 5 (sC (.int 0)))
 (jd (sWh yt vg 100000)
 (jd (o7 3 (s2 j8 (sC (.int 1)) (s2 a5q (sV 3) (sA um (aj (sV 4) bj)))))
 (jd (o7 4 (s2 j8 (sZ (s2 j8 (sZ (sA a0d (aj (sC (.int 0)) bj))) (sZ (a0h (sV 4) (oS (sV 3)) oN)))) (sZ (a0h (sV 4) (oS (sC (.int 1))) (oS (sV 3))))))
 (jd (o7 7 (sA xn (aj (sZ (uy (sIt (sV 4)) t1 vh [1,4])) bj)))
 (ud (sA kh (aj (sV 0) (aj (sV 7) (aj (sA xn (aj (sZ (uy (sIt (sV 4)) t1 vm [2])) bj)) bj)))))))))))
noncomputable def zf (j4:SF) (az:SF):SE :=
 (sA (jo false 2 az) (aj (sV 1) (aj (sV 2) bj)))
noncomputable def vz (j4:SF) (az:SF):SS :=
 (jd (o7 9 (uy (sIt (sV 1)) t1 (zf j4 az) [0,3]))
 (jd (sIf (sT (s2 hEq (sV 4) (sC (.int 0))))
 (acu (sA a4s (aj (s2 j8 (sV 8) (sC (.int 1))) (aj (s2 a7f (sV 3) (sC (.int 1))) bj))) (sV 9) (sA (jo false 2 az) (aj (sV 0) (aj (sA um (aj (sV 9) bj)) bj))))
 sNx)
 (jd (o7 10 (sA (jo false 2 az) (aj (sV 0) (aj (sC (.int 6)) bj))))
 (jd (sIf (sOr (sT (s2 hEq (sV 8) (sC (.int 0)))) (sT (s2 gGt (sA (jo false 2 az) (aj (sV 0) (aj (sV 5) bj))) (sC (.int 0)))))
 (o7 10 (s1 a4r (sC (.int 1))))
 sNx)
 (jd (a0o (sML a8r (sV 6) (aj (sV 9) bj)))
 (a0o (sML a8r (sV 7) (aj (sV 10) bj))))))))
noncomputable def a1m (j4:SF) (az:SF):SS :=
 (jd (o7 3 (s2 j8 (sC (.int 1)) (sA (jo false 2 az) (aj (sV 0) (aj (sV 2) bj)))))
 (jd (o7 4 (sA (jo false 2 az) (aj (sV 0) (aj (sC (.int 3)) bj))))
 (jd (o7 5 (s2 j8 (sC (.int 2)) (sA (jo false 2 az) (aj (sV 0) (aj (sC (.int 2)) bj)))))
 (jd (o7 6 (sA a0d bj))
 (jd (o7 7 (sA a0d bj))
 (jd (abr (sRg a2a (aj (sV 3) bj)) (kN 8) (vz j4 az))
 (ud (sA (sN 4 j4) (aj (sV 1) (aj (sV 6) (aj (sV 7) (aj (sA (jo false 2 az) (aj (sV 0) (aj (sC (.int 32)) bj))) bj))))))))))))
noncomputable def a0u (az:SF):SS :=
 (jd (o7 5 (sA (jo false 2 az) (aj (sV 0) (aj (sV 2) bj))))
 (jd (o7 6 (sZ (sA a0d (aj (sA kh (aj (sC (.str "stay")) bj)) (aj (sA kh (aj (sC (.str "shut")) bj)) (aj (sA kh (aj (sC (.str "open")) (aj (sV 5) bj))) (aj (sA kh (aj (sC (.str "turn")) (aj (sV 5) bj))) (aj (sA kh (aj (sC (.str "shut")) bj)) (aj (sA kh (aj (sC (.str "open")) (aj (sV 5) bj))) bj)))))))))
 (a0o (sML a8r (sV 3) (aj (s2 gIx (sV 6) (sA (jo false 2 az) (aj (sV 0) (aj (sC (.int 6)) bj)))) bj)))))
noncomputable def a1n (az:SF):SS :=
 (jd (o7 3 (sA a0d bj))
 (jd (abr (sRg a2a (aj (sV 1) bj)) (kN 4) (a0u az))
 (ud (sA xn (aj (sV 3) bj)))))
noncomputable def zq (jh:SF) (qd:SF) (az:SF):SS :=
 (jd (o7 6 (sA (jo false 3 qd) (aj (sV 0) (aj (sV 1) (aj (sV 2) bj)))))
 (jd (o7 7 (s2 j8 (sA aaw (aj (s2 gIx (sV 6) (sC (.int 2))) bj)) (sC (.int 1))))
 (a0o (sML a8r (sV 4) (aj (sA kh (aj (s2 gIx (sV 6) (sC (.int 1))) (aj (s2 gIx (sV 6) (sC (.int 2))) (aj (sA (jo false 3 jh) (aj (sV 0) (aj (s2 j8 (sV 7) (sA (jo false 2 az) (aj (sV 0) (aj (s2 a7f (sC (.int 7)) (sV 7)) bj)))) (aj (sV 3) bj)))) bj)))) bj)))))
noncomputable def a01 (jh:SF) (qd:SF) (az:SF):SS :=
 (jd (o7 3 (s2 j8 (sC (.int 1)) (sA (jo false 2 az) (aj (sV 0) (aj (sC (.int 4)) bj)))))
 (jd (o7 4 (sA a0d bj))
 (jd (abr (sRg a2a (aj (sV 3) bj)) (kN 5) (zq jh qd az))
 (ud (sA kh (aj (sV 1) (aj (sA xn (aj (sV 4) bj)) bj)))))))
end PN
namespace L2
open PySem PySem.Spec PySem.W PyProof.Rows
structure Air (stack:List Env) (H:Hp) (h0 B:Heap) (a C:Addr) (t:Value) (h:Heap):Prop where
 fly:Heap.FlyingW B stack a (.ref C) t h
 bk:∀ b o,h.get? b=some o→b ∉ frs stack→(H b≠none∨∃ o0,h0.get? b=some o0)→B.get? b=some o
def CXE (P:Program) (w:World):CXT:=fun outer H s E e s' =>
 ∃ a C t B H',e = .ref a∧s'.os=s.os∧AllBare s'.gens∧Un (frs outer) [] H H' s.heap s'.heap∧HOk P w H' s'.heap∧Air outer H' s.heap B a C t s'.heap∧E (.ref C) none H'
section
variable {P:Program} {w:World} {H H':Hp} {h h':Heap}
theorem HOk.is (x:HOk P w H h) {a:Addr} {o:HO} (e:H a=some o):∃ ob,h.get? a=some ob:=by
 have:=x a o e
 cases o with
 | lst xs=>obtain ⟨_,_,_,_,e⟩:=this;exact ⟨_,e⟩
 | tup xs=>obtain ⟨_,_,_,ob,e,_⟩:=this;exact ⟨_,e⟩
 | dK kvs=>obtain ⟨_,_,_,_,o,_,_,e,_⟩:=this;exact ⟨_,e⟩
 | dT kvs=>obtain ⟨_,_,_,_,o,_,_,e,_⟩:=this;exact ⟨_,e⟩
 | set S n=>obtain ⟨o,_,_,_,e,_⟩:=this;exact ⟨_,e⟩
 | ins C dx fs=>obtain ⟨_,_,_,e,_⟩:=this;exact ⟨_,e⟩
 | own y=>exact this
 | xd fs=>obtain ⟨_,⟨_,_,_,e,_⟩,_⟩:=this;exact ⟨_,e⟩
 | rng lo hi=>obtain ⟨_,_,_,e⟩:=this;exact ⟨_,e⟩
 | frz ob u=>exact ⟨_,this.1⟩
 | tbl ps=>exact ⟨_,this⟩
 | met f y=>exact ⟨_,this⟩
 | ext φ=>exact this.2.1
theorem HOk.track (x:HOk P w H h) (k:∀ b u,H b≠none→h.get? b=some u→h'.get? b=some u):HOk P w H h':=fun a o e =>
 (x a o e).stay (fun b u hb q=>k b u (by
  rcases hb with rfl | hb
  ·rw [e];simp
  ·rw [hb];simp) q) (fun _ q=>q) fun _ _ q=>q
end
section
variable {P:Program} {w:World} {K:PySem.W.Frag} {mg:Str→Option Value} {base:Heap} {N:List Str} {qual:Str} {scope:Scope} {f:Addr} {cd:Value} {A:Around} {outer:List Env} {s0:Shared} {H0:Hp} {E:XK} {pins:List (Addr × Obj)} {σ:St} {H:Hp} {s:Shared}
abbrev cxE (P:Program) (w:World) (K:PySem.W.Frag) (mg:Str→Option Value) (base:Heap) (N:List Str) (qual:Str) (scope:Scope) (f:Addr) (cd:Value) (A:Around) (outer:List Env) (s:Shared) (H:Hp) (E:XK):Cx:=a1k (CXE P w) P w K mg base N qual scope f cd A outer s H E
theorem ak8 {B:Heap} {a C:Addr} {t:Value} {h1 h2:Heap} (I:Inv (cxE P w K mg base N qual scope f cd A outer s0 H0 E) pins σ H { s with heap:=h1 }) (hB:∀ b o,h1.get? b=some o→b ∉ frs (envOfC qual scope s0.heap.objs.size f cd::outer)→(H b≠none∨∃ o0,s0.heap.get? b=some o0)→B.get? b=some o)
  (sl:∀ b o,h1.get? b=some o→b∈frs outer→∃ sl,h2.get? b=some { o with slots:=sl }) (fly:Heap.FlyingW B outer a (.ref C) t h2) (e:E (.ref C) none H):CXE P w outer H0 s0 E (.ref a) { s with heap:=h2 }:=by
 have lo:∀ b,b∈frs (envOfC qual scope s0.heap.objs.size f cd::outer)→b=s0.heap.objs.size∨b∈frs outer:=fun b hb=>by
  unfold frs at hb ⊢
  rw [List.filterMap_cons] at hb
  rcases List.mem_cons.mp hb with rfl | hb
  ·exact .inl rfl
  ·exact .inr hb
 have stk:∀ b,b∈frs (envOfC qual scope s0.heap.objs.size f cd::outer)→H b=none:=fun b hb=>I.stkFree b hb
 have old:∀ b o,s0.heap.get? b=some o→b ∉ frs outer→b ∉ frs (envOfC qual scope s0.heap.objs.size f cd::outer):=fun b o q n z=>by
  rcases lo b z with rfl | z
  ·exact absurd (Heap.lt_size q) (Nat.lt_irrefl _)
  ·exact n z
 have tr:∀ b u,H b≠none→h1.get? b=some u→h2.get? b=some u:=fun b u hn q=>fly.1 _ _ (hB b u q (fun z=>hn (stk b z)) (.inl hn))
 have ba:=I.base
 refine ⟨a,C,t,B,H,rfl,I.os,I.bare,⟨?_,?_,ba.free,?_,ba.tups,ba.frzs,ba.tbls⟩,I.hok.track tr,⟨fly,?_⟩,e⟩
 ·intro b o q n hf hx
  exact fly.1 _ _ (hB b o (ba.keep b o q n hf hx) (old b o q hf) (.inr ⟨o,q⟩))
 ·intro b o q n hf hx
  obtain ⟨s1,q1⟩:=ba.slot b o q n hf hx
  obtain ⟨s2,q2⟩:=sl b _ q1 hf
  exact ⟨s2,q2⟩
 ·intro b o q hx
  obtain ⟨o1,q1⟩:=ba.there b o q hx
  by_cases hf:b∈frs outer
  ·obtain ⟨s2,q2⟩:=sl b _ q1 hf
   exact ⟨_,q2⟩
  ·exact ⟨_,fly.1 _ _ (hB b o1 q1 (old b o q hf) (.inr ⟨o,q⟩))⟩
 ·intro b o q nf c
  have hh:b ∉ frs (envOfC qual scope s0.heap.objs.size f cd::outer):=fun z=>by
   rcases c with c | ⟨o0,c⟩
   ·exact c (stk b z)
   ·exact old b o0 c nf z
  obtain ⟨o1,q1⟩:∃ o1,h1.get? b=some o1:=by
   rcases c with c | ⟨o0,c⟩
   ·cases e1:H b with
    | none=>exact absurd e1 c
    | some u=>exact I.hok.is e1
   ·exact ba.there b o0 c (by intro z;cases z)
  have q2:=hB b o1 q1 hh c
  have q3:=fly.1 _ _ q2
  rw [q3] at q
  cases q
  exact q2
theorem a6u {X:Cx} {pins:List (Addr × Obj)} {σ:St} {H:Hp} {s:Shared} (I:Inv X pins σ H s) {b:Addr} {o:Obj} (hb:b∈frs X.stack) (q:s.heap.get? b=some o):∀ vs,o.data≠.fields vs:=by
 obtain ⟨_,o1,q1,d⟩:=I.stack.mem hb
 rw [q] at q1
 cases q1
 exact d
theorem awz {h':Heap} {a C:Addr} {args:List Value} (I:Inv (cxE P w K mg base N qual scope f cd A outer s0 H0 E) pins σ H s) (mk:Heap.MadeExcOf s.heap h' a (.ref C) args) (e:E (.ref C) none H):(cxE P w K mg base N qual scope f cd A outer s0 H0 E).xe (.ref a) { s with heap:=h' }:=by
 have hin:∀ b,b∈frs outer→b∈frs (envOfC qual scope s0.heap.objs.size f cd::outer):=fun b hb=>by
  unfold frs at hb ⊢
  rw [List.filterMap_cons]
  exact List.mem_cons_of_mem _ hb
 have st:=I.stack
 refine wpAny_leaves_madeW (base:=hideAll s.heap (frs (envOfC qual scope s0.heap.objs.size f cd::outer))) (h:=s.heap) I.ok.frames (L:=s0.heap.objs.size) rfl (fun b o q=>of_hideAll _ q) (funFrames_hide st fun env he b hb=>List.mem_filterMap.mpr ⟨env,he,hb⟩) mk fun h2 t fl tu bt up=>?_
 exact ak8 (h1:=s.heap) I (fun b o q nf _=>hideAll_get _ q nf) (fun b o q hb=>up b o (mk.keeps b o q) (a6u I (hin b hb) q)) fl e
end
structure XCls (K:PySem.W.Frag) (C:Addr):Prop where
 obj:∃ (nm q:Str) (N:Addr) (bs bm:List Value) (hdct:Bool) (sn:List Str) (sub:List Value) (ab:Bool) (col:Option Bool) (dd:Option Addr) (k0 k1 k2 k3 k5:Option Value),
  K.lookup C=some (excClassObj nm q C N bs bm hdct sn sub ab col dd k0 k1 k2 k3 k5 "ValueError.__new__")∧nsOkIn K N=true∧nsIn K N "__init__" = some none∧tailIn K [.type "ValueError", .type "Exception", .type "BaseException", .type "object"] bm=true
def atf (t:TA) (Ex:Hp→Prop):TS:=fun _ σ H=>t σ H fun vs H1=>vs.length≤sizeLine∧Ex H1
section
variable {X:Cx} {C:Addr} {x:Str} {np cpos pos:Pos} {e:Expr} {es:List Expr} {t:TA} {Ex:Hp→Prop}
theorem ak9 (hC:XCls X.K C) (hg:Gl X x) (hm:X.mg x=some (.ref C)) (hc:X.calm=true) (ha:PA X (e::es) t)
  (lk:∀ (pins:List (Addr × Obj)) (σ:St) (H:Hp) (s:Shared) (h':Heap) (a:Addr) (args:List Value),Inv X pins σ H s→Heap.MadeExcOf s.heap h' a (.ref C) args→Ex H→X.xe (.ref a) { s with heap:=h' })
  (hdb:(x == ("__debug__" : Str))=false:=by decide) (he:starEach (e::es) X.env=(false,eval e X.env)::starEach es X.env:=by rfl) (hpl:(backTo cpos (starEach es X.env)).any (·.1)=false:=by rfl) :
  PS X (.Raise (some (.Call (.Name x np) (e::es) [] cpos)) none pos) (atf t Ex):=by
 intro pins s σ H D I h
 obtain ⟨nm,q,N,bs,bm,hdct,sn,sub,ab,col,dd,k0,k1,k2,k3,k5,lo,ok,ni,ti⟩:=hC.obj
 refine wpAny_Raise_call_subT (C:=C) (nm:=nm) (q:=q) (N:=N) (bs:=bs) (bm:=bm) (hdct:=hdct) (sn:=sn) (sub:=sub) (ab:=ab) (col:=col) (dd:=dd) (k0:=k0) (k1:=k1) (k2:=k2) (k3:=k3) (k5:=k5)
  PySem.F.excBase_ValueError (mN:=X.base.nsMap N) ((tail_of_in I.kIn ti).hasType PySem.F.excBase_ValueError.hasBase) (I.ok.hd hc) (by rw [he];show (false || (backTo cpos (starEach es X.env)).any (·.1))=false;rw [hpl];rfl) (nsMap_none_of_in I.ok.mod.kin ok ni) (a4l I hg hm ⟨rfl,?_⟩ hdb)
 have h2:=ha cpos pins s σ H _ I h
 rw [he] at h2 ⊢
 refine Calls.evalArgs_plain (thn h2 fun us s1 ⟨vs,H1,I1,r,z,ex⟩=>?_)
 exact ⟨rfl,by rw [← r.length];exact z,I1.kIn _ _ lo, .keeps (.of_isNs (isNs_of_in I1.ok.mod.kin ok)) I1.bk,tail_of_in I1.kIn ti,fun h' a mk=>lk pins σ H1 s1 h' a us I1 mk ex⟩
end
end L2
namespace L2
open PySem PySem.Spec PySem.W PyProof.Rows Builtin Builtin.ObjectAttr Builtin.Getset_descriptor
section
variable {prog:Program} {w:World} {A:Around} {E:Value→Shared→Prop} {s:Shared} {K:Frag} {x D:Addr} {ox:Obj} {odo:Option Obj}
structure XKit (K:Frag) (D:Addr):Prop where
 ga:findIn K (.ref D) "__getattribute__" = some (some (.builtin "BaseException.__getattribute__"))
 gn:findIn K (.ref D) "__getattr__" = some none
 cl:(clsIn K D).isSome=true
 ca:findIn K (.ref D) "__class__" = some (some (.builtin "object.__class__"))
 sp:specialIn K (.builtin "object.__class__") "__get__" = some (some (.builtin "getset_descriptor.__get__"))
 tk:takesIn K (.builtin "object.__class__")=some true
 ob:mroIn K D (.type "object")=some true
 be:subIn K (.ref D) (.type "BaseException")=some true
 kc:kitCls K (.ref D) (.ref D)=some true
abbrev ExAt (x D:Addr) (h:Heap):Prop:=∃ o,h.get? x=some o∧o.cls = .ref D
theorem ExAt.ty {M:Model} {h:Heap} (I:ExAt x D h):Looks M h (typeOf (.ref x)) (.ref D):=by
 obtain ⟨o,q,c⟩:=I
 exact c ▸ (Looks.ld q).andThen .now
theorem aoz {R:Result→Shared→Prop} {tp:Value} (Z:XKit K D) (X:K.In s.heap) (I:ExAt x D s.heap) (h:R (.ok (.ret (.ref D))) s):codeAny (model prog w) A (.call (.builtin "getset_descriptor.__get__") ⟨[.builtin "object.__class__", .ref x,tp],[]⟩) R s:=by
 obtain ⟨hh,g,d,t,os⟩:=s
 have T0:=ExAt.ty (M:=model prog w) I
 have T1:=looks_mroIn (M:=model prog w) X Z.ob
 refine codeAny_call_builtin KF.slot_gs.plain KF.entry_gs (KF.slot_gs.check _ _ _ _ _ _ _ _ KF.type_class (KF.args_gs _ _ _) ?_);unfold Builtin.«getset_descriptor.__get__» descrGet;rw [dga_obj]
 refine wpAny_bind (wpAny_pure ?_);unfold descrGetter descrCheckInstance descrNameAndClass isInstance;simp only [KF.owner_class]
 repeat lk
 refine ⟨Code.quiet_builtin _ (by decide +kernel),codeAny_builtin KF.entry_class ?_⟩;unfold Builtin.«object.__class__» shownTypeOf
 repeat lk
 exact h
theorem aka {M:Model} {h:Heap} (Z:XKit K D) (X:K.In h):Looks M h (Builtin.ObjectAttr.find (.ref x) (.ref D) "__class__") (.bind (.builtin "getset_descriptor.__get__") (.builtin "object.__class__")):=by
 refine (looks_findIn X Z.ca).andThen (Looks.andThen (a:=some (.builtin "getset_descriptor.__get__")) (looks_specialIn X Z.sp) (Looks.andThen (a:=some (.builtin "getset_descriptor.__get__", .builtin "object.__class__")) ?_ (Looks.tag .now)))
 exact (looks_takesIn X Z.tk).andThen .now
theorem ah7 {Q:Option Value→Shared→Prop} (Z:XKit K D) (X:K.In s.heap) (I:ExAt x D s.heap) (h:Q (some (.ref D)) { s with toks:=s.toks+1 }):wpAny (model prog w) A (getAttr? (.ref x) "__class__") Q E s:=by
 obtain ⟨hh,g,d,t,os⟩:=s
 have T0:=ExAt.ty (M:=model prog w) I
 have T1:=looks_findIn (M:=model prog w) X Z.ga
 have T2:=looks_findIn (M:=model prog w) X Z.gn
 have T3:=aka (M:=model prog w) (x:=x) Z X
 have T4:Looks (model prog w) hh (isInstance (.ref x) (.type "BaseException")) true:=T0.andThen (looks_subIn X Z.be)
 have f3:=PySem.F.attrBase_ValueError.ga.bind (.ref x)
 have nb:(Value.builtin "BaseException.__getattribute__" == Value.builtin "object.__getattribute__")=false:=by decide +kernel
 have nh:(onTheHeap (Value.ref D) && Value.builtin "BaseException.__getattribute__" == Value.builtin "object.__getattribute__")=false:=by rw [nb];rfl
 unfold getAttr? getAttrBy? getAttrBy;refine wpAny_bind (wpAny_mkText (wpAny_bind (wpAny_attempt (wpAny_holding (wpAny_bind (T0.at (wpAny_bind (T1.at ?_))))))));dsimp only
 rw [nh,if_neg Bool.false_ne_true]
 unfold getAttrByItsOwn
 show wpAny _ _ (typeLookup (.ref D) "__getattr__">>=fun before=>_) _ _ _
 refine wpAny_bind (T2.at (wpAny_bind (wpAny_attempt (wpAny_holding ?_))))
 show wpAny _ _ (boundAndCalled _ _ _) _ _ _
 unfold boundAndCalled
 rw [f3]
 refine wpAny_bind (wpAny_pure (wpAny_call (codeAny_call_builtin PySem.F.attrBase_ValueError.ga.plain PySem.F.entry_bexc_ga ?_)))
 have k1:builtinKind "BaseException.__getattribute__" = some .slot:=by decide +kernel
 have k2:splitId "BaseException.__getattribute__" = some ("BaseException", "__getattribute__"):=by decide +kernel
 have k3:=PySem.F.args_bexc_ga (.ref x) (.str "__class__" t)
 simp only [checkBuiltinCall,k1,k2]
 show wpAny _ _ (isInstance (.ref x) (.type "BaseException")>>=fun b=>_) _ _ _
 refine wpAny_bind (T4.at ?_)
 rw [if_neg (by decide)]
 refine wpAny_mono (Q:=fun _ s'=>s'=⟨hh,g,d,t+1,os⟩) (E:=fun _ _=>False) ?_ (fun u s' e=>?_) (fun _ _ z=>z.elim)
 ·repeat (any_goals (first | assumption | rfl | wp_step))
 ·subst e
  unfold Builtin.«object.__getattribute__»
  repeat (first | with_reducible refine T0.at ?_ | with_reducible refine T3.at ?_ | wp_step)
  exact aoz (s:=⟨hh,g,d,t+1,os⟩) Z X I (wpAny_pure (handed_on rfl (wpAny_pure h)))
theorem XKit.at (Z:XKit K D):∃ c o cd sl,K.lookup D=some ⟨c,o, .cls cd,sl⟩:=by
 have:=Z.cl
 unfold clsIn at this
 split at this
 ·exact ⟨_,_,_,_, ‹_›⟩
 ·cases this
theorem XKit.no (Z:XKit K D) {h:Heap} {tp:Addr} {dd:Option Addr} {its:List Value} {n:Nat} {sl:Array (Option Value)} (X:K.In h) (q:h.get? tp=some ⟨.type "tuple",dd, .seq its.toArray n,sl⟩):(Value.ref D == .ref tp)=false :=
 beq_eq_false_iff_ne.mpr fun e=>by
  obtain ⟨_,_,_,_,lo⟩:=Z.at
  rw [Value.ref.inj e] at lo
  have:=X _ _ lo
  rw [q] at this
  cases this
theorem adf (Z:XKit K D):KitX K (.ref x) (.ref D) (ExAt x D) :=
 ⟨fun _ _ _ I=>ExAt.ty I,fun _ _ X _=>(kit_cls X Z.kc).2.1,fun _ _ _ _ _ _ X q=>Z.no X q,fun X I q=>ah7 Z X I q⟩
end
end L2
namespace L2
open PySem PySem.Spec PySem.W PyProof.Rows
section
variable {X:Cx} {pins:List (Addr × Obj)} {σ:St} {H H1 H':Hp} {s s1 s':Shared}
theorem a98 {M:Model} {A:Around} {E:Value→Shared→Prop} {i:Nat} {n:Str} {pos:Pos} {Q:Unit→Shared→Prop} (I:Inv X pins σ H s) (hN:X.N.Nodup) (hi:X.N[i]? = some n) (hk:X.env.scope.names.lookup n=some .local)
  (h:∀ s',Inv X pins (σ.set i none) H s'→Q () s'):wpAny M A (do bindName X.env n .none;unbindBehindTheSuite X.env n pos) Q E s:=by
 obtain ⟨m,hn,hl⟩:=id I.loc
 have hcls:(X.env.scope.kind == .class || (X.env.scope.kind == .module && X.env.locals != X.env.globals))=false:=by rw [I.ok.kind];rfl
 have cne:=I.cne
 obtain ⟨oL,_,_,hoL,_⟩:=id hn
 refine wpAny_nameGoes_keeps hk hn hcls fun h' v hn' hs=>h _ ?_
 have far:∀ b o,X.s₀.heap.get? b=some o→b≠X.env.locals:=fun b o e=>Nat.ne_of_lt (Nat.lt_of_lt_of_le (Heap.lt_size e) I.ok.above)
 refine ⟨I.ok,I.os,I.bare,⟨fun b o e n hb hx=>(hs.2 b (far b o e)).trans (I.base.keep b o e n hb hx),fun b o e n hb hx=>?_,I.base.free,fun b o e hx=>?_,I.base.tups,I.base.frzs,I.base.tbls⟩,⟨_,hn',fun j y v' e1 e2 e3=>?_⟩,fun y c e=>?_,I.free,I.freeC,fun p hp=>?_,I.hok.track fun b u hb q=>?_,by simpa using I.len⟩
 ·obtain ⟨sl,q⟩:=I.base.slot b o e n hb hx
  exact ⟨sl,(hs.2 b (far b o e)).trans q⟩
 ·obtain ⟨o1,q⟩:=I.base.there b o e hx
  exact ⟨o1,(hs.2 b (far b o e)).trans q⟩
 ·have ji:j≠i:=fun z=>by
   subst z
   rw [List.getElem?_set] at e2
   simp at e2
  rw [List.getElem?_set_ne (Ne.symm ji)] at e2
  obtain ⟨u',r',q⟩:=hl j y v' e1 e2 e3
  refine ⟨u',r',?_⟩
  rcases q with ⟨k,e⟩ | ⟨k,c,e,z⟩
  ·refine .inl ⟨k,?_⟩
   have:y≠n:=fun e=>ji (a8d hN e1 (e ▸ hi))
   simp [this,e]
  ·exact .inr ⟨k,c,e,z.sameBut hs (cne y c e)⟩
 ·obtain ⟨w',z⟩:=I.cell y c e
  exact ⟨w',z.sameBut hs (cne y c e)⟩
 ·obtain ⟨e,n,ne,nf,d⟩:=I.pin p hp
  exact ⟨(hs.2 p.1 ne).trans e,n,ne,nf,d⟩
 ·refine (hs.2 b fun z=>?_).trans q
  subst z
  exact hb I.free
theorem am1 {B h5:Heap} {a C:Addr} {t:Value} (I1:Inv X pins σ H1 s1) (os:s'.os=s1.os) (bare:AllBare s'.gens) (un:Un (frs X.stack) [] H1 H' s1.heap s'.heap) (hok:HOk X.prog X.w H' s'.heap) (air:Air X.stack H' s1.heap B a C t s'.heap)
  (st:B.StaysIn h5) (up:s'.heap.UpToSlots h5) (tk:Nat):Inv X pins σ H' { s' with heap:=h5,toks:=tk }:=by
 have I2:Inv X pins σ H' s':=I1.call' os un hok bare (by intro b z;cases z)
 refine I1.call' (s':={ s' with heap:=h5,toks:=tk }) os ⟨fun b o q n hf hx=>?_,fun b o q n hf hx=>?_,un.free,fun b o q hx=>?_,un.tups,un.frzs,un.tbls⟩ (hok.track fun b u hn q=>?_) bare (by intro b z;cases z)
 ·exact st _ _ (air.bk b o (un.keep b o q n hf hx) hf (.inr ⟨o,q⟩))
 ·obtain ⟨s2,q2⟩:=un.slot b o q n hf hx
  obtain ⟨s3,q3⟩:=up b _ q2 (a6u I2 hf q2)
  exact ⟨s3,q3⟩
 ·obtain ⟨o1,q1⟩:=un.there b o q hx
  by_cases hf:b∈frs X.stack
  ·obtain ⟨s3,q3⟩:=up b _ q1 (a6u I2 hf q1)
   exact ⟨_,q3⟩
  ·exact ⟨_,st _ _ (air.bk b o1 q1 hf (.inr ⟨o,q⟩))⟩
 ·exact st _ _ (air.bk b u q (fun z=>hn (I2.stkFree b z)) (.inl hn))
abbrev Cx.inEx (X:Cx) (a:Addr):Cx:={ X with A:=X.A.mark (some (.ref a)),calm:=false,xe:=fun _ _=>False }
theorem Cx.Ok.inEx (ok:X.Ok) (a:Addr):(X.inEx a).Ok:=⟨ok.mod,ok.kind,ok.glob,ok.blt,ok.above,ok.inj,ok.has,ok.cab,fun z=>(Bool.noConfusion (show false=true from z)),ok.frames,ok.stk,ok.exf,ok.bs,ok.bsz,ok.noex,ok.exfs,ok.funs,ok.frf⟩
theorem Inv.inEx (I:Inv X pins σ H s) (a:Addr):Inv (X.inEx a) pins σ H s:=⟨I.ok.inEx a,I.os,I.bare,I.base,I.loc,I.cell,I.free,I.freeC,I.pin,I.hok,I.len⟩
theorem Inv.outEx {a:Addr} (ok:X.Ok) (I:Inv (X.inEx a) pins σ H s):Inv X pins σ H s:=⟨ok,I.os,I.bare,I.base,I.loc,I.cell,I.free,I.freeC,I.pin,I.hok,I.len⟩
def exO (a:Addr):HO:=.ext fun h=>∃ o,h.get? a=some o
theorem Inv.exc {a:Addr} {oe:Obj} (I:Inv X pins σ H s) (I1:Inv X pins σ H1 s1) (he:s.heap.get? a=some oe) (ha:H a=none) (na:s1.heap.get? a=none):Inv X pins σ (upd H a (.frz oe (exO a))) s:=by
 have old:∀ b o,s1.heap.get? b=some o→b≠a:=fun b o q z=>by subst z;rw [na] at q;cases q
 have sm:∀ b o,s1.heap.get? b=some o→upd H a (.frz oe (exO a)) b=H b:=fun b o q=>jn (old b o q)
 have kp:∀ b u,H b=some u→upd H a (.frz oe (exO a)) b=some u:=fun b u q=>by
  rw [jn]
  ·exact q
  ·intro z;subst z;rw [ha] at q;cases q
 have ba:=I.base
 refine ⟨I.ok,I.os,I.bare,⟨ba.keep,ba.slot,fun b o q n hx=>?_,ba.there,fun b xs q=>kp _ _ (ba.tups b xs q),fun b o u q=>kp _ _ (ba.frzs b o u q),fun b ps q=>?_⟩,I.loc,I.cell,?_,fun y c e=>?_,fun p hp=>?_,fun b u q=>?_,I.len⟩
 ·obtain ⟨o1,q1⟩:=I1.base.there b o q hx
  rw [sm b o1 q1]
  exact ba.free b o q n hx
 ·obtain ⟨more,q1⟩:=ba.tbls b ps q
  exact ⟨more,kp _ _ q1⟩
 ·obtain ⟨_,⟨o,_,_,q,_⟩,_⟩:=I1.loc
  rw [sm _ _ q]
  exact I.free
 ·obtain ⟨v,o,q,_⟩:=I1.cell y c e
  rw [sm _ _ q]
  exact I.freeC y c e
 ·obtain ⟨e,n,ne,nf,d⟩:=I.pin p hp
  exact ⟨e,by rw [sm _ _ (I1.pin p hp).1];exact n,ne,nf,d⟩
 ·by_cases hb:b=a
  ·subst hb
   rw [ou] at q
   cases q
   exact ⟨he,⟨oe,he⟩,⟨oe,he⟩,fun h1 h2 ⟨o,q⟩ k=>⟨o,k o q⟩⟩
  ·rw [jn hb] at q
   exact (I.hok b u q).stay (fun _ _ _ z=>z) (fun c z=>kp _ _ z) fun c xs z=>kp _ _ z
end
def XP (X:Cx) (pins:List (Addr × Obj)) (σ:St) (E:XK) (e:Value) (s':Shared):Prop:=∃ s1 H1,Inv X pins σ H1 s1∧CXE X.prog X.w X.stack H1 s1 E e s'
structure Hnd (X:Cx) (R:Addr) (x n:Str) (i:Nat):Prop where
 hg:Gl X x
 hm:X.mg x=some (.ref R)
 nd:X.N.Nodup
 hi:X.N[i]? = some n
 lo:X.env.scope.names.lookup n=some .local
 st:X.stack=X.env::X.outer∧X.env.frame=some X.env.locals
 db:(x == ("__debug__" : Str))=false
section
variable {X:Cx} {pins:List (Addr × Obj)} {σ:St} {s s':Shared}
def ax0 (D:Ends) (i:Nat):Ends:={ nx:=fun σ H=>D.nx (σ.set i none) H,rt:=D.rt,bk:=fun σ H=>D.bk (σ.set i none) H,ct:=fun σ H=>D.ct (σ.set i none) H }
theorem akb {R:Addr} {x n:Str} {i:Nat} {np pos:Pos} {b0:Stmt} {suite:List Stmt} {ts:TS} {D:Ends} {E:XK} {e:Value} (N:Hnd X R x n i) (hs:∀ a,PSs (X.inEx a) (b0::suite) ts)
  (mt:∀ C H,E (.ref C) none H→exmOne X.K (.ref C) (.ref R)=some true∧∀ a oe,oe.cls = .ref C→H a=none→ts (ax0 D i) (σ.set i (some (.ref a))) (upd H a (.frz oe (exO a))))
  (h:XP X pins σ E e s') :
  wpAny (model X.prog X.w) X.A (noteFrame e X.env) (fun _ s2=>wpAny (model X.prog X.w) X.A (setFlight e none) (fun _ s3=>wpAny (model X.prog X.w) X.A (handleBy e X.env [.ExceptHandler (some (.Name x np)) (some n) (b0::suite) pos]) (SP X pins D) X.xe s3) X.xe s2) X.xe s':=by
 obtain ⟨s1,H1,I1,a,C,t,B,H',rfl,os,bare,un,hok,air,e⟩:=h
 obtain ⟨mt1,mt2⟩:=mt C H' e
 have ok:=I1.ok
 have fr:X.A.frames=some (X.env::X.outer):=by rw [← N.st.1];exact ok.frames
 have fl:=air.fly
 rw [N.st.1] at fl
 have na:s1.heap.get? a=none:=by
  cases q:s1.heap.get? a with
  | none=>rfl
  | some o =>
   obtain ⟨oe,vs,he,_,hd,_⟩:=fl.first
   have I2:Inv X pins σ H' s':=I1.call' os un hok bare (by intro b z;cases z)
   have nf:a ∉ frs X.stack:=fun z=>a6u I2 z he _ hd
   have:=air.bk a oe he nf (.inr ⟨o,q⟩)
   rw [fl.2.1] at this
   cases this
 have ha:H' a=none:=by
  cases q:H' a with
  | none=>rfl
  | some u =>
   obtain ⟨oe,vs,he,_,hd,_⟩:=fl.first
   have I2:Inv X pins σ H' s':=I1.call' os un hok bare (by intro b z;cases z)
   have nf:a ∉ frs X.stack:=fun z=>a6u I2 z he _ hd
   have:=air.bk a oe he nf (.inl (by rw [q];simp))
   rw [fl.2.1] at this
   cases this
 refine wpAny_looks_onW fr N.st.2 fl fun h4 held4 up4=>?_
 refine wpAny_landsW held4 fun h5 fl5 up5=>?_
 have I5:=am1 I1 os bare un hok air fl5.1 (up4.trans up5) s'.toks
 obtain ⟨ob,hob,hobc⟩:=fl5.there
 have I5m:=I5.inEx a
 refine wpAny_handleBy_cons (codeAny_handlers_test (a4l I5m N.hg N.hm ?_ N.db)) (by intro q;cases q)
 have LT:Looks (model X.prog X.w) h5 (typeOf (.ref a)) (.ref C):=hobc ▸ (Looks.ld hob).andThen .now
 refine (exm_one I5.kIn LT mt1).here ?_
 refine codeAny_handlers_suite_as ?_
 refine lands_againW fl5 fun h6 fl6 up6=>?_
 have I6:=am1 I1 os bare un hok air fl6.1 ((up4.trans up5).trans up6) s'.toks
 obtain ⟨oe,vs,he,hec,hed,_⟩:=fl6.first
 have I7:=(I6.exc I1 he ha na).inEx a
 refine a5z (X:=X.inEx a) I7 N.nd N.hi (.inl N.lo) (v:=.ref a) rfl (fun s8 I8=>?_) (.inr N.lo)
 refine wpAny_mono (hs a pins s8 _ _ (ax0 D i) I8 (mt2 a oe hec ha)) (fun f s9 q=>?_) fun _ _ z=>z.elim
 show wpAny (model X.prog X.w) X.A (do bindName X.env n .none;unbindBehindTheSuite X.env n pos) (fun _ s3=>SP X pins D f s3) X.xe s9
 cases f with
 | next =>
  obtain ⟨σ',H9,I9,q⟩:=q
  exact a98 (I9.outEx ok) N.nd N.hi N.lo fun s10 I10=>⟨_,H9,I10,q⟩
 | brk =>
  obtain ⟨σ',H9,I9,q⟩:=q
  exact a98 (I9.outEx ok) N.nd N.hi N.lo fun s10 I10=>⟨_,H9,I10,q⟩
 | cont =>
  obtain ⟨σ',H9,I9,q⟩:=q
  exact a98 (I9.outEx ok) N.nd N.hi N.lo fun s10 I10=>⟨_,H9,I10,q⟩
 | ret u =>
  obtain ⟨v,σ',H9,I9,r,q⟩:=q
  exact a98 (I9.outEx ok) N.nd N.hi N.lo fun s10 I10=>⟨v,_,H9,I10,r,q⟩
def PEx (X:Cx) (e:Expr) (t:St→Hp→VK→XK→Prop):Prop :=
 ∀ (pins:List (Addr × Obj)) (s:Shared) (σ:St) (H:Hp) (Q:VK) (E:XK),Inv X pins σ H s→t σ H Q E→wpAny (model X.prog X.w) X.A (eval e X.env) (EP X pins σ Q) (XP X pins σ E) s
def PSx (X:Cx) (st:List Stmt) (t:Ends→XK→St→Hp→Prop):Prop :=
 ∀ (pins:List (Addr × Obj)) (s:Shared) (σ:St) (H:Hp) (D:Ends) (E:XK),Inv X pins σ H s→t D E σ H→wpAny (model X.prog X.w) X.A (execs st X.env) (SP X pins D) (XP X pins σ E) s
variable {e:Expr} {es:List Expr} {pos:Pos}
theorem ah8 {st:Stmt} {D:Ends} {W:Value→Shared→Prop} (h:wpAny (model X.prog X.w) X.A (exec st X.env) (SP X pins D) W s):wpAny (model X.prog X.w) X.A (execs [st] X.env) (SP X pins D) W s:=by
 refine wpAny_execs_cons (thn h fun f s1 q=>?_)
 cases f with
 | next=>exact wpAny_execs_nil q
 | ret v=>exact q
 | brk=>exact q
 | cont=>exact q
theorem akc {t:St→Hp→VK→XK→Prop} (he:PEx X e t) (hs:swapsWith e none pos.line X.env=pure false:=by rfl):PSx X [.Expr e pos] (fun D E σ H=>t σ H (fun _ H1=>D.nx σ H1) E):=by
 intro pins s σ H D E I h
 exact ah8 (wpAny_Expr_any (thn (he pins s σ H _ E I h) fun v s1 ⟨x,H1,I1,r1,q1⟩=>⟨σ,H1,I1,q1⟩) I.quiet hs)
theorem atg {R:Addr} {x n:Str} {i:Nat} {np hp pos:Pos} {body:List Stmt} {b0:Stmt} {suite:List Stmt} {t:Ends→XK→St→Hp→Prop} {ts:TS} (N:Hnd X R x n i) (hb:PSx X body t) (hs:∀ a,PSs (X.inEx a) (b0::suite) ts) :
  PS X (.Try body [.ExceptHandler (some (.Name x np)) (some n) (b0::suite) hp] [] [] pos) (fun D σ H=>t D (fun cls d H'=>∃ C,cls = .ref C∧exmOne X.K (.ref C) (.ref R)=some true∧∀ a oe,oe.cls = .ref C→H' a=none→ts (ax0 D i) (σ.set i (some (.ref a))) (upd H' a (.frz oe (exO a)))) σ H):=by
 intro pins s σ H D I h
 refine wpAny_Try_except (wpAny_mono (hb pins s σ H D _ I h) (fun f s1 q=>?_) fun e s1 q=>akb N hs (fun C H' z=>?_) q)
 ·cases f with
  | next=>exact wpAny_execs_nil q
  | ret v=>exact q
  | brk=>exact q
  | cont=>exact q
 ·obtain ⟨C',z,m1,m2⟩:=z
  cases z
  exact ⟨m1,m2⟩
theorem akd {k:Nat} {f:Addr} {fd:FuncData} {ps:List Str} {sp:Sp} {x:Str} {p:Pos} {t:TA} (F:FnOk X.prog X.w X.K X.mg X.base (CXE X.prog X.w) k f fd ps sp) (hr:Room k X.A) (hg:Gl X x) (hm:X.mg x=some (.ref f)) (hk:PySem.W.keepIn X.K (.ref f)=true) (hb:Binds X.K fd ps [])
  (ha:PA X.nox (e::es) t) (hdb:(x == ("__debug__" : Str))=false:=by decide) (he:starEach (e::es) X.env=(false,eval e X.env)::starEach es X.env:=by rfl) (hpl:(backTo pos (starEach es X.env)).any (·.1)=false:=by rfl) :
  PEx X (.Call (.Name x p) (e::es) [] pos) (fun σ H Q E=>t σ H fun vs H1=>sp vs H1 Q E):=by
 intro pins s σ H Q E I h
 refine wpAny_Call_Name_kw (a4l I hg hm ?_ hdb)
 refine PySem.W.callWith_K (h₀:=X.base) I.ok.mod.kin hk (wpAny_mono (ha pos pins s σ H _ (I.wish _) h) (fun us s1 ⟨vs,H1,I1,r,q⟩=>⟨I1.unwish.kIn,?_⟩) fun _ _ z=>z.elim) he hpl
 have I1:=I1.unwish
 have hl:us.length=ps.length:=by rw [← r.length];exact F.len _ _ _ _ q
 have bd:=hb s1 us I1.kIn (by rw [List.append_nil];exact hl)
 rw [List.append_nil] at bd
 refine wpAny_call (codeAny_mono (F.run X.A X.stack s1 H1 ⟨us,[]⟩ us vs Q E hr I1.env0 bd r q) fun r s' hq=>?_)
 cases r with
 | error e=>exact ⟨s1,H1,I1,hq⟩
 | ok fl =>
  cases fl with
  | ret u=>exact I1.after hq
  | next=>exact False.elim hq
  | brk=>exact False.elim hq
  | cont=>exact False.elim hq
end
end L2
namespace MI
open PySem PySem.Spec L2
def am2 (mg:Str→Option Value) (E:XK):XD:=fun c _ H' _=>∃ C,mg c=some (.ref C)∧E (.ref C) none H'
def spX (K:PySem.W.Frag) (mg:Str→Option Value) (n:Nat) (F:SF):Sp:=fun vs H Q E=>vs.length=n∧∃ ι ds h,Reps K ι H vs ds∧HRep K ι H h∧out K (am2 mg E) (zp K) ι H (F ds h) Q
structure DnX (P:Program) (w:World) (K:PySem.W.Frag) (mg:Str→Option Value) (base:Heap) (k:Nat) (x:Str) (ps:List Str) (sp:Sp) (f:Addr) (fd:FuncData):Prop where
 ok:FnOk P w K mg base (CXE P w) k f fd ps sp
 m:mg x=some (.ref f)
 kp:PySem.W.keepIn K (.ref f)=true
 b:Binds K fd ps []
theorem ap0 {P:Program} {w:World} {K:PySem.W.Frag} {mg:Str→Option Value} {base:Heap} {x qual:Str} {st:Stmt} {f:Addr} {fd:FuncData} {N ps:List Str} {k:Nat} {b:SS} (Fu:Fun K x qual st f fd) (S:FnScope N ps (bf st))
  (hb:∀ (cdv:Value) (A:Around) (outer:List Env) (s:Shared) (H:Hp) (E:XK),Room k (A.deeper (PyProof.Rows.envOfC qual (bf st) s.heap.objs.size f cdv))→MSs (cxE P w K mg base N qual (bf st) f cdv A outer s H E) (am2 mg E) (j9 st) b) :
  FnOk P w K mg base (CXE P w) (k+1) f fd ps (spX K mg ps.length (o8 b N.length)):=by
 obtain ⟨oc,od,kV,doc,pm,an,cdv,ct,osl,rfl,lk,hcd⟩:=Fu.ex
 refine arl lk hcd S (fun vs H Q E h=>h.1) fun A outer s H vs Q E hr h=>⟨_,hb cdv A outer s H E hr,?_⟩
 obtain ⟨hl,ι,ds,h,r,hr',o⟩:=h
 refine ⟨ι,a2b N.length ds,h,a7z r,hr',?_⟩
 unfold o8 at o
 cases hbd:b (a2b N.length ds) h with
 | rt d h1=>rw [hbd] at o;exact o
 | nx τ h1=>rw [hbd] at o;exact fun ι' H' σ' g1 S1 hr1=>o ι' H' .non g1 .non hr1
 | ex c h1=>rw [hbd] at o;exact o
 | bk τ h1=>rw [hbd] at o;exact o.elim
 | ct τ h1=>rw [hbd] at o;exact o.elim
 | no=>rw [hbd] at o;exact o.elim
section
variable {K:PySem.W.Frag} {ι:List Addr} {H:Hp} {h:Hd} {n:Nat}
noncomputable def a1u (n:Nat) (F:SF):SF:=fun ds h=>open Classical in if ∀ d∈ds,clo 0 d then (match F ds [] with | .ex c _=>if ds.length=n then .ex c h else .no | _=>jo false n F ds h) else .no
theorem noex {m:Bool} {F:SF} {ds:List D} {c:Str} {h1:Hd}:jo m n F ds h≠.ex c h1:=by
 unfold jo
 split
 ·unfold aoh
  intro e
  repeat (first | (split at e) | cases e)
 ·intro e;cases e
theorem adg {E E':XD} {r:R D} {Q:VK} (ne:∀ c h1,r≠.ex c h1) (o:out K E (zp K) ι H r Q):out K E' (zp K) ι H r Q:=by
 cases r with
 | ok a h=>exact o
 | ex c h=>exact absurd rfl (ne c h)
 | no=>exact o
theorem HRep.stays {H':Hp} (hr:HRep K ι H h) (k:∀ a u,H a=some u→H' a=some u):Gr ι H ι H'∧HRep K ι H' h:=by
 have G:Gr ι H ι H':=⟨⟨[],by simp,by simp⟩,fun a vs q=>k _ _ q,fun a o u q=>k _ _ q,fun a u q _=>k _ _ q,fun a u q=>⟨u,k _ _ q⟩⟩
 refine ⟨G,hr.nd,hr.len,fun i a o e1 e2=>?_⟩
 have r:=hr.obj i a o e1 e2
 obtain ⟨u,hu,_⟩:=r.some
 exact r.mono G (by rw [hu];exact k a u hu)
theorem aax:∀ {ds:List D},(∀ d∈ds,clo 0 d)→clos 0 ds
 | [],_=>by simp [clos]
 | d::ds,h=>by simp only [clos];exact ⟨h d List.mem_cons_self,aax fun x hx=>h x (List.mem_cons_of_mem _ hx)⟩
theorem adh {mg:Str→Option Value} {F:SF} {vs:List V} {ds:List D} {Q:VK} {E:XK} {E2:XD} (r:Reps K ι H vs ds) (hr:HRep K ι H h) (o:out K E2 (zp K) ι H (a1u n F ds h) Q) (hE:∀ c H' ,Gr ι H ι H'→HRep K ι H' h→E2 c ι H' h→am2 mg E c ι H' h) :
  spX K mg n F vs H (fun v H1=>∃ L,aam H1 L∧∀ H2,FrzOf L H1 H2→Q v H2) E:=by
 unfold a1u at o
 split at o
 ·rename_i hc
  have ok:out K E2 (zp K) ι H (jo false n F ds h) Q→spX K mg n F vs H (fun v H1=>∃ L,aam H1 L∧∀ H2,FrzOf L H1 H2→Q v H2) E:=fun o=>by
   obtain ⟨l,ι0,ds0,h0,r0,hr0,o0⟩:=a8z r hr (adg (E':=X0) (fun c h1=>noex) o) E
   refine ⟨l,ι0,ds0,h0,r0,hr0,?_⟩
   cases e:F ds0 h0 with
   | ok a h1=>rw [e] at o0;exact o0
   | ex c h1=>rw [e] at o0;exact fun ι' H' g hr=>(o0 ι' H' g hr).elim
   | no=>rw [e] at o0;exact o0
  split at o
  ·rename_i c hx e
   split at o
   ·rename_i hl
    have R0:Reps K [] H vs ds:=by
     have:=r.cut (aax hc)
     rwa [List.take_zero] at this
    refine ⟨by rw [r.len];exact hl,[],ds,[],R0,⟨List.nodup_nil,rfl,fun i a o e1=>by simp at e1⟩,?_⟩
    rw [e]
    intro ι' H' g _
    obtain ⟨G,hr'⟩:=hr.stays fun a u q=>g.oth a u q (by simp)
    exact hE c H' G hr' (o ι H' G hr')
   ·exact o.elim
  ·exact ok o
 ·exact o.elim
end
theorem a99 (m:Bool) {X:Cx} {E:XD} {k n:Nat} {f:Addr} {fd:FuncData} {ps:List Str} {x:Str} {F:SF} {ka:SA} {e:Expr} {es:List Expr} {p pos:Pos} (G:Dn X.prog X.w X.K X.mg X.base k x ps (qu X.K n F) f fd) (hr:Room k X.A) (hg:Gl X x) (ha:MA X E (e::es) ka)
  (hdb:(x == ("__debug__" : Str))=false:=by decide) (he:starEach (e::es) X.env=(false,eval e X.env)::starEach es X.env:=by rfl) (hpl:(backTo pos (starEach es X.env)).any (·.1)=false:=by rfl):ME X E (.Call (.Name x p) (e::es) [] pos) (sA (jo m n F) ka):=by
 refine PE.weak (aan (a8e G.ok hr hg G.m G.kp G.b .nil aj7 ha hdb he hpl)) fun σ H Q ⟨ι,τ,h,S,Rh,o⟩=>?_
 refine ⟨ι,τ,h,S,Rh,gj o fun ds h1 ι1 H1 vs g1 r1 hr1 o1=>?_⟩
 rw [List.append_nil]
 exact a8z r1 hr1 (adg (fun c h1=>noex) o1) _
theorem a4e {X:Cx} {k n:Nat} {f:Addr} {fd:FuncData} {ps:List Str} {x:Str} {F:SF} {ka:SA} {e:Expr} {es:List Expr} {p pos:Pos} (G:DnX X.prog X.w X.K X.mg X.base k x ps (spX X.K X.mg n F) f fd) (hr:Room k X.A) (hg:Gl X x) (ha:MA X X0 (e::es) ka)
  (hdb:(x == ("__debug__" : Str))=false:=by decide) (he:starEach (e::es) X.env=(false,eval e X.env)::starEach es X.env:=by rfl) (hpl:(backTo pos (starEach es X.env)).any (·.1)=false:=by rfl):ME X X0 (.Call (.Name x p) (e::es) [] pos) (sA (a1u n F) ka):=by
 have ps0:a9y (CXE X.prog X.w) X E0:=by
  rintro pins σ H s e s' I ⟨a,C,t,B,H',rfl,os,bare,un,hok,air,z⟩
  exact z.elim
 refine PE.weak (aan (a8e G.ok hr hg G.m G.kp G.b .nil ps0 ha hdb he hpl)) fun σ H Q ⟨ι,τ,h,S,Rh,o⟩=>?_
 refine ⟨ι,τ,h,S,Rh,gj o fun ds h1 ι1 H1 vs g1 r1 hr1 o1=>?_⟩
 rw [List.append_nil]
 exact adh r1 hr1 o1 fun c H' _ _ z=>z.elim
section
variable {P:Program} {w:World} {K:PySem.W.Frag} {mg:Str→Option Value} {base:Heap} {N:List Str} {qual:Str} {scope:Scope} {fa:Addr} {cd:Value} {A:Around} {outer:List Env} {s0:Shared} {H0:Hp} {E:XK}
def a86 (c:Str) (ka:SA):SS:=fun τ h=>(ka τ h).fl fun ds h1=>if ds.length≤LINE then .ex c h1 else .no
theorem adi {C:Addr} {x:Str} {ka:SA} {e:Expr} {es:List Expr} {np cpos pos:Pos} (hC:XCls K C) (hg:Gl (cxE P w K mg base N qual scope fa cd A outer s0 H0 E) x) (hm:mg x=some (.ref C)) (ha:MA (cxE P w K mg base N qual scope fa cd A outer s0 H0 E) (am2 mg E) (e::es) ka)
  (hdb:(x == ("__debug__" : Str))=false:=by decide) (he:starEach (e::es) (cxE P w K mg base N qual scope fa cd A outer s0 H0 E).env=(false,eval e (cxE P w K mg base N qual scope fa cd A outer s0 H0 E).env)::starEach es (cxE P w K mg base N qual scope fa cd A outer s0 H0 E).env:=by rfl) (hpl:(backTo cpos (starEach es (cxE P w K mg base N qual scope fa cd A outer s0 H0 E).env)).any (·.1)=false:=by rfl) :
  MS (cxE P w K mg base N qual scope fa cd A outer s0 H0 E) (am2 mg E) (.Raise (some (.Call (.Name x np) (e::es) [] cpos)) none pos) (a86 x ka):=by
 refine PS.weak (ak9 (X:=cxE P w K mg base N qual scope fa cd A outer s0 H0 E) (Ex:=fun H=>E (.ref C) none H) hC hg hm rfl ha (fun pins σ H s h' a args I mk z=>awz I mk z) hdb he hpl) fun D σ H ⟨ι,τ,h,S,Rh,o⟩=>?_
 refine ⟨ι,τ,h,S,Rh,yh o fun ds h1 ι1 H1 vs g1 r1 hr1 o1=>?_⟩
 split at o1
 ·rename_i hl
  obtain ⟨C',e1,z⟩:=o1 ι1 H1 (.refl _ _) hr1
  rw [hm] at e1
  cases e1
  exact ⟨by rw [r1.len];exact abm hl,z⟩
 ·exact o1.elim
end
def noX {α:Type}:R α→R α
 | .ex _ _=>.no
 | r=>r
def qA {α:Type} (ka:Sd→Hd→R α):Sd→Hd→R α:=fun τ h=>noX (ka τ h)
abbrev MEx (X:Cx) (e:Expr) (f:SE):Prop:=PEx X e fun σ H Q E=>lift X.K (am2 X.mg E) (zp X.K) f σ H Q
abbrev MSx (X:Cx) (st:List Stmt) (f:SS):Prop:=PSx X st fun D E σ H=>a6m X.K (am2 X.mg E) f D σ H
section
variable {X:Cx}
theorem ap1 {e:Expr} {t:St→Hp→VK→XK→Prop} (h:PEx X e t):PEx X e (fun σ H Q E=>t σ H (fun v H1=>∃ L,aam H1 L∧∀ H2,FrzOf L H1 H2→Q v H2) E):=fun pins s σ H Q E I q =>
 L2.thn (h pins s σ H _ E I q) fun u s' ⟨v,H1,I1,r,L,ab,k⟩=>let ⟨H2,f,I2⟩:=Inv.frz I1 ab; ⟨v,H2,I2,r,k H2 f⟩
theorem ap2 {k n:Nat} {f:Addr} {fd:FuncData} {ps:List Str} {x:Str} {F:SF} {ka:SA} {e:Expr} {es:List Expr} {p pos:Pos} (G:DnX X.prog X.w X.K X.mg X.base k x ps (spX X.K X.mg n F) f fd) (hr:Room k X.A) (hg:Gl X x) (ha:MA X.nox X0 (e::es) ka)
  (hdb:(x == ("__debug__" : Str))=false:=by decide) (he:starEach (e::es) X.env=(false,eval e X.env)::starEach es X.env:=by rfl) (hpl:(backTo pos (starEach es X.env)).any (·.1)=false:=by rfl):MEx X (.Call (.Name x p) (e::es) [] pos) (sA (a1u n F) (qA ka)):=by
 intro pins s σ H Q E I ⟨ι,τ,h,S,Rh,o⟩
 refine ap1 (akd G.ok hr hg G.m G.kp G.b ha hdb he hpl) pins s σ H Q E I ⟨ι,τ,h,S,Rh,?_⟩
 have o2:=gj o (P:=fun vs H1=>spX X.K X.mg n F vs H1 (fun v H1=>∃ L,aam H1 L∧∀ H2,FrzOf L H1 H2→Q v H2) E) fun ds h1 ι1 H1 vs g1 r1 hr1 o1=>adh r1 hr1 o1 fun c H' _ _ z=>z
 unfold qA at o2
 cases e1:ka τ h with
 | ok a h1=>rw [e1] at o2;exact o2
 | ex c h1=>rw [e1] at o2;exact o2.elim
 | no=>rw [e1] at o2;exact o2
theorem ap3 {e:Expr} {f:SE} {pos:Pos} (he:MEx X e f) (hs:swapsWith e none pos.line X.env=pure false:=by rfl):MSx X [.Expr e pos] (a0o f):=fun pins s σ H D E I ⟨ι,τ,h,S,Rh,o⟩ =>
 akc he hs pins s σ H D E I ⟨ι,τ,h,S,Rh,yh o fun d h1 ι1 H1 v g1 r1 hr1 o1=>o1 ι1 H1 _ (.refl _ _) (S.mono g1) hr1⟩
def ath (i:Nat) (cs:Str→Bool) (fb fs:SS):SS:=fun τ h=>match fb τ h with
 | .ex c h1=>if cs c=true then (match fs (τ.set i (some (.exc c))) h1 with
   | .nx τ' h'=>.nx (τ'.set i none) h' | .rt d h'=>.rt d h' | .bk τ' h'=>.bk (τ'.set i none) h' | .ct τ' h'=>.ct (τ'.set i none) h' | _=>.no) else .no
 | r=>r
theorem SRep.off {K:PySem.W.Frag} {ι:List Addr} {H:Hp} {σ:St} {τ:Sd} (S:SRep K ι H σ τ) (i:Nat):SRep K ι H (σ.set i none) (τ.set i none):=by
 refine ⟨by simp [S.len],fun j d e=>?_⟩
 by_cases hj:i=j
 ·subst hj
  rw [List.getElem?_set] at e
  simp at e
 ·rw [List.getElem?_set_ne hj] at e ⊢
  exact S.val j d e
theorem ati {R:Addr} {x n:Str} {i:Nat} {np hp pos:Pos} {body:List Stmt} {b0:Stmt} {suite:List Stmt} {cs:Str→Bool} {fb fs:SS} (N:Hnd X R x n i)
  (hcs:∀ c,cs c=true→∃ C,X.mg c=some (.ref C)∧PySem.W.nsIn X.K mainGlobals c=some (some (.ref C))∧PySem.W.exmOne X.K (.ref C) (.ref R)=some true)
  (hb:MSx X body fb) (hs:∀ a,MSs (X.inEx a) X0 (b0::suite) fs):MS X X0 (.Try body [.ExceptHandler (some (.Name x np)) (some n) (b0::suite) hp] [] [] pos) (ath i cs fb fs):=by
 refine PS.weak (atg (ts:=a6m X.K X0 fs) N hb hs) fun D σ H ⟨ι,τ,h,S,Rh,o⟩=>⟨ι,τ,h,S,Rh,?_⟩
 unfold ath at o
 cases e:fb τ h with
 | nx τ' h'=>rw [e] at o;exact o
 | rt d h'=>rw [e] at o;exact o
 | bk τ' h'=>rw [e] at o;exact o
 | ct τ' h'=>rw [e] at o;exact o
 | no=>rw [e] at o;exact o
 | ex c h1 =>
  rw [e] at o
  dsimp only at o
  split at o
  ·rename_i hc
   obtain ⟨C,m,ns,ex⟩:=hcs c hc
   intro ι' H' g hr
   refine ⟨C,m,C,rfl,ex,fun a oe hoe ha=>?_⟩
   have G:=g.trans (a0p (ι:=ι') ha (.frz oe (L2.exO a)))
   refine ⟨ι',τ.set i (some (.exc c)),h1,(S.mono G).set (.exc (o:=oe) (C:=C) ou hoe ns) i,hr.aside ha _,?_⟩
   have o1:=vy o G
   cases e2:fs (τ.set i (some (.exc c))) h1 with
   | nx τ' h'=>rw [e2] at o1;exact fun ι2 H2 σ' g2 S2 hr2=>o1 ι2 H2 _ g2 (S2.off i) hr2
   | bk τ' h'=>rw [e2] at o1;exact fun ι2 H2 σ' g2 S2 hr2=>o1 ι2 H2 _ g2 (S2.off i) hr2
   | ct τ' h'=>rw [e2] at o1;exact fun ι2 H2 σ' g2 S2 hr2=>o1 ι2 H2 _ g2 (S2.off i) hr2
   | rt d h'=>rw [e2] at o1;exact o1
   | ex c' h'=>rw [e2] at o1;exact o1.elim
   | no=>rw [e2] at o1;exact o1.elim
  ·exact o.elim
end
end MI
namespace MI
open PySem PySem.Spec L2
section
variable {X:Cx}
def vc (v:V) (cv:Value):Prop:=(∃ C,v = .ref C∧cv = .ref C)∨∃ T,v = .ty T∧cv = .type T
theorem vc.eq {v:V} {cv u:Value} (h:vc v cv) (r:RelV v u):u=cv:=by
 rcases h with ⟨C,rfl,rfl⟩ | ⟨T,rfl,rfl⟩
 ·exact r
 ·cases r;rfl
theorem atj {pins:List (Addr × Obj)} {σ:St} {H:Hp} {s:Shared} {a C:Addr} {o:Obj} (I:L2.Inv X pins σ H s) (e:H a=some (.frz o (exO a))) (c:o.cls = .ref C):ExAt a C s.heap:=⟨o,(show ObjOk X.prog X.w H s.heap a (.frz o (exO a)) from I.hok a _ e).1,c⟩
theorem ake:CallR X (.builtin "isinstance") (fun xs H Q=>∃ a o C v cv b,xs=[.ref a,v]∧vc v cv∧H a=some (.frz o (exO a))∧o.cls = .ref C∧XKit X.K C∧PySem.W.kitOne X.K (.ref C) cv=some b∧Q (.bl b) H):=by
 intro pins s σ H xs us Q I r h
 obtain ⟨a,o,C,v,cv,b,rfl,hv,ea,hc,Z,e,q⟩:=h
 obtain ⟨u,w',rfl,rx,rt⟩:=vals2 r
 obtain rfl:u=Value.ref a:=rx
 obtain rfl:=hv.eq rt
 exact PySem.W.kia_one (adf Z) I.kIn (atj I ea hc) e (fun z=>nomatch z) fun tk=>⟨.bl b,H,I.tok tk,rfl,q⟩
theorem aay:∀ {cs:List Addr} {us:List Value},Vals (cs.map V.ref) us→us=cs.map Value.ref
 | [],_,r=>by cases r;rfl
 | c::cs,us,r=>by
  cases r with
  | cons r rs =>
   rw [List.map_cons,← aay rs]
   congr 1
theorem ah9:CallR X (.builtin "isinstance") (fun xs H Q=>∃ a o C tp,∃ cs:List Addr,∃ b,xs=[.ref a, .ref tp]∧H tp=some (.tup (cs.map V.ref))∧H a=some (.frz o (exO a))∧o.cls = .ref C∧XKit X.K C∧PySem.W.kitAny X.K (.ref C) (cs.map Value.ref)=some b∧Q (.bl b) H):=by
 intro pins s σ H xs us Q I r h
 obtain ⟨a,o,C,tp,cs,b,rfl,et,ea,hc,Z,e,q⟩:=h
 obtain ⟨u,w',rfl,rx,rt⟩:=vals2 r
 obtain rfl:u=Value.ref a:=rx
 obtain rfl:w'=Value.ref tp:=rt
 obtain ⟨_,its,vr,o',h1,h2,h3⟩:=(show ObjOk X.prog X.w H s.heap tp (.tup (cs.map V.ref)) from I.hok tp _ et)
 obtain rfl:=aay vr
 obtain ⟨n,h3⟩:=h3
 have htp:s.heap.get? tp=some ⟨.type "tuple",o'.dict, .seq (cs.map Value.ref).toArray n,o'.slots⟩:=by
  rw [h1]
  obtain ⟨c,dd,dt,sl⟩:=o'
  simp only at h2 h3
  rw [h2,h3]
 exact PySem.W.kia_tup (adf Z) I.kIn (atj I ea hc) htp e (fun z=>nomatch z) fun tk=>⟨.bl b,H,I.tok tk,rfl,q⟩
def akf (i:Nat) (f:Str→Option Bool):SE:=fun τ h=>match τ[i]? with
 | some (some (.exc c))=>(match f c with | some b=>.ok (.bl b) h | none=>.no)
 | _=>.no
variable {E:XD}
theorem am3 {K:PySem.W.Frag} {ι:List Addr} {H:Hp} {σ:St} {τ:Sd} {h:Hd} {i:Nat} {f:Str→Option Bool} {Q:VK} (S:SRep K ι H σ τ) (o:out K E (zp K) ι H (akf i f τ h) Q) :
  ∃ a ob C c b,σ[i]? = some (some (.ref a))∧H a=some (.frz ob (exO a))∧ob.cls = .ref C∧PySem.W.nsIn K mainGlobals c=some (some (.ref C))∧f c=some b∧out K E (zp K) ι H (.ok (.bl b) h) Q:=by
 unfold akf at o
 split at o
 ·rename_i c e
  obtain ⟨v,e1,r⟩:=S.val i _ e
  cases r with
  | exc q hc hn =>
   split at o
   ·rename_i b hb
    exact ⟨_,_,_,c,b,e1,q,hc,hn,hb,o⟩
   ·exact o.elim
 ·exact o.elim
theorem am4 {i:Nat} {f:Str→Option Bool} {n x:Str} {v:V} {cv:Value} {p0 pn px pos:Pos} (hg:Gl X "isinstance") (hm:X.mg "isinstance" = none) (hb:bootBuiltins "isinstance" = some (.builtin "isinstance")) (hN:X.N[i]? = some n) (hv:Vis X.env.scope n) (hc:PE X (.Name x px) (tC v)) (hvc:vc v cv)
  (hf:∀ c b C,f c=some b→PySem.W.nsIn X.K mainGlobals c=some (some (.ref C))→XKit X.K C∧PySem.W.kitOne X.K (.ref C) cv=some b)
  (hd:(n == ("__debug__" : Str))=false:=by decide) (hcd:(n == ("__classdict__" : Str))=false:=by decide):ME X E (.Call (.Name "isinstance" p0) [.Name n pn, .Name x px] [] pos) (akf i f):=by
 refine PE.weak (a65 ake hg hm hb (v4 (afg hN hv hd hcd) (v4 hc a6d))) fun σ H Q ⟨ι,τ,h,S,Rh,o⟩=>?_
 obtain ⟨a,ob,C,c,b,e1,q,oc,ns,fb,o1⟩:=am3 S o
 obtain ⟨Z,ki⟩:=hf c b C fb ns
 exact ⟨_,e1,a,ob,C,v,cv,b,rfl,hvc,q,oc,Z,ki,o1 ι H _ (.refl _ _) (.bl b) Rh⟩
theorem ap4 {i:Nat} {f:Str→Option Bool} {n:Str} {cs:List Addr} {es:List Expr} {t:TA} {k:Nat} {p0 pn px pos:Pos} (hg:Gl X "isinstance") (hm:X.mg "isinstance" = none) (hb:bootBuiltins "isinstance" = some (.builtin "isinstance")) (hN:X.N[i]? = some n) (hv:Vis X.env.scope n) (hc:PA X es t) (ht:∀ σ H (Q:List V→Hp→Prop),Q (cs.map V.ref) H→t σ H Q) (hl:cs.length≤sizeLine)
  (hf:∀ c b C,f c=some b→PySem.W.nsIn X.K mainGlobals c=some (some (.ref C))→XKit X.K C∧PySem.W.kitAny X.K (.ref C) (cs.map Value.ref)=some b)
  (hd:(n == ("__debug__" : Str))=false:=by decide) (hcd:(n == ("__classdict__" : Str))=false:=by decide):ME X E (.Call (.Name "isinstance" p0) [.Name n pn, .Tuple es k px] [] pos) (akf i f):=by
 refine PE.weak (a65 ah9 hg hm hb (v4 (afg hN hv hd hcd) (v4 (ald hc) a6d))) fun σ H Q ⟨ι,τ,h,S,Rh,o⟩=>?_
 obtain ⟨a,ob,C,c,b,e1,q,oc,ns,fb,o1⟩:=am3 S o
 obtain ⟨Z,ki⟩:=hf c b C fb ns
 refine ⟨_,e1,ht _ _ _ ⟨by rw [List.length_map];exact hl,fun p hp=>?_⟩⟩
 have G:=a0p (ι:=ι) hp (.tup (cs.map V.ref))
 exact ⟨a,ob,C,p,cs,b,rfl,ou,G.frz _ _ _ q,oc,Z,ki,o1 ι _ _ G (.bl b) (Rh.aside hp _)⟩
end
end MI
namespace MI
open PySem PySem.Spec L2
end MI
namespace EVX
open PySem PySem.Spec L2 MI
end EVX
namespace MI
open PySem PySem.Spec L2
end MI
namespace EVX
open PySem PySem.Spec L2 MI
end EVX
namespace ZP
open PySem PySem.Spec PySem.Builtin PySem.Builtin.SmallTypes L2
end ZP
namespace MI
open PySem PySem.Spec L2 ZP
end MI
namespace AT
open L2
theorem aeo {α:Type} (x0:α) (xs:List α):atI (x0::xs) 0=some x0:=yo (j:=0) rfl
theorem aep {α:Type} (x0 x1:α) (xs:List α):atI (x0::x1::xs) 1=some x1:=yo (j:=1) rfl
theorem aeq {α:Type} (x0 x1 x2:α) (xs:List α):atI (x0::x1::x2::xs) 2=some x2:=yo (j:=2) rfl
theorem aer {α:Type} (x0 x1 x2 x3:α) (xs:List α):atI (x0::x1::x2::x3::xs) 3=some x3:=yo (j:=3) rfl
theorem aes {α:Type} (x0 x1 x2 x3 x4:α) (xs:List α):atI (x0::x1::x2::x3::x4::xs) 4=some x4:=yo (j:=4) rfl
theorem aet {α:Type} (x0 x1 x2 x3 x4 x5:α) (xs:List α):atI (x0::x1::x2::x3::x4::x5::xs) 5=some x5:=yo (j:=5) rfl
theorem aeu {α:Type} (x0 x1 x2 x3 x4 x5 x6:α) (xs:List α):atI (x0::x1::x2::x3::x4::x5::x6::xs) 6=some x6:=yo (j:=6) rfl
theorem aev {α:Type} (x0 x1 x2 x3 x4 x5 x6 x7:α) (xs:List α):atI (x0::x1::x2::x3::x4::x5::x6::x7::xs) 7=some x7:=yo (j:=7) rfl
theorem x10:ixN 1 0=some 0:=rfl
theorem x20:ixN 2 0=some 0:=rfl
theorem x21:ixN 2 1=some 1:=rfl
theorem x30:ixN 3 0=some 0:=rfl
theorem x31:ixN 3 1=some 1:=rfl
theorem x32:ixN 3 2=some 2:=rfl
theorem x40:ixN 4 0=some 0:=rfl
theorem x41:ixN 4 1=some 1:=rfl
theorem x42:ixN 4 2=some 2:=rfl
theorem x43:ixN 4 3=some 3:=rfl
theorem x50:ixN 5 0=some 0:=rfl
theorem x51:ixN 5 1=some 1:=rfl
theorem x52:ixN 5 2=some 2:=rfl
theorem x53:ixN 5 3=some 3:=rfl
theorem x54:ixN 5 4=some 4:=rfl
theorem x60:ixN 6 0=some 0:=rfl
theorem x61:ixN 6 1=some 1:=rfl
theorem x62:ixN 6 2=some 2:=rfl
theorem x63:ixN 6 3=some 3:=rfl
theorem x64:ixN 6 4=some 4:=rfl
theorem x65:ixN 6 5=some 5:=rfl
theorem x70:ixN 7 0=some 0:=rfl
theorem x71:ixN 7 1=some 1:=rfl
theorem x72:ixN 7 2=some 2:=rfl
theorem x73:ixN 7 3=some 3:=rfl
theorem x74:ixN 7 4=some 4:=rfl
theorem x75:ixN 7 5=some 5:=rfl
theorem x76:ixN 7 6=some 6:=rfl
def am5 (x:Int):Int:=if x<0 then -x else x
theorem aew (x:Int) (h:MI.Hd):MI.ass [.int x] h = .ok (.int (am5 x)) h:=rfl
theorem p18 (h:MI.Hd):MI.agc (.int 10) (.int 18) h = .ok (.int 1000000000000000000) h:=by rw [MI.agc,if_pos (by decide)];rfl
theorem ax1 {i j:Int} {h:MI.Hd} (c:0≤j∧j≤1000000∧i.natAbs<2 ^ 64):MI.agc (.int i) (.int j) h = .ok (.int (i ^ j.toNat)) h:=by rw [MI.agc,if_pos c]
end AT
namespace MI
open PySem PySem.Spec L2 SeqAt
end MI
namespace L2
open PySem PySem.Spec
section
variable {X:Cx}
theorem adk:∀ {ts:List String} {us:List Value},Vals (ts.map V.ty) us→us=ts.map Value.type
 | [],_,r=>by cases r;rfl
 | t::ts,us,r=>by
  cases r with
  | cons r rs =>
   rw [List.map_cons,← adk rs]
   congr 1
theorem aaz:CallR X (.builtin "isinstance") (fun xs H Q=>∃ x tp t b,∃ ts:List String,xs=[x, .ref tp]∧H tp=some (.tup (ts.map V.ty))∧TyOf X.K H x (.type t)∧PySem.W.kitAny X.K (.type t) (ts.map Value.type)=some b∧Q (.bl b) H):=by
 intro pins s σ H xs us Q I r h
 obtain ⟨x,tp,t,b,ts,rfl,et,ty,e,q⟩:=h
 obtain ⟨u,w',rfl,rx,rt⟩:=vals2 r
 obtain rfl:w'=Value.ref tp:=rt
 obtain ⟨_,its,vr,o',h1,h2,n,h3⟩:=(show ObjOk X.prog X.w H s.heap tp (.tup (ts.map V.ty)) from I.hok tp _ et)
 obtain rfl:=adk vr
 have htp:s.heap.get? tp=some ⟨.type "tuple",o'.dict, .seq (ts.map Value.type).toArray n,o'.slots⟩:=by
  rw [h1]
  obtain ⟨c,dd,dt,sl⟩:=o'
  simp only at h2 h3
  rw [h2,h3]
 have fin:∀ tk,∃ y H',Inv X pins σ H' { s with toks:=tk }∧RelV y (Value.bool b)∧Q y H':=fun tk=>⟨.bl b,H,I.tok tk,rfl,q⟩
 cases ty with
 | non=>cases (show u=Value.none from rx);exact PySem.W.kia_tup PySem.W.kitx_none I.kIn True.intro htp e (fun z=>nomatch z) fin
 | bl y=>cases (show u=Value.bool y from rx);exact PySem.W.kia_tup PySem.W.kitx_bool I.kIn True.intro htp e (fun z=>nomatch z) fin
 | int i=>obtain ⟨t,q⟩:=(show ∃ t,u=Value.int i t from rx);cases q;exact PySem.W.kia_tup PySem.W.kitx_int I.kIn True.intro htp e (fun z=>nomatch z) fin
 | str y=>obtain ⟨t,q⟩:=(show ∃ t,u=Value.str y t from rx);cases q;exact PySem.W.kia_tup PySem.W.kitx_str I.kIn True.intro htp e (fun z=>nomatch z) fin
 | flt y=>obtain ⟨t,q⟩:=(show ∃ t,u=Value.float y t from rx);cases q;exact PySem.W.kia_tup PySem.W.kitx_float I.kIn True.intro htp e (fun z=>nomatch z) fin
 | @lst a xs ea =>
  cases (show u=Value.ref a from rx)
  obtain ⟨_,_,n,_,h1⟩:=(show ObjOk X.prog X.w H s.heap a (.lst xs) from I.hok a _ ea)
  exact PySem.W.kia_tup PySem.W.kitx_list I.kIn ⟨_,h1,rfl⟩ htp e (fun z=>nomatch z) fin
 | @frz a ob xs ea =>
  cases (show u=Value.ref a from rx)
  obtain ⟨_,_,_,n,_,h1⟩:=(show ObjOk X.prog X.w H s.heap a (.frz ob (.lst xs)) from I.hok a _ ea)
  exact PySem.W.kia_tup PySem.W.kitx_list I.kIn ⟨_,h1,rfl⟩ htp e (fun z=>nomatch z) fin
 | @tup a xs ea =>
  cases (show u=Value.ref a from rx)
  obtain ⟨_,_,_,p⟩:=(show ObjOk X.prog X.w H s.heap a (.tup xs) from I.hok a _ ea)
  obtain ⟨o,h1,h2,_⟩:=p
  exact PySem.W.kia_tup PySem.W.kitx_tuple I.kIn ⟨o,h1,h2⟩ htp e (fun z=>nomatch z) fin
 | @dK a kvs ea =>
  cases (show u=Value.ref a from rx)
  obtain ⟨_,_,vs,_,p⟩:=(show ObjOk X.prog X.w H s.heap a (.dK kvs) from I.hok a _ ea)
  obtain ⟨o,es,ep,h1,h2,_⟩:=p
  exact PySem.W.kia_tup PySem.W.kitx_dict I.kIn ⟨o,h1,h2.1⟩ htp e (fun z=>nomatch z) fin
 | @dT a kvs ea =>
  cases (show u=Value.ref a from rx)
  obtain ⟨_,_,xs,_,o,es,ep,h1,h2,_⟩:=(show ObjOk X.prog X.w H s.heap a (.dT kvs) from I.hok a _ ea)
  exact PySem.W.kia_tup PySem.W.kitx_dict I.kIn ⟨o,h1,h2.1⟩ htp e (fun z=>nomatch z) fin
end
end L2
namespace MI
open PySem PySem.Spec L2
section
variable {K:PySem.W.Frag}
def akg:List D→Option (List String)
 | []=>some []
 | .ty t::r=>(akg r).map (t::·)
 | _=>none
def a6v (t:String):List String→Option Bool
 | []=>some false
 | T::r=>match a80 t T with | some true=>some true | some false=>a6v t r | none=>none
theorem ab0 {t:String}:∀ {ts:List String} {b:Bool},a6v t ts=some b→PySem.W.kitAny K (.type t) (ts.map Value.type)=some b
 | [],b,e=>e
 | T::ts,b,e=>by
  unfold a6v at e
  show (match PySem.W.kitOne K (.type t) (.type T) with | some true=>some true | some false=>PySem.W.kitAny K (.type t) (ts.map Value.type) | none=>none)=some b
  cases h:a80 t T with
  | none=>rw [h] at e;cases e
  | some c =>
   rw [h] at e
   rw [abu h]
   cases c
   ·exact ab0 e
   ·exact e
theorem aha {ι:List Addr} {H:Hp}:∀ {vs:List V} {xs:List D} {ts:List String},Reps K ι H vs xs→akg xs=some ts→vs=ts.map V.ty
 | _,[],ts,r,e=>by cases r;cases e;rfl
 | _,x::xs,ts,r,e=>by
  cases r with
  | cons r rs =>
   cases r with
   | ty t =>
    unfold akg at e
    cases h:akg xs with
    | none=>rw [h] at e;cases e
    | some us=>rw [h] at e;cases e;rw [aha rs h];rfl
   | _=>unfold akg at e;cases e
def a9a:List D→Hd→R D
 | [d, .tup xs],h=>(match akg xs,tyD d h with | some ts,some t=>(match a6v t ts with | some b=>.ok (.bl b) h | none=>.no) | _,_=>.no)
 | _,_=>.no
theorem akh:acs K a9a (fun xs H Q=>∃ x tp t b,∃ ts:List String,xs=[x, .ref tp]∧H tp=some (.tup (ts.map V.ty))∧TyOf K H x (.type t)∧PySem.W.kitAny K (.type t) (ts.map Value.type)=some b∧Q (.bl b) H):=by
 intro E ι H h xs ds Q r hr o
 unfold a9a at o
 split at o
 ·rename_i d xs
  cases r with
  | cons r rs =>
   cases rs with
   | cons q rs =>
    cases rs
    cases q with
    | @tup p vs _ hp qs =>
     split at o
     ·rename_i ts t e1 e2
      split at o
      ·rename_i b e3
       exact ⟨_,p,t,b,ts,rfl,by rw [hp,aha qs e1],alu r hr e2,ab0 e3,ans o (.bl _) hr⟩
      ·exact o.elim
     ·exact o.elim
 ·exact o.elim
end
end MI
namespace TPM
open PySem PySem.Spec PySem.W L2 HT MI
theorem aex (t:Addr) (items:Array Value) (n:Nat) (dd:Option Addr) (sl:Array (Option Value)) (u:Tok) :
  Meets (Builtin.«tuple.__mul__» ⟨[.ref t, .int 1 u],[]⟩) (fun _ R s=>s.heap.get? t=some { cls:=.type "tuple",dict:=dd,data:=.seq items n,slots:=sl }∧R (.ok (.ret (.ref t))) s) :=
 .of_wp fun prog w A R s h=>by
  obtain ⟨hp,g,d,tk,os⟩:=s;obtain ⟨hl,h⟩:=h
  wp_walk
  exact ⟨_,rfl,h⟩
def atk (K:PySem.W.Frag):R2:=fun x y H Q=>∃ a xs,x = .ref a∧y = .int 1∧SqT K H a xs∧Q (.ref a) H
theorem ap5 {X:Cx}:OpR X (binaryOp .Mult) (atk X.K):=by
 intro pins s σ H x y v u Q I rx ry h
 obtain ⟨a,xs,rfl,rfl,ha,q⟩:=h
 cases rx
 obtain ⟨t,rfl⟩:=ry
 obtain ⟨its,r1,p1,_⟩:=I.tuple ha
 obtain ⟨⟨cls,dd,data,sl⟩,ho,hc,n,hd⟩:=id p1
 simp only at hc hd
 subst hc hd
 exact wpAny_binaryOp_repeat_ref (T := "tuple") (U := "int") (by decide) ⟨_,ho,rfl⟩ (fun s'=>typeIs_int s' 1 t) a1s F.fills_int_mul F.slot_int_rmul aas F.slot_int_index.lookup
  (call_meets F.slot_int_rmul (typeIs_int s 1 t) F.entry_int_rmul (F.args_int_rmul_2 _ _) (a5u 1 t a its.toArray n dd sl)
   ⟨ho,rfl,⟨_,ho,rfl⟩,call_meets F.slot_tuple_mul ⟨_,ho,rfl⟩ F.entry_tuple_mul (F.args_tuple_mul_2 _ _) (aex a its.toArray n dd sl t) ⟨ho, .ref a,H,I,rfl,q⟩⟩)
end TPM
namespace MI
open PySem PySem.Spec L2 TPM
noncomputable def a0v (x y:D) (h:Hd):R D:=match x,y with
 | .tup xs, .int k=>if k=1 then .ok (.tup xs) h else agv (.tup xs) (.int k) h
 | x,y=>agv x y h
theorem aki {K:PySem.W.Frag}:a2n K a0v (fun x y H Q=>((rI CMul (fun i j=>.int (i*j)) x y H Q∨avk x y H Q)∨aol K x y H Q)∨atk K x y H Q):=by
 intro E ι H h x y dx dy Q rx ry hr o
 cases rx with
 | @tup a vs xs ha rs =>
  cases ry with
  | int k =>
   simp only [a0v] at o
   split at o
   ·rename_i hc
    subst hc
    exact .inr ⟨a,vs,rfl,rfl,SqT.of ha,ans o (.tup ha rs) hr⟩
   ·exact .inl (a90 _ _ _ _ _ _ _ _ _ (.tup ha rs) (.int k) hr o)
  | _=>exact o.elim
 | int i=>exact .inl (a90 _ _ _ _ _ _ _ _ _ (.int i) ry hr o)
 | ref e=>exact .inl (a90 _ _ _ _ _ _ _ _ _ (.ref e) ry hr o)
 | _=>exact o.elim
theorem a2i {X:Cx} {E:XD} {a b:Expr} {fa fb:SE} {pos:Pos} (ha:ME X E a fa) (hb:ME X E b fb):ME X E (.BinOp a .Mult b pos) (s2 a0v fa fb):=abq (((alc.or aru).or aom).or ap5) aki ha hb
theorem aqe {xs:List D} {k:Nat} {h:Hd} (ne:xs≠[]) (k1:1≤k) (k2:k≤1000) (xl:xs.length≤1000):a0v (.tup xs) (.int (k:Nat)) h = .ok (.tup (List.replicate k xs).flatten) h:=by
 unfold a0v
 dsimp only
 by_cases e:(k:Int)=1
 ·rw [if_pos e]
  have:k=1:=by omega
  subst this
  simp
 ·rw [if_neg e]
  unfold agv
  dsimp only
  have hl:xs.length*(k:Int).toNat≤LINE:=by
   rw [Int.toNat_natCast]
   have:xs.length*k≤1000*1000:=Nat.mul_le_mul xl k2
   show xs.length*k≤16777216
   omega
  exact (if_pos ⟨⟨ne,by omega,by omega⟩,hl⟩).trans (by rw [Int.toNat_natCast])
end MI
namespace MI
open PySem PySem.Spec L2
section
variable {env:Env} {es xs ys:List Expr} {a b:Expr} {pos:Pos}
theorem au {c} {k}:starEach (.Constant c k pos::es) env=(false,eval (.Constant c k pos) env)::starEach es env:=rfl
theorem a6w:starEach (.List xs pos::es) env=(false,eval (.List xs pos) env)::starEach es env:=rfl
theorem cj {k}:starEach (.Tuple xs k pos::es) env=(false,eval (.Tuple xs k pos) env)::starEach es env:=rfl
theorem a2j {o}:starEach (.UnaryOp o a pos::es) env=(false,eval (.UnaryOp o a pos) env)::starEach es env:=rfl
theorem jy {o}:starEach (.BinOp a o b pos::es) env=(false,eval (.BinOp a o b pos) env)::starEach es env:=rfl
theorem ahb {ks}:starEach (.Dict ks ys pos::es) env=(false,eval (.Dict ks ys pos) env)::starEach es env:=rfl
theorem du {ks}:starEach (.Call a xs ks pos::es) env=(false,eval (.Call a xs ks pos) env)::starEach es env:=rfl
theorem ak {x}:starEach (.Name x pos::es) env=(false,eval (.Name x pos) env)::starEach es env:=rfl
end
end MI
namespace MI
open PySem PySem.Spec L2
section
variable {env:Env} {es xs ys:List Expr} {a b:Expr} {pos:Pos}
theorem jq:starEach (.Subscript a b pos::es) env=(false,eval (.Subscript a b pos) env)::starEach es env:=rfl
end
end MI
namespace K67
open PySem PySem.Spec L2 MI
def a2k:Str→Option Bool:=fun c=>if c = "NoModes" then some true else none
def a6x:Str→Option Bool:=fun c=>if c = "NoModes" then some true else none
def dz:Str→Option Bool:=fun c=>if c = "NoModes" then some false else none
def a1o:Str→Bool:=fun c=>decide (c = "NoModes")
noncomputable def yw:SS :=
 (ud (v9 (sA p7 (aj (sV 0) (aj (sC (.ty "int")) bj))) (a5x (sA p7 (aj (sV 0) (aj (sC (.ty "bool")) bj))))))
noncomputable def qp (qe:SF):SS :=
 (ud (v9 (sA (jo false 1 qe) (aj (sV 0) bj)) (sCh gLe gLe (sV 1) (sV 0) (sV 2))))
noncomputable def a2q:SS :=
 (ud (v9 (sA p7 (aj (sV 0) (aj (sC (.ty "tuple")) bj))) (sCh gLe gLe (sV 1) (sA um (aj (sV 0) bj)) (sV 2))))
noncomputable def a1h:SS :=
 (jd (sIf (sOr (a0b (a0n (sA p7 (aj (sV 0) (aj (sC (.ty "str")) bj))))) (sT (s2 hNe (sA um (aj (sV 0) bj)) (sC (.int 1)))))
 aei
 sNx)
 (jd (sIf (sT (s2 hEq (sV 0) (sC (.str "\n"))))
 (ud (sC (.bl true)))
 sNx)
 (ud (v9 (sCh gLe gLe (sC (.str " ")) (sV 0) (sC (.str "~"))) (s2 hNe (sA aqa (aj (sV 0) bj)) (sC (.int 37)))))))
noncomputable def qx (oh:SF):SE :=
 (sA (jo false 1 oh) (aj (sV 0) bj))
noncomputable def p8 (oh:SF):SS :=
 (jd (sIf (sOr (a0b (a0n (sA p7 (aj (sV 0) (aj (sC (.ty "str")) bj))))) (a0b (sT (sCh gLe gLe (sC (.int 1)) (sA um (aj (sV 0) bj)) (sC (.int 6))))))
 (ud (sC (.bl false)))
 sNx)
 (ud (v9 (s2 hEq (s1 a2d (sV 0)) (sA um (aj (sV 0) bj))) (sA aaj (aj (sZ (uy (sIt (sV 0)) t1 (qx oh) [])) bj)))))
noncomputable def yx (jb:SF):SS :=
 (ud (sA (jo false 1 jb) (aj (sV 0) bj)))
noncomputable def a02 (jj:SF) (g8:SF) (ut:SF) (bx:SF) (jk:SF):SE :=
 (sA (jo false 3 ut) (aj (sV 0) (aj (sA um (aj (sV 1) bj)) (aj (sA um (aj (sV 2) bj)) bj))))
noncomputable def nq (jj:SF) (g8:SF) (ut:SF) (bx:SF) (jk:SF):SS :=
 (jd (sIf (a0b (a0n (sA (jo false 3 bx) (aj (sV 0) (aj (sC (.int 3)) (aj (sC (.int 3)) bj))))))
 aei
 sNx)
 (jd (a8p (sV 0) (a7w 3 (ue (kN 1) (ue (kN 2) (ue (kN 3) a8o)))))
 (jd (sIf (sOr (a0b (a0n (sA (jo false 1 jk) (aj (sV 1) bj)))) (a0b (a0n (sA (jo false 3 bx) (aj (sV 2) (aj (sC (.int 1)) (aj (sC (.int 32)) bj)))))))
 (ud (sC (.bl false)))
 sNx)
 (jd (sIf (a0b (a0n (sA aaj (aj (sZ (uy (sIt (sV 2)) t1 (a02 jj g8 ut bx jk) [1,2])) bj))))
 (ud (sC (.bl false)))
 sNx)
 (ud (v9 (sA (jo false 2 jj) (aj (sV 3) (aj (sA um (aj (sV 2) bj)) bj))) (sA (jo false 1 g8) (aj (sV 2) bj))))))))
noncomputable def a5c (bu:SF) (bx:SF):SE :=
 (sA (jo false 3 bu) (aj (sV 0) (aj (sC (.int 0)) (aj (s2 a7f (sV 1) (sC (.int 1))) bj))))
noncomputable def a5d (bu:SF) (bx:SF):SS :=
 (ud (v9 (sA (jo false 3 bx) (aj (sV 0) (aj (sV 1) (aj (sV 1) bj)))) (sA aaj (aj (sZ (uy (sIt (sV 0)) t1 (a5c bu bx) [2])) bj))))
noncomputable def zg (bu:SF) (bx:SF):SE :=
 (sA (jo false 3 bu) (aj (sV 0) (aj (s1 a4r (sC (.int 1))) (aj (sC (.int 5)) bj))))
noncomputable def yz (bu:SF) (bx:SF):SS :=
 (jd (sIf (a0b (a0n (sA (jo false 3 bx) (aj (sV 0) (aj (sV 1) (aj (sV 1) bj))))))
 (ud (sC (.bl false)))
 sNx)
 (ud (v9 (sA aaj (aj (sZ (uy (sIt (sV 0)) t1 (zg bu bx) [])) bj)) (s2 hEq (s2 gIx (sV 0) (sC (.int 0))) (s1 a4r (sC (.int 1)))))))
noncomputable def rz (km:SF):SS :=
 (ud (s2 hEq (sA um (aj (sA (jo false 1 km) (aj (sV 0) bj)) bj)) (sA um (aj (sV 0) bj))))
noncomputable def sr:SS :=
 (sIf (sT (s2 (atb true) (sV 5) (sV 2)))
 (jd (a6t (sC (.bl true)) (sV 2) (sV 5))
 (a0o (sML a8r (sV 1) (aj (sV 5) bj))))
 sNx)
noncomputable def vo:ST :=
 (sT (s2 gLt (sV 3) (sA um (aj (sV 1) bj))))
noncomputable def u6:SS :=
 (jd (o7 4 (s2 gIx (sV 0) (s2 gIx (sV 1) (sV 3))))
 (jd (abr (sIt (sV 4)) (kN 5) sr)
 (af7 3 aal (sC (.int 1)))))
noncomputable def ur:SS :=
 (jd (o7 1 (sA a0d (aj (sC (.int 0)) bj)))
 (jd (o7 2 (s2 gD1 (sC (.int 0)) (sC (.bl true))))
 (jd (o7 3 (sC (.int 0)))
 (jd (sWh vo u6 100000)
 (ud (sV 1))))))
noncomputable def a0k (bu:SF) (bx:SF):SS :=
 (jd (sIf (sOr (a0b (a0n (sA (jo false 3 bx) (aj (sV 0) (aj (sC (.int 1)) (aj (sC (.int 2)) bj)))))) (a0b (a0n (sA p7 (aj (s2 gIx (sV 0) (sC (.int 0))) (aj (sC (.ty "str")) bj))))))
 (ud (sC (.bl false)))
 sNx)
 (jd (sIf (sT (s2 hEq (sA um (aj (sV 0) bj)) (sC (.int 1))))
 (ud (s2 (gIn false) (s2 gIx (sV 0) (sC (.int 0))) (sA kh (aj (sC (.str "stay")) (aj (sC (.str "shut")) bj)))))
 sNx)
 (ud (v9 (s2 (gIn false) (s2 gIx (sV 0) (sC (.int 0))) (sA kh (aj (sC (.str "open")) (aj (sC (.str "turn")) bj)))) (sA (jo false 3 bu) (aj (s2 gIx (sV 0) (sC (.int 1))) (aj (sC (.int 0)) (aj (s2 a7f (sV 1) (sC (.int 1))) bj))))))))
noncomputable def xf (v8:SF) (bx:SF):SE :=
 (sA (jo false 3 v8) (aj (sV 1) (aj (sV 0) (aj (sA um (aj (sV 2) bj)) bj))))
noncomputable def wu (v8:SF) (bx:SF):SS :=
 (jd (sIf (sOr (a0b (a0n (sA (jo false 3 bx) (aj (sV 0) (aj (sC (.int 2)) (aj (sC (.int 2)) bj)))))) (a0b (a0n (sA (jo false 3 bx) (aj (s2 gIx (sV 0) (sC (.int 1))) (aj (sC (.int 1)) (aj (sC (.int 4)) bj)))))))
 (a86 "NoModes" (aj (sC (.str "no machine")) bj))
 sNx)
 (jd (a8p (sV 0) (a7w 2 (ue (kN 1) (ue (kN 2) a8o))))
 (jd (sIf (a0b (a0n (sA aaj (aj (sZ (uy (sIt (sV 2)) t1 (xf v8 bx) [1,2])) bj))))
 (a86 "NoModes" (aj (sC (.str "no machine")) bj))
 sNx)
 (ud (sV 0)))))
noncomputable def a2l (v7:SF) (bx:SF) (kj:SF):SE :=
 (sA (jo false 2 v7) (aj (sV 0) (aj (sV 1) bj)))
noncomputable def a0l (v7:SF) (bx:SF) (kj:SF):SS :=
 (jd (sIf (a0b (a0n (sA (jo false 3 bx) (aj (sV 1) (aj (sC (.int 3)) (aj (sC (.int 3)) bj))))))
 (ud (sC (.bl false)))
 sNx)
 (jd (a8p (sV 1) (a7w 3 (ue (kN 3) (ue (kN 4) (ue (kN 5) a8o)))))
 (jd (sIf (sOr (a0b (a0n (sA (jo false 1 kj) (aj (sA kh (aj (sV 0) (aj (sV 3) (aj (sV 4) bj)))) bj)))) (a0b (a0n (sA (jo false 3 bx) (aj (sV 5) (aj (sC (.int 0)) (aj (sC (.int 6)) bj)))))))
 (ud (sC (.bl false)))
 sNx)
 (ud (v9 (s2 gGt (sA um (aj (sV 5) bj)) (sA aaw (aj (sV 4) bj))) (sA aaj (aj (sZ (uy (sIt (sV 5)) t1 (a2l v7 bx kj) [2])) bj)))))))
noncomputable def a1p (fu:SF):SS :=
 (sIf (a0b (a0n (sA (jo false 2 fu) (aj (sV 2) (aj (sV 3) bj)))))
 aei
 sNx)
noncomputable def za (fu:SF):SS :=
 (jd (sIf (a0n (sA a9a (aj (sV 1) (aj (sA kh (aj (sC (.ty "list")) (aj (sC (.ty "tuple")) bj))) bj))))
 (jd (sIf (sOr (sT (s2 hNe (sA p7 (aj (sV 1) (aj (sC (.ty "list")) bj))) (sA p7 (aj (sV 0) (aj (sC (.ty "list")) bj))))) (sT (s2 hNe (sA p7 (aj (sV 1) (aj (sC (.ty "tuple")) bj))) (sA p7 (aj (sV 0) (aj (sC (.ty "tuple")) bj))))))
 aei
 sNx)
 (jd (sIf (sT (s2 hNe (sA um (aj (sV 0) bj)) (sA um (aj (sV 1) bj))))
 aei
 sNx)
 (jd (abr (aoe (sV 0) (sV 1)) (a7w 2 (ue (kN 2) (ue (kN 3) a8o))) (a1p fu))
 (ud (sC (.bl true))))))
 sNx)
 (jd (sIf (sT (s2 gIs (sV 1) (sC .non)))
 aei
 sNx)
 (jd (sIf (a0n (sA p7 (aj (sV 1) (aj (sC (.ty "str")) bj))))
 (ud (v9 (sA p7 (aj (sV 0) (aj (sC (.ty "str")) bj))) (s2 hEq (sV 0) (sV 1))))
 sNx)
 (ud (v9 (sA p7 (aj (sV 0) (aj (sC (.ty "int")) bj))) (v9 (a5x (sA p7 (aj (sV 0) (aj (sC (.ty "bool")) bj)))) (s2 hEq (sV 0) (sV 1))))))))
noncomputable def a4f:SS :=
 (ud (s2 j8 (s2 j8 (a0h (sV 0) oN (oS (sV 1))) (sA kh (aj (sV 2) bj))) (a0h (sV 0) (oS (s2 j8 (sV 1) (sC (.int 1)))) oN)))
noncomputable def yc (jc:SF) (az:SF):SS :=
 (jd (o7 2 (sA (jo false 2 az) (aj (sV 0) (aj (sA um (aj (sV 1) bj)) bj))))
 (jd (o7 3 (s2 gIx (sV 1) (sV 2)))
 (jd (o7 4 (sA (jo false 2 az) (aj (sV 0) (aj (sA um (aj (sV 3) bj)) bj))))
 (jd (o7 5 (s2 gIx (sZ (sA a0d (aj (sA um (aj (sV 1) bj)) (aj (s1 a4r (sC (.int 1))) (aj (sC (.bl true)) (aj (sC .non) (aj (sC (.str "0")) (aj (sA kh (aj (sC (.int 0)) bj)) (aj (s2 j8 (sA um (aj (sV 1) bj)) (sC (.int 31))) bj))))))))) (sA (jo false 2 az) (aj (sV 0) (aj (sC (.int 7)) bj)))))
 (jd (o7 6 (sZ (sA a0d (aj (sA (jo false 3 jc) (aj (sV 3) (aj (sV 4) (aj (sV 5) bj)))) (aj (s2 j8 (sV 3) (sA kh (aj (sC (.int 0)) bj))) (aj (a0h (sV 3) oN (oS (s1 a4r (sC (.int 1))))) (aj (sZ (sA a2c (aj (sV 3) bj))) (aj (sC .non) bj))))))))
 (jd (o7 7 (sZ (sA a0d (aj (sZ (sA a2c (aj (sV 1) bj))) (aj (sA kh bj) (aj (sC .non) (aj (a0h (sV 1) oN (oS (s1 a4r (sC (.int 1))))) (aj (s2 j8 (sV 1) (sA kh (aj (a0h (sV 3) oN (oS (s1 a4r (sC (.int 1))))) bj))) (aj (s2 j8 (sV 1) (sA kh (aj (sV 3) bj))) bj)))))))))
 (ud (s2 gIx (sZ (s2 j8 (sV 7) (sZ (s2 a2x (sZ (sA a0d (aj (sA (jo false 3 jc) (aj (sV 1) (aj (sV 2) (aj (s2 gIx (sV 6) (sA (jo false 2 az) (aj (sV 0) (aj (sC (.int 5)) bj)))) bj)))) bj))) (sC (.int 6)))))) (sA (jo false 2 az) (aj (sV 0) (aj (sC (.int 12)) bj)))))))))))
noncomputable def ww (jc:SF) (az:SF):SS :=
 (jd (o7 2 (sA (jo false 2 az) (aj (sV 0) (aj (sA um (aj (sV 1) bj)) bj))))
 (jd (o7 3 (s2 gIx (sZ (sA a0d (aj (sC (.int 6)) (aj (s1 a4r (sC (.int 2))) (aj (sC (.bl true)) (aj (sC .non) (aj (sC (.str "1")) (aj (sC (.int 60)) bj)))))))) (sA (jo false 2 az) (aj (sV 0) (aj (sC (.int 6)) bj)))))
 (jd (o7 4 (sZ (sA a0d (aj (s2 j8 (sV 1) (sA kh (aj (s1 a4r (sC (.int 1))) bj))) (aj (a0h (sV 1) oN (oS (s1 a4r (sC (.int 1))))) (aj (sZ (sA a2c (aj (sV 1) bj))) (aj (sC .non) (aj (sA (jo false 3 jc) (aj (sV 1) (aj (sC (.int 0)) (aj (sC (.int 0)) bj)))) bj))))))))
 (ud (s2 gIx (sZ (s2 j8 (sV 4) (sZ (s2 a2x (sZ (sA a0d (aj (sA (jo false 3 jc) (aj (sV 1) (aj (sV 2) (aj (sV 3) bj)))) bj))) (sC (.int 5)))))) (sA (jo false 2 az) (aj (sV 0) (aj (sC (.int 10)) bj))))))))
noncomputable def uq (az:SF):SS :=
 (jd (o7 4 (sZ (sA a0d (aj (sA kh (aj (sC (.str "open")) (aj (sV 3) bj))) (aj (sA kh (aj (sC (.str "turn")) (aj (sV 3) bj))) (aj (sA kh (aj (sC (.str "open")) (aj (s1 a4r (sC (.int 1))) bj))) (aj (sA kh (aj (sC (.str "turn")) (aj (sC (.bl true)) bj))) (aj (sA kh (aj (sC (.str "open")) bj)) (aj (sA kh (aj (sC (.str "stay")) (aj (sC (.int 0)) bj))) (aj (sA kh (aj (sC (.str "shut")) (aj (sC (.int 0)) bj))) (aj (sC (.str "stay")) bj)))))))))))
 (jd (o7 4 (sZ (s2 j8 (sV 4) (sZ (sA a0d (aj (sZ (sA a0d (aj (sC (.str "stay")) bj))) (aj (sA kh (aj (sC (.str "turn")) (aj (sC .non) bj))) (aj (sA kh (aj (sC (.str "go")) bj)) (aj (sA kh (aj (sC (.str "Open")) (aj (sC (.int 0)) bj))) (aj (sA kh bj) (aj (sC .non) (aj (sA kh (aj (sC (.str "open")) (aj (sC (.int 0)) (aj (sC (.int 0)) bj)))) (aj (sA kh (aj (sC (.str "shut")) (aj (sC .non) bj))) (aj (sA kh (aj (sA kh (aj (sC (.str "stay")) bj)) bj)) bj))))))))))))))
 (jd (o7 5 (s2 gIx (sV 4) (sA (jo false 2 az) (aj (sV 0) (aj (sC (.int 17)) bj)))))
 (jd (o7 6 (sA (jo false 2 az) (aj (sV 0) (aj (sC (.int 6)) bj))))
 (jd (o7 7 (s2 a0v (sA kh (aj (sA kh (aj (sC (.str "stay")) bj)) bj)) (sC (.int 7))))
 (jd (o7 8 (sZ (sA a0d (aj (sZ (sA a2c (aj (sV 1) bj))) (aj (sC .non) (aj (a0h (s2 j8 (sV 1) (sV 7)) oN (oS (sC (.int 7)))) (aj (a0h (s2 j8 (sV 1) (sV 7)) oN (oS (s2 j8 (sC (.int 7)) (sV 6)))) (aj (s2 j8 (s2 j8 (a0h (sV 1) oN (oS (s2 a5q (sV 6) (sC (.int 6))))) (sA kh (aj (sV 5) bj))) (a0h (sV 1) (oS (s2 a5q (sV 6) (sC (.int 6)))) oN)) bj))))))))
 (jd (sIf (sT (s2 gGt (sV 2) (sC (.int 0))))
 (o7 8 (sZ (s2 j8 (sV 8) (sZ (sA a0d (aj (a0h (sV 1) oN (oS (s2 a7f (sV 2) (sC (.int 1))))) (aj (sA kh bj) (aj (s2 a0v (sA kh (aj (sV 5) bj)) (sV 2)) (aj (s2 j8 (a0h (sV 1) oN (oS (s2 a7f (sV 2) (sC (.int 1))))) (sA kh (aj (sV 5) bj))) (aj (s2 j8 (sA kh (aj (sV 5) bj)) (a0h (sV 1) (oS (sC (.int 1))) oN)) bj))))))))))
 sNx)
 (ud (s2 gIx (sV 8) (sA (jo false 2 az) (aj (sV 0) (aj (sA um (aj (sV 8) bj)) bj))))))))))))
noncomputable def a4g (ik:SF) (iy:SF) (ie:SF) (jc:SF) (gq:SF) (az:SF):SE :=
 (sV 0)
noncomputable def a03 (ik:SF) (iy:SF) (ie:SF) (jc:SF) (gq:SF) (az:SF):ST :=
 (sT (s2 (gIn true) (sV 0) (sV 1)))
noncomputable def a2r (ik:SF) (iy:SF) (ie:SF) (jc:SF) (gq:SF) (az:SF):SS :=
 (jd (a8p (sV 1) (a7w 2 (ue (kN 2) (ue (kN 3) a8o))))
 (jd (o7 4 (sA (jo false 2 az) (aj (sV 0) (aj (sC (.int 12)) bj))))
 (jd (o7 5 (sA (jo false 2 az) (aj (sV 0) (aj (sA um (aj (sV 3) bj)) bj))))
 (jd (a8p (s2 gIx (sV 3) (sV 5)) (a7w 3 (ue (kN 6) (ue (kN 7) (ue (kN 8) a8o)))))
 (jd (o7 9 (sZ (a7y (sIt (sA (jo false 0 gq) bj)) t1 (a03 ik iy ie jc gq az) (a4g ik iy ie jc gq az) [2])))
 (jd (sIf (sT (s2 hEq (sV 4) (sC (.int 0))))
 (jd (o7 10 (sZ (sA a0d (aj (s2 j8 (sV 2) (s2 gIx (sV 9) (sC (.int 0)))) (aj (s2 j8 (sV 2) (s2 gIx (sV 2) (sC (.int 0)))) (aj (sC (.str "")) (aj (sZ (sA a2c (aj (sV 2) bj))) (aj (sC .non) (aj (a0h (sV 2) (oS (sC (.int 1))) oN) (aj (s2 j8 (a0h (sV 2) oN (oS (s1 a4r (sC (.int 1))))) (sC (.str "\t"))) bj))))))))))
 (ud (sA kh (aj (s2 gIx (sV 10) (sA (jo false 2 az) (aj (sV 0) (aj (sC (.int 7)) bj)))) (aj (sV 3) bj)))))
 sNx)
 (jd (sIf (sT (s2 hEq (sV 4) (sC (.int 1))))
 (jd (o7 11 (sZ (sA a0d (aj (sA kh (aj (sV 2) (aj (sA kh bj) bj))) (aj (sA kh (aj (sV 2) (aj (sZ (sA a2c (aj (sV 3) bj))) bj))) (aj (sA kh (aj (sV 2) (aj (a0h (s2 a0v (sV 3) (sC (.int 5))) oN (oS (sC (.int 5)))) bj))) (aj (sA kh (aj (sV 2) bj)) (aj (sA kh (aj (sV 2) (aj (sV 3) (aj (sA kh bj) bj)))) bj))))))))
 (ud (s2 gIx (sZ (s2 j8 (sV 11) (sZ (sA a0d (aj (sC .non) (aj (sC (.int 7)) (aj (sZ (sA a0d (aj (sV 2) (aj (sV 3) bj)))) (aj (sZ ajr) (aj (sV 2) (aj (sV 3) (aj (sA kh (aj (sV 3) (aj (sV 2) bj))) bj))))))))))) (sA (jo false 2 az) (aj (sV 0) (aj (sC (.int 12)) bj))))))
 sNx)
 (jd (o7 11 (sZ (sA a0d (aj (sA kh (aj (sV 6) (aj (sV 7) bj))) (aj (sA kh (aj (sV 6) (aj (sV 7) (aj (sV 8) (aj (sA kh bj) bj))))) (aj (sZ (sA a0d (aj (sV 6) (aj (sV 7) (aj (sV 8) bj))))) (aj (sC .non) (aj (sA kh (aj (sV 7) (aj (sV 6) (aj (sV 8) bj)))) bj))))))))
 (jd (o7 12 (s2 gIx (sV 11) (sA (jo false 2 az) (aj (sV 0) (aj (sC (.int 5)) bj)))))
 (jd (sIf (sT (sCh gLt gLt (sC (.int 2)) (sV 4) (sC (.int 6))))
 (o7 12 (sA kh (aj (sA (jo false 2 iy) (aj (sV 0) (aj (sV 6) bj))) (aj (sV 7) (aj (sV 8) bj)))))
 sNx)
 (jd (sIf (sT (sCh gLt gLt (sC (.int 5)) (sV 4) (sC (.int 9))))
 (o7 12 (sA kh (aj (sV 6) (aj (sA (jo false 2 ie) (aj (sV 0) (aj (sV 7) bj))) (aj (sV 8) bj)))))
 sNx)
 (jd (sIf (sT (s2 gGt (sV 4) (sC (.int 8))))
 (o7 12 (sA kh (aj (sV 6) (aj (sV 7) (aj (sA (jo false 4 ik) (aj (sV 0) (aj (sV 8) (aj (s2 j8 (sA aaw (aj (sV 7) bj)) (sC (.int 1))) (aj (sA um (aj (sV 3) bj)) bj))))) bj)))))
 sNx)
 (ud (sA kh (aj (sV 2) (aj (sA (jo false 3 jc) (aj (sV 3) (aj (sV 5) (aj (sV 12) bj)))) bj))))))))))))))))
noncomputable def a04 (d9:SF):SS :=
 (jd (o7 1 (sC (.bl false)))
 (jd (ath 2 a1o
 (a0o (sA (a1u 1 d9) (qA (aj (sV 0) bj))))
 (jd (o7 1 (v9 (akf 2 a6x) (akf 2 a2k)))
 (sIf (a0n (akf 2 dz))
 aei
 sNx)))
 (ud (sV 1))))
noncomputable def a05:SE :=
 (s2 a0v (sA kh (aj (sA a4s (aj (s2 j8 (sV 0) (sC (.int 1))) (aj (s2 a7f (sV 2) (sC (.int 1))) bj))) bj)) (sA um (aj (sV 1) bj)))
noncomputable def a06:SE :=
 (s2 j8 (s1 a4r (sC (.int 1))) (sA aio (aj (s2 gGt (sV 0) (sC (.int 0))) bj)))
noncomputable def a2s:SS :=
 (jd (o7 3 (sA xn (aj (sZ (uy (sRg a2a (aj (sV 1) bj)) t1 a05 [0,1])) bj)))
 (ud (sA kh (aj (sV 3) (aj (sA xn (aj (sZ (uy (sRg a2a (aj (sV 1) bj)) t1 a06 [])) bj)) (aj (sV 2) bj))))))
noncomputable def a9b (uc:SF) (jh:SF) (ph:SF) (my:SF) (v6:SF) (lq:SF) (fu:SF) (gq:SF) (u9:SF) (d9:SF):SS :=
 (jd (o7 3 (sA (jo false 3 u9) (aj (sV 1) (aj (sA (jo false 0 gq) bj) (aj (sC (.int 4)) bj)))))
 (jd (o7 4 (sA (jo false 3 my) (aj (sV 1) (aj (sV 3) (aj (sC (.int 8)) bj)))))
 (jd (o7 5 (sA (jo false 2 uc) (aj (sV 1) (aj (sV 4) bj))))
 (jd (sIf (sOr (a0b (a0n (sA (jo false 2 fu) (aj (sA (a1u 1 d9) (aj (sV 4) bj)) (aj (sV 4) bj))))) (a0b (a0n (sA (jo false 1 lq) (aj (sV 5) bj)))))
 aei
 sNx)
 (sIf (a0b (a0n (sA (jo false 2 fu) (aj (sA (a1u 1 d9) (aj (sV 4) bj)) (aj (sV 4) bj)))))
 aei
 sNx)))))
noncomputable def akj (uc:SF) (jh:SF) (ph:SF) (my:SF) (v6:SF) (lq:SF) (fu:SF) (gq:SF) (u9:SF) (d9:SF):SS :=
 (jd (o7 1 (sA (jo true 1 v6) (aj (sV 0) bj)))
 (jd (abr (sRg a2a (aj (sC (.int 4)) bj)) (kN 2) (a9b uc jh ph my v6 lq fu gq u9 d9))
 (jd (o7 6 (sA (jo false 3 jh) (aj (sV 1) (aj (sC (.int 6)) (aj (sC (.int 4)) bj)))))
 (jd (o7 7 (sA kh (aj (sV 3) (aj (s2 j8 (s2 a0v (sA kh (aj (sA (jo false 3 ph) (aj (sV 3) (aj (sC (.int 32)) (aj (sV 6) bj)))) bj)) (sC (.int 3))) (sA kh (aj (sA kh (aj (sA kh (aj (s2 a0v (sA kh (aj (sC (.int 0)) bj)) (sA um (aj (sV 3) bj))) bj)) (aj (sA kh (aj (s1 a4r (sC (.int 1))) bj)) (aj (sA kh bj) bj)))) bj))) bj))))
 (jd (o7 8 (sA kh (aj (sV 3) (aj (sA kh (aj (sA (jo false 3 ph) (aj (sV 3) (aj (sC (.int 33)) (aj (sA kh (aj (sA kh (aj (sC (.str "stay")) bj)) bj)) bj)))) bj)) bj))))
 (jd (sIf (sOr (a0b (a0n (sA (jo false 2 fu) (aj (sA (a1u 1 d9) (aj (sV 7) bj)) (aj (sV 7) bj))))) (a0b (a0n (sA (jo false 1 lq) (aj (sV 8) bj)))))
 aei
 sNx)
 (jd (o7 9 (sA kh (aj (sA kh (aj (s2 j8 (sA kh (aj (s2 a0v (sA kh (aj (sC (.int 0)) bj)) (sA um (aj (sV 3) bj))) bj)) (sA kh (aj (s2 a0v (sA kh (aj (sC (.int 1)) bj)) (sA um (aj (sV 3) bj))) bj))) (aj (sA kh (aj (s1 a4r (sC (.int 1))) (aj (s1 a4r (sC (.int 1))) bj))) (aj (sA kh bj) bj)))) bj)))
 (ud (v9 (sA (jo false 1 lq) (aj (sA kh (aj (sV 3) (aj (sV 9) bj))) bj)) (sA (jo false 2 fu) (aj (sA (a1u 1 d9) (aj (sA kh (aj (sV 3) (aj (a0h (s2 gIx (sV 7) (sC (.int 1))) (oS (sC (.int 3))) oN) bj))) bj)) (aj (sA kh (aj (sV 3) (aj (a0h (s2 gIx (sV 7) (sC (.int 1))) (oS (sC (.int 3))) oN) bj))) bj))))))))))))
end K67
namespace K67
open PySem PySem.Spec L2 MI
def top (i:Nat):Stmt:=PySem.Challenge.pw_nearreach_k67_machines_of_anything.main.body.getD i (.Pass ⟨0,0,0,0⟩)
structure Nm (mg:Str→Option Value):Prop where
 ValueError:mg "ValueError" = none
 abs:mg "abs" = none
 all:mg "all" = none
 bool:mg "bool" = none
 int:mg "int" = none
 isinstance:mg "isinstance" = none
 len:mg "len" = none
 list:mg "list" = none
 max:mg "max" = none
 min:mg "min" = none
 ord:mg "ord" = none
 range:mg "range" = none
 set:mg "set" = none
 str:mg "str" = none
 tuple:mg "tuple" = none
 zip:mg "zip" = none
structure Cn (mg:Str→Option Value):Prop where
 LAST_KIND:∃ t,mg "LAST_KIND" = some (.int 5 t)
 MOST_DEEDS:∃ t,mg "MOST_DEEDS" = some (.int 6 t)
 MOST_MODES:∃ t,mg "MOST_MODES" = some (.int 4 t)
 MOST_ROOMS:∃ t,mg "MOST_ROOMS" = some (.int 32 t)
structure Xn (K:PySem.W.Frag) (mg:Str→Option Value) (y_NoModes y_ReachError y_Closed y_NoBook y_NoPlace y_NoTable y_NoText y_TooHeavy y_TooMany y_Unlike:Addr):Prop where
 g_NoModes:mg "NoModes" = some (.ref y_NoModes)
 g_ReachError:mg "ReachError" = some (.ref y_ReachError)
 g_Closed:mg "Closed" = some (.ref y_Closed)
 g_NoBook:mg "NoBook" = some (.ref y_NoBook)
 g_NoPlace:mg "NoPlace" = some (.ref y_NoPlace)
 g_NoTable:mg "NoTable" = some (.ref y_NoTable)
 g_NoText:mg "NoText" = some (.ref y_NoText)
 g_TooHeavy:mg "TooHeavy" = some (.ref y_TooHeavy)
 g_TooMany:mg "TooMany" = some (.ref y_TooMany)
 g_Unlike:mg "Unlike" = some (.ref y_Unlike)
 n_NoModes:PySem.W.nsIn K mainGlobals "NoModes" = some (some (.ref y_NoModes))
 c_NoModes:XCls K y_NoModes
 k_NoModes:XKit K y_NoModes
 e_NoModes_ReachError:PySem.W.exmOne K (.ref y_NoModes) (.ref y_ReachError)=some true
 i_NoModes_ValueError:PySem.W.kitOne K (.ref y_NoModes) (.type "ValueError")=some true
 i_NoModes_NoModes:PySem.W.kitOne K (.ref y_NoModes) (.ref y_NoModes)=some true
 i_NoModes_Closed_NoBook_NoPlace_NoTable_NoText_TooHeavy_TooMany_Unlike:PySem.W.kitAny K (.ref y_NoModes) [.ref y_Closed, .ref y_NoBook, .ref y_NoPlace, .ref y_NoTable, .ref y_NoText, .ref y_TooHeavy, .ref y_TooMany, .ref y_Unlike]=some false
section
variable {K:PySem.W.Frag} {mg:Str→Option Value} {y_NoModes y_ReachError y_Closed y_NoBook y_NoPlace y_NoTable y_NoText y_TooHeavy y_TooMany y_Unlike:Addr}
theorem a7l (Z:Xn K mg y_NoModes y_ReachError y_Closed y_NoBook y_NoPlace y_NoTable y_NoText y_TooHeavy y_TooMany y_Unlike):∀ c,a1o c=true→∃ C,mg c=some (.ref C)∧PySem.W.nsIn K mainGlobals c=some (some (.ref C))∧PySem.W.exmOne K (.ref C) (.ref y_ReachError)=some true:=by
 intro c h
 simp only [a1o,Bool.or_eq_true,decide_eq_true_eq] at h
 subst h
 ·exact ⟨_,Z.g_NoModes,Z.n_NoModes,Z.e_NoModes_ReachError⟩
theorem a9c (Z:Xn K mg y_NoModes y_ReachError y_Closed y_NoBook y_NoPlace y_NoTable y_NoText y_TooHeavy y_TooMany y_Unlike):∀ c b C,a2k c=some b→PySem.W.nsIn K mainGlobals c=some (some (.ref C))→XKit K C∧PySem.W.kitOne K (.ref C) (.type "ValueError")=some b:=by
 intro c b C h q
 unfold a2k at h
 by_cases e_NoModes:c = "NoModes"
 ·subst e_NoModes;rw [if_pos rfl] at h;cases h;cases Z.n_NoModes.symm.trans q;exact ⟨Z.k_NoModes,Z.i_NoModes_ValueError⟩
 rw [if_neg e_NoModes] at h
 cases h
theorem aey (Z:Xn K mg y_NoModes y_ReachError y_Closed y_NoBook y_NoPlace y_NoTable y_NoText y_TooHeavy y_TooMany y_Unlike):∀ c b C,a6x c=some b→PySem.W.nsIn K mainGlobals c=some (some (.ref C))→XKit K C∧PySem.W.kitOne K (.ref C) (.ref y_NoModes)=some b:=by
 intro c b C h q
 unfold a6x at h
 by_cases e_NoModes:c = "NoModes"
 ·subst e_NoModes;rw [if_pos rfl] at h;cases h;cases Z.n_NoModes.symm.trans q;exact ⟨Z.k_NoModes,Z.i_NoModes_NoModes⟩
 rw [if_neg e_NoModes] at h
 cases h
theorem mq (Z:Xn K mg y_NoModes y_ReachError y_Closed y_NoBook y_NoPlace y_NoTable y_NoText y_TooHeavy y_TooMany y_Unlike):∀ c b C,dz c=some b→PySem.W.nsIn K mainGlobals c=some (some (.ref C))→XKit K C∧PySem.W.kitAny K (.ref C) ([y_Closed,y_NoBook,y_NoPlace,y_NoTable,y_NoText,y_TooHeavy,y_TooMany,y_Unlike].map Value.ref)=some b:=by
 intro c b C h q
 unfold dz at h
 by_cases e_NoModes:c = "NoModes"
 ·subst e_NoModes;rw [if_pos rfl] at h;cases h;cases Z.n_NoModes.symm.trans q;exact ⟨Z.k_NoModes,Z.i_NoModes_Closed_NoBook_NoPlace_NoTable_NoText_TooHeavy_TooMany_Unlike⟩
 rw [if_neg e_NoModes] at h
 cases h
end
section
variable {P:Program} {w:World} {K:PySem.W.Frag} {mg:Str→Option Value} {base:Heap} {f:Addr}
theorem ay3:FnScope ["thing"] ["thing"] (bf (top 1)):=⟨rfl,rfl,rfl,by decide +kernel,rfl,by decide +kernel,by decide +kernel⟩
theorem m_0 {k:Nat} (M:Nm mg) (cdv:Value) (A:Around) (outer:List Env) (s:Shared) (H:Hp) (E:XK) (hr:Room k (A.deeper (PyProof.Rows.envOfC "is_number" (bf (top 1)) s.heap.objs.size f cdv))):MSs (a1k CX0 P w K mg base ["thing"] "is_number" (bf (top 1)) f cdv A outer s H E).nox X0 (j9 (top 1)) (yw) :=
 have SC:=ay3
 (dh (ju (a0c (lw (L2.CallR.or m9 jz) uw rfl M.isinstance iz (aa (bw 0) (aa (a2w rfl M.int acq) ao ak) ak)) (a0q (alm (lw (L2.CallR.or m9 jz) uw rfl M.isinstance iz (aa (bw 0) (aa (a2w rfl M.bool agn) ao ak) ak)))))))
theorem ay4:FnScope ["thing", "low", "high"] ["thing", "low", "high"] (bf (top 2)):=⟨rfl,rfl,rfl,by decide +kernel,rfl,by decide +kernel,by decide +kernel⟩
theorem m_1 {k:Nat} {a_0:Addr} {d_0:FuncData} {k_0:Nat} {F_0:SF} (D_0:Dn P w K mg base k_0 "is_number" ["thing"] (qu K 1 F_0) a_0 d_0) (h_0:k_0≤k) (cdv:Value) (A:Around) (outer:List Env) (s:Shared) (H:Hp) (E:XK) (hr:Room k (A.deeper (PyProof.Rows.envOfC "is_number_from" (bf (top 2)) s.heap.objs.size f cdv))):MSs (a1k CX0 P w K mg base ["thing", "low", "high"] "is_number_from" (bf (top 2)) f cdv A outer s H E).nox X0 (j9 (top 2)) (qp F_0) :=
 have SC:=ay4
 (dh (ju (a0c (bz false D_0 (hr.mono h_0) rfl (aa (bw 0) ao ak)) (a0q (a8m (a9u.or zm) (a9u.or zm) a5s a5s (bw 1) (bw 0) (bw 2))))))
theorem ay5:FnScope ["thing", "low", "high"] ["thing", "low", "high"] (bf (top 3)):=⟨rfl,rfl,rfl,by decide +kernel,rfl,by decide +kernel,by decide +kernel⟩
theorem m_2 {k:Nat} (M:Nm mg) (cdv:Value) (A:Around) (outer:List Env) (s:Shared) (H:Hp) (E:XK) (hr:Room k (A.deeper (PyProof.Rows.envOfC "is_row" (bf (top 3)) s.heap.objs.size f cdv))):MSs (a1k CX0 P w K mg base ["thing", "low", "high"] "is_row" (bf (top 3)) f cdv A outer s H E).nox X0 (j9 (top 3)) (a2q) :=
 have SC:=ay5
 (dh (ju (a0c (lw (L2.CallR.or m9 jz) uw rfl M.isinstance iz (aa (bw 0) (aa (a2w rfl M.tuple xx) ao ak) ak)) (a0q (a8m (a9u.or zm) (a9u.or zm) a5s a5s (bw 1) (lw (L2.CallR.or cu d7) jx rfl M.len o6 (aa (bw 0) ao ak)) (bw 2))))))
theorem ay6:FnScope ["thing"] ["thing"] (bf (top 4)):=⟨rfl,rfl,rfl,by decide +kernel,rfl,by decide +kernel,by decide +kernel⟩
theorem m_3 {k:Nat} (M:Nm mg) (cdv:Value) (A:Around) (outer:List Env) (s:Shared) (H:Hp) (E:XK) (hr:Room k (A.deeper (PyProof.Rows.envOfC "is_sign" (bf (top 4)) s.heap.objs.size f cdv))):MSs (a1k CX0 P w K mg base ["thing"] "is_sign" (bf (top 4)) f cdv A outer s H E).nox X0 (j9 (top 4)) (a1h) :=
 have SC:=ay6
 (bc (ux (PW.pt (a7g (vp (uv (lw (L2.CallR.or m9 jz) uw rfl M.isinstance iz (aa (bw 0) (aa (a2w rfl M.str aaf) ao ak) ak)))) (a3d (qb (aak hr.u) a6p (lw (L2.CallR.or cu d7) jx rfl M.len o6 (aa (bw 0) ao ak)) bh (qt _)))))
 a3f
 jr)
 (bc (ux (qb (a2e hr.u) a0g (bw 0) mj (qt _))
 (dh (ju a3j))
 jr)
 (dh (ju (a0c (a8m (a9u.or zm) (a9u.or zm) a5s a5s mj (bw 0) mj) (a0q (a0a (aak hr.u) a6p (lw aj2 ao7 rfl M.ord as8 (aa (bw 0) ao ak)) bh (qt _))))))))
theorem ay7:FnScope ["thing"] ["thing"] (bf (top 5)):=⟨rfl,rfl,rfl,by decide +kernel,rfl,by decide +kernel,by decide +kernel⟩
theorem m_4 {k:Nat} (M:Nm mg) {a_3:Addr} {d_3:FuncData} {k_3:Nat} {F_3:SF} (D_3:Dn P w K mg base k_3 "is_sign" ["thing"] (qu K 1 F_3) a_3 d_3) (h_3:k_3≤k) (cdv:Value) (A:Around) (outer:List Env) (s:Shared) (H:Hp) (E:XK) (hr:Room k (A.deeper (PyProof.Rows.envOfC "is_unlike_signs" (bf (top 5)) s.heap.objs.size f cdv))):MSs (a1k CX0 P w K mg base ["thing"] "is_unlike_signs" (bf (top 5)) f cdv A outer s H E).nox X0 (j9 (top 5)) (p8 F_3) :=
 have SC:=ay7
 (bc (ux (PW.pt (a7g (vp (uv (lw (L2.CallR.or m9 jz) uw rfl M.isinstance iz (aa (bw 0) (aa (a2w rfl M.str aaf) ao ak) ak)))) (a3d (vp (a8n (a9u.or zm) (a9u.or zm) a5s a5s bh (lw (L2.CallR.or cu d7) jx rfl M.len o6 (aa (bw 0) ao ak)) bh)))))
 (dh (ju a3j))
 jr)
 (dh (ju (a0c (a0a (a2e hr.u) a0g (agl rfl rfl M.len rfl M.set (bw 0)) (lw (L2.CallR.or cu d7) jx rfl M.len o6 (aa (bw 0) ao ak)) (qt _)) (a0q (lw (yp rfl) a4v rfl M.all a7u (aa (zy (a0e rfl (CSc.noFree (ts:=["sign"]) rfl (by decide +kernel) (by decide +kernel) (by decide +kernel)) (a1e (bw 0)) (fun _ _ _ _=>(xu (i:=0) (show (["sign"]:List Str).Nodup by decide +kernel) rfl (Or.inl rfl) (.inr rfl))) a1f (fun _ _ _ _=>(bz false D_3 (hr.mono h_3) rfl (aa (bw 0) ao ak))))) ao)))))))
theorem ay8:FnScope ["thing"] ["thing"] (bf (top 18)):=⟨rfl,rfl,rfl,by decide +kernel,rfl,by decide +kernel,by decide +kernel⟩
theorem m_5 {k:Nat} {a_4:Addr} {d_4:FuncData} {k_4:Nat} {F_4:SF} (D_4:Dn P w K mg base k_4 "is_unlike_signs" ["thing"] (qu K 1 F_4) a_4 d_4) (h_4:k_4≤k) (cdv:Value) (A:Around) (outer:List Env) (s:Shared) (H:Hp) (E:XK) (hr:Room k (A.deeper (PyProof.Rows.envOfC "is_tongue" (bf (top 18)) s.heap.objs.size f cdv))):MSs (a1k CX0 P w K mg base ["thing"] "is_tongue" (bf (top 18)) f cdv A outer s H E).nox X0 (j9 (top 18)) (yx F_4) :=
 have SC:=ay8
 (dh (ju (bz false D_4 (hr.mono h_4) rfl (aa (bw 0) ao ak))))
theorem ay9:FnScope ["thing", "tongue", "goes", "kinds"] ["thing"] (bf (top 22)):=⟨rfl,rfl,rfl,by decide +kernel,rfl,by decide +kernel,by decide +kernel⟩
theorem m_6 {k:Nat} (M:Nm mg) (C:Cn mg) {a_8:Addr} {d_8:FuncData} {k_8:Nat} {F_8:SF} (D_8:Dn P w K mg base k_8 "are_kinds" ["thing", "rooms"] (qu K 2 F_8) a_8 d_8) (h_8:k_8≤k) {a_9:Addr} {d_9:FuncData} {k_9:Nat} {F_9:SF} (D_9:Dn P w K mg base k_9 "is_all_led_to" ["goes"] (qu K 1 F_9) a_9 d_9) (h_9:k_9≤k) {a_7:Addr} {d_7:FuncData} {k_7:Nat} {F_7:SF} (D_7:Dn P w K mg base k_7 "is_go" ["thing", "signs", "rooms"] (qu K 3 F_7) a_7 d_7) (h_7:k_7≤k) {a_2:Addr} {d_2:FuncData} {k_2:Nat} {F_2:SF} (D_2:Dn P w K mg base k_2 "is_row" ["thing", "low", "high"] (qu K 3 F_2) a_2 d_2) (h_2:k_2≤k) {a_5:Addr} {d_5:FuncData} {k_5:Nat} {F_5:SF} (D_5:Dn P w K mg base k_5 "is_tongue" ["thing"] (qu K 1 F_5) a_5 d_5) (h_5:k_5≤k) (cdv:Value) (A:Around) (outer:List Env) (s:Shared) (H:Hp) (E:XK) (hr:Room k (A.deeper (PyProof.Rows.envOfC "is_table" (bf (top 22)) s.heap.objs.size f cdv))):MSs (a1k CX0 P w K mg base ["thing", "tongue", "goes", "kinds"] "is_table" (bf (top 22)) f cdv A outer s H E).nox X0 (j9 (top 22)) (nq F_8 F_9 F_7 F_2 F_5) :=
 have SC:=ay9
 (bc (ux (vp (uv (bz false D_2 (hr.mono h_2) rfl (aa (bw 0) (aa bh (aa bh ao au) au) ak))))
 a3f
 jr)
 (bc (aah (bw 0) (a7x rfl (uh (qj (i:=1) SC.nd rfl (Or.inr rfl)) (uh (qj (i:=2) SC.nd rfl (Or.inr rfl)) (uh (qj (i:=3) SC.nd rfl (Or.inl rfl)) a4q)))))
 (bc (ux (PW.pt (a7g (vp (uv (bz false D_5 (hr.mono h_5) rfl (aa (bw 1) ao ak)))) (a3d (vp (uv (bz false D_2 (hr.mono h_2) rfl (aa (bw 2) (aa bh (aa (a8l rfl C.MOST_ROOMS.choose_spec) ao ak) au) ak)))))))
 (dh (ju a3j))
 jr)
 (bc (ux (vp (uv (lw (yp rfl) a4v rfl M.all a7u (aa (zy (a0e rfl (CSc.of (ts:=["row"]) (fr:=["tongue", "goes"]) (ix:=[1,2]) rfl rfl rfl rfl (by intro p hp;simp only [List.mem_cons,List.not_mem_nil,or_false] at hp;rcases hp with rfl | rfl<;>rfl) rfl rfl rfl rfl) (a1e (bw 2)) (fun _ _ _ _=>(xu (i:=0) (show (["row", "tongue", "goes"]:List Str).Nodup by decide +kernel) rfl (Or.inl rfl) (.inr rfl))) a1f (fun _ _ _ _=>(bz false D_7 (hr.mono h_7) rfl (aa (bw 0) (aa (lw (L2.CallR.or cu d7) jx rfl M.len o6 (aa (bw 1) ao ak)) (aa (lw (L2.CallR.or cu d7) jx rfl M.len o6 (aa (bw 2) ao ak)) ao du) du) ak))))) ao))))
 (dh (ju a3j))
 jr)
 (dh (ju (a0c (bz false D_8 (hr.mono h_8) rfl (aa (bw 3) (aa (lw (L2.CallR.or cu d7) jx rfl M.len o6 (aa (bw 2) ao ak)) ao du) ak)) (a0q (bz false D_9 (hr.mono h_9) rfl (aa (bw 2) ao ak))))))))))
theorem aya:FnScope ["thing", "signs", "rooms"] ["thing", "signs", "rooms"] (bf (top 23)):=⟨rfl,rfl,rfl,by decide +kernel,rfl,by decide +kernel,by decide +kernel⟩
theorem m_7 {k:Nat} (M:Nm mg) {a_1:Addr} {d_1:FuncData} {k_1:Nat} {F_1:SF} (D_1:Dn P w K mg base k_1 "is_number_from" ["thing", "low", "high"] (qu K 3 F_1) a_1 d_1) (h_1:k_1≤k) {a_2:Addr} {d_2:FuncData} {k_2:Nat} {F_2:SF} (D_2:Dn P w K mg base k_2 "is_row" ["thing", "low", "high"] (qu K 3 F_2) a_2 d_2) (h_2:k_2≤k) (cdv:Value) (A:Around) (outer:List Env) (s:Shared) (H:Hp) (E:XK) (hr:Room k (A.deeper (PyProof.Rows.envOfC "is_go" (bf (top 23)) s.heap.objs.size f cdv))):MSs (a1k CX0 P w K mg base ["thing", "signs", "rooms"] "is_go" (bf (top 23)) f cdv A outer s H E).nox X0 (j9 (top 23)) (a5d F_1 F_2) :=
 have SC:=aya
 (dh (ju (a0c (bz false D_2 (hr.mono h_2) rfl (aa (bw 0) (aa (bw 1) (aa (bw 1) ao ak) ak) ak)) (a0q (lw (yp rfl) a4v rfl M.all a7u (aa (zy (a0e rfl (CSc.of (ts:=["room"]) (fr:=["rooms"]) (ix:=[2]) rfl rfl rfl rfl (by intro p hp;cases List.mem_singleton.mp hp;rfl) rfl rfl rfl rfl) (a1e (bw 0)) (fun _ _ _ _=>(xu (i:=0) (show (["room", "rooms"]:List Str).Nodup by decide +kernel) rfl (Or.inl rfl) (.inr rfl))) a1f (fun _ _ _ _=>(bz false D_1 (hr.mono h_1) rfl (aa (bw 0) (aa bh (aa (a6n (bw 1) bh) ao jy) au) ak))))) ao))))))
theorem ayb:FnScope ["thing", "rooms"] ["thing", "rooms"] (bf (top 24)):=⟨rfl,rfl,rfl,by decide +kernel,rfl,by decide +kernel,by decide +kernel⟩
theorem m_8 {k:Nat} (M:Nm mg) (C:Cn mg) {a_1:Addr} {d_1:FuncData} {k_1:Nat} {F_1:SF} (D_1:Dn P w K mg base k_1 "is_number_from" ["thing", "low", "high"] (qu K 3 F_1) a_1 d_1) (h_1:k_1≤k) {a_2:Addr} {d_2:FuncData} {k_2:Nat} {F_2:SF} (D_2:Dn P w K mg base k_2 "is_row" ["thing", "low", "high"] (qu K 3 F_2) a_2 d_2) (h_2:k_2≤k) (cdv:Value) (A:Around) (outer:List Env) (s:Shared) (H:Hp) (E:XK) (hr:Room k (A.deeper (PyProof.Rows.envOfC "are_kinds" (bf (top 24)) s.heap.objs.size f cdv))):MSs (a1k CX0 P w K mg base ["thing", "rooms"] "are_kinds" (bf (top 24)) f cdv A outer s H E).nox X0 (j9 (top 24)) (yz F_1 F_2) :=
 have SC:=ayb
 (bc (ux (vp (uv (bz false D_2 (hr.mono h_2) rfl (aa (bw 0) (aa (bw 1) (aa (bw 1) ao ak) ak) ak))))
 (dh (ju a3j))
 jr)
 (dh (ju (a0c (lw (yp rfl) a4v rfl M.all a7u (aa (zy (a0e rfl (CSc.noFree (ts:=["kind"]) rfl (by decide +kernel) (by decide +kernel) (by decide +kernel)) (a1e (bw 0)) (fun _ _ _ _=>(xu (i:=0) (show (["kind"]:List Str).Nodup by decide +kernel) rfl (Or.inl rfl) (.inr rfl))) a1f (fun _ _ _ _=>(bz false D_1 (hr.mono h_1) rfl (aa (bw 0) (aa (zu bh) (aa (a8l rfl C.LAST_KIND.choose_spec) ao ak) a2j) ak))))) ao)) (a0q (a0a (a2e hr.u) a0g (j7 (bw 0) bh (fun _ _=>rfl)) (zu bh) (qt _)))))))
theorem ayc:FnScope ["goes"] ["goes"] (bf (top 25)):=⟨rfl,rfl,rfl,by decide +kernel,rfl,by decide +kernel,by decide +kernel⟩
theorem m_9 {k:Nat} (M:Nm mg) {a_10:Addr} {d_10:FuncData} {k_10:Nat} {F_10:SF} (D_10:Dn P w K mg base k_10 "rooms_led_to" ["goes"] (qu K 1 F_10) a_10 d_10) (h_10:k_10≤k) (cdv:Value) (A:Around) (outer:List Env) (s:Shared) (H:Hp) (E:XK) (hr:Room k (A.deeper (PyProof.Rows.envOfC "is_all_led_to" (bf (top 25)) s.heap.objs.size f cdv))):MSs (a1k CX0 P w K mg base ["goes"] "is_all_led_to" (bf (top 25)) f cdv A outer s H E).nox X0 (j9 (top 25)) (rz F_10) :=
 have SC:=ayc
 (dh (ju (a0a (a2e hr.u) a0g (lw (L2.CallR.or cu d7) jx rfl M.len o6 (aa (bz false D_10 (hr.mono h_10) rfl (aa (bw 0) ao ak)) ao du)) (lw (L2.CallR.or cu d7) jx rfl M.len o6 (aa (bw 0) ao ak)) (qt _))))
theorem atl:FnScope ["goes", "found", "seen", "looked", "row", "room"] ["goes"] (bf (top 26)):=⟨rfl,rfl,rfl,by decide +kernel,rfl,by decide +kernel,by decide +kernel⟩
theorem az8 {k:Nat} (M:Nm mg) (cdv:Value) (A:Around) (outer:List Env) (s:Shared) (H:Hp) (E:XK) (hr:Room k (A.deeper (PyProof.Rows.envOfC "rooms_led_to" (bf (top 26)) s.heap.objs.size f cdv))):MSs (a1k CX0 P w K mg base ["goes", "found", "seen", "looked", "row", "room"] "rooms_led_to" (bf (top 26)) f cdv A outer s H E).nox X0 (j9 (top 26)) (ur) :=
 have SC:=atl
 (bc (gh (i:=1) SC.nd rfl (Or.inl rfl) (qz (aa bh ao au)))
 (bc (gh (i:=2) SC.nd rfl (Or.inl rfl) (awy bh a3j))
 (bc (gh (i:=3) SC.nd rfl (Or.inl rfl) bh)
 (bc (acw 100000 PassesOwn.never (qb (a9t.or zj) a5r (bw 3) (lw (L2.CallR.or cu d7) jx rfl M.len o6 (aa (bw 1) ao ak)) (qt _)) (bc (gh (i:=4) SC.nd rfl (Or.inl rfl) (j7 (bw 0) (j7 (bw 1) (bw 3) (fun _ _=>rfl)) (fun _ _=>rfl)))
 (bc (a5p PassesOwn.never rfl (a1e (bw 4)) (qj (i:=5) SC.nd rfl (Or.inl rfl)) (dh (ux (qb (ah2 hr.u) aen (bw 5) (bw 2) (by with_unfolding_all rfl))
 (bc (aou hr.u a3j (bw 2) (bw 5))
 (dh (a4p (abv PySem.F.slot_list_append PySem.F.type_list_append a1b a4t (bw 1) (aa (bw 5) ao ak)))))
 jr)))
 (dh (ase (i:=3) SC.nd rfl (Or.inl rfl) (amy.or abg) ajs bh)))))
 (dh (ju (bw 1)))))))
theorem atm:FnScope ["thing", "modes"] ["thing", "modes"] (bf (top 30)):=⟨rfl,rfl,rfl,by decide +kernel,rfl,by decide +kernel,by decide +kernel⟩
theorem az9 {k:Nat} (M:Nm mg) {a_1:Addr} {d_1:FuncData} {k_1:Nat} {F_1:SF} (D_1:Dn P w K mg base k_1 "is_number_from" ["thing", "low", "high"] (qu K 3 F_1) a_1 d_1) (h_1:k_1≤k) {a_2:Addr} {d_2:FuncData} {k_2:Nat} {F_2:SF} (D_2:Dn P w K mg base k_2 "is_row" ["thing", "low", "high"] (qu K 3 F_2) a_2 d_2) (h_2:k_2≤k) (cdv:Value) (A:Around) (outer:List Env) (s:Shared) (H:Hp) (E:XK) (hr:Room k (A.deeper (PyProof.Rows.envOfC "is_deed" (bf (top 30)) s.heap.objs.size f cdv))):MSs (a1k CX0 P w K mg base ["thing", "modes"] "is_deed" (bf (top 30)) f cdv A outer s H E).nox X0 (j9 (top 30)) (a0k F_1 F_2) :=
 have SC:=atm
 (bc (ux (PW.pt (a7g (vp (uv (bz false D_2 (hr.mono h_2) rfl (aa (bw 0) (aa bh (aa bh ao au) au) ak)))) (a3d (vp (uv (lw (L2.CallR.or m9 jz) uw rfl M.isinstance iz (aa (j7 (bw 0) bh (fun _ _=>rfl)) (aa (a2w rfl M.str aaf) ao ak) jq)))))))
 (dh (ju a3j))
 jr)
 (bc (ux (qb (a2e hr.u) a0g (lw (L2.CallR.or cu d7) jx rfl M.len o6 (aa (bw 0) ao ak)) bh (qt _))
 (dh (ju (a0a (ag7.or aa5) agg (j7 (bw 0) bh (fun _ _=>rfl)) (dq (aa mj (aa mj ao au) au)) (by with_unfolding_all rfl))))
 jr)
 (dh (ju (a0c (a0a (ag7.or aa5) agg (j7 (bw 0) bh (fun _ _=>rfl)) (dq (aa mj (aa mj ao au) au)) (by with_unfolding_all rfl)) (a0q (bz false D_1 (hr.mono h_1) rfl (aa (j7 (bw 0) bh (fun _ _=>rfl)) (aa bh (aa (a6n (bw 1) bh) ao jy) au) jq))))))))
theorem atn:FnScope ["thing", "tongue", "modes"] ["thing"] (bf (top 31)):=⟨rfl,rfl,rfl,by decide +kernel,rfl,by decide +kernel,by decide +kernel⟩
theorem aza {k:Nat} (M:Nm mg) (C:Cn mg) {y_NoModes y_ReachError y_Closed y_NoBook y_NoPlace y_NoTable y_NoText y_TooHeavy y_TooMany y_Unlike:Addr} (Z:Xn K mg y_NoModes y_ReachError y_Closed y_NoBook y_NoPlace y_NoTable y_NoText y_TooHeavy y_TooMany y_Unlike) {a_13:Addr} {d_13:FuncData} {k_13:Nat} {F_13:SF} (D_13:Dn P w K mg base k_13 "is_mode" ["tongue", "thing", "modes"] (qu K 3 F_13) a_13 d_13) (h_13:k_13≤k) {a_2:Addr} {d_2:FuncData} {k_2:Nat} {F_2:SF} (D_2:Dn P w K mg base k_2 "is_row" ["thing", "low", "high"] (qu K 3 F_2) a_2 d_2) (h_2:k_2≤k) (cdv:Value) (A:Around) (outer:List Env) (s:Shared) (H:Hp) (E:XK) (hr:Room k (A.deeper (PyProof.Rows.envOfC "looked_machine" (bf (top 31)) s.heap.objs.size f cdv))):MSs (cxE P w K mg base ["thing", "tongue", "modes"] "looked_machine" (bf (top 31)) f cdv A outer s H E) (am2 mg E) (j9 (top 31)) (wu F_13 F_2) :=
 have SC:=atn
 (bc (ux (PW.pt (a7g (vp (uv (a99 false D_2 (hr.mono h_2) rfl (aa (bw 0) (aa bh (aa bh ao au) au) ak)))) (a3d (vp (uv (a99 false D_2 (hr.mono h_2) rfl (aa (j7 (bw 0) bh (fun _ _=>rfl)) (aa bh (aa (a8l rfl C.MOST_MODES.choose_spec) ao ak) au) jq)))))))
 (dh (adi Z.c_NoModes rfl Z.g_NoModes (aa mj ao au)))
 jr)
 (bc (aah (bw 0) (a7x rfl (uh (qj (i:=1) SC.nd rfl (Or.inr rfl)) (uh (qj (i:=2) SC.nd rfl (Or.inr rfl)) a4q))))
 (bc (ux (vp (uv (lw (yp rfl) a4v rfl M.all a7u (aa (zy (a0e rfl (CSc.of (ts:=["mode"]) (fr:=["tongue", "modes"]) (ix:=[1,2]) rfl rfl rfl rfl (by intro p hp;simp only [List.mem_cons,List.not_mem_nil,or_false] at hp;rcases hp with rfl | rfl<;>rfl) rfl rfl rfl rfl) (a1e (bw 2)) (fun _ _ _ _=>(xu (i:=0) (show (["mode", "tongue", "modes"]:List Str).Nodup by decide +kernel) rfl (Or.inl rfl) (.inr rfl))) a1f (fun _ _ _ _=>(a99 false D_13 (hr.mono h_13) rfl (aa (bw 1) (aa (bw 0) (aa (lw (L2.CallR.or cu d7) jx rfl M.len o6 (aa (bw 2) ao ak)) ao du) ak) ak))))) ao))))
 (dh (adi Z.c_NoModes rfl Z.g_NoModes (aa mj ao au)))
 jr)
 (dh (ju (bw 0))))))
theorem ato:FnScope ["tongue", "thing", "modes", "goes", "kinds", "deeds"] ["tongue", "thing", "modes"] (bf (top 32)):=⟨rfl,rfl,rfl,by decide +kernel,rfl,by decide +kernel,by decide +kernel⟩
theorem azb {k:Nat} (M:Nm mg) (C:Cn mg) {a_11:Addr} {d_11:FuncData} {k_11:Nat} {F_11:SF} (D_11:Dn P w K mg base k_11 "is_deed" ["thing", "modes"] (qu K 2 F_11) a_11 d_11) (h_11:k_11≤k) {a_2:Addr} {d_2:FuncData} {k_2:Nat} {F_2:SF} (D_2:Dn P w K mg base k_2 "is_row" ["thing", "low", "high"] (qu K 3 F_2) a_2 d_2) (h_2:k_2≤k) {a_6:Addr} {d_6:FuncData} {k_6:Nat} {F_6:SF} (D_6:Dn P w K mg base k_6 "is_table" ["thing"] (qu K 1 F_6) a_6 d_6) (h_6:k_6≤k) (cdv:Value) (A:Around) (outer:List Env) (s:Shared) (H:Hp) (E:XK) (hr:Room k (A.deeper (PyProof.Rows.envOfC "is_mode" (bf (top 32)) s.heap.objs.size f cdv))):MSs (a1k CX0 P w K mg base ["tongue", "thing", "modes", "goes", "kinds", "deeds"] "is_mode" (bf (top 32)) f cdv A outer s H E).nox X0 (j9 (top 32)) (a0l F_11 F_2 F_6) :=
 have SC:=ato
 (bc (ux (vp (uv (bz false D_2 (hr.mono h_2) rfl (aa (bw 1) (aa bh (aa bh ao au) au) ak))))
 (dh (ju a3j))
 jr)
 (bc (aah (bw 1) (a7x rfl (uh (qj (i:=3) SC.nd rfl (Or.inl rfl)) (uh (qj (i:=4) SC.nd rfl (Or.inl rfl)) (uh (qj (i:=5) SC.nd rfl (Or.inl rfl)) a4q)))))
 (bc (ux (PW.pt (a7g (vp (uv (bz false D_6 (hr.mono h_6) rfl (aa (dq (aa (bw 0) (aa (bw 3) (aa (bw 4) ao ak) ak) ak)) ao cj)))) (a3d (vp (uv (bz false D_2 (hr.mono h_2) rfl (aa (bw 5) (aa bh (aa (a8l rfl C.MOST_DEEDS.choose_spec) ao ak) au) ak)))))))
 (dh (ju a3j))
 jr)
 (dh (ju (a0c (a0a abf a6o (lw (L2.CallR.or cu d7) jx rfl M.len o6 (aa (bw 5) ao ak)) (lw (a4z rfl) a97 rfl M.max agm (aa (bw 4) ao ak)) (qt _)) (a0q (lw (yp rfl) a4v rfl M.all a7u (aa (zy (a0e rfl (CSc.of (ts:=["deed"]) (fr:=["modes"]) (ix:=[2]) rfl rfl rfl rfl (by intro p hp;cases List.mem_singleton.mp hp;rfl) rfl rfl rfl rfl) (a1e (bw 5)) (fun _ _ _ _=>(xu (i:=0) (show (["deed", "modes"]:List Str).Nodup by decide +kernel) rfl (Or.inl rfl) (.inr rfl))) a1f (fun _ _ _ _=>(bz false D_11 (hr.mono h_11) rfl (aa (bw 0) (aa (bw 1) ao ak) ak))))) ao)))))))))
theorem atp:FnScope ["_law_script"] ["_law_script"] (bf (top 34)):=⟨rfl,rfl,rfl,by decide +kernel,rfl,by decide +kernel,by decide +kernel⟩
theorem azc {k:Nat} (cdv:Value) (A:Around) (outer:List Env) (s:Shared) (H:Hp) (E:XK) (hr:Room k (A.deeper (PyProof.Rows.envOfC "_law_pen" (bf (top 34)) s.heap.objs.size f cdv))):MSs (a1k CX0 P w K mg base ["_law_script"] "_law_pen" (bf (top 34)) f cdv A outer s H E).nox X0 (j9 (top 34)) (PN.a4d) :=
 have SC:=atp
 (dh (ju (qz (aa (zy (jt (bw 0) ql (p6 bh))) (aa bh (aa bh ao au) au) jq))))
theorem atq:FnScope ["_law_pen_here", "_law_many", "_law_found", "_law_at", "_law_cell", "_law_great", "_law_number"] ["_law_pen_here", "_law_many"] (bf (top 35)):=⟨rfl,rfl,rfl,by decide +kernel,rfl,by decide +kernel,by decide +kernel⟩
theorem azd {k:Nat} (M:Nm mg) (cdv:Value) (A:Around) (outer:List Env) (s:Shared) (H:Hp) (E:XK) (hr:Room k (A.deeper (PyProof.Rows.envOfC "_law_take" (bf (top 35)) s.heap.objs.size f cdv))):MSs (a1k CX0 P w K mg base ["_law_pen_here", "_law_many", "_law_found", "_law_at", "_law_cell", "_law_great", "_law_number"] "_law_take" (bf (top 35)) f cdv A outer s H E).nox X0 (j9 (top 35)) (PN.a5a) :=
 have SC:=atq
 (bc (ux (qb abf a6o (j7 (bw 0) bh (fun _ _=>rfl)) bh (qt _))
 (bc (gh (i:=2) SC.nd rfl (Or.inl rfl) (a3e (j7 (bw 0) bh (fun _ _=>rfl)) (bw 1)))
 (bc (acv (age (j7 (bw 0) bh (fun _ _=>rfl)) (bw 1)) (bw 0) bh)
 (dh (ju (bw 2)))))
 jr)
 (bc (gh (i:=3) SC.nd rfl (Or.inl rfl) (j7 (bw 0) bh (fun _ _=>rfl)))
 (bc (acv (iu (bw 3) bh) (bw 0) bh)
 (bc (gh (i:=4) SC.nd rfl (Or.inl rfl) bh)
 (bc (ux (qb abf a6o (lw (L2.CallR.or cu d7) jx rfl M.len o6 (aa (j7 (bw 0) bh (fun _ _=>rfl)) ao jq)) bh (qt _))
 (dh (gh (i:=4) SC.nd rfl (Or.inl rfl) (j7 (j7 (bw 0) bh (fun _ _=>rfl)) (a3e (bw 3) (lw (L2.CallR.or cu d7) jx rfl M.len o6 (aa (j7 (bw 0) bh (fun _ _=>rfl)) ao jq))) (fun _ _=>rfl))))
 jr)
 (bc (ux (PW.pt (asb (qb (a9t.or zj) a5r (bw 3) (lw (L2.CallR.or cu d7) jx rfl M.len o6 (aa (j7 (bw 0) bh (fun _ _=>rfl)) ao jq)) (qt _)) (anv (qb awa asn (lw ach agi rfl M.abs alj (aa (bw 4) ao ak)) (alq bh bh) (qt _)))))
 (bc (gh (i:=5) SC.nd rfl (Or.inl rfl) (iu (a4y bh (lw ach agi rfl M.abs alj (aa (bw 4) ao ak))) (wz a9x agj rfl M.int acq (aa (a0a (a9t.or zj) a5r (bw 4) bh (qt _)) ao))))
 (bc (acv (age (bw 5) (bw 1)) (bw 0) bh)
 (dh (ju (a3e (bw 5) (bw 1))))))
 jr)
 (bc (gh (i:=6) SC.nd rfl (Or.inl rfl) (a3e (alq (iu (iu (a3e (bw 4) bh) (a4y bh (bw 3))) bh) bh) bh))
 (bc (gh (i:=6) SC.nd rfl (Or.inl rfl) (a3e (iu (iu (a4y (bw 6) (bw 6)) (a4y bh (bw 6))) (bw 3)) bh))
 (dh (ju (a3e (age (bw 6) bh) (bw 1))))))))))))
theorem atr:FnScope ["_law_some_here"] [] (bf (top 36)):=⟨rfl,rfl,rfl,by decide +kernel,rfl,by decide +kernel,by decide +kernel⟩
theorem aze {k:Nat} (cdv:Value) (A:Around) (outer:List Env) (s:Shared) (H:Hp) (E:XK) (hr:Room k (A.deeper (PyProof.Rows.envOfC "_law_signs" (bf (top 36)) s.heap.objs.size f cdv))):MSs (a1k CX0 P w K mg base ["_law_some_here"] "_law_signs" (bf (top 36)) f cdv A outer s H E).nox X0 (j9 (top 36)) (PN.a0j) :=
 have SC:=atr
 (bc (gh (i:=0) SC.nd rfl (Or.inl rfl) mj)
 (dh (ju (iu (bw 0) mj))))
theorem atu:FnScope ["_law_pen_here", "_law_rest", "_law_most", "_law_found", "_law_k", "_law_at"] ["_law_pen_here", "_law_rest", "_law_most"] (bf (top 37)):=⟨rfl,rfl,rfl,by decide +kernel,rfl,by decide +kernel,by decide +kernel⟩
theorem azf {k:Nat} (M:Nm mg) {a_15:Addr} {d_15:FuncData} {k_15:Nat} {F_15:SF} (D_15:Dn P w K mg base k_15 "_law_take" ["_law_pen_here", "_law_many"] (qu K 2 F_15) a_15 d_15) (h_15:k_15≤k) (cdv:Value) (A:Around) (outer:List Env) (s:Shared) (H:Hp) (E:XK) (hr:Room k (A.deeper (PyProof.Rows.envOfC "_law_some" (bf (top 37)) s.heap.objs.size f cdv))):MSs (a1k CX0 P w K mg base ["_law_pen_here", "_law_rest", "_law_most", "_law_found", "_law_k", "_law_at"] "_law_some" (bf (top 37)) f cdv A outer s H E).nox X0 (j9 (top 37)) (PN.a5b F_15) :=
 have SC:=atu
 (bc (gh (i:=3) SC.nd rfl (Or.inl rfl) mj)
 (bc (a5p PassesOwn.never rfl (a3k rfl M.range (aa (iu bh (bz false D_15 (hr.mono h_15) rfl (aa (bw 0) (aa (bw 2) ao ak) ak))) ao jy)) (qj (i:=4) SC.nd rfl (Or.inl rfl)) (bc (gh (i:=5) SC.nd rfl (Or.inl rfl) (bz false D_15 (hr.mono h_15) rfl (aa (bw 0) (aa (lw (L2.CallR.or cu d7) jx rfl M.len o6 (aa (bw 1) ao ak)) ao du) ak)))
 (bc (gh (i:=3) SC.nd rfl (Or.inl rfl) (iu (bw 3) (j7 (bw 1) (bw 5) (fun _ _=>rfl))))
 (dh (gh (i:=1) SC.nd rfl (Or.inl rfl) (iu (jt (bw 1) ql (p6 (bw 5))) (jt (bw 1) (p6 (iu (bw 5) bh)) ql)))))))
 (dh (ju (bw 3)))))
theorem atv:FnScope ["_law_tongue", "_law_goes", "_law_kinds", "_law_turn", "_law_met", "_law_at", "_law_there", "_law_rows"] ["_law_tongue", "_law_goes", "_law_kinds", "_law_turn"] (bf (top 38)):=⟨rfl,rfl,rfl,by decide +kernel,rfl,by decide +kernel,by decide +kernel⟩
theorem azg {k:Nat} (M:Nm mg) (cdv:Value) (A:Around) (outer:List Env) (s:Shared) (H:Hp) (E:XK) (hr:Room k (A.deeper (PyProof.Rows.envOfC "_law_cut_down" (bf (top 38)) s.heap.objs.size f cdv))):MSs (a1k CX0 P w K mg base ["_law_tongue", "_law_goes", "_law_kinds", "_law_turn", "_law_met", "_law_at", "_law_there", "_law_rows"] "_law_cut_down" (bf (top 38)) f cdv A outer s H E).nox X0 (j9 (top 38)) (PN.zc) :=
 have SC:=atv
 (bc (gh (i:=4) SC.nd rfl (Or.inr rfl) (qz (aa bh ao au)))
 (bc (gh (i:=5) SC.nd rfl (Or.inl rfl) bh)
 (bc (acw 100000 PassesOwn.never (qb (a9t.or zj) a5r (bw 5) (lw (L2.CallR.or cu d7) jx rfl M.len o6 (aa (bw 4) ao ak)) (qt _)) (bc (a5p PassesOwn.never rfl (a1e (j7 (bw 1) (j7 (bw 4) (bw 5) (fun _ _=>rfl)) (fun _ _=>rfl))) (qj (i:=6) SC.nd rfl (Or.inl rfl)) (dh (ux (qb (a7v.or a5n) agh (bw 6) (bw 4) (by with_unfolding_all rfl))
 (dh (a4p (abv PySem.F.slot_list_append PySem.F.type_list_append a1b a4t (bw 4) (aa (bw 6) ao ak))))
 jr)))
 (dh (gh (i:=5) SC.nd rfl (Or.inl rfl) (iu (bw 5) bh)))))
 (bc (gh (i:=3) SC.nd rfl (Or.inl rfl) (iu bh (a3e (bw 3) (lw (L2.CallR.or cu d7) jx rfl M.len o6 (aa (bw 4) ao ak)))))
 (bc (gh (i:=4) SC.nd rfl (Or.inr rfl) (iu (zy (iu (zy (qz (aa bh ao au))) (zy (jt (bw 4) (p6 (bw 3)) ql)))) (zy (jt (bw 4) (p6 bh) (p6 (bw 3))))))
 (bc (gh (i:=7) SC.nd rfl (Or.inl rfl) (wz (L2.CallR.or ug (v5 rfl)) a0f rfl M.tuple xx (aa (zy (a0e rfl (CSc.of (ts:=["_law_room"]) (fr:=["_law_goes", "_law_met"]) (ix:=[1,4]) rfl rfl rfl rfl (by intro p hp;simp only [List.mem_cons,List.not_mem_nil,or_false] at hp;rcases hp with rfl | rfl<;>rfl) rfl rfl rfl rfl) (a1e (bw 4)) (fun _ _ _ _=>(xu (i:=0) (show (["_law_room", "_law_goes", "_law_met"]:List Str).Nodup by decide +kernel) rfl (Or.inl rfl) (.inr rfl))) a1f (fun _ _ _ _=>(wz (L2.CallR.or ug (v5 rfl)) a0f rfl M.tuple xx (aa (zy (a0e rfl (CSc.of (ts:=["_law_there"]) (fr:=["_law_met"]) (ix:=[2]) rfl rfl rfl rfl (by intro p hp;cases List.mem_singleton.mp hp;rfl) rfl rfl rfl rfl) (a1e (j7 (bw 1) (bw 0) (fun _ _=>rfl))) (fun _ _ _ _=>(xu (i:=0) (show (["_law_there", "_law_met"]:List Str).Nodup by decide +kernel) rfl (Or.inl rfl) (.inr rfl))) a1f (fun _ _ _ _=>(abv PySem.F.slot_list_index PySem.F.type_list_index agy aem (bw 1) (aa (bw 0) ao ak))))) ao))))) ao)))
 (dh (ju (dq (aa (bw 0) (aa (bw 7) (aa (wz (L2.CallR.or ug (v5 rfl)) a0f rfl M.tuple xx (aa (zy (a0e rfl (CSc.of (ts:=["_law_room"]) (fr:=["_law_kinds"]) (ix:=[2]) rfl rfl rfl rfl (by intro p hp;cases List.mem_singleton.mp hp;rfl) rfl rfl rfl rfl) (a1e (bw 4)) (fun _ _ _ _=>(xu (i:=0) (show (["_law_room", "_law_kinds"]:List Str).Nodup by decide +kernel) rfl (Or.inl rfl) (.inr rfl))) a1f (fun _ _ _ _=>(j7 (bw 1) (bw 0) (fun _ _=>rfl))))) ao)) ao du) ak) ak))))))))))
theorem atw:FnScope ["_law_pen_here", "_law_tongue", "_law_most", "_law_many", "_law_road", "_law_often", "_law_goes", "_law_kinds", "_law_room", "_law_row", "_law_kind"] ["_law_pen_here", "_law_tongue", "_law_most"] (bf (top 39)):=⟨rfl,rfl,rfl,by decide +kernel,rfl,by decide +kernel,by decide +kernel⟩
theorem azh {k:Nat} (M:Nm mg) {a_18:Addr} {d_18:FuncData} {k_18:Nat} {F_18:SF} (D_18:Dn P w K mg base k_18 "_law_cut_down" ["_law_tongue", "_law_goes", "_law_kinds", "_law_turn"] (qu K 4 F_18) a_18 d_18) (h_18:k_18≤k) {a_15:Addr} {d_15:FuncData} {k_15:Nat} {F_15:SF} (D_15:Dn P w K mg base k_15 "_law_take" ["_law_pen_here", "_law_many"] (qu K 2 F_15) a_15 d_15) (h_15:k_15≤k) (cdv:Value) (A:Around) (outer:List Env) (s:Shared) (H:Hp) (E:XK) (hr:Room k (A.deeper (PyProof.Rows.envOfC "_law_table" (bf (top 39)) s.heap.objs.size f cdv))):MSs (a1k CX0 P w K mg base ["_law_pen_here", "_law_tongue", "_law_most", "_law_many", "_law_road", "_law_often", "_law_goes", "_law_kinds", "_law_room", "_law_row", "_law_kind"] "_law_table" (bf (top 39)) f cdv A outer s H E).nox X0 (j9 (top 39)) (PN.a1m F_18 F_15) :=
 have SC:=atw
 (bc (gh (i:=3) SC.nd rfl (Or.inr rfl) (iu bh (bz false D_15 (hr.mono h_15) rfl (aa (bw 0) (aa (bw 2) ao ak) ak))))
 (bc (gh (i:=4) SC.nd rfl (Or.inl rfl) (bz false D_15 (hr.mono h_15) rfl (aa (bw 0) (aa bh ao au) ak)))
 (bc (gh (i:=5) SC.nd rfl (Or.inl rfl) (iu bh (bz false D_15 (hr.mono h_15) rfl (aa (bw 0) (aa bh ao au) ak))))
 (bc (gh (i:=6) SC.nd rfl (Or.inl rfl) (qz ao))
 (bc (gh (i:=7) SC.nd rfl (Or.inl rfl) (qz ao))
 (bc (a5p PassesOwn.never rfl (a3k rfl M.range (aa (bw 3) ao ak)) (qj (i:=8) SC.nd rfl (Or.inl rfl)) (bc (aoj (i:=9) SC.nd rfl (Or.inl rfl) rfl (CSc.of (ts:=["_law_sign"]) (fr:=["_law_pen_here", "_law_many"]) (ix:=[0,3]) rfl rfl rfl rfl (by intro p hp;simp only [List.mem_cons,List.not_mem_nil,or_false] at hp;rcases hp with rfl | rfl<;>rfl) rfl rfl rfl rfl) (a1e (bw 1)) (fun _ _ _ _=>(xu (i:=0) (show (["_law_sign", "_law_pen_here", "_law_many"]:List Str).Nodup by decide +kernel) rfl (Or.inl rfl) (.inr rfl))) a1f (fun _ _ _ _=>(bz false D_15 (hr.mono h_15) rfl (aa (bw 1) (aa (bw 2) ao ak) ak))))
 (bc (ux (qb (a2e hr.u) a0g (bw 4) bh (qt _))
 (dh (acv (lw (a9w rfl) ad1 rfl M.min alw (aa (iu (bw 8) bh) (aa (a6n (bw 3) bh) ao jy) jy)) (bw 9) (bz false D_15 (hr.mono h_15) rfl (aa (bw 0) (aa (lw (L2.CallR.or cu d7) jx rfl M.len o6 (aa (bw 9) ao ak)) ao du) ak))))
 jr)
 (bc (gh (i:=10) SC.nd rfl (Or.inl rfl) (bz false D_15 (hr.mono h_15) rfl (aa (bw 0) (aa bh ao au) ak)))
 (bc (ux (PW.pt (a7g (qb (a2e hr.u) a0g (bw 8) bh (qt _)) (a3d (qb abf a6o (bz false D_15 (hr.mono h_15) rfl (aa (bw 0) (aa (bw 5) ao ak) ak)) bh (qt _)))))
 (dh (gh (i:=10) SC.nd rfl (Or.inl rfl) (zu bh)))
 jr)
 (bc (a4p (abv PySem.F.slot_list_append PySem.F.type_list_append a1b a4t (bw 6) (aa (bw 9) ao ak)))
 (dh (a4p (abv PySem.F.slot_list_append PySem.F.type_list_append a1b a4t (bw 7) (aa (bw 10) ao ak))))))))))
 (dh (ju (ao2 D_18 (hr.mono h_18) rfl (aa (bw 1) (aa (bw 6) (aa (bw 7) (aa (bz false D_15 (hr.mono h_15) rfl (aa (bw 0) (aa bh ao au) ak)) ao du) ak) ak) ak))))))))))
theorem atx:FnScope ["_law_pen_here", "_law_size", "_law_many", "_law_found", "_law_k", "_law_there", "_law_some_here"] ["_law_pen_here", "_law_size", "_law_many"] (bf (top 40)):=⟨rfl,rfl,rfl,by decide +kernel,rfl,by decide +kernel,by decide +kernel⟩
theorem azi {k:Nat} (M:Nm mg) {a_15:Addr} {d_15:FuncData} {k_15:Nat} {F_15:SF} (D_15:Dn P w K mg base k_15 "_law_take" ["_law_pen_here", "_law_many"] (qu K 2 F_15) a_15 d_15) (h_15:k_15≤k) (cdv:Value) (A:Around) (outer:List Env) (s:Shared) (H:Hp) (E:XK) (hr:Room k (A.deeper (PyProof.Rows.envOfC "_law_deeds" (bf (top 40)) s.heap.objs.size f cdv))):MSs (a1k CX0 P w K mg base ["_law_pen_here", "_law_size", "_law_many", "_law_found", "_law_k", "_law_there", "_law_some_here"] "_law_deeds" (bf (top 40)) f cdv A outer s H E).nox X0 (j9 (top 40)) (PN.a1n F_15) :=
 have SC:=atx
 (bc (gh (i:=3) SC.nd rfl (Or.inl rfl) (qz ao))
 (bc (a5p PassesOwn.never rfl (a3k rfl M.range (aa (bw 1) ao ak)) (qj (i:=4) SC.nd rfl (Or.inl rfl)) (bc (gh (i:=5) SC.nd rfl (Or.inl rfl) (bz false D_15 (hr.mono h_15) rfl (aa (bw 0) (aa (bw 2) ao ak) ak)))
 (bc (gh (i:=6) SC.nd rfl (Or.inl rfl) (zy (qz (aa (dq (aa mj ao au)) (aa (dq (aa mj ao au)) (aa (dq (aa mj (aa (bw 5) ao ak) au)) (aa (dq (aa mj (aa (bw 5) ao ak) au)) (aa (dq (aa mj ao au)) (aa (dq (aa mj (aa (bw 5) ao ak) au)) ao cj) cj) cj) cj) cj) cj))))
 (dh (a4p (abv PySem.F.slot_list_append PySem.F.type_list_append a1b a4t (bw 3) (aa (j7 (bw 6) (bz false D_15 (hr.mono h_15) rfl (aa (bw 0) (aa bh ao au) ak)) (fun _ _=>rfl)) ao jq)))))))
 (dh (ju (wz (L2.CallR.or ug (v5 rfl)) a0f rfl M.tuple xx (aa (bw 3) ao ak))))))
theorem aty:FnScope ["_law_pen_here", "_law_tongue", "_law_most", "_law_many", "_law_modes", "_law_k", "_law_table_here", "_law_least"] ["_law_pen_here", "_law_tongue", "_law_most"] (bf (top 41)):=⟨rfl,rfl,rfl,by decide +kernel,rfl,by decide +kernel,by decide +kernel⟩
theorem azj {k:Nat} (M:Nm mg) {a_20:Addr} {d_20:FuncData} {k_20:Nat} {F_20:SF} (D_20:Dn P w K mg base k_20 "_law_deeds" ["_law_pen_here", "_law_size", "_law_many"] (qu K 3 F_20) a_20 d_20) (h_20:k_20≤k) {a_19:Addr} {d_19:FuncData} {k_19:Nat} {F_19:SF} (D_19:Dn P w K mg base k_19 "_law_table" ["_law_pen_here", "_law_tongue", "_law_most"] (qu K 3 F_19) a_19 d_19) (h_19:k_19≤k) {a_15:Addr} {d_15:FuncData} {k_15:Nat} {F_15:SF} (D_15:Dn P w K mg base k_15 "_law_take" ["_law_pen_here", "_law_many"] (qu K 2 F_15) a_15 d_15) (h_15:k_15≤k) (cdv:Value) (A:Around) (outer:List Env) (s:Shared) (H:Hp) (E:XK) (hr:Room k (A.deeper (PyProof.Rows.envOfC "_law_machine" (bf (top 41)) s.heap.objs.size f cdv))):MSs (a1k CX0 P w K mg base ["_law_pen_here", "_law_tongue", "_law_most", "_law_many", "_law_modes", "_law_k", "_law_table_here", "_law_least"] "_law_machine" (bf (top 41)) f cdv A outer s H E).nox X0 (j9 (top 41)) (PN.a01 F_20 F_19 F_15) :=
 have SC:=aty
 (bc (gh (i:=3) SC.nd rfl (Or.inl rfl) (iu bh (bz false D_15 (hr.mono h_15) rfl (aa (bw 0) (aa bh ao au) ak))))
 (bc (gh (i:=4) SC.nd rfl (Or.inl rfl) (qz ao))
 (bc (a5p PassesOwn.never rfl (a3k rfl M.range (aa (bw 3) ao ak)) (qj (i:=5) SC.nd rfl (Or.inl rfl)) (bc (gh (i:=6) SC.nd rfl (Or.inl rfl) (bz false D_19 (hr.mono h_19) rfl (aa (bw 0) (aa (bw 1) (aa (bw 2) ao ak) ak) ak)))
 (bc (gh (i:=7) SC.nd rfl (Or.inl rfl) (iu (lw (a4z rfl) a97 rfl M.max agm (aa (j7 (bw 6) bh (fun _ _=>rfl)) ao jq)) bh))
 (dh (a4p (abv PySem.F.slot_list_append PySem.F.type_list_append a1b a4t (bw 4) (aa (dq (aa (j7 (bw 6) bh (fun _ _=>rfl)) (aa (j7 (bw 6) bh (fun _ _=>rfl)) (aa (bz false D_20 (hr.mono h_20) rfl (aa (bw 0) (aa (iu (bw 7) (bz false D_15 (hr.mono h_15) rfl (aa (bw 0) (aa (a6n bh (bw 7)) ao jy) ak))) (aa (bw 3) ao ak) jy) ak)) ao du) jq) jq)) ao cj)))))))
 (dh (ju (dq (aa (bw 1) (aa (wz (L2.CallR.or ug (v5 rfl)) a0f rfl M.tuple xx (aa (bw 4) ao ak)) ao du) ak)))))))
theorem atz:FnScope ["_law_found", "_law_due", "_law_one", "_law_other"] ["_law_found", "_law_due"] (bf (top 42)):=⟨rfl,rfl,rfl,by decide +kernel,rfl,by decide +kernel,by decide +kernel⟩
theorem azk {k:Nat} (M:Nm mg) {a_22:Addr} {avd:FuncData} {k_22:Nat} {F_22:SF} (D_22:Dn P w K mg base k_22 "_law_same" ["_law_found", "_law_due"] (qu K 2 F_22) a_22 avd) (h_22:k_22≤k) (cdv:Value) (A:Around) (outer:List Env) (s:Shared) (H:Hp) (E:XK) (hr:Room k (A.deeper (PyProof.Rows.envOfC "_law_same" (bf (top 42)) s.heap.objs.size f cdv))):MSs (a1k CX0 P w K mg base ["_law_found", "_law_due", "_law_one", "_law_other"] "_law_same" (bf (top 42)) f cdv A outer s H E).nox X0 (j9 (top 42)) (za F_22) :=
 have SC:=atz
 (bc (ux (uv (lw aaz akh rfl M.isinstance iz (aa (bw 1) (aa (dq (aa (a2w rfl M.list a1l) (aa (a2w rfl M.tuple xx) ao ak) ak)) ao cj) ak)))
 (bc (ux (PW.pt (a7g (qb (aak hr.u) a6p (lw (L2.CallR.or m9 jz) uw rfl M.isinstance iz (aa (bw 1) (aa (a2w rfl M.list a1l) ao ak) ak)) (lw (L2.CallR.or m9 jz) uw rfl M.isinstance iz (aa (bw 0) (aa (a2w rfl M.list a1l) ao ak) ak)) (qt _)) (a3d (qb (aak hr.u) a6p (lw (L2.CallR.or m9 jz) uw rfl M.isinstance iz (aa (bw 1) (aa (a2w rfl M.tuple xx) ao ak) ak)) (lw (L2.CallR.or m9 jz) uw rfl M.isinstance iz (aa (bw 0) (aa (a2w rfl M.tuple xx) ao ak) ak)) (qt _)))))
 a3f
 jr)
 (bc (ux (qb (aak hr.u) a6p (lw (L2.CallR.or cu d7) jx rfl M.len o6 (aa (bw 0) ao ak)) (lw (L2.CallR.or cu d7) jx rfl M.len o6 (aa (bw 1) ao ak)) (qt _))
 a3f
 jr)
 (bc (a5p PassesOwn.never rfl (asz rfl M.zip at5 (bw 0) (bw 1)) (a7x rfl (uh (qj (i:=2) SC.nd rfl (Or.inl rfl)) (uh (qj (i:=3) SC.nd rfl (Or.inl rfl)) a4q))) (dh (ux (vp (uv (bz false D_22 (hr.mono h_22) rfl (aa (bw 2) (aa (bw 3) ao ak) ak))))
 a3f
 jr)))
 (dh (ju a3j)))))
 jr)
 (bc (ux (qb (arh.or ajb) aso (bw 1) a1c (qt _))
 a3f
 jr)
 (bc (ux (uv (lw (L2.CallR.or m9 jz) uw rfl M.isinstance iz (aa (bw 1) (aa (a2w rfl M.str aaf) ao ak) ak)))
 (dh (ju (a0c (lw (L2.CallR.or m9 jz) uw rfl M.isinstance iz (aa (bw 0) (aa (a2w rfl M.str aaf) ao ak) ak)) (a0q (a0a (a2e hr.u) a0g (bw 0) (bw 1) (qt _))))))
 jr)
 (dh (ju (a0c (lw (L2.CallR.or m9 jz) uw rfl M.isinstance iz (aa (bw 0) (aa (a2w rfl M.int acq) ao ak) ak)) (a0c (alm (lw (L2.CallR.or m9 jz) uw rfl M.isinstance iz (aa (bw 0) (aa (a2w rfl M.bool agn) ao ak) ak))) (a0q (a0a (a2e hr.u) a0g (bw 0) (bw 1) (qt _))))))))))
theorem au0:FnScope ["_law_row", "_law_at", "_law_thing"] ["_law_row", "_law_at", "_law_thing"] (bf (top 43)):=⟨rfl,rfl,rfl,by decide +kernel,rfl,by decide +kernel,by decide +kernel⟩
theorem azl {k:Nat} (cdv:Value) (A:Around) (outer:List Env) (s:Shared) (H:Hp) (E:XK) (hr:Room k (A.deeper (PyProof.Rows.envOfC "_law_put" (bf (top 43)) s.heap.objs.size f cdv))):MSs (a1k CX0 P w K mg base ["_law_row", "_law_at", "_law_thing"] "_law_put" (bf (top 43)) f cdv A outer s H E).nox X0 (j9 (top 43)) (a4f) :=
 have SC:=au0
 (dh (ju (iu (iu (jt (bw 0) ql (p6 (bw 1))) (dq (aa (bw 2) ao ak))) (jt (bw 0) (p6 (iu (bw 1) bh)) ql))))
theorem au1:FnScope ["_law_pen_here", "_law_goes", "_law_room", "_law_row", "_law_at", "_law_odd", "_law_rows", "_law_some_here"] ["_law_pen_here", "_law_goes"] (bf (top 44)):=⟨rfl,rfl,rfl,by decide +kernel,rfl,by decide +kernel,by decide +kernel⟩
theorem azm {k:Nat} (M:Nm mg) {a_23:Addr} {d_23:FuncData} {k_23:Nat} {F_23:SF} (D_23:Dn P w K mg base k_23 "_law_put" ["_law_row", "_law_at", "_law_thing"] (qu K 3 F_23) a_23 d_23) (h_23:k_23≤k) {a_15:Addr} {d_15:FuncData} {k_15:Nat} {F_15:SF} (D_15:Dn P w K mg base k_15 "_law_take" ["_law_pen_here", "_law_many"] (qu K 2 F_15) a_15 d_15) (h_15:k_15≤k) (cdv:Value) (A:Around) (outer:List Env) (s:Shared) (H:Hp) (E:XK) (hr:Room k (A.deeper (PyProof.Rows.envOfC "_law_bent_goes" (bf (top 44)) s.heap.objs.size f cdv))):MSs (a1k CX0 P w K mg base ["_law_pen_here", "_law_goes", "_law_room", "_law_row", "_law_at", "_law_odd", "_law_rows", "_law_some_here"] "_law_bent_goes" (bf (top 44)) f cdv A outer s H E).nox X0 (j9 (top 44)) (yc F_23 F_15) :=
 have SC:=au1
 (bc (gh (i:=2) SC.nd rfl (Or.inl rfl) (bz false D_15 (hr.mono h_15) rfl (aa (bw 0) (aa (lw (L2.CallR.or cu d7) jx rfl M.len o6 (aa (bw 1) ao ak)) ao du) ak)))
 (bc (gh (i:=3) SC.nd rfl (Or.inl rfl) (j7 (bw 1) (bw 2) (fun _ _=>rfl)))
 (bc (gh (i:=4) SC.nd rfl (Or.inl rfl) (bz false D_15 (hr.mono h_15) rfl (aa (bw 0) (aa (lw (L2.CallR.or cu d7) jx rfl M.len o6 (aa (bw 3) ao ak)) ao du) ak)))
 (bc (gh (i:=5) SC.nd rfl (Or.inl rfl) (j7 (zy (qz (aa (lw (L2.CallR.or cu d7) jx rfl M.len o6 (aa (bw 1) ao ak)) (aa (zu bh) (aa a3j (aa a1c (aa mj (aa (dq (aa bh ao au)) (aa (iu (lw (L2.CallR.or cu d7) jx rfl M.len o6 (aa (bw 1) ao ak)) bh) ao jy) cj) au) au) au) a2j) du))) (bz false D_15 (hr.mono h_15) rfl (aa (bw 0) (aa bh ao au) ak)) (fun _ _=>rfl)))
 (bc (gh (i:=6) SC.nd rfl (Or.inl rfl) (zy (qz (aa (bz false D_23 (hr.mono h_23) rfl (aa (bw 3) (aa (bw 4) (aa (bw 5) ao ak) ak) ak)) (aa (iu (bw 3) (dq (aa bh ao au))) (aa (jt (bw 3) ql (p6 (zu bh))) (aa (zy (wz (L2.CallR.or xj (yq rfl)) a2o rfl M.list a1l (aa (bw 3) ao ak))) (aa a1c ao au) du) jq) jy) du))))
 (bc (gh (i:=7) SC.nd rfl (Or.inl rfl) (zy (qz (aa (zy (wz (L2.CallR.or xj (yq rfl)) a2o rfl M.list a1l (aa (bw 1) ao ak))) (aa (dq ao) (aa a1c (aa (jt (bw 1) ql (p6 (zu bh))) (aa (iu (bw 1) (dq (aa (jt (bw 3) ql (p6 (zu bh))) ao jq))) (aa (iu (bw 1) (dq (aa (bw 3) ao ak))) ao jy) jy) jq) au) cj) du))))
 (dh (ju (j7 (zy (iu (bw 7) (zy (a4y (zy (qz (aa (bz false D_23 (hr.mono h_23) rfl (aa (bw 1) (aa (bw 2) (aa (j7 (bw 6) (bz false D_15 (hr.mono h_15) rfl (aa (bw 0) (aa bh ao au) ak)) (fun _ _=>rfl)) ao jq) ak) ak)) ao du))) bh)))) (bz false D_15 (hr.mono h_15) rfl (aa (bw 0) (aa bh ao au) ak)) (fun _ _=>rfl))))))))))
theorem au2:FnScope ["_law_pen_here", "_law_kinds", "_law_at", "_law_odd", "_law_some_here"] ["_law_pen_here", "_law_kinds"] (bf (top 45)):=⟨rfl,rfl,rfl,by decide +kernel,rfl,by decide +kernel,by decide +kernel⟩
theorem azn {k:Nat} (M:Nm mg) {a_23:Addr} {d_23:FuncData} {k_23:Nat} {F_23:SF} (D_23:Dn P w K mg base k_23 "_law_put" ["_law_row", "_law_at", "_law_thing"] (qu K 3 F_23) a_23 d_23) (h_23:k_23≤k) {a_15:Addr} {d_15:FuncData} {k_15:Nat} {F_15:SF} (D_15:Dn P w K mg base k_15 "_law_take" ["_law_pen_here", "_law_many"] (qu K 2 F_15) a_15 d_15) (h_15:k_15≤k) (cdv:Value) (A:Around) (outer:List Env) (s:Shared) (H:Hp) (E:XK) (hr:Room k (A.deeper (PyProof.Rows.envOfC "_law_bent_kinds" (bf (top 45)) s.heap.objs.size f cdv))):MSs (a1k CX0 P w K mg base ["_law_pen_here", "_law_kinds", "_law_at", "_law_odd", "_law_some_here"] "_law_bent_kinds" (bf (top 45)) f cdv A outer s H E).nox X0 (j9 (top 45)) (ww F_23 F_15) :=
 have SC:=au2
 (bc (gh (i:=2) SC.nd rfl (Or.inl rfl) (bz false D_15 (hr.mono h_15) rfl (aa (bw 0) (aa (lw (L2.CallR.or cu d7) jx rfl M.len o6 (aa (bw 1) ao ak)) ao du) ak)))
 (bc (gh (i:=3) SC.nd rfl (Or.inl rfl) (j7 (zy (qz (aa bh (aa (zu bh) (aa a3j (aa a1c (aa mj (aa bh ao au) au) au) au) a2j) au))) (bz false D_15 (hr.mono h_15) rfl (aa (bw 0) (aa bh ao au) ak)) (fun _ _=>rfl)))
 (bc (gh (i:=4) SC.nd rfl (Or.inl rfl) (zy (qz (aa (iu (bw 1) (dq (aa (zu bh) ao a2j))) (aa (jt (bw 1) ql (p6 (zu bh))) (aa (zy (wz (L2.CallR.or xj (yq rfl)) a2o rfl M.list a1l (aa (bw 1) ao ak))) (aa a1c (aa (bz false D_23 (hr.mono h_23) rfl (aa (bw 1) (aa bh (aa bh ao au) au) ak)) ao du) au) du) jq) jy))))
 (dh (ju (j7 (zy (iu (bw 4) (zy (a4y (zy (qz (aa (bz false D_23 (hr.mono h_23) rfl (aa (bw 1) (aa (bw 2) (aa (bw 3) ao ak) ak) ak)) ao du))) bh)))) (bz false D_15 (hr.mono h_15) rfl (aa (bw 0) (aa bh ao au) ak)) (fun _ _=>rfl)))))))
theorem au3:FnScope ["_law_pen_here", "_law_deeds_here", "_law_least", "_law_many", "_law_bad", "_law_odd", "_law_at", "_law_more", "_law_some_here"] ["_law_pen_here", "_law_deeds_here", "_law_least", "_law_many"] (bf (top 46)):=⟨rfl,rfl,rfl,by decide +kernel,rfl,by decide +kernel,by decide +kernel⟩
theorem azo {k:Nat} (M:Nm mg) {a_15:Addr} {d_15:FuncData} {k_15:Nat} {F_15:SF} (D_15:Dn P w K mg base k_15 "_law_take" ["_law_pen_here", "_law_many"] (qu K 2 F_15) a_15 d_15) (h_15:k_15≤k) (cdv:Value) (A:Around) (outer:List Env) (s:Shared) (H:Hp) (E:XK) (hr:Room k (A.deeper (PyProof.Rows.envOfC "_law_bent_deeds" (bf (top 46)) s.heap.objs.size f cdv))):MSs (a1k CX0 P w K mg base ["_law_pen_here", "_law_deeds_here", "_law_least", "_law_many", "_law_bad", "_law_odd", "_law_at", "_law_more", "_law_some_here"] "_law_bent_deeds" (bf (top 46)) f cdv A outer s H E).nox X0 (j9 (top 46)) (uq F_15):=by
 have SC:=au3
 unfold uq
 refine bc ?_ ?_
 ·refine gh (i:=4) SC.nd rfl (Or.inl rfl) ?_
  refine zy ?_
  refine qz ?_
  refine aa ?_ ?_ ?_
  rotate_right
  exact cj
  ·exact (dq (aa mj (aa (bw 3) ao ak) au))
  refine aa ?_ ?_ ?_
  rotate_right
  exact cj
  ·exact (dq (aa mj (aa (bw 3) ao ak) au))
  refine aa ?_ ?_ ?_
  rotate_right
  exact cj
  ·exact (dq (aa mj (aa (zu bh) ao a2j) au))
  refine aa ?_ ?_ ?_
  rotate_right
  exact cj
  ·exact (dq (aa mj (aa a3j ao au) au))
  refine aa ?_ ?_ ?_
  rotate_right
  exact cj
  ·exact (dq (aa mj ao au))
  refine aa ?_ ?_ ?_
  rotate_right
  exact cj
  ·exact (dq (aa mj (aa bh ao au) au))
  refine aa ?_ ?_ ?_
  rotate_right
  exact cj
  ·exact (dq (aa mj (aa bh ao au) au))
  exact (aa mj ao au)
 refine bc ?_ ?_
 ·refine gh (i:=4) SC.nd rfl (Or.inl rfl) ?_
  refine zy ?_
  refine iu ?_ ?_
  ·exact (bw 4)
  refine zy ?_
  refine qz ?_
  refine aa ?_ ?_ ?_
  rotate_right
  exact a6w
  ·exact (zy (qz (aa mj ao au)))
  refine aa ?_ ?_ ?_
  rotate_right
  exact cj
  ·exact (dq (aa mj (aa a1c ao au) au))
  refine aa ?_ ?_ ?_
  rotate_right
  exact cj
  ·exact (dq (aa mj ao au))
  refine aa ?_ ?_ ?_
  rotate_right
  exact cj
  ·exact (dq (aa mj (aa bh ao au) au))
  refine aa ?_ ?_ ?_
  rotate_right
  exact cj
  ·exact (dq ao)
  refine aa a1c ?_ ?_
  rotate_right
  exact au
  refine aa ?_ ?_ ?_
  rotate_right
  exact cj
  ·refine dq ?_
   refine aa mj ?_ ?_
   rotate_right
   exact au
   exact (aa bh (aa bh ao au) au)
  refine aa ?_ ?_ ?_
  rotate_right
  exact cj
  ·exact (dq (aa mj (aa a1c ao au) au))
  refine aa ?_ ao ?_
  rotate_right
  exact cj
  exact (dq (aa (dq (aa mj ao au)) ao cj))
 refine bc ?_ ?_
 ·refine gh (i:=5) SC.nd rfl (Or.inl rfl) ?_
  refine j7 ?_ ?_ (fun _ _=>rfl)
  ·exact (bw 4)
  refine bz false D_15 (hr.mono h_15) rfl ?_
  exact (aa (bw 0) (aa bh ao au) ak)
 refine bc ?_ ?_
 ·refine gh (i:=6) SC.nd rfl (Or.inl rfl) ?_
  refine bz false D_15 (hr.mono h_15) rfl ?_
  exact (aa (bw 0) (aa bh ao au) ak)
 refine bc ?_ ?_
 ·refine gh (i:=7) SC.nd rfl (Or.inl rfl) ?_
  refine a2i ?_ bh
  exact (dq (aa (dq (aa mj ao au)) ao cj))
 refine bc ?_ ?_
 ·refine gh (i:=8) SC.nd rfl (Or.inl rfl) ?_
  refine zy ?_
  refine qz ?_
  refine aa ?_ ?_ ?_
  rotate_right
  exact du
  ·refine zy ?_
   exact (wz (L2.CallR.or xj (yq rfl)) a2o rfl M.list a1l (aa (bw 1) ao ak))
  refine aa a1c ?_ ?_
  rotate_right
  exact au
  refine aa ?_ ?_ ?_
  rotate_right
  exact jq
  ·exact (jt (iu (bw 1) (bw 7)) ql (p6 bh))
  refine aa ?_ ?_ ?_
  rotate_right
  exact jq
  ·exact (jt (iu (bw 1) (bw 7)) ql (p6 (iu bh (bw 6))))
  refine aa ?_ ao ?_
  rotate_right
  exact jy
  refine iu ?_ ?_
  ·refine iu ?_ ?_
   ·exact (jt (bw 1) ql (p6 (a3e (bw 6) bh)))
   exact (dq (aa (bw 5) ao ak))
  exact (jt (bw 1) (p6 (a3e (bw 6) bh)) ql)
 refine bc ?_ ?_
 ·refine ux ?_ ?_ jr
  ·exact (qb abf a6o (bw 2) bh (qt _))
  refine dh ?_
  refine gh (i:=8) SC.nd rfl (Or.inl rfl) ?_
  refine zy ?_
  refine iu ?_ ?_
  ·exact (bw 8)
  refine zy ?_
  refine qz ?_
  refine aa ?_ ?_ ?_
  rotate_right
  exact jq
  ·exact (jt (bw 1) ql (p6 (a6n (bw 2) bh)))
  refine aa ?_ ?_ ?_
  rotate_right
  exact cj
  ·exact (dq ao)
  refine aa ?_ ?_ ?_
  rotate_right
  exact jy
  ·exact (a2i (dq (aa (bw 5) ao ak)) (bw 2))
  refine aa ?_ ?_ ?_
  rotate_right
  exact jy
  ·refine iu ?_ ?_
   ·exact (jt (bw 1) ql (p6 (a6n (bw 2) bh)))
   exact (dq (aa (bw 5) ao ak))
  refine aa ?_ ao ?_
  rotate_right
  exact jy
  refine iu ?_ ?_
  ·exact (dq (aa (bw 5) ao ak))
  exact (jt (bw 1) (p6 bh) ql)
 refine dh ?_
 refine ju ?_
 refine j7 ?_ ?_ (fun _ _=>rfl)
 ·exact (bw 8)
 refine bz false D_15 (hr.mono h_15) rfl ?_
 refine aa ?_ ?_ ?_
 rotate_right
 exact ak
 ·exact (bw 0)
 refine aa ?_ ao ?_
 rotate_right
 exact du
 exact (lw (L2.CallR.or cu d7) jx rfl M.len o6 (aa (bw 8) ao ak))
theorem au4:FnScope ["_law_pen_here", "_law_machine_here", "_law_tongue", "_law_modes", "_law_road", "_law_at", "_law_goes", "_law_kinds", "_law_deeds_here", "_law_rest", "_law_words", "_law_some_here", "_law_mode"] ["_law_pen_here", "_law_machine_here"] (bf (top 47)):=⟨rfl,rfl,rfl,by decide +kernel,rfl,by decide +kernel,by decide +kernel⟩
theorem azp {k:Nat} (M:Nm mg) {a_26:Addr} {d_26:FuncData} {k_26:Nat} {F_26:SF} (D_26:Dn P w K mg base k_26 "_law_bent_deeds" ["_law_pen_here", "_law_deeds_here", "_law_least", "_law_many"] (qu K 4 F_26) a_26 d_26) (h_26:k_26≤k) {a_24:Addr} {d_24:FuncData} {k_24:Nat} {F_24:SF} (D_24:Dn P w K mg base k_24 "_law_bent_goes" ["_law_pen_here", "_law_goes"] (qu K 2 F_24) a_24 d_24) (h_24:k_24≤k) {a_25:Addr} {d_25:FuncData} {k_25:Nat} {F_25:SF} (D_25:Dn P w K mg base k_25 "_law_bent_kinds" ["_law_pen_here", "_law_kinds"] (qu K 2 F_25) a_25 d_25) (h_25:k_25≤k) {a_23:Addr} {d_23:FuncData} {k_23:Nat} {F_23:SF} (D_23:Dn P w K mg base k_23 "_law_put" ["_law_row", "_law_at", "_law_thing"] (qu K 3 F_23) a_23 d_23) (h_23:k_23≤k) {a_16:Addr} {d_16:FuncData} {k_16:Nat} {F_16:SF} (D_16:Dn P w K mg base k_16 "_law_signs" [] (qu K 0 F_16) a_16 d_16) (h_16:k_16≤k) {a_15:Addr} {d_15:FuncData} {k_15:Nat} {F_15:SF} (D_15:Dn P w K mg base k_15 "_law_take" ["_law_pen_here", "_law_many"] (qu K 2 F_15) a_15 d_15) (h_15:k_15≤k) (cdv:Value) (A:Around) (outer:List Env) (s:Shared) (H:Hp) (E:XK) (hr:Room k (A.deeper (PyProof.Rows.envOfC "_law_bent" (bf (top 47)) s.heap.objs.size f cdv))):MSs (a1k CX0 P w K mg base ["_law_pen_here", "_law_machine_here", "_law_tongue", "_law_modes", "_law_road", "_law_at", "_law_goes", "_law_kinds", "_law_deeds_here", "_law_rest", "_law_words", "_law_some_here", "_law_mode"] "_law_bent" (bf (top 47)) f cdv A outer s H E).nox X0 (j9 (top 47)) (a2r F_26 F_24 F_25 F_23 F_16 F_15) :=
 have SC:=au4
 (bc (aah (bw 1) (a7x rfl (uh (qj (i:=2) SC.nd rfl (Or.inr rfl)) (uh (qj (i:=3) SC.nd rfl (Or.inl rfl)) a4q))))
 (bc (gh (i:=4) SC.nd rfl (Or.inl rfl) (bz false D_15 (hr.mono h_15) rfl (aa (bw 0) (aa bh ao au) ak)))
 (bc (gh (i:=5) SC.nd rfl (Or.inl rfl) (bz false D_15 (hr.mono h_15) rfl (aa (bw 0) (aa (lw (L2.CallR.or cu d7) jx rfl M.len o6 (aa (bw 3) ao ak)) ao du) ak)))
 (bc (aah (j7 (bw 3) (bw 5) (fun _ _=>rfl)) (a7x rfl (uh (qj (i:=6) SC.nd rfl (Or.inl rfl)) (uh (qj (i:=7) SC.nd rfl (Or.inl rfl)) (uh (qj (i:=8) SC.nd rfl (Or.inl rfl)) a4q)))))
 (bc (ajz (i:=9) SC.nd rfl (Or.inl rfl) rfl (CSc.of (ts:=["_law_sign"]) (fr:=["_law_tongue"]) (ix:=[2]) rfl rfl rfl rfl (by intro p hp;cases List.mem_singleton.mp hp;rfl) rfl rfl rfl rfl) (a1e (aar false D_16 (hr.mono h_16) rfl)) (fun _ _ _ _=>(xu (i:=0) (show (["_law_sign", "_law_tongue"]:List Str).Nodup by decide +kernel) rfl (Or.inl rfl) (.inr rfl))) a1f (fun _ _ _ _=>(bw 0)) (fun _ _ _ _=>(qb (a7v.or a5n) agh (bw 0) (bw 1) (by with_unfolding_all rfl))))
 (bc (ux (qb (a2e hr.u) a0g (bw 4) bh (qt _))
 (bc (gh (i:=10) SC.nd rfl (Or.inl rfl) (zy (qz (aa (iu (bw 2) (j7 (bw 9) bh (fun _ _=>rfl))) (aa (iu (bw 2) (j7 (bw 2) bh (fun _ _=>rfl))) (aa mj (aa (zy (wz (L2.CallR.or xj (yq rfl)) a2o rfl M.list a1l (aa (bw 2) ao ak))) (aa a1c (aa (jt (bw 2) (p6 bh) ql) (aa (iu (jt (bw 2) ql (p6 (zu bh))) mj) ao jy) jq) au) du) au) jy) jy))))
 (dh (ju (dq (aa (j7 (bw 10) (bz false D_15 (hr.mono h_15) rfl (aa (bw 0) (aa bh ao au) ak)) (fun _ _=>rfl)) (aa (bw 3) ao ak) jq)))))
 jr)
 (bc (ux (qb (a2e hr.u) a0g (bw 4) bh (qt _))
 (bc (gh (i:=11) SC.nd rfl (Or.inl rfl) (zy (qz (aa (dq (aa (bw 2) (aa (dq ao) ao cj) ak)) (aa (dq (aa (bw 2) (aa (zy (wz (L2.CallR.or xj (yq rfl)) a2o rfl M.list a1l (aa (bw 3) ao ak))) ao du) ak)) (aa (dq (aa (bw 2) (aa (jt (a2i (bw 3) bh) ql (p6 bh)) ao jq) ak)) (aa (dq (aa (bw 2) ao ak)) (aa (dq (aa (bw 2) (aa (bw 3) (aa (dq ao) ao cj) ak) ak)) ao cj) cj) cj) cj) cj))))
 (dh (ju (j7 (zy (iu (bw 11) (zy (qz (aa a1c (aa bh (aa (zy (qz (aa (bw 2) (aa (bw 3) ao ak) ak))) (aa (zy aoa) (aa (bw 2) (aa (bw 3) (aa (dq (aa (bw 3) (aa (bw 2) ao ak) ak)) ao cj) ak) ak) ahb) a6w) au) au))))) (bz false D_15 (hr.mono h_15) rfl (aa (bw 0) (aa bh ao au) ak)) (fun _ _=>rfl)))))
 jr)
 (bc (gh (i:=11) SC.nd rfl (Or.inl rfl) (zy (qz (aa (dq (aa (bw 6) (aa (bw 7) ao ak) ak)) (aa (dq (aa (bw 6) (aa (bw 7) (aa (bw 8) (aa (dq ao) ao cj) ak) ak) ak)) (aa (zy (qz (aa (bw 6) (aa (bw 7) (aa (bw 8) ao ak) ak) ak))) (aa a1c (aa (dq (aa (bw 7) (aa (bw 6) (aa (bw 8) ao ak) ak) ak)) ao cj) au) a6w) cj) cj))))
 (bc (gh (i:=12) SC.nd rfl (Or.inl rfl) (j7 (bw 11) (bz false D_15 (hr.mono h_15) rfl (aa (bw 0) (aa bh ao au) ak)) (fun _ _=>rfl)))
 (bc (ux (a8n (a9t.or zj) (a9t.or zj) a5r a5r bh (bw 4) bh)
 (dh (gh (i:=12) SC.nd rfl (Or.inl rfl) (dq (aa (bz false D_24 (hr.mono h_24) rfl (aa (bw 0) (aa (bw 6) ao ak) ak)) (aa (bw 7) (aa (bw 8) ao ak) ak) du))))
 jr)
 (bc (ux (a8n (a9t.or zj) (a9t.or zj) a5r a5r bh (bw 4) bh)
 (dh (gh (i:=12) SC.nd rfl (Or.inl rfl) (dq (aa (bw 6) (aa (bz false D_25 (hr.mono h_25) rfl (aa (bw 0) (aa (bw 7) ao ak) ak)) (aa (bw 8) ao ak) du) ak))))
 jr)
 (bc (ux (qb abf a6o (bw 4) bh (qt _))
 (dh (gh (i:=12) SC.nd rfl (Or.inl rfl) (dq (aa (bw 6) (aa (bw 7) (aa (bz false D_26 (hr.mono h_26) rfl (aa (bw 0) (aa (bw 8) (aa (iu (lw (a4z rfl) a97 rfl M.max agm (aa (bw 7) ao ak)) bh) (aa (lw (L2.CallR.or cu d7) jx rfl M.len o6 (aa (bw 3) ao ak)) ao du) jy) ak) ak)) ao du) ak) ak))))
 jr)
 (dh (ju (dq (aa (bw 2) (aa (bz false D_23 (hr.mono h_23) rfl (aa (bw 3) (aa (bw 5) (aa (bw 12) ao ak) ak) ak)) ao du) ak))))))))))))))))
theorem au5:FnScope ["_law_thing", "_law_good", "e"] ["_law_thing"] (bf (top 48)):=⟨rfl,rfl,rfl,by decide +kernel,rfl,by decide +kernel,by decide +kernel⟩
theorem azq {k:Nat} (M:Nm mg) {y_NoModes y_ReachError y_Closed y_NoBook y_NoPlace y_NoTable y_NoText y_TooHeavy y_TooMany y_Unlike:Addr} (Z:Xn K mg y_NoModes y_ReachError y_Closed y_NoBook y_NoPlace y_NoTable y_NoText y_TooHeavy y_TooMany y_Unlike) {a_12:Addr} {d_12:FuncData} {k_12:Nat} {F_12:SF} (D_12:DnX P w K mg base k_12 "looked_machine" ["thing"] (spX K mg 1 F_12) a_12 d_12) (h_12:k_12≤k) (cdv:Value) (A:Around) (outer:List Env) (s:Shared) (H:Hp) (E:XK) (hr:Room k (A.deeper (PyProof.Rows.envOfC "_law_refused" (bf (top 48)) s.heap.objs.size f cdv))):MSs (a1k CX0 P w K mg base ["_law_thing", "_law_good", "e"] "_law_refused" (bf (top 48)) f cdv A outer s H E).nox X0 (j9 (top 48)) (a04 F_12) :=
 have SC:=au5
 (bc (gh (i:=1) SC.nd rfl (Or.inl rfl) a3j)
 (bc (ati (i:=2) ⟨rfl,Z.g_ReachError,SC.nd,rfl,rfl,⟨rfl,rfl⟩,by decide⟩ (a7l Z)
 (ap3 (ap2 D_12 (hr.mono h_12) rfl (aa (bw 0) ao ak)))
 (fun a=>(bc (gh (i:=1) SC.nd rfl (Or.inl rfl) (a0c (am4 (i:=2) rfl M.isinstance iz rfl (Or.inl rfl) (a0s (v:=.ref y_NoModes) rfl Z.g_NoModes rfl) (.inl ⟨_,rfl,rfl⟩) (aey Z)) (a0q (am4 (i:=2) rfl M.isinstance iz rfl (Or.inl rfl) (afh (v:=.ty "ValueError") rfl M.ValueError PyProof.Rows.Boot.«ValueError» rfl) (.inr ⟨_,rfl,rfl⟩) (a9c Z)))))
 (dh (ux (uv (ap4 (i:=2) (cs:=[y_Closed,y_NoBook,y_NoPlace,y_NoTable,y_NoText,y_TooHeavy,y_TooMany,y_Unlike]) rfl M.isinstance iz rfl (Or.inl rfl) (v4 (a0s (v:=.ref y_Closed) rfl Z.g_Closed rfl) (v4 (a0s (v:=.ref y_NoBook) rfl Z.g_NoBook rfl) (v4 (a0s (v:=.ref y_NoPlace) rfl Z.g_NoPlace rfl) (v4 (a0s (v:=.ref y_NoTable) rfl Z.g_NoTable rfl) (v4 (a0s (v:=.ref y_NoText) rfl Z.g_NoText rfl) (v4 (a0s (v:=.ref y_TooHeavy) rfl Z.g_TooHeavy rfl) (v4 (a0s (v:=.ref y_TooMany) rfl Z.g_TooMany rfl) (v4 (a0s (v:=.ref y_Unlike) rfl Z.g_Unlike rfl) a6d)))))))) (fun _ _ _ q=>q) (abm (by simp)) (mq Z)))
 a3f
 jr)))))
 (dh (ju (bw 1)))))
theorem au6:FnScope ["_law_tongue", "_law_size", "_law_deeds_here", "_law_goes"] ["_law_tongue", "_law_size", "_law_deeds_here"] (bf (top 49)):=⟨rfl,rfl,rfl,by decide +kernel,rfl,by decide +kernel,by decide +kernel⟩
theorem azr {k:Nat} (M:Nm mg) (cdv:Value) (A:Around) (outer:List Env) (s:Shared) (H:Hp) (E:XK) (hr:Room k (A.deeper (PyProof.Rows.envOfC "_law_long" (bf (top 49)) s.heap.objs.size f cdv))):MSs (a1k CX0 P w K mg base ["_law_tongue", "_law_size", "_law_deeds_here", "_law_goes"] "_law_long" (bf (top 49)) f cdv A outer s H E).nox X0 (j9 (top 49)) (a2s) :=
 have SC:=au6
 (bc (gh (i:=3) SC.nd rfl (Or.inl rfl) (wz (L2.CallR.or ug (v5 rfl)) a0f rfl M.tuple xx (aa (zy (a0e rfl (CSc.of (ts:=["_law_room"]) (fr:=["_law_tongue", "_law_size"]) (ix:=[0,1]) rfl rfl rfl rfl (by intro p hp;simp only [List.mem_cons,List.not_mem_nil,or_false] at hp;rcases hp with rfl | rfl<;>rfl) rfl rfl rfl rfl) (a3k rfl M.range (aa (bw 1) ao ak)) (fun _ _ _ _=>(xu (i:=0) (show (["_law_room", "_law_tongue", "_law_size"]:List Str).Nodup by decide +kernel) rfl (Or.inl rfl) (.inr rfl))) a1f (fun _ _ _ _=>(a2i (dq (aa (lw (a9w rfl) ad1 rfl M.min alw (aa (iu (bw 0) bh) (aa (a6n (bw 2) bh) ao jy) jy)) ao du)) (lw (L2.CallR.or cu d7) jx rfl M.len o6 (aa (bw 1) ao ak)))))) ao)))
 (dh (ju (dq (aa (bw 3) (aa (wz (L2.CallR.or ug (v5 rfl)) a0f rfl M.tuple xx (aa (zy (a0e rfl (CSc.noFree (ts:=["_law_room"]) rfl (by decide +kernel) (by decide +kernel) (by decide +kernel)) (a3k rfl M.range (aa (bw 1) ao ak)) (fun _ _ _ _=>(xu (i:=0) (show (["_law_room"]:List Str).Nodup by decide +kernel) rfl (Or.inl rfl) (.inr rfl))) a1f (fun _ _ _ _=>(iu (zu bh) (wz a9x agj rfl M.int acq (aa (a0a abf a6o (bw 0) bh (qt _)) ao)))))) ao)) (aa (bw 2) ao ak) du) ak)))))
theorem au7:FnScope ["_law_script", "_law_pen_here", "_law_turn", "_law_tongue", "_law_machine_here", "_law_bad", "_law_six", "_law_wide", "_law_far", "_law_lone"] ["_law_script"] (bf (top 50)):=⟨rfl,rfl,rfl,by decide +kernel,rfl,by decide +kernel,by decide +kernel⟩
theorem azs {k:Nat} (M:Nm mg) {a_27:Addr} {d_27:FuncData} {k_27:Nat} {F_27:SF} (D_27:Dn P w K mg base k_27 "_law_bent" ["_law_pen_here", "_law_machine_here"] (qu K 2 F_27) a_27 d_27) (h_27:k_27≤k) {a_20:Addr} {d_20:FuncData} {k_20:Nat} {F_20:SF} (D_20:Dn P w K mg base k_20 "_law_deeds" ["_law_pen_here", "_law_size", "_law_many"] (qu K 3 F_20) a_20 d_20) (h_20:k_20≤k) {a_29:Addr} {d_29:FuncData} {k_29:Nat} {F_29:SF} (D_29:Dn P w K mg base k_29 "_law_long" ["_law_tongue", "_law_size", "_law_deeds_here"] (qu K 3 F_29) a_29 d_29) (h_29:k_29≤k) {a_21:Addr} {d_21:FuncData} {k_21:Nat} {F_21:SF} (D_21:Dn P w K mg base k_21 "_law_machine" ["_law_pen_here", "_law_tongue", "_law_most"] (qu K 3 F_21) a_21 d_21) (h_21:k_21≤k) {a_14:Addr} {d_14:FuncData} {k_14:Nat} {F_14:SF} (D_14:Dn P w K mg base k_14 "_law_pen" ["_law_script"] (qu K 1 F_14) a_14 d_14) (h_14:k_14≤k) {a_28:Addr} {d_28:FuncData} {k_28:Nat} {F_28:SF} (D_28:Dn P w K mg base k_28 "_law_refused" ["_law_thing"] (qu K 1 F_28) a_28 d_28) (h_28:k_28≤k) {a_22:Addr} {avd:FuncData} {k_22:Nat} {F_22:SF} (D_22:Dn P w K mg base k_22 "_law_same" ["_law_found", "_law_due"] (qu K 2 F_22) a_22 avd) (h_22:k_22≤k) {a_16:Addr} {d_16:FuncData} {k_16:Nat} {F_16:SF} (D_16:Dn P w K mg base k_16 "_law_signs" [] (qu K 0 F_16) a_16 d_16) (h_16:k_16≤k) {a_17:Addr} {d_17:FuncData} {k_17:Nat} {F_17:SF} (D_17:Dn P w K mg base k_17 "_law_some" ["_law_pen_here", "_law_rest", "_law_most"] (qu K 3 F_17) a_17 d_17) (h_17:k_17≤k) {a_12:Addr} {d_12:FuncData} {k_12:Nat} {F_12:SF} (D_12:DnX P w K mg base k_12 "looked_machine" ["thing"] (spX K mg 1 F_12) a_12 d_12) (h_12:k_12≤k) (cdv:Value) (A:Around) (outer:List Env) (s:Shared) (H:Hp) (E:XK) (hr:Room k (A.deeper (PyProof.Rows.envOfC "law" (bf (top 50)) s.heap.objs.size f cdv))):MSs (a1k CX0 P w K mg base ["_law_script", "_law_pen_here", "_law_turn", "_law_tongue", "_law_machine_here", "_law_bad", "_law_six", "_law_wide", "_law_far", "_law_lone"] "law" (bf (top 50)) f cdv A outer s H E).nox X0 (j9 (top 50)) (akj F_27 F_20 F_29 F_21 F_14 F_28 F_22 F_16 F_17 F_12) :=
 have SC:=au7
 (bc (gh (i:=1) SC.nd rfl (Or.inl rfl) (bz true D_14 (hr.mono h_14) rfl (aa (bw 0) ao ak)))
 (bc (a5p PassesOwn.never rfl (a3k rfl M.range (aa bh ao au)) (qj (i:=2) SC.nd rfl (Or.inl rfl)) (bc (gh (i:=3) SC.nd rfl (Or.inl rfl) (bz false D_17 (hr.mono h_17) rfl (aa (bw 1) (aa (aar false D_16 (hr.mono h_16) rfl) (aa bh ao au) du) ak)))
 (bc (gh (i:=4) SC.nd rfl (Or.inl rfl) (bz false D_21 (hr.mono h_21) rfl (aa (bw 1) (aa (bw 3) (aa bh ao au) ak) ak)))
 (bc (gh (i:=5) SC.nd rfl (Or.inl rfl) (bz false D_27 (hr.mono h_27) rfl (aa (bw 1) (aa (bw 4) ao ak) ak)))
 (bc (ux (PW.pt (a7g (vp (uv (bz false D_22 (hr.mono h_22) rfl (aa (a4e D_12 (hr.mono h_12) rfl (aa (bw 4) ao ak)) (aa (bw 4) ao ak) du)))) (a3d (vp (uv (bz false D_28 (hr.mono h_28) rfl (aa (bw 5) ao ak)))))))
 a3f
 jr)
 (dh (ux (vp (uv (bz false D_22 (hr.mono h_22) rfl (aa (a4e D_12 (hr.mono h_12) rfl (aa (bw 4) ao ak)) (aa (bw 4) ao ak) du))))
 a3f
 jr)))))))
 (bc (gh (i:=6) SC.nd rfl (Or.inl rfl) (bz false D_20 (hr.mono h_20) rfl (aa (bw 1) (aa bh (aa bh ao au) au) ak)))
 (bc (gh (i:=7) SC.nd rfl (Or.inl rfl) (dq (aa (bw 3) (aa (iu (a2i (dq (aa (bz false D_29 (hr.mono h_29) rfl (aa (bw 3) (aa bh (aa (bw 6) ao ak) au) ak)) ao du)) bh) (dq (aa (dq (aa (dq (aa (a2i (dq (aa bh ao au)) (lw (L2.CallR.or cu d7) jx rfl M.len o6 (aa (bw 3) ao ak))) ao jy)) (aa (dq (aa (zu bh) ao a2j)) (aa (dq ao) ao cj) cj) cj)) ao cj))) ao jy) ak)))
 (bc (gh (i:=8) SC.nd rfl (Or.inl rfl) (dq (aa (bw 3) (aa (dq (aa (bz false D_29 (hr.mono h_29) rfl (aa (bw 3) (aa bh (aa (dq (aa (dq (aa mj ao au)) ao cj)) ao cj) au) ak)) ao du)) ao cj) ak)))
 (bc (ux (PW.pt (a7g (vp (uv (bz false D_22 (hr.mono h_22) rfl (aa (a4e D_12 (hr.mono h_12) rfl (aa (bw 7) ao ak)) (aa (bw 7) ao ak) du)))) (a3d (vp (uv (bz false D_28 (hr.mono h_28) rfl (aa (bw 8) ao ak)))))))
 a3f
 jr)
 (bc (gh (i:=9) SC.nd rfl (Or.inl rfl) (dq (aa (dq (aa (iu (dq (aa (a2i (dq (aa bh ao au)) (lw (L2.CallR.or cu d7) jx rfl M.len o6 (aa (bw 3) ao ak))) ao jy)) (dq (aa (a2i (dq (aa bh ao au)) (lw (L2.CallR.or cu d7) jx rfl M.len o6 (aa (bw 3) ao ak))) ao jy))) (aa (dq (aa (zu bh) (aa (zu bh) ao a2j) a2j)) (aa (dq ao) ao cj) cj) jy)) ao cj)))
 (dh (ju (a0c (bz false D_28 (hr.mono h_28) rfl (aa (dq (aa (bw 3) (aa (bw 9) ao ak) ak)) ao cj)) (a0q (bz false D_22 (hr.mono h_22) rfl (aa (a4e D_12 (hr.mono h_12) rfl (aa (dq (aa (bw 3) (aa (jt (j7 (bw 7) bh (fun _ _=>rfl)) (p6 bh) ql) ao jq) ak)) ao cj)) (aa (dq (aa (bw 3) (aa (jt (j7 (bw 7) bh (fun _ _=>rfl)) (p6 bh) ql) ao jq) ak)) ao cj) du)))))))))))))
end
end K67
namespace HND
open PySem PySem.Spec L2 MI
noncomputable def a0j:SS :=
 (jd (o7 0 (sC (.str " !\"#$&'()*+,-./0123456789:;<=>?@ABCDEFGHIJKLMNOPQRSTUVWXYZ[\\]^_`")))
 (ud (s2 j8 (sV 0) (sC (.str "abcdefghijklmnopqrstuvwxyz{|}~\n")))))
end HND
namespace MI
open PySem PySem.Spec L2
abbrev S (l:List Nat):Str:=⟨l.toArray⟩
theorem a2y (l:List Nat):(S l).cps.toList=l:=by simp
theorem a9d (l:List Nat):(S l).length=l.length:=by simp [Str.length]
theorem ahc (x:Str):S x.cps.toList=x:=by cases x;simp
theorem ax2 (a b:List Nat):S a++S b=S (a++b):=by rw [← ahc (S a++S b),awo]
theorem ax3 {a b:List Nat} (h:S a=S b):a=b:=by
 have:=congrArg (fun x:Str=>x.cps.toList) h
 simpa using this
theorem ax4 (a b:List Nat):(S a == S b)=decide (a=b):=by
 by_cases h:a=b
 ·subst h;simp
 ·have:¬ S a=S b:=fun z=>h (ax3 z)
  simp [h]
section
variable {h:Hd} {a b l:List Nat} {i:Nat} {c:Nat}
theorem ayd (hl:l.length≤LINE) (e:l[i]? = some c):gIx (.str (S l)) (.int (i:Nat)) h = .ok (.str (S [c])) h:=by
 unfold gIx
 simp only [a9d,if_pos hl,a2y,yo e]
theorem aez (hl:a.length+b.length≤LINE):j8 (.str (S a)) (.str (S b)) h = .ok (.str (S (a++b))) h:=by
 unfold j8
 simp only [a9d,if_pos hl,ax2]
theorem af0 (hl:l.length≤LINE):um [.str (S l)] h = .ok (.int l.length) h:=by
 unfold um
 simp only [a9d,if_pos hl]
theorem azt (k:Nat) (hl:l.length≤LINE):a6r (.str (S l)) none (some (k:Int)) h = .ok (.str (S (l.take k))) h:=by
 show gSl (.str (S l)) none (some (k:Int)) h=_
 unfold gSl
 simp only [a9d,if_pos hl,a2y,abn]
theorem am6 (k:Nat) (hl:l.length≤LINE):a6r (.str (S l)) (some (k:Int)) none h = .ok (.str (S (l.drop k))) h:=by
 show gSl (.str (S l)) (some (k:Int)) none h=_
 unfold gSl
 simp only [a9d,if_pos hl,a2y,a6k]
end
section
variable {h:Hd} {i j:Int} {xs ys:List D}
theorem a3w:gIx (.tup xs) (.int i) h=(match atI xs i with | some d=>.ok d h | none=>.no):=rfl
theorem a6y:gIx (.rol xs) (.int i) h=(match atI xs i with | some d=>.ok d h | none=>.no):=rfl
theorem a6z {k:Nat}:gIx (.ref k) (.int i) h=(match a1a (.ref k) h with | some xs=>(match atI xs i with | some d=>.ok d h | none=>.no) | none=>.no):=rfl
theorem a3n:um [.tup xs] h = .ok (.int xs.length) h:=rfl
theorem a3o:um [.rol xs] h = .ok (.int xs.length) h:=rfl
theorem a3p {k:Nat}:um [.ref k] h=(match a1a (.ref k) h with | some xs=>.ok (.int xs.length) h | none=>.no):=rfl
theorem ye:j8 (.int i) (.int j) h = .ok (.int (i+j)) h:=rfl
theorem a5e:aal (.int i) (.int j) h = .ok (.int (i+j)) h:=rfl
open Classical in
theorem a87:a2x (.int i) (.int j) h=if CMul i j then .ok (.int (i*j)) h else .no:=by unfold a2x;rfl
theorem j5 (b:Bool):tru (.bl b) h = .ok b h:=rfl
theorem a5f:tru (.int i) h = .ok (i != 0) h:=rfl
theorem a5g:tru (.rol xs) h = .ok (!xs.isEmpty) h:=rfl
theorem a5h:tru (.tup xs) h = .ok (!xs.isEmpty) h:=rfl
theorem a5i:tru .non h = .ok false h:=rfl
theorem a70:hEq (.int i) (.int j) h = .ok (.bl (i == j)) h:=rfl
theorem a9e:hNe (.int i) (.int j) h = .ok (.bl (!(i == j))) h:=rfl
theorem ax5 (a b:Str):hEq (.str a) (.str b) h = .ok (.bl (a == b)) h:=rfl
theorem af1 (a b:Bool):hEq (.bl a) (.bl b) h = .ok (.bl (a == b)) h:=rfl
theorem af2 (a b:Bool):hNe (.bl a) (.bl b) h = .ok (.bl (!(a == b))) h:=rfl
theorem a88 (x:D):gIs x .non h = .ok (.bl (a7i x)) h:=by cases x<;>rfl
theorem a1i (x:D):alr x .non h = .ok (.bl (!a7i x)) h:=by cases x<;>rfl
theorem af3 (a b:Bool):gIs (.bl a) (.bl b) h = .ok (.bl (a == b)) h:=rfl
theorem a2t (a b:Bool):alr (.bl a) (.bl b) h = .ok (.bl (a != b)) h:=rfl
theorem aqf:a7i (.int i)=false:=rfl
theorem aqg (x:Str):a7i (.str x)=false:=rfl
theorem aqh:a7i .non=true:=rfl
theorem aqi:a7i (.tup xs)=false:=rfl
end
end MI
namespace HND
open PySem PySem.Spec L2 MI AT
local macro_rules | `(tactic| walk_at "ev") => `(tactic| simp only [wj,a0i,a82,a4b,a83,o7,af7,aek,sIf,ud,a0o,acu,put,a6t,a8p,a7w,ue,a8o,kN,sV,sC,s2,s1,sA,aj,bj,sNx,sT,asB,a0n,j5,a5f,a5g,a5h,a5i,af6,sOr,a0b,v9,aq7,a5x,sCh,aq8,di,a2h,MI.a3w,MI.a6y,MI.a6z,aon,a1a,gLt,gGt,gGe,gLe,a70,a9e,af1,af2,a88,a1i,af3,a2t,aqf,aqg,aqh,aqi,ye,MI.a7f,a5q,aef,a87,AT.aew,AT.p18,a3n,a3o,a3p,aio,a5e,a4r,a4s,aeg,MI.kh,MI.a0d,sML,isL,a8r,oN,oS,a0h,a1t,sIt,af8,sRg,List.length_map,List.length_cons,List.length_nil,List.length_append,List.getElem?_cons_zero,List.getElem?_cons_succ,List.set_cons_zero,List.set_cons_succ,List.nil_append,List.cons_append,AT.aeo,AT.aep,AT.aeq,AT.aer,AT.aes,AT.aet,AT.aeu,AT.aev,AT.x10,AT.x20,AT.x21,AT.x30,AT.x31,AT.x32,AT.x40,AT.x41,AT.x42,AT.x43,AT.x50,AT.x51,AT.x52,AT.x53,AT.x54,AT.x60,AT.x61,AT.x62,AT.x63,AT.x64,AT.x65,AT.x70,AT.x71,AT.x72,AT.x73,AT.x74,AT.x75,AT.x76,decide_true,decide_false,reduceIte,Bool.true_and,Bool.and_self,Bool.not_true,Bool.not_false,and_self,true_and,and_true,beq_self_eq_true,Nat.reduceAdd,Nat.reduceLeDiff,Nat.reduceLT,Nat.reducePow,Int.reduceLT,Int.reduceLE,Int.reduceNeg,Int.reduceEq,Int.reduceBEq,Bool.false_eq_true,Bool.true_eq_false,ite_true,ite_false,if_true,if_false, *])
end HND
namespace HND
open PySem PySem.Spec L2 MI AT
local macro_rules | `(tactic| walk_at "ev") => `(tactic| simp only [wj,a0i,a82,a4b,a83,o7,af7,aek,sIf,ud,a0o,acu,put,a6t,a8p,a7w,ue,a8o,kN,sV,sC,s2,s1,sA,aj,bj,sNx,sT,asB,a0n,j5,a5f,a5g,a5h,a5i,af6,sOr,a0b,v9,aq7,a5x,sCh,aq8,di,a2h,MI.a3w,MI.a6y,MI.a6z,aon,a1a,gLt,gGt,gGe,gLe,a70,a9e,af1,af2,a88,a1i,af3,a2t,aqf,aqg,aqh,aqi,ye,MI.a7f,a5q,aef,a87,AT.aew,AT.p18,a3n,a3o,a3p,aio,a5e,a4r,a4s,aeg,MI.kh,MI.a0d,sML,isL,a8r,oN,oS,a0h,a1t,sIt,af8,sRg,abr,a2a,ao0,aow,aov,ak4,aoe,asy,srcOf,  List.length_map,List.length_cons,List.length_nil,List.length_append,List.getElem?_cons_zero,List.getElem?_cons_succ,List.set_cons_zero,List.set_cons_succ,List.nil_append,List.cons_append,AT.aeo,AT.aep,AT.aeq,AT.aer,AT.aes,AT.aet,AT.aeu,AT.aev,AT.x10,AT.x20,AT.x21,AT.x30,AT.x31,AT.x32,AT.x40,AT.x41,AT.x42,AT.x43,AT.x50,AT.x51,AT.x52,AT.x53,AT.x54,AT.x60,AT.x61,AT.x62,AT.x63,AT.x64,AT.x65,AT.x70,AT.x71,AT.x72,AT.x73,AT.x74,AT.x75,AT.x76,decide_true,decide_false,reduceIte,Bool.true_and,Bool.and_self,Bool.not_true,Bool.not_false,and_self,true_and,and_true,beq_self_eq_true,Nat.reduceAdd,Nat.reduceLeDiff,Nat.reduceLT,Nat.reducePow,Int.reduceLT,Int.reduceLE,Int.reduceNeg,Int.reduceEq,Int.reduceBEq,Bool.false_eq_true,Bool.true_eq_false,ite_true,ite_false,if_true,if_false, *])
def avn:Str := " !\"#$&'()*+,-./0123456789:;<=>?@ABCDEFGHIJKLMNOPQRSTUVWXYZ[\\]^_`"
def avo:Str := "abcdefghijklmnopqrstuvwxyz{|}~\n"
def sig:List Nat:=avn.cps.toList++avo.cps.toList
theorem a9f:sig.length=95:=by decide +kernel
theorem am7:sig.Nodup:=by decide +kernel
noncomputable def gq:SF:=o8 a0j 1
theorem lits {h:Hd}:j8 (.str avn) (.str avo) h = .ok (.str (S sig)) h:=by
 rw [← ahc avn,← ahc avo,aez (by decide +kernel)]
 rfl
theorem a69:Pu gq 0 [] (.str (S sig)):=by
 refine Pu.of rfl (by simp) (r:=.ok (.str (S sig)) []) ?_ (by rw [qw (nj _) (by simp)];rfl) (nj _)
 unfold gq
 rw [j6]
 unfold a0j
 have e:=@lits []
 unfold avn avo at e
 show toR (jd (o7 0 _) _ [none] [])=_
 simp only [wj,o7,sC,a2h,a0i,ud,s2,sV,List.set_cons_zero,List.getElem?_cons_zero,di,e,a4b]
structure Tongue (l:List Nat):Prop where
 lo:1≤l.length
 hi:l.length≤6
 nd:l.Nodup
 sub:∀ c∈l,c∈sig
theorem ahd (a r:List Nat) (i:Nat) (c:Nat) (e:r[i]? = some c):List.Perm (a++r) ((a++[c])++(r.take i++r.drop (i+1))):=by
 obtain ⟨hi,e⟩:=List.getElem?_eq_some_iff.mp e
 have:r=r.take i++c::r.drop (i+1):=by rw [← e];simp
 rw [List.append_assoc]
 refine List.Perm.append_left a ?_
 rw [List.singleton_append]
 conv=>lhs;rw [this]
 exact List.perm_middle
end HND
namespace MI
open PySem PySem.Spec L2
theorem ax6 (n:Nat):rng 0 n=(List.range n).map fun i:Nat=>D.int (i:Nat):=by
 unfold rng
 exact List.map_congr_left fun i _=>by rw [Int.zero_add]
theorem ap6 {n:Nat} (h:n≤LINE):B62 (n:Int):=by
 have:n≤16777216:=h
 unfold B62;omega
theorem au8 {n:Nat} (h:Hd) (z:n≤LINE):a2a [.int (n:Nat)] h = .ok ⟨(List.range n).map fun i:Nat=>D.int (i:Nat),fun _=>True⟩ h:=by
 unfold a2a
 simp only [ap6 z,if_true,Int.toNat_natCast,ax6]
theorem ax7 {f:SE} {τ:Sd} {h:Hd} {d:D} (e:f τ h = .ok d h):aj f bj τ h = .ok [d] h:=by unfold aj bj;rw [e];rfl
theorem a5j {f:SE} {τ:Sd} {h:Hd} {n:Nat} (e:f τ h = .ok (.int (n:Nat)) h) (z:n≤LINE):sRg a2a (aj f bj) τ h = .ok ⟨(List.range n).map fun i:Nat=>D.int (i:Nat),fun _=>True⟩ h:=by
 unfold sRg
 rw [ax7 e,di]
 exact au8 h z
theorem d8 {i:Nat} {τ:Sd} {h:Hd} {d:D} (e:τ[i]? = some (some d)):sV i τ h = .ok d h:=by unfold sV;rw [e]
theorem a71 {fi:SI} {t:D→Option Sd} {fe:SE} {ix:List Nat} {τ:Sd} {h:Hd} {α:Type} (g F:α→D) (xs:List α) (e:fi τ h = .ok ⟨xs.map g,fun _=>True⟩ h) (z:xs.length≤LINE)
  (st:∀ x∈xs,a7h t fe (frs' ix τ) (g x) h = .ok (F x) h):uy fi t fe ix τ h = .ok (.ref h.length) (h++[.lst (xs.map F)]):=by
 unfold uy
 rw [e,di]
 dsimp only
 rw [if_pos (by rw [List.length_map];exact z),aau g F st]
 rfl
theorem ahe {fi:SI} {t:D→Option Sd} {c:ST} {fe:SE} {ix:List Nat} {τ:Sd} {h:Hd} {α:Type} (g:α→D) (F:α→Option D) (xs:List α) (e:fi τ h = .ok ⟨xs.map g,fun _=>True⟩ h) (z:xs.length≤LINE)
  (st:∀ x∈xs,abt t c fe (frs' ix τ) (g x) h = .ok (F x) h):a7y fi t c fe ix τ h = .ok (.ref h.length) (h++[.lst (xs.filterMap F)]):=by
 unfold a7y
 rw [e,di]
 dsimp only
 rw [if_pos (by rw [List.length_map];exact z),aav g F st]
 rfl
theorem zb (fe:SE) (r:Sd) (x:D) (h:Hd):a7h t1 fe r x h=fe (some x::r) h:=rfl
theorem ap7 (c:ST) (fe:SE) (r:Sd) (x:D) (h:Hd):abt t1 c fe r x h=(c (some x::r) h).bind fun b h1=>if b=true then (fe (some x::r) h1).bind fun y h2=>.ok (some y) h2 else .ok none h1:=rfl
theorem a9g (i:Nat) (ix:List Nat) (τ:Sd):frs' (i::ix) τ=(τ[i]?).join::frs' ix τ:=rfl
theorem abz (τ:Sd):frs' [] τ=[]:=rfl
end MI
namespace MI
open PySem PySem.Spec L2
section
variable {f k f1 f2 f3:SE} {c c1 c2:ST} {g p q:SS} {τ τ1:Sd} {h h1 h2 h3 h4:Hd} {a b d v:D} {i:Nat} {t u:Bool}
theorem jf (d:D) (τ:Sd) (h:Hd):sC d τ h = .ok d h:=rfl
theorem aye {G:List D→Hd→R D} (e3:G [] h = .ok v h1):sA G bj τ h = .ok v h1:=e3
theorem uz {G:List D→Hd→R D} (e1:f τ h = .ok a h1) (e3:G [a] h1 = .ok v h2):sA G (aj f bj) τ h = .ok v h2:=by
 have:aj f bj τ h = .ok [a] h1:=by unfold aj;rw [e1];rfl
 unfold sA
 rw [this,di,e3]
theorem ym {G:List D→Hd→R D} (e1:f τ h = .ok a h1) (e2:k τ h1 = .ok b h2) (e3:G [a,b] h2 = .ok v h3):sA G (aj f (aj k bj)) τ h = .ok v h3:=by
 have:aj f (aj k bj) τ h = .ok [a,b] h2:=by unfold aj;rw [e1,di,e2];rfl
 unfold sA
 rw [this,di,e3]
theorem a3v {G:List D→Hd→R D} (e0:f1 τ h = .ok d h1) (e1:f τ h1 = .ok a h2) (e2:k τ h2 = .ok b h3) (e3:G [d,a,b] h3 = .ok v h4):sA G (aj f1 (aj f (aj k bj))) τ h = .ok v h4:=by
 have:aj f1 (aj f (aj k bj)) τ h = .ok [d,a,b] h3:=by unfold aj;rw [e0,di,e1,di,e2];rfl
 unfold sA
 rw [this,di,e3]
theorem m8 (e:f τ h = .ok d h1):jd (o7 i f) g τ h=g (τ.set i (some d)) h1:=by
 rw [wj]
 unfold o7
 rw [e]
 rfl
theorem ap8 (e:f τ h = .ok d h1):o7 i f τ h = .nx (τ.set i (some d)) h1:=by
 unfold o7
 rw [e]
 rfl
theorem a1v (e:p τ h = .nx τ1 h1):jd p g τ h=g τ1 h1:=by rw [wj,e];rfl
theorem a0w (e:p τ h = .rt d h1):jd p g τ h = .rt d h1:=by rw [wj,e];rfl
theorem ifT (e:c τ h = .ok true h1):sIf c p q τ h=p τ h1:=by unfold sIf;rw [e];rfl
theorem ifF (e:c τ h = .ok false h1):sIf c p q τ h=q τ h1:=by unfold sIf;rw [e];rfl
theorem ifN (e:c τ h = .ok false h1):jd (sIf c p sNx) g τ h=g τ h1:=by rw [wj,ifF e];rfl
theorem tof (e:f τ h = .ok (.bl t) h1):sT f τ h = .ok t h1:=by unfold sT;rw [e];rfl
theorem nu (e:f τ h = .ok d h1) (e':tru d h1 = .ok t h2):a0n f τ h = .ok t h2:=by unfold a0n;rw [e,di,e']
theorem azv (e:c1 τ h = .ok true h1) (e':c2 τ h1 = .ok t h2):af6 c1 c2 τ h = .ok t h2:=by unfold af6;rw [e,di,if_pos rfl,e']
theorem azw (e:c1 τ h = .ok false h1):af6 c1 c2 τ h = .ok false h1:=by unfold af6;rw [e,di,if_neg (by simp)]
theorem orT (e:c1 τ h = .ok true h1):sOr c1 c2 τ h = .ok true h1:=by unfold sOr;rw [e,di,if_pos rfl]
theorem orF (e:c1 τ h = .ok false h1) (e':c2 τ h1 = .ok t h2):sOr c1 c2 τ h = .ok t h2:=by unfold sOr;rw [e,di,if_neg (by simp),e']
theorem au9 (e:c τ h = .ok t h1):a0b c τ h = .ok (!t) h1:=by unfold a0b;rw [e];rfl
theorem a2z (e:c τ h = .ok true h1):a0b c τ h = .ok false h1:=au9 e
theorem a9q (e:c τ h = .ok false h1):a0b c τ h = .ok true h1:=au9 e
theorem lz (e:f τ h = .ok d h1):ud f τ h = .rt d h1:=by unfold ud;rw [e];rfl
theorem a3a (e:f τ h = .ok (.bl true) h1) (e':k τ h1 = .ok d h2):v9 f k τ h = .ok d h2:=by unfold v9;rw [e,di];exact e'
theorem a72 {G:D→List D→Hd→R D} {A:SA} {ds:List D} (e1:f τ h = .ok d h1) (l:isL d h1=true) (e2:A τ h1 = .ok ds h2) (e3:G d ds h2 = .ok v h3):a0o (sML G f A) τ h = .nx τ h3:=by
 unfold a0o sML
 rw [e1,di,if_pos l,e2,di,e3]
 rfl
theorem ax8 {G:D→List D→Hd→R D} {A:SA} {ds:List D} (e1:f τ h = .ok d h1) (l:isL d h1=true) (e2:A τ h1 = .ok ds h2) (e3:G d ds h2 = .ok v h3):sML G f A τ h = .ok v h3:=by
 unfold sML
 rw [e1,di,if_pos l,e2,di,e3]
theorem arg1 (e:f τ h = .ok d h1):aj f bj τ h = .ok [d] h1:=by unfold aj bj;rw [e];rfl
theorem o9 {G:D→D→Hd→R D} (e1:f τ h = .ok a h1) (e2:k τ h1 = .ok b h2) (e3:G a b h2 = .ok v h3):s2 G f k τ h = .ok v h3:=by
 unfold s2
 rw [e1,di,e2,di,e3]
theorem am8 {G:D→Hd→R D} (e1:f τ h = .ok a h1) (e3:G a h1 = .ok v h2):s1 G f τ h = .ok v h2:=by
 unfold s1
 rw [e1,di,e3]
theorem aua {G:D→D→Hd→R D} (ht:τ[i]? = some (some a)) (e:f τ h = .ok b h1) (e2:G a b h1 = .ok d h2):af7 i G f τ h = .nx (τ.set i (some d)) h2:=by
 unfold af7
 rw [ht]
 dsimp only
 rw [e,a2h,e2]
 rfl
theorem ahf {G:SG} (e:f τ h = .ok d h1) (e2:G d τ h1 = .nx τ1 h2):a8p f G τ h = .nx τ1 h2:=by
 unfold a8p
 rw [e,a2h,e2]
theorem ax9 (e1:f1 τ h = .ok v h1) (e2:f2 τ h1 = .ok a h2) (e3:f3 τ h2 = .ok b h3) (e4:put a b v h3=some h4):acu f1 f2 f3 τ h = .nx τ h4:=by
 unfold acu
 rw [e1,a2h,e2,a2h,e3,a2h,e4]
theorem aub (e1:f1 τ h = .ok v h1) (e2:f2 τ h1 = .ok a h2) (e3:f3 τ h2 = .ok b h3) (e4:aqd a b v h3=some h4):a6t f1 f2 f3 τ h = .nx τ h4:=by
 unfold a6t
 rw [e1,a2h,e2,a2h,e3,a2h,e4]
theorem ab1 {fi:SI} {G:SG} {b:SS} {xs:List D} {ck:Hd→Prop} (e:fi τ h = .ok ⟨xs,ck⟩ h1):jd (abr fi G b) g τ h=thn (forL ck G b xs τ h1) g:=by
 rw [wj]
 unfold abr
 rw [e]
 rfl
theorem ac0 {xs:List D} {ck:Hd→Prop} (e:f τ h = .ok d h1) (e2:af8 d h1 = .ok ⟨xs,ck⟩ h1):sIt f τ h = .ok ⟨xs,ck⟩ h1:=by
 unfold sIt
 rw [e,di,e2]
theorem a73 {xs:List D} (e:h[i]? = some (.lst xs)) (z:xs.length<LINE):a8r (.ref i) [a] h = .ok .non (h.set i (.lst (xs++[a]))):=by
 unfold a8r
 simp only [e,if_pos z]
theorem axa {xs:List D} {j:Nat} (e:h[i]? = some (.lst xs)) (hj:j<xs.length):put (.ref i) (.int (j:Nat)) v h=some (h.set i (.lst (xs.set j v))):=by
 have:ixN xs.length (j:Int)=some j:=by unfold ixN;rw [if_pos (by omega),if_pos (by omega)];simp
 unfold put
 simp only [e,this]
theorem ab2 {xs:List D} {j:Nat} {y:D} (e:h[i]? = some (.lst xs)) (hj:xs[j]? = some y):gIx (.ref i) (.int (j:Nat)) h = .ok y h:=by
 rw [a6z]
 unfold a1a
 simp only [e,yo hj]
theorem axb {xs:List D} {j:Nat} {y:D} (hj:xs[j]? = some y):gIx (.rol xs) (.int (j:Nat)) h = .ok y h:=by
 rw [a6y]
 simp only [yo hj]
theorem af9 {xs:List D} {j:Nat} {y:D} (hj:xs[j]? = some y):gIx (.tup xs) (.int (j:Nat)) h = .ok y h:=by
 rw [a3w]
 simp only [yo hj]
theorem a9h {xs:List D} (e:h[i]? = some (.lst xs)):um [.ref i] h = .ok (.int (xs.length:Nat)) h:=by
 rw [a3p]
 unfold a1a
 simp only [e]
theorem am9 {x y:Int} (c:0<y):a5q (.int x) (.int y) h = .ok (.int (x % y)) h:=by unfold a5q;exact if_pos c
theorem auc {x y:Int} (c:y<x):gGt (.int x) (.int y) h = .ok (.bl true) h:=by unfold gGt;simp only [c,decide_true]
theorem ap9 {x y:Int} (c:¬ y<x):gGt (.int x) (.int y) h = .ok (.bl false) h:=by unfold gGt;simp only [c,decide_false]
theorem avp {x y:Int} (c:x<y):gLt (.int x) (.int y) h = .ok (.bl true) h:=by unfold gLt;simp only [c,decide_true]
theorem avq {x y:Int} (c:¬ x<y):gLt (.int x) (.int y) h = .ok (.bl false) h:=by unfold gLt;simp only [c,decide_false]
theorem ac1 {x y:Int} (c:x=y):hEq (.int x) (.int y) h = .ok (.bl true) h:=by rw [a70,c,beq_self_eq_true]
theorem ac2 {x y:Int} (c:¬ x=y):hEq (.int x) (.int y) h = .ok (.bl false) h:=by rw [a70,beq_eq_false_iff_ne.mpr c]
theorem akk {x y:Int} (c:x=y):hNe (.int x) (.int y) h = .ok (.bl false) h:=by rw [a9e,c,beq_self_eq_true];rfl
theorem aud {x y:Int} (c:¬ x=y):hNe (.int x) (.int y) h = .ok (.bl true) h:=by rw [a9e,beq_eq_false_iff_ne.mpr c];rfl
theorem ac3 (x:Int):a4r (.int x) h = .ok (.int (-x)) h:=rfl
theorem a74 (x y:Int):MI.a7f (.int x) (.int y) h = .ok (.int (x - y)) h:=rfl
theorem n8 {n:Nat} (h:n≤1000000):n≤LINE:=by show n≤16777216;omega
theorem a5v {n:Nat} (h:n≤1000000):n<LINE:=by show n<16777216;omega
theorem afa:MI.kh [a,b] h = .ok (.tup [a,b]) h:=by unfold MI.kh;rw [if_pos (n8 (by simp))]
theorem ama:MI.kh [a,b,v] h = .ok (.tup [a,b,v]) h:=by unfold MI.kh;rw [if_pos (n8 (by simp))]
end
end MI
namespace EVX
open PySem PySem.Spec L2 MI
section
variable {i:Nat} {cs:Str→Bool} {fb fs p g:SS} {τ τ1 τ2:Sd} {h h1 h2:Hd} {c:Str} {f:SE} {ka:SA} {ds:List D} {F:SF} {n:Nat}
theorem aue (e:p τ h = .ex c h1):jd p g τ h = .ex c h1:=by unfold jd;rw [e]
theorem ahg (e:ka τ h = .ok ds h1) (l:ds.length≤100):a86 c ka τ h = .ex c h1:=by
 unfold a86
 rw [e]
 show (if ds.length≤LINE then Fl.ex c h1 else .no)=_
 rw [if_pos (n8 (by omega))]
theorem apa (hn:ds.length=n) (cd:∀ x∈ds,MI.clo 0 x) (e:F ds [] = .ex c h1):a1u n F ds h = .ex c h:=by
 unfold a1u
 rw [if_pos cd,e]
 exact if_pos hn
theorem apb {d d':D} (cd:∀ x∈ds,MI.clo 0 x) (e:F ds [] = .ok d h1) (p:Pu F n ds d'):a1u n F ds h = .ok d' h:=by
 unfold a1u
 rw [if_pos cd,e]
 exact p h
theorem auf (e:fb τ h = .ex c h1) (hc:cs c=true) (e2:fs (τ.set i (some (.exc c))) h1 = .nx τ2 h2):ath i cs fb fs τ h = .nx (τ2.set i none) h2:=by
 unfold ath
 rw [e]
 show (if cs c=true then _ else _)=_
 rw [if_pos hc,e2]
theorem auh (e:f τ h = .ex c h1):a0o f τ h = .ex c h1:=by unfold a0o;rw [e];rfl
theorem qof {α:Type} {k:Sd→Hd→R α} {x:α} (e:k τ h = .ok x h1):qA k τ h = .ok x h1:=by unfold qA;rw [e];rfl
theorem azx (e:ka τ h = .ok ds h1):sA F ka τ h=F ds h1:=by unfold sA;rw [e];rfl
theorem apc {x:Str→Option Bool} {b:Bool} (e:τ[i]? = some (some (.exc c))) (e2:x c=some b):akf i x τ h = .ok (.bl b) h:=by unfold akf;rw [e];dsimp only;rw [e2]
theorem ahh {b:Bool} (e:f τ h = .ok (.bl b) h1):a5x f τ h = .ok (.bl (!b)) h1:=by unfold a5x;rw [e];rfl
theorem wg {d:D} (e:f τ h = .ok d h1) (e2:ka τ h1 = .ok ds h2):aj f ka τ h = .ok (d::ds) h2:=by
 unfold aj
 rw [e,di,e2]
 rfl
theorem aqj {a:D}:MI.kh [a] h = .ok (.tup [a]) h:=by unfold MI.kh;rw [if_pos (n8 (by simp))]
theorem azy:MI.kh [] h = .ok (.tup []) h:=by unfold MI.kh;rw [if_pos (n8 (by simp))]
theorem azz {G:List D→Hd→R D} {f1 f2 f3 f4:SE} {h3 h4 h5:Hd} {a b c d v:D} (e1:f1 τ h = .ok a h1) (e2:f2 τ h1 = .ok b h2) (e3:f3 τ h2 = .ok c h3) (e4:f4 τ h3 = .ok d h4) (e5:G [a,b,c,d] h4 = .ok v h5):sA G (aj f1 (aj f2 (aj f3 (aj f4 bj)))) τ h = .ok v h5:=by
 have:aj f1 (aj f2 (aj f3 (aj f4 bj))) τ h = .ok [a,b,c,d] h4:=by unfold aj;rw [e1,di,e2,di,e3,di,e4];rfl
 unfold sA
 rw [this,di,e5]
end
end EVX
namespace PN
open PySem PySem.Spec L2 MI AT HND EVX
local macro_rules | `(tactic| walk_at "ev") => `(tactic| simp only [wj,a0i,a82,a4b,a83,o7,af7,aek,sIf,ud,a0o,acu,put,a6t,a8p,a7w,ue,a8o,kN,sV,sC,s2,s1,sA,aj,bj,sNx,sT,asB,a0n,j5,a5f,a5g,a5h,a5i,af6,sOr,a0b,v9,aq7,a5x,sCh,aq8,di,a2h,MI.a3w,MI.a6y,MI.a6z,aon,a1a,gLt,gGt,gGe,gLe,a70,a9e,af1,af2,a88,a1i,af3,a2t,aqf,aqg,aqh,aqi,ye,MI.a7f,a5q,aef,a87,AT.aew,AT.p18,a3n,a3o,a3p,aio,a5e,a4r,a4s,aeg,MI.kh,MI.a0d,sML,isL,a8r,oN,oS,a0h,a1t,sIt,af8,sRg,List.length_map,List.length_cons,List.length_nil,List.length_append,List.getElem?_cons_zero,List.getElem?_cons_succ,List.set_cons_zero,List.set_cons_succ,List.nil_append,List.cons_append,AT.aeo,AT.aep,AT.aeq,AT.aer,AT.aes,AT.aet,AT.aeu,AT.aev,AT.x10,AT.x20,AT.x21,AT.x30,AT.x31,AT.x32,AT.x40,AT.x41,AT.x42,AT.x43,AT.x50,AT.x51,AT.x52,AT.x53,AT.x54,AT.x60,AT.x61,AT.x62,AT.x63,AT.x64,AT.x65,AT.x70,AT.x71,AT.x72,AT.x73,AT.x74,AT.x75,AT.x76,decide_true,decide_false,reduceIte,Bool.true_and,Bool.and_self,Bool.not_true,Bool.not_false,and_self,true_and,and_true,beq_self_eq_true,Nat.reduceAdd,Nat.reduceLeDiff,Nat.reduceLT,Nat.reducePow,Int.reduceLT,Int.reduceLE,Int.reduceNeg,Int.reduceEq,Int.reduceBEq,Bool.false_eq_true,Bool.true_eq_false,ite_true,ite_false,if_true,if_false, *])
structure Pen (o:O) (N:Nat):Prop where
 ex:∃ (cells:List Int) (a l:Int),o = .lst [.rol (cells.map D.int), .int a, .int l]∧0≤a∧a≤N∧0≤l
theorem Pen.clo {o:O} {N:Nat} (P:Pen o N):a1r 0 o:=by
 obtain ⟨cells,a,l,rfl,_⟩:=P.ex
 exact dj (a95 (jg fun x _=>iw x)) (dj (iw _) (dj (iw _) n6))
theorem Pen.up {o:O} {N M:Nat} (P:Pen o N) (h:N≤M):Pen o M:=by
 obtain ⟨cells,a,l,e,h1,h2,h3⟩:=P.ex
 exact ⟨cells,a,l,e,h1,by omega,h3⟩
noncomputable def az:SF:=o8 a5a 7
theorem ahi {o:O} {N:Nat} {m:Int} (P:Pen o N) (hN:N≤1000000000) (m0:0<m) (m1:m<1073741824):∃ r o',az [.ref 0, .int m] [o] = .ok (.int r) [o']∧0≤r∧r<m∧Pen o' (N+1):=by
 obtain ⟨cells,a,l,rfl,a0,a1,l0⟩:=P.ex
 unfold az
 rw [j6]
 unfold a5a a2b
 simp only [List.map_cons,List.map_nil,List.length_cons,List.length_nil,Nat.reduceSub,Nat.reduceAdd,List.replicate,List.cons_append,List.nil_append]
 have k3:(0<m∧m<1073741824)=True:=by simp [m0,m1]
 have k3':(0<m)=True:=by simp [m0]
 by_cases hl:0<l
 ·have kl:decide (0<l)=true:=decide_eq_true hl
  refine ⟨l % m,_,?_,Int.emod_nonneg _ (by omega),Int.emod_lt_of_pos _ m0,⟨cells,a,l / m,rfl,a0,by omega,Int.ediv_nonneg (by omega) (by omega)⟩⟩
  walk_at "ev"
 ·have:l=0:=by omega
  subst this
  have last:∀ c:Int,∃ r q q2,0≤r∧r<m∧(c % 2147483587+40709*a+31) ^ (3:Int).toNat % 2147483647=q∧(q*q+48271*q+a) % 2147483629=q2∧q2 / 64 % m=r∧CMul 40709 a∧CMul q q∧CMul 48271 q ∧
    (∀ h,agc (.int (c % 2147483587+40709*a+31)) (.int 3) h = .ok (.int ((c % 2147483587+40709*a+31) ^ (3:Int).toNat)) h):=fun c=>by
   have p0:0≤c % 2147483587:=Int.emod_nonneg _ (by decide)
   have p1:c % 2147483587<2147483587:=Int.emod_lt_of_pos _ (by decide)
   have q0:0≤(c % 2147483587+40709*a+31) ^ (3:Int).toNat % 2147483647:=Int.emod_nonneg _ (by decide)
   have q1:(c % 2147483587+40709*a+31) ^ (3:Int).toNat % 2147483647<2147483647:=Int.emod_lt_of_pos _ (by decide)
   refine ⟨_,_,_,Int.emod_nonneg _ (by omega),Int.emod_lt_of_pos _ m0,rfl,rfl,rfl, .inl ⟨by decide,by decide⟩, .inl ⟨by omega,by omega⟩, .inl ⟨by decide,by decide⟩,fun h=>ax1 ⟨by decide,by decide,by omega⟩⟩
  obtain ⟨n,rfl⟩:=Int.eq_ofNat_of_zero_le a0
  by_cases hc:0<(cells.length:Int)
  ·have kc:decide (0<(cells.length:Int))=true:=decide_eq_true hc
   have ic:(0<(cells.length:Int))=True:=by simpa using hc
   have im:((n:Int) % (cells.length:Int))=((n % cells.length:Nat):Int):=by omega
   have hj:n % cells.length<cells.length:=Nat.mod_lt _ (by omega)
   have hat:atI (cells.map D.int) ((n % cells.length:Nat):Int)=some (.int cells[n % cells.length]):=yo (by simp [hj])
   generalize cells[n % cells.length]=x at hat
   by_cases hA:(n:Int)<(cells.length:Int)
   ·have ka:decide ((n:Int)<(cells.length:Int))=true:=decide_eq_true hA
    by_cases hB:(1000000000000000000:Int)≤am5 x
    ·have kb:decide ((1000000000000000000:Int)≤am5 x)=true:=decide_eq_true hB
     have cm:CMul 2 (am5 x):=.inl ⟨by decide,by decide⟩
     have g0:0≤2*am5 x+(if decide (x<0)=true then 1 else 0):=by split<;>omega
     refine ⟨(2*am5 x+(if decide (x<0)=true then 1 else 0)) % m,_,?_,Int.emod_nonneg _ (by omega),Int.emod_lt_of_pos _ m0,⟨cells,(n:Int)+1,(2*am5 x+(if decide (x<0)=true then 1 else 0)) / m,rfl,by omega,by omega,Int.ediv_nonneg g0 (by omega)⟩⟩
     walk_at "ev"
    ·have kb:decide ((1000000000000000000:Int)≤am5 x)=false:=decide_eq_false hB
     obtain ⟨r,q,q2,r0,r1,eq,eq2,er,d1,d2,d3,d4⟩:=last x
     refine ⟨r,_,?_,r0,r1,⟨cells,(n:Int)+1,0,rfl,by omega,by omega,by omega⟩⟩
     walk_at "ev"
   ·have ka:decide ((n:Int)<(cells.length:Int))=false:=decide_eq_false hA
    obtain ⟨r,q,q2,r0,r1,eq,eq2,er,d1,d2,d3,d4⟩:=last x
    refine ⟨r,_,?_,r0,r1,⟨cells,(n:Int)+1,0,rfl,by omega,by omega,by omega⟩⟩
    walk_at "ev"
  ·have kc:decide (0<(cells.length:Int))=false:=decide_eq_false hc
   have ka:decide ((n:Int)<(cells.length:Int))=false:=decide_eq_false (by omega)
   obtain ⟨r,q,q2,r0,r1,eq,eq2,er,d1,d2,d3,d4⟩:=last 5
   refine ⟨r,_,?_,r0,r1,⟨cells,(n:Int)+1,0,rfl,by omega,by omega,by omega⟩⟩
   walk_at "ev"
theorem ac4 {o:O} {N:Nat} {m:Int} (P:Pen o N) (hN:N≤1000000000) (m0:0<m) (m1:m<1073741824):∃ r o',Dr az 2 [.int m] o (.int r) o'∧0≤r∧r<m∧Pen o' (N+1):=by
 obtain ⟨r,o',e,r0,r1,P'⟩:=ahi P hN m0 m1
 refine ⟨r,o',Dr.of rfl (by simp [iw]) P.clo e (qw (iw _) ?_) (iw _) P'.clo,r0,r1,P'⟩
 intro u hu
 simp at hu
 subst hu
 exact ul (by omega) P'.clo
noncomputable def v6:SF:=o8 a4d 1
theorem aui (ns:List Int) (h:Hd):∃ o,Pen o 0∧jo true 1 v6 [.scr (ns.map D.int)] h = .ok (.ref h.length) (h++[o]):=by
 have cl:clos 0 ((ns.take 63).map D.int):=jg fun x _=>iw x
 have z1:sZ (a0h (sV 0) oN (oS (sC (.int 63)))) [some (.scr (ns.map D.int))] [] = .ok (.rol ((ns.take 63).map D.int)) []:=by
  refine a7k (by
   show gSl (.scr (ns.map D.int)) none (some ((63:Nat):Int)) []=_
   unfold gSl
   simp only [abn,List.map_take]) cl (by simp)
 have e:v6 [.scr (ns.map D.int)] [] = .ok (.ref 0) [.lst [.rol ((ns.take 63).map D.int), .int 0, .int 0]]:=by
  unfold v6
  rw [j6]
  show toR (a4d [some (.scr (ns.map D.int))] [])=_
  unfold a4d
  exact congrArg toR (lz (a3v z1 (jf _ _ _) (jf _ _ _) rfl))
 have P:Pen (.lst [.rol ((ns.take 63).map D.int), .int 0, .int 0]) 0:=⟨_,0,0,rfl,by decide,by decide,by decide⟩
 exact ⟨_,P,atc rfl (by simpa [MI.clo] using (jg fun x _=>iw x:clos 0 (ns.map D.int))) e rfl P.clo h⟩
noncomputable def gq:SF:=o8 a0j 1
theorem a69:Pu gq 0 [] (.str (S sig)):=HND.a69
end PN
namespace SRC
open PySem PySem.Spec L2 MI
end SRC
namespace SRC
open PySem PySem.Spec L2 MI AT
local macro_rules | `(tactic| walk_at "ev") => `(tactic| simp only [wj,a0i,a82,a4b,a83,o7,af7,aek,sIf,ud,a0o,acu,put,a6t,a8p,a7w,ue,a8o,kN,sV,sC,s2,s1,sA,aj,bj,sNx,sT,asB,a0n,j5,a5f,a5g,a5h,a5i,af6,sOr,a0b,v9,aq7,a5x,sCh,aq8,di,a2h,MI.a3w,MI.a6y,MI.a6z,aon,a1a,gLt,gGt,gGe,gLe,a70,a9e,af1,af2,a88,a1i,af3,a2t,aqf,aqg,aqh,aqi,ye,MI.a7f,a5q,aef,a87,AT.aew,AT.p18,a3n,a3o,a3p,aio,a5e,a4r,a4s,aeg,MI.kh,MI.a0d,sML,isL,a8r,oN,oS,a0h,a1t,sIt,af8,sRg,List.length_map,List.length_cons,List.length_nil,List.length_append,List.getElem?_cons_zero,List.getElem?_cons_succ,List.set_cons_zero,List.set_cons_succ,List.nil_append,List.cons_append,AT.aeo,AT.aep,AT.aeq,AT.aer,AT.aes,AT.aet,AT.aeu,AT.aev,AT.x10,AT.x20,AT.x21,AT.x30,AT.x31,AT.x32,AT.x40,AT.x41,AT.x42,AT.x43,AT.x50,AT.x51,AT.x52,AT.x53,AT.x54,AT.x60,AT.x61,AT.x62,AT.x63,AT.x64,AT.x65,AT.x70,AT.x71,AT.x72,AT.x73,AT.x74,AT.x75,AT.x76,decide_true,decide_false,reduceIte,Bool.true_and,Bool.and_self,Bool.not_true,Bool.not_false,and_self,true_and,and_true,beq_self_eq_true,Nat.reduceAdd,Nat.reduceLeDiff,Nat.reduceLT,Nat.reducePow,Int.reduceLT,Int.reduceLE,Int.reduceNeg,Int.reduceEq,Int.reduceBEq,Bool.false_eq_true,Bool.true_eq_false,ite_true,ite_false,if_true,if_false, *])
end SRC
namespace SRC
open PySem PySem.Spec L2 MI AT HND EVX
local macro_rules | `(tactic| walk_at "ev") => `(tactic| simp only [wj,a0i,a82,a4b,a83,o7,af7,aek,sIf,ud,a0o,acu,put,a6t,a8p,a7w,ue,a8o,kN,sV,sC,s2,s1,sA,aj,bj,sNx,sT,asB,a0n,j5,a5f,a5g,a5h,a5i,af6,sOr,a0b,v9,aq7,a5x,sCh,aq8,di,a2h,MI.a3w,MI.a6y,MI.a6z,aon,a1a,gLt,gGt,gGe,gLe,a70,a9e,af1,af2,a88,a1i,af3,a2t,aqf,aqg,aqh,aqi,ye,MI.a7f,a5q,aef,a87,AT.aew,AT.p18,a3n,a3o,a3p,aio,a5e,a4r,a4s,aeg,MI.kh,MI.a0d,sML,isL,a8r,oN,oS,a0h,a1t,sIt,af8,sRg,abr,a2a,ao0,aow,aov,ak4,aoe,asy,srcOf,  List.length_map,List.length_cons,List.length_nil,List.length_append,List.getElem?_cons_zero,List.getElem?_cons_succ,List.set_cons_zero,List.set_cons_succ,List.nil_append,List.cons_append,AT.aeo,AT.aep,AT.aeq,AT.aer,AT.aes,AT.aet,AT.aeu,AT.aev,AT.x10,AT.x20,AT.x21,AT.x30,AT.x31,AT.x32,AT.x40,AT.x41,AT.x42,AT.x43,AT.x50,AT.x51,AT.x52,AT.x53,AT.x54,AT.x60,AT.x61,AT.x62,AT.x63,AT.x64,AT.x65,AT.x70,AT.x71,AT.x72,AT.x73,AT.x74,AT.x75,AT.x76,decide_true,decide_false,reduceIte,Bool.true_and,Bool.and_self,Bool.not_true,Bool.not_false,and_self,true_and,and_true,beq_self_eq_true,Nat.reduceAdd,Nat.reduceLeDiff,Nat.reduceLT,Nat.reducePow,Int.reduceLT,Int.reduceLE,Int.reduceNeg,Int.reduceEq,Int.reduceBEq,Bool.false_eq_true,Bool.true_eq_false,ite_true,ite_false,if_true,if_false, *])
theorem ints_map:∀ l:List Int,a7j (l.map D.int)=some l
 | []=>rfl
 | a::l=>by rw [List.map_cons];simp only [a7j,ints_map l,Option.map_some]
theorem ayf {g:List D→Hd→R D} {k:SA} {τ:Sd} {h h1 h2:Hd} {ds:List D} {d:D} (e:k τ h = .ok ds h1) (eg:g ds h1 = .ok d h2):sA g k τ h = .ok d h2:=by
 unfold sA
 rw [e,di,eg]
end SRC
namespace HND
open PySem PySem.Spec L2 MI AT
theorem adl {ck:Hd→Prop} {g:SG} {b:SS} {α:Type} (f:α→D) (I:List α→Sd→Hd→Prop) (c:∀ pre τ h,I pre τ h→ck h):∀ (xs pre:List α) (τ:Sd) (h:Hd),
  (∀ pre' x post τ h,pre++xs=pre'++x::post→I pre' τ h→∃ τ1 h1,g (f x) τ h = .nx τ1 h1∧∃ τ2 h2,b τ1 h1 = .nx τ2 h2∧I (pre'++[x]) τ2 h2)→I pre τ h→∃ τ' h',forL ck g b (xs.map f) τ h = .nx τ' h'∧I (pre++xs) τ' h'
 | [],pre,τ,h,_,i0=>⟨τ,h,by rw [List.map_nil,forL,if_pos (c _ _ _ i0)],by simpa using i0⟩
 | x::xs,pre,τ,h,st,i0=>by
  obtain ⟨τ1,h1,e1,τ2,h2,e2,i2⟩:=st pre x xs τ h rfl i0
  obtain ⟨τ',h',e3,i3⟩:=adl f I c xs (pre++[x]) τ2 h2 (fun pre' y post τ h e=>st pre' y post τ h (by simpa using e)) i2
  refine ⟨τ',h',?_,by simpa using i3⟩
  rw [List.map_cons,forL,if_pos (c _ _ _ i0),e1]
  dsimp only
  rw [e2]
  exact e3
end HND
namespace HND
open PySem PySem.Spec L2 MI AT
end HND
namespace HND
open PySem PySem.Spec L2 MI AT
end HND
namespace HND
open PySem PySem.Spec L2 MI AT
end HND
namespace HND
open PySem PySem.Spec L2 MI AT
abbrev KOk (k:Int):Prop := -1≤k∧k≤5
end HND
namespace HND
open PySem PySem.Spec L2 MI AT
abbrev gf (i:Nat):D:=.int (i:Nat)
theorem m5 {k:Nat} (l:List Nat):clos k (l.map gf):=jg fun x _=>iw _
end HND
namespace HND
open PySem PySem.Spec L2 MI AT
theorem all_map {α:Type} (f:α→D) (P:α→Prop):∀ (l:List D),(∀ x∈l,∃ r,P r∧x=f r)→∃ G:List α,l=G.map f∧∀ r∈G,P r
 | [],_=>⟨[],rfl,by simp⟩
 | x::l,h=>by
  obtain ⟨r,pr,rfl⟩:=h _ List.mem_cons_self
  obtain ⟨G,rfl,pG⟩:=all_map f P l fun y hy=>h y (List.mem_cons_of_mem _ hy)
  exact ⟨r::G,rfl,fun q hq=>by
   rcases List.mem_cons.mp hq with rfl | h
   ·exact pr
   ·exact pG q h⟩
abbrev qy (r:List Nat):D:=.tup (r.map gf)
abbrev aiq (s n:Nat) (r:List Nat):Prop:=r.length=s∧∀ x∈r,x<n
structure Table where
 tg:List Nat
 go:List (List Nat)
 ks:List Int
def Table.d (T:Table):D:=.tup [.str (S T.tg), .tup (T.go.map qy), .tup (T.ks.map D.int)]
structure Table.Ok (T:Table):Prop where
 tong:Tongue T.tg
 n1:1≤T.go.length
 n32:T.go.length≤32
 row:∀ r∈T.go,aiq T.tg.length T.go.length r
 kl:T.ks.length=T.go.length
 k0:T.ks[0]? = some (-1)
 kk:∀ k∈T.ks,KOk k
theorem Table.clo {T:Table}:clo 0 T.d:=gk (dj (nj _) (dj (gk (jg fun x _=>gk (m5 _))) (dj (gk (jg fun x _=>iw x)) n6)))
end HND
namespace MI
open PySem PySem.Spec L2
end MI
namespace PAP
open PySem PySem.Spec L2 MI AT HND
def Pln:D→Prop
 | .non=>True | .bl _=>True | .int _=>True | .str x=>x.cps.toList.length≤1000 | .tup xs=>clos 0 xs | .rol xs=>clos 0 xs | .rod _ xs=>clos 0 xs | _=>False
theorem Pln.clo {d:D} (p:Pln d):clo 0 d:=by
 cases d<;>first | (simp only [Pln] at p;done) | (simp only [Pln] at p;simpa [MI.clo] using p) | simp [MI.clo]
def isTup:D→Bool | .tup _=>true | _=>false
theorem auj {d:D} {h:Hd} (p:Pln d):p7 [d, .ty "tuple"] h = .ok (.bl (isTup d)) h:=by
 cases d<;>first | (simp only [Pln] at p;done) | simp [p7,aeh,tyD,a80,isTup]
theorem axc (l:List Nat) (h:Hd):af8 (.str (S l)) h = .ok ⟨l.map fun c=>.str (S [c]),fun _=>True⟩ h:=by
 show R.ok (⟨a1d (S l),fun _=>True⟩:Itm) _=_
 unfold a1d
 rw [a2y]
theorem a75 {f k:SE} {τ:Sd} {h h1:Hd} (e:f τ h = .ok (.bl false) h1):v9 f k τ h = .ok (.bl false) h1:=by unfold v9;rw [e,di]
theorem auk (bs:List Bool) (h:Hd):aaj [.rol (bs.map D.bl)] h = .ok (.bl (bs.all id)) h:=by
 unfold aaj
 simp only [ajo]
theorem ahj:∀ c∈sig,c<127:=by decide +kernel
theorem avr {f:SE} {τ:Sd} {h h1:Hd} {i:Int} (e:f τ h = .ok (.int i) h1):oS f τ h = .ok (some i) h1:=by unfold oS;rw [e];rfl
theorem avs {f:SE} {lo hi:SO} {τ:Sd} {h h1 h2 h3 h4:Hd} {d v:D} {a b:Option Int} (e:f τ h = .ok d h1) (e1:lo τ h1 = .ok a h2) (e2:hi τ h2 = .ok b h3) (e3:a6r d a b h3 = .ok v h4):a0h f lo hi τ h = .ok v h4:=by
 unfold a0h
 rw [e,di,e1,di,e2,di,e3]
theorem axd (xs:List D) (lo hi:Option Int) (h:Hd):a6r (.tup xs) lo hi h = .ok (.tup (a4o xs lo hi)) h:=by
 unfold a6r
 dsimp only
 split
 ·rename_i w
  obtain ⟨a,b⟩:=w
  congr 2
  unfold a4o
  rw [a,b,List.drop_zero,List.take_of_length_le (by omega)]
 ·rfl
theorem avt (xs:List D) (k:Nat) (h:Hd):a6r (.tup xs) none (some (k:Int)) h = .ok (.tup (xs.take k)) h:=by rw [axd,abn]
theorem adm (xs:List D) (k:Nat) (h:Hd):a6r (.tup xs) (some (k:Int)) none h = .ok (.tup (xs.drop k)) h:=by rw [axd,a6k]
theorem apd {xs ys:List D} {h:Hd} (z:xs.length+ys.length≤1000000):j8 (.tup xs) (.tup ys) h = .ok (.tup (xs++ys)) h:=by
 cases xs with
 | nil=>rfl
 | cons x xs =>
  show (if (x::xs).length+ys.length≤LINE then R.ok (D.tup (x::xs++ys)) h else .no)=_
  rw [if_pos (n8 z)]
theorem wg {f:SE} {k:SA} {τ:Sd} {h h1 h2:Hd} {d:D} {ds:List D} (e:f τ h = .ok d h1) (e2:k τ h1 = .ok ds h2):aj f k τ h = .ok (d::ds) h2:=by
 unfold aj
 rw [e,di,e2,di]
theorem aof {G:List D→Hd→R D} {k:SA} {τ:Sd} {h h1 h2:Hd} {ds:List D} {v:D} (e:k τ h = .ok ds h1) (e2:G ds h1 = .ok v h2):sA G k τ h = .ok v h2:=by
 unfold sA
 rw [e,di,e2]
theorem a4h {f:SE} {τ:Sd} {h h':Hd} {xs:List D} (hl:h'.length=h.length) (e:f τ h = .ok (.ref h'.length) (h'++[.lst xs])) (cx:clos h.length xs) (c:∀ o∈h',a1r h.length o):sZ f τ h = .ok (.rol xs) h':=by
 unfold sZ
 rw [e,a96 (by omega) (by simp) cx (by rw [← hl];simpa [hl] using c)]
 rw [← hl]
 simp
end PAP
namespace SRC
open PySem PySem.Spec L2 MI AT HND EVX
end SRC
namespace BF
def walk (step:Nat→Nat→Nat) (r:Nat):List Nat→Nat
 | []=>r
 | c::p=>step (walk step r p) c
section
variable (s:Nat) (step:Nat→Nat→Nat) (K:Nat→Bool)
def fl:Nat→Nat→Bool
 | 0,r=>K r
 | k+1,r=>(List.range s).any fun c=>fl k (step r c)
variable {s step K}
end
theorem a07:∀ (n:Nat) (l:List Nat),l.Nodup→(∀ x∈l,x<n)→l.length≤n
 | 0,l,_,h=>by
  cases l with
  | nil=>exact Nat.le_refl _
  | cons x l=>exact absurd (h x List.mem_cons_self) (by omega)
 | n+1,l,nd,h=>by
  have:=a07 n (l.erase n) (nd.erase n) fun x hx=>by
   have h1:=h x (List.mem_of_mem_erase hx)
   have h2:x≠n:=fun z=>by subst z;exact (List.Nodup.not_mem_erase nd) hx
   omega
  have:=List.length_erase (a:=n) (l:=l)
  split at this<;>omega
end BF
namespace SRC
open PySem PySem.Spec L2 MI AT HND EVX
theorem ayg {ck:Hd→Prop} {f:D→Hd→R D} {α:Type} (g F:α→D) {h:Hd} (c:ck h):∀ {xs:List α},(∀ x∈xs,f (g x) h = .ok (F x) h)→mapR ck f (xs.map g) h = .ok (xs.map F) h
 | [],_=>by rw [List.map_nil,mapR,if_pos c];rfl
 | x::xs,st=>by
  rw [List.map_cons,mapR,if_pos c,st x List.mem_cons_self]
  show (mapR _ f (xs.map g) h).bind _=_
  rw [ayg g F c fun y hy=>st y (List.mem_cons_of_mem _ hy)];rfl
theorem ape {fi:SI} {t:D→Option Sd} {fe:SE} {ix:List Nat} {τ:Sd} {h:Hd} {α:Type} {ck:Hd→Prop} (g F:α→D) (xs:List α) (c:ck h) (e:fi τ h = .ok ⟨xs.map g,ck⟩ h) (z:xs.length≤LINE)
  (st:∀ x∈xs,a7h t fe (frs' ix τ) (g x) h = .ok (F x) h):uy fi t fe ix τ h = .ok (.ref h.length) (h++[.lst (xs.map F)]):=by
 unfold uy
 rw [e,di]
 dsimp only
 rw [if_pos (by rw [List.length_map];exact z),ayg g F c st]
 rfl
theorem apf {x:Nat} {l:List Nat}:inD (gf x) (l.map gf)=decide (x∈l):=by
 unfold inD
 rw [List.any_map]
 by_cases h:x∈l
 ·rw [decide_eq_true h,List.any_eq_true]
  exact ⟨x,h,by show ((x:Int) == (x:Int))=true;simp⟩
 ·rw [decide_eq_false h,List.any_eq_false]
  intro y hy
  have:x≠y:=fun e=>h (e ▸ hy)
  show ¬ ((y:Int) == (x:Int))=true
  rw [beq_iff_eq]
  omega
theorem adn {x i:Nat} {l:List Nat} {h:Hd} (e:h[i]? = some (.lst (l.map gf))):gIn true (gf x) (.ref i) h = .ok (.bl (!decide (x∈l))) h:=by
 have fl:a3l (gf x)=true∧(l.map gf).all a3l=true:=⟨rfl,by
  rw [List.all_eq_true]
  intro y hy
  obtain ⟨n,_,rfl⟩:=List.mem_map.mp hy
  rfl⟩
 unfold gIn a1a
 simp only [e,if_pos fl,if_true,apf]
abbrev cst (l:List Nat):List Int:=l.map fun x:Nat=>(x:Int)
theorem apg (l:List Nat):l.map gf=(cst l).map D.int:=by unfold cst;rw [List.map_map];rfl
theorem af4 {i:Nat} {l:List Nat} {h:Hd} (e:h[i]? = some (.lst (l.map gf))):aat (.ref i) h=some (cst l):=by
 unfold aat
 simp only [e]
 rw [apg,ints_map]
def pos (m:List Nat) (x:Nat):Nat:=(ixI (x:Int) (cst m)).getD 0
theorem ahk {m:List Nat} {x:Nat} (h:x∈m):ixI (x:Int) (cst m)=some (pos m x)∧pos m x<m.length:=by
 obtain ⟨j,hj⟩:=ad8 (n:=(x:Int)) (l:=cst m) (List.mem_map.mpr ⟨x,h,rfl⟩)
 unfold pos
 rw [hj]
 refine ⟨rfl,?_⟩
 have:=(List.getElem?_eq_some_iff.mp (ad6 hj).1).1
 simpa using this
structure Met (n:Nat) (met:List Nat):Prop where
 nd:met.Nodup
 lt:∀ x∈met,x<n
 z:0∈met
theorem Met.len {n:Nat} {met:List Nat} (M:Met n met):met.length≤n:=BF.a07 n met M.nd M.lt
theorem Met.add {n x:Nat} {met:List Nat} (M:Met n met) (hx:x<n) (h:x ∉ met):Met n (met++[x]):=by
 refine ⟨?_,fun y hy=>?_,List.mem_append_left _ M.z⟩
 ·rw [List.nodup_append]
  refine ⟨M.nd,by simp,fun a ha b hb=>?_⟩
  rw [List.mem_singleton] at hb
  subst hb
  exact fun e=>h (e ▸ ha)
 ·rcases List.mem_append.mp hy with z | z
  ·exact M.lt y z
  ·rw [List.mem_singleton] at z;subst z;exact hx
section
variable {A B C:SF} {most n:Nat} {tg:List Nat} {many:Int} {rows:List (List Nat)} {ks:List Int}
def Done (rows:List (List Nat)) (met:List Nat) (i:Nat):Prop:=∀ j,j<i→∀ r,met[j]? = some r→∀ x∈(rows[r]?).getD [],x∈met
end
end SRC
namespace SRC
open PySem PySem.Spec L2 MI AT HND EVX
theorem ahl {i x:Nat} {m:List Nat} {h:Hd} (e:h[i]? = some (.lst (m.map gf))) (hx:x∈m):a6s (.ref i) [gf x] h = .ok (gf (pos m x)) h:=by
 have q:=af4 e
 unfold a6s
 simp only [q,(ahk hx).1]
section
variable {A B C:SF} {most n:Nat} {tg:List Nat} {many:Int} {rows:List (List Nat)} {ks:List Int}
abbrev a7m (rows:List (List Nat)) (m:List Nat):List (List Nat):=m.map fun r=>((rows[r]?).getD []).map (pos m)
abbrev a89 (ks:List Int) (m:List Nat):List Int:=m.map fun r=>(ks[r]?).getD 0
end
end SRC
namespace K21
open PySem PySem.Spec L2 MI
end K21
namespace K23
open PySem PySem.Spec L2 MI
end K23
namespace K22
open PySem PySem.Spec L2 MI
end K22
namespace K22
open PySem PySem.Spec L2 MI AT HND
section
variable (T:Table)
def knd (r:Nat):Bool:=decide ((T.ks[r]?).getD (-1) ≠ -1)
end
end K22
namespace K22
open PySem PySem.Spec L2 MI AT HND
end K22
namespace K22
open PySem PySem.Spec L2 MI AT HND
end K22
namespace K23
open PySem PySem.Spec L2 MI AT HND K22
end K23
namespace K21
open PySem PySem.Spec L2 MI AT HND K22 K23 EVX
section
variable {T:Table}
theorem akl {a b:D} (ha:MI.clo 0 a) (hb:MI.clo 0 b):∀ x∈[a,b],MI.clo 0 x:=by
 intro x hx
 simp only [List.mem_cons,List.not_mem_nil,or_false] at hx
 rcases hx with rfl | rfl
 ·exact ha
 ·exact hb
end
end K21
namespace K21
open PySem PySem.Spec L2 MI AT HND K22 K23 EVX
section
variable {T:Table}
abbrev ones (t:List Nat):List D:=t.map fun c=>.str (S [c])
theorem ahm:∀ t:List Nat,agk (ones t)=some (t.map fun c=>S [c])
 | []=>rfl
 | a::t=>by
  show (agk (ones t)).map _=_
  rw [ahm t];rfl
theorem aph {f:SE} {τ:Sd} {h h1:Hd} {i:Int} (e:f τ h = .ok (.int i) h1):oS f τ h = .ok (some i) h1:=by unfold oS;rw [e];rfl
theorem aul {f:SE} {lo hi:SO} {τ:Sd} {h h1 h2 h3 h4:Hd} {d v:D} {a b:Option Int} (e:f τ h = .ok d h1) (e1:lo τ h1 = .ok a h2) (e2:hi τ h2 = .ok b h3) (e3:a6r d a b h3 = .ok v h4):a0h f lo hi τ h = .ok v h4:=by
 unfold a0h
 rw [e,di,e1,di,e2,di,e3]
theorem akm (n:Nat) (l:List Nat):clos n (ones l):=jg fun c _=>nj _
theorem a9i (tg:List Nat):∀ l:List Nat,(l.filterMap fun c=>if (!decide (c∈tg))=true then some (D.str (S [c])) else none)=ones (l.filter fun c => !decide (c∈tg))
 | []=>rfl
 | c::l=>by
  have ih:=a9i tg l
  by_cases h:c∈tg
  ·rw [List.filterMap_cons_none (by rw [decide_eq_true h];rfl),List.filter_cons_of_neg (by simp [h]),ih]
  ·rw [List.filterMap_cons_some (b:=D.str (S [c])) (by rw [decide_eq_false h];rfl),List.filter_cons_of_pos (by simp [h]),ih]
   rfl
theorem aum (c:Nat) (t:List Nat) (h:Hd):gIn true (.str (S [c])) (.str (S t)) h = .ok (.bl (!decide (c∈t))) h:=by
 show R.ok (D.bl (!decide (c∈(S t).cps.toList))) h=_
 rw [a2y]
end
end K21
namespace SRC
open PySem PySem.Spec L2 MI AT HND EVX K22 K23 K21
end SRC
namespace PN
open PySem PySem.Spec L2 MI AT HND EVX K22 K23 K21
local macro_rules | `(tactic| walk_at "ev") => `(tactic| simp only [wj,a0i,a82,a4b,a83,o7,af7,aek,sIf,ud,a0o,acu,put,a6t,a8p,a7w,ue,a8o,kN,sV,sC,s2,s1,sA,aj,bj,sNx,sT,asB,a0n,j5,a5f,a5g,a5h,a5i,af6,sOr,a0b,v9,aq7,a5x,sCh,aq8,di,a2h,MI.a3w,MI.a6y,MI.a6z,aon,a1a,gLt,gGt,gGe,gLe,a70,a9e,af1,af2,a88,a1i,af3,a2t,aqf,aqg,aqh,aqi,ye,MI.a7f,a5q,aef,a87,AT.aew,AT.p18,a3n,a3o,a3p,aio,a5e,a4r,a4s,aeg,MI.kh,MI.a0d,sML,isL,a8r,oN,oS,a0h,a1t,sIt,af8,sRg,abr,a2a,ao0,aow,aov,ak4,aoe,asy,srcOf,  List.length_map,List.length_cons,List.length_nil,List.length_append,List.getElem?_cons_zero,List.getElem?_cons_succ,List.set_cons_zero,List.set_cons_succ,List.nil_append,List.cons_append,AT.aeo,AT.aep,AT.aeq,AT.aer,AT.aes,AT.aet,AT.aeu,AT.aev,AT.x10,AT.x20,AT.x21,AT.x30,AT.x31,AT.x32,AT.x40,AT.x41,AT.x42,AT.x43,AT.x50,AT.x51,AT.x52,AT.x53,AT.x54,AT.x60,AT.x61,AT.x62,AT.x63,AT.x64,AT.x65,AT.x70,AT.x71,AT.x72,AT.x73,AT.x74,AT.x75,AT.x76,decide_true,decide_false,reduceIte,Bool.true_and,Bool.and_self,Bool.not_true,Bool.not_false,and_self,true_and,and_true,beq_self_eq_true,Nat.reduceAdd,Nat.reduceLeDiff,Nat.reduceLT,Nat.reducePow,Int.reduceLT,Int.reduceLE,Int.reduceNeg,Int.reduceEq,Int.reduceBEq,Bool.false_eq_true,Bool.true_eq_false,ite_true,ite_false,if_true,if_false, *])
noncomputable def u9:SF:=o8 (a5b az) 6
theorem api {o:O} {N most:Nat} {all:List Nat} (P:Pen o N) (hN:N≤999999000) (m1:1≤most) (m2:most≤all.length) (al:all.length≤95) (nd0:all.Nodup) :
  ∃ l o',1≤l.length∧l.length≤most∧l.Nodup∧(∀ c∈l,c∈all)∧Dr u9 3 [.str (S all),gf most] o (.str (S l)) o'∧Pen o' (N+1+most):=by
 obtain ⟨r0,o1,e1,r0a,r0b,P1⟩:=ac4 (m:=(most:Int)) P (by omega) (by omega) (by omega)
 have lo:=a0r (g:=kN 4) (b:=a00 az) (fun i:Nat=>D.int (0+(i:Nat)))
  (fun pre τ h=>∃ (rest told:List Nat) (u:O) (t4 t5:Option D),τ=[some (.ref 0),some (.str (S rest)),some (gf most),some (.str (S told)),t4,t5]∧h=[u]∧Pen u (N+1+pre.length)∧told.length=pre.length∧(told++rest).length=all.length∧(told++rest).Nodup∧∀ c∈told++rest,c∈all)
  (List.range (1+r0).toNat) [some (.ref 0),some (.str (S all)),some (gf most),some (.str (S [])),none,none] [o1] ?_
  ⟨all,[],o1,none,none,rfl,rfl,P1,rfl,by simp,by simpa using nd0,by simp⟩
 ·obtain ⟨τ',h',e2,rest,told,u,t4,t5,rfl,rfl,P2,l1,l2,nd,sb⟩:=lo
  rw [List.length_range] at P2 l1
  refine ⟨told,u,by omega,by omega,(List.nodup_append.mp nd).1,fun c hc=>sb c (List.mem_append_left _ hc),Dr.of rfl (akl (nj _) (iw _)) P.clo (r:=.ok (.str (S told)) [u]) ?_ (qw (nj _) (by simpa using ul (by omega) P2.clo)) (nj _) P2.clo,P2.up (by omega)⟩
  unfold u9
  rw [j6]
  unfold a5b a2b
  simp only [List.map_cons,List.map_nil,List.length_cons,List.length_nil,Nat.reduceSub,Nat.reduceAdd,List.replicate,List.cons_append,List.nil_append]
  have c2:jo false 2 az [.ref 0, .int (most:Nat)] [o]=_:=e1 0 [o] rfl
  have em:("" : Str)=S []:=rfl
  have bd:B62 (1+r0):=by unfold B62;omega
  have e2:forL (fun _=>True) (kN 4) (a00 az) (rng 0 (1+r0).toNat) [some (D.ref 0),some (D.str (S all)),some (gf most),some (D.str (S [])),none,none] [o1]=_:=e2
  walk_at "ev"
 ·rintro pre i post τ h al' ⟨rest,told,u,t4,t5,rfl,rfl,P2,l1,l2,nd,sb⟩
  have hlen:pre.length<(1+r0).toNat:=by
   have:=congrArg List.length al'
   simp at this;omega
  rw [List.length_append] at l2
  obtain ⟨r,u',e2,ra,rb,P3⟩:=ac4 (m:=(rest.length:Nat)) P2 (by omega) (by omega) (by omega)
  obtain ⟨j,rfl⟩:=Int.eq_ofNat_of_zero_le ra
  have hj:j<rest.length:=by omega
  have gx:rest[j]? = some rest[j]:=List.getElem?_eq_getElem hj
  have pp:=ahd told rest j rest[j] gx
  refine ⟨_,_,rfl,_,_,?_,rest.take j++rest.drop (j+1),told++[rest[j]],u',some (.int (0+(i:Nat))),some (.int (j:Nat)),rfl,rfl,by simpa [Nat.add_assoc] using P3,by simp [l1],?_,pp.nodup_iff.mp nd,fun c hc=>sb c (pp.mem_iff.mpr hc)⟩
  ·unfold a00
   have L:∀ n:Nat,n≤95→n≤LINE:=fun n hn=>by show n≤16777216;omega
   have c2:=e2 0 [u] rfl
   have x1:∀ h,gIx (.str (S rest)) (.int (j:Nat)) h = .ok (.str (S [rest[j]])) h:=fun h=>ayd (L _ (by omega)) gx
   have x2:∀ h,um [.str (S rest)] h = .ok (.int rest.length) h:=fun h=>af0 (L _ (by omega))
   have x3:∀ h,j8 (.str (S told)) (.str (S [rest[j]])) h = .ok (.str (S (told++[rest[j]]))) h:=fun h=>aez (L _ (by simp;omega))
   have x4:∀ h,a6r (.str (S rest)) none (some (j:Int)) h = .ok (.str (S (rest.take j))) h:=fun h=>azt j (L _ (by omega))
   have x5:∀ h,a6r (.str (S rest)) (some ((j:Int)+1)) none h = .ok (.str (S (rest.drop (j+1)))) h:=fun h=>am6 (j+1) (L _ (by omega))
   have x6:∀ h,j8 (.str (S (rest.take j))) (.str (S (rest.drop (j+1)))) h = .ok (.str (S (rest.take j++rest.drop (j+1)))) h:=fun h=>aez (L _ (by simp;omega))
   clear al' hlen
   walk_at "ev"
  ·rw [← pp.length_eq];simpa using l2
end PN
namespace PN
open PySem PySem.Spec L2 MI AT HND EVX K22 K23 K21
abbrev zx (r:List Nat):O:=.lst (r.map gf)
structure Laid (g:Hd) (rows:List (List Nat)) (ks:List Int):Prop where
 go:∃ is:List Nat,g[1]? = some (.lst (is.map D.ref))∧∀ r,r<rows.length→∃ i,is[r]? = some i∧g[i]? = some (zx ((rows[r]?).getD []))
 ks:g[2]? = some (.lst (ks.map D.int))
 clo:∀ o∈g,a1r g.length o
theorem a76 {g t:Hd} {i:Nat} {o:O} (e:g[i]? = some o):(g++t)[i]? = some o:=by
 rw [List.getElem?_append_left (List.getElem?_eq_some_iff.mp e).1];exact e
theorem Laid.row {g:Hd} {rows:List (List Nat)} {ks:List Int} (L:Laid g rows ks) {r:Nat} (hr:r<rows.length):∃ i,g[i]? = some (zx ((rows[r]?).getD []))∧∀ t:Hd,gIx (.ref 1) (gf r) (g++t) = .ok (.ref i) (g++t):=by
 obtain ⟨is,e,f⟩:=L.go
 obtain ⟨i,e1,e2⟩:=f r hr
 exact ⟨i,e2,fun t=>ab2 (a76 e) (by rw [List.getElem?_map,e1];rfl)⟩
theorem a0m (g:Hd) (o:O):(g++[o])[g.length]? = some o:=by simp
theorem akn (g:Hd) (o o':O):(g++[o]).set g.length o'=g++[o']:=by simp
theorem amb {i:Nat} {xs:List D} {h:Hd} (e:h[i]? = some (.lst xs)):isL (.ref i) h=true:=by unfold isL;simp only [e]
theorem ako {i:Nat} {xs:List D} {h:Hd} (e:h[i]? = some (.lst xs)):af8 (.ref i) h = .ok ⟨xs,fun h=>h[i]? = some (.lst xs)⟩ h:=by unfold af8;simp only [e]
theorem a9j {i:Nat} {l:List Nat} {h:Hd} (e:h[i]? = some (.lst (l.map gf))):um [.ref i] h = .ok (gf l.length) h:=by rw [a9h e,List.length_map]
abbrev τD (tg:List Nat) (tu:Nat) (m:D) (i:Nat) (t6 t7:Option D):Sd:=[some (.str (S tg)),some (.ref 1),some (.ref 2),some (gf tu),some m,some (gf i),t6,t7]
section
variable {g:Hd} {n tu:Nat} {tg:List Nat} {rows:List (List Nat)} {ks:List Int}
theorem akp {i j:Nat} {t6:Option D} {met row:List Nat} (n32:n≤32) (hj:g[j]? = some (zx row)) (M:SRC.Met n met) (rx:∀ x∈row,x<n) (Q:Nat→Prop) (qm:∀ x∈met,Q x) (qr:∀ x∈row,Q x) :
  ∃ (met':List Nat) (t6':Option D),forL (fun h=>h[j]? = some (zx row)) (kN 6) vf (row.map gf) (τD tg tu (.ref g.length) i t6 none) (g++[zx met]) = .nx (τD tg tu (.ref g.length) i t6' none) (g++[zx met'])∧SRC.Met n met'∧(∃ add,met'=met++add)∧(∀ x∈row,x∈met')∧∀ x∈met',Q x:=by
 have lp:=adl (g:=kN 6) (b:=vf) (ck:=fun h=>h[j]? = some (zx row)) gf
  (fun pre τ h=>∃ (met':List Nat) (t6:Option D),τ=τD tg tu (.ref g.length) i t6 none∧h=g++[zx met']∧SRC.Met n met'∧(∃ add,met'=met++add)∧(∀ x∈pre,x∈met')∧∀ x∈met',Q x)
  (by rintro pre τ h ⟨met',t6,rfl,rfl,_⟩;exact a76 hj)
  row [] (τD tg tu (.ref g.length) i t6 none) (g++[zx met]) ?_ ⟨met,t6,rfl,rfl,M,⟨[],by simp⟩,by simp,qm⟩
 ·obtain ⟨τ',h',e,met',t6',rfl,rfl,M',ad,al,aq⟩:=lp
  exact ⟨met',t6',e,M',ad,by simpa using al,aq⟩
 ·rintro pre x post τ h all ⟨met',t6,rfl,rfl,M',⟨add,rfl⟩,al,aq⟩
  rw [List.nil_append] at all
  have hx:x<n:=rx x (by rw [all];simp)
  have hq:Q x:=qr x (by rw [all];simp)
  unfold vf
  by_cases h:x∈met++add
  ·refine ⟨_,_,rfl,τD tg tu (.ref g.length) i (some (gf x)) none,g++[zx (met++add)],?_,met++add,_,rfl,rfl,M',⟨add,rfl⟩,fun y hy=>?_,aq⟩
   ·refine Eq.trans (ifF (tof (o9 (d8 rfl) (d8 rfl) ((SRC.adn (l:=met++add) (a0m _ _)).trans (by rw [decide_eq_true h];rfl))))) rfl
   ·rcases List.mem_append.mp hy with z | z
    ·exact al y z
    ·rw [List.mem_singleton] at z;subst z;exact h
  ·refine ⟨_,_,rfl,τD tg tu (.ref g.length) i (some (gf x)) none,g++[zx (met++add++[x])],?_,met++add++[x],_,rfl,rfl,M'.add hx h,⟨add++[x],by simp⟩,fun y hy=>?_,fun y hy=>(List.mem_append.mp hy).elim (aq y) fun z=>by rw [List.mem_singleton] at z;subst z;exact hq⟩
   ·have ln:=M'.len
    refine Eq.trans (ifT (tof (o9 (d8 rfl) (d8 rfl) ((SRC.adn (l:=met++add) (a0m _ _)).trans (by rw [decide_eq_false h];rfl))))) ?_
    have ap:=a73 (h:=g++[zx (met++add)]) (a:=gf x) (a0m g _) (by rw [List.length_map];exact a5v (by omega))
    rw [akn] at ap
    unfold zx
    rw [List.map_append (l₁:=met++add)]
    exact a72 (d8 rfl) (amb (a0m g _)) (arg1 (d8 rfl)) ap
   ·rcases List.mem_append.mp hy with z | z
    ·exact List.mem_append_left _ (al y z)
    ·rw [List.mem_singleton] at z;subst z;simp
theorem apj {s:Nat} (L:Laid g rows ks) (n1:1≤n) (n32:n≤32) (lr:rows.length=n) (rr:∀ r∈rows,aiq s n r) (Q:Nat→Prop) (q0:Q 0) (qs:∀ r,Q r→∀ x∈(rows[r]?).getD [],Q x) :
  ∃ (met:List Nat) (i:Nat) (t6:Option D),sWh yt vg 100000 (τD tg tu (.ref g.length) 0 none none) (g++[zx [0]]) = .nx (τD tg tu (.ref g.length) i t6 none) (g++[zx met])∧SRC.Met n met∧met[0]? = some 0∧(∀ r∈met,∀ x∈(rows[r]?).getD [],x∈met)∧∀ r∈met,Q r:=by
 have w:=aox (c:=yt) (f:=vg)
  (fun m τ h=>∃ (met:List Nat) (i:Nat) (t6:Option D),τ=τD tg tu (.ref g.length) i t6 none∧h=g++[zx met]∧m=32 - i∧i≤met.length∧SRC.Met n met∧met[0]? = some 0∧SRC.Done rows met i∧∀ r∈met,Q r)
  (fun τ h=>∃ (met:List Nat) (i:Nat) (t6:Option D),τ=τD tg tu (.ref g.length) i t6 none∧h=g++[zx met]∧SRC.Met n met∧met[0]? = some 0∧SRC.Done rows met met.length∧∀ r∈met,Q r)
  (fun _ _=>False) ?_ 32 100000 (τD tg tu (.ref g.length) 0 none none) (g++[zx [0]]) (by omega)
  ⟨[0],0,none,rfl,rfl,rfl,by simp,⟨by simp,by simp;omega,by simp⟩,rfl,fun j hj=>absurd hj (Nat.not_lt_zero j),by simpa using q0⟩
 ·rcases w with ⟨τ',h',e,met,i,t6,rfl,rfl,M,m0,D,aq⟩ | ⟨_,_,_,z⟩
  ·refine ⟨met,i,t6,e,M,m0,fun r hr x hx=>?_,aq⟩
   obtain ⟨j,hj,rfl⟩:=List.getElem_of_mem hr
   exact D j hj _ (List.getElem?_eq_getElem hj) x hx
  ·exact z.elim
 ·rintro m τ h ⟨met,i,t6,rfl,rfl,rfl,il,M,m0,D,aq⟩
  have ln:=M.len
  by_cases lt:i<met.length
  ·refine .inr ⟨_,tof (o9 (d8 rfl) (uz (d8 rfl) (a9j (a0m g _))) (avp (by omega))), .inl ?_⟩
   have rl:met[i]<n:=M.lt _ (List.getElem_mem lt)
   have gm:met[i]? = some met[i]:=List.getElem?_eq_getElem lt
   generalize met[i]=r at rl gm
   have gr:rows[r]? = some ((rows[r]?).getD []):=by rw [List.getElem?_eq_getElem (by omega)];rfl
   have rn:=rr _ (List.mem_of_getElem? gr)
   obtain ⟨j,hj,gx⟩:=L.row (r:=r) (by omega)
   obtain ⟨met',t6',e,M',⟨add,ea⟩,al,aq'⟩:=akp (tg:=tg) (tu:=tu) (i:=i) (t6:=t6) n32 hj M rn.2 Q aq (qs r (aq r (List.mem_of_getElem? gm)))
   refine ⟨τD tg tu (.ref g.length) (i+1) t6' none,g++[zx met'],32 - (i+1),?_,by omega,met',i+1,t6',rfl,rfl,rfl,by rw [ea,List.length_append];omega,M',?_,fun k hk q hq x hx=>?_,aq'⟩
   ·unfold vg
    refine Eq.trans (ab1 (ac0 (o9 (d8 rfl) (o9 (d8 rfl) (d8 rfl) (ab2 (xs:=met.map gf) (a0m g _) (y:=gf r) (by rw [List.getElem?_map,gm];rfl))) (gx _)) (ako (a76 hj)))) ?_
    refine Eq.trans (congrArg (fun z=>MI.thn z _) e) ?_
    rw [a0i]
    exact ap8 (o9 (d8 rfl) (jf _ _ _) ye)
   ·rw [ea,List.getElem?_append_left (by cases met with | nil=>simp at m0 | cons _ _=>simp)];exact m0
   ·by_cases je:k=i
    ·subst je
     rw [ea,List.getElem?_append_left lt,gm] at hq
     cases hq
     exact al x hx
    ·have jl:k<met.length:=by omega
     rw [ea,List.getElem?_append_left jl] at hq
     rw [ea]
     exact List.mem_append_left _ (D k (by omega) q hq x hx)
  ·refine .inl ⟨_,tof (o9 (d8 rfl) (uz (d8 rfl) (a9j (a0m g _))) (avq (by omega))),met,i,t6,rfl,rfl,M,m0,?_,aq⟩
   rw [show met.length=i by omega];exact D
end
end PN
namespace PN
open PySem PySem.Spec L2 MI AT HND EVX K22 K23 K21
noncomputable def j4:SF:=o8 zc 8
section
variable {g:Hd} {n tu:Nat} {tg:List Nat} {rows:List (List Nat)} {ks:List Int}
theorem aun {i:Nat} {xs:List D} {lo hi:Option Int} {h:Hd} (e:h[i]? = some (.lst xs)):a6r (.ref i) lo hi h = .ok (.ref h.length) (h++[.lst (a4o xs lo hi)]):=by
 show gSl (.ref i) lo hi h=_
 unfold gSl
 simp only [e]
abbrev turned (t:Nat) (met:List Nat):List Nat:=[0]++met.drop t++(met.drop 1).take (t - 1)
theorem ac6 {t:Nat} {met:List Nat} (t1:1≤t) (m0:met[0]? = some 0):(turned t met).Perm met:=by
 cases met with
 | nil=>simp at m0
 | cons a l =>
  have:a=0:=by simpa using m0
  subst this
  obtain ⟨k,rfl⟩:∃ k,t=k+1:=⟨t - 1,by omega⟩
  show ([0]++l.drop k++(l.take k)).Perm (0::l)
  rw [List.append_assoc]
  refine List.Perm.cons 0 ?_
  show (l.drop k++l.take k).Perm l
  have p:(l.drop k++l.take k).Perm (l.take k++l.drop k):=List.perm_append_comm
  rwa [List.take_append_drop] at p
theorem apk {i:Nat} {t6:Option D} {met:List Nat} (L:Laid g rows ks) (n32:n≤32) (lr:rows.length=n) (lk:ks.length=n) (t6':tg.length≤6) (rr:∀ r∈rows,aiq tg.length n r) (M:SRC.Met n met) (m0:met[0]? = some 0) (cl:∀ r∈met,∀ x∈(rows[r]?).getD [],x∈met) :
  ∃ m:List Nat,m.Perm met∧m[0]? = some 0∧toR (jd (o7 3 (s2 j8 (sC (.int 1)) (s2 a5q (sV 3) (sA um (aj (sV 4) bj)))))
   (jd (o7 4 (s2 j8 (sZ (s2 j8 (sZ (sA a0d (aj (sC (.int 0)) bj))) (sZ (a0h (sV 4) (oS (sV 3)) oN)))) (sZ (a0h (sV 4) (oS (sC (.int 1))) (oS (sV 3))))))
   (jd (o7 7 (sA xn (aj (sZ (uy (sIt (sV 4)) t1 vh [1,4])) bj)))
   (ud (sA kh (aj (sV 0) (aj (sV 7) (aj (sA xn (aj (sZ (uy (sIt (sV 4)) t1 vm [2])) bj)) bj))))))) (τD tg tu (.ref g.length) i t6 none) (g++[zx met])) =
   .ok (.tup [.str (S tg), .tup ((SRC.a7m rows m).map qy), .tup ((SRC.a89 ks m).map D.int)]) (g++[zx met]++[zx m]):=by
 have ln:=M.len
 have lp:1≤met.length:=by cases met with | nil=>simp at m0 | cons _ _=>simp
 let t:Nat:=1+tu % met.length
 have et:(1:Int)+(tu:Int) % (met.length:Int)=((t:Nat):Int):=by show _=((1+tu % met.length:Nat):Int);omega
 let m:=turned t met
 have pm:m.Perm met:=ac6 (by show 1≤1+tu % met.length;omega) m0
 have lm:m.length=met.length:=pm.length_eq
 let G:Hd:=g++[zx met]
 let H:Hd:=G++[zx m]
 have gc:∀ o∈G,a1r G.length o:=by
  intro o ho
  rcases List.mem_append.mp ho with z | z
  ·exact ul (by simp [G]) (L.clo o z)
  ·rw [List.mem_singleton] at z;subst z;exact ul (Nat.zero_le _) (m5 _)
 have hc:∀ o∈H,a1r H.length o:=by
  intro o ho
  rcases List.mem_append.mp ho with z | z
  ·exact ul (by simp [H]) (gc o z)
  ·rw [List.mem_singleton] at z;subst z;exact ul (Nat.zero_le _) (m5 _)
 have hm:H[G.length]? = some (zx m):=a0m G _
 have rw':∀ r∈m,r<rows.length∧aiq tg.length n ((rows[r]?).getD [])∧∀ x∈(rows[r]?).getD [],x∈m:=fun r hr=>by
  have h1:=M.lt r (pm.mem_iff.mp hr)
  have e:rows[r]? = some ((rows[r]?).getD []):=by rw [List.getElem?_eq_getElem (by omega)];rfl
  exact ⟨by omega,rr _ (List.mem_of_getElem? e),fun x hx=>pm.mem_iff.mpr (cl r (pm.mem_iff.mp hr) x hx)⟩
 have s0:∀ τ:Sd,sZ (sA a0d (aj (sC (.int 0)) bj)) τ G = .ok (.rol ([0].map gf)) G:=fun τ=>a7k (uz (jf _ _ _) rfl) (m5 [0]) gc
 have s1:∀ τ:Sd,τ[4]? = some (some (.ref g.length))→τ[3]? = some (some (gf t))→sZ (a0h (sV 4) (oS (sV 3)) oN) τ G = .ok (.rol ((met.drop t).map gf)) G:=fun τ h4 h3=>by
  refine a7k ((aul (d8 h4) (aph (d8 h3)) rfl (aun (a0m g _))).trans ?_) (m5 _) gc
  rw [a6k,List.map_drop]
 have s2':∀ τ:Sd,τ[4]? = some (some (.ref g.length))→τ[3]? = some (some (gf t))→sZ (s2 j8 (sZ (sA a0d (aj (sC (.int 0)) bj))) (sZ (a0h (sV 4) (oS (sV 3)) oN))) τ G = .ok (.rol (([0]++met.drop t).map gf)) G:=fun τ h4 h3=>by
  refine a7k (o9 (s0 τ) (s1 τ h4 h3) ?_) (m5 _) gc
  rw [a92 (xs:=[0].map gf) (ys:=(met.drop t).map gf) rfl rfl,if_pos (n8 (by simp only [List.length_map,List.length_drop,List.length_singleton];omega)),← List.map_append]
 have s3:∀ τ:Sd,τ[4]? = some (some (.ref g.length))→τ[3]? = some (some (gf t))→sZ (a0h (sV 4) (oS (sC (.int 1))) (oS (sV 3))) τ G = .ok (.rol (((met.drop 1).take (t - 1)).map gf)) G:=fun τ h4 h3=>by
  refine a7k ((aul (d8 h4) (aph (jf _ _ _)) (aph (d8 h3)) (aun (a0m g _))).trans ?_) (m5 _) gc
  rw [show (1:Int)=((1:Nat):Int) from rfl,anr,List.map_take,List.map_drop]
 have s4:∀ τ:Sd,τ[4]? = some (some (.ref g.length))→τ[3]? = some (some (gf t))→s2 j8 (sZ (s2 j8 (sZ (sA a0d (aj (sC (.int 0)) bj))) (sZ (a0h (sV 4) (oS (sV 3)) oN)))) (sZ (a0h (sV 4) (oS (sC (.int 1))) (oS (sV 3)))) τ G = .ok (.ref G.length) H:=fun τ h4 h3=>by
  refine o9 (s2' τ h4 h3) (s3 τ h4 h3) ?_
  rw [a92 (xs:=([0]++met.drop t).map gf) (ys:=((met.drop 1).take (t - 1)).map gf) rfl rfl,if_pos (n8 (by simp only [List.length_map,List.length_append,List.length_take,List.length_drop,List.length_singleton];omega)),← List.map_append]
 have z1:∀ t7:Option D,sZ (uy (sIt (sV 4)) t1 vh [1,4]) (τD tg t (.ref G.length) i t6 t7) H = .ok (.rol ((SRC.a7m rows m).map qy)) H:=fun t7=>by
  rw [List.map_map]
  refine a7k (SRC.ape (ck:=fun h=>h[G.length]? = some (zx m)) gf (qy ∘ fun r=>((rows[r]?).getD []).map (SRC.pos m)) m hm (ac0 (d8 rfl) (ako hm)) (n8 (by omega)) fun r hr=>?_) (jg fun x _=>gk (m5 _)) hc
  obtain ⟨e1,⟨e2,_⟩,e3⟩:=rw' r hr
  obtain ⟨j,hj,gx⟩:=L.row e1
  have hj':H[j]? = some (zx ((rows[r]?).getD [])):=a76 (a76 hj)
  have gx':gIx (.ref 1) (gf r) H = .ok (.ref j) H:=by have:=gx ([zx met]++[zx m]);rwa [← List.append_assoc] at this
  rw [zb]
  unfold vh
  have z2:sZ (uy (sIt (s2 gIx (sV 1) (sV 0))) t1 yu [2]) (some (gf r)::frs' [1,4] (τD tg t (.ref G.length) i t6 t7)) H = .ok (.rol ((((rows[r]?).getD []).map (SRC.pos m)).map gf)) H:=by
   rw [List.map_map]
   refine a7k (SRC.ape (ck:=fun h=>h[j]? = some (zx ((rows[r]?).getD []))) gf (gf ∘ SRC.pos m) ((rows[r]?).getD []) hj' (ac0 (o9 (d8 rfl) (d8 rfl) gx') (ako hj')) (n8 (by omega)) fun x hx=>?_) (jg fun x _=>iw _) hc
   rw [zb]
   unfold yu
   exact ax8 (d8 rfl) (amb hm) (arg1 (d8 rfl)) (SRC.ahl hm (e3 x hx))
  exact uz z2 rfl
 have z3:∀ t7:Option D,sZ (uy (sIt (sV 4)) t1 vm [2]) (τD tg t (.ref G.length) i t6 t7) H = .ok (.rol ((SRC.a89 ks m).map D.int)) H:=fun t7=>by
  rw [List.map_map]
  refine a7k (SRC.ape (ck:=fun h=>h[G.length]? = some (zx m)) gf (D.int ∘ fun r=>(ks[r]?).getD 0) m hm (ac0 (d8 rfl) (ako hm)) (n8 (by omega)) fun r hr=>?_) (jg fun x _=>iw _) hc
  have h1:=M.lt r (pm.mem_iff.mp hr)
  have e:ks[r]? = some ((ks[r]?).getD 0):=by rw [List.getElem?_eq_getElem (by omega)];rfl
  rw [zb]
  unfold vm
  exact o9 (d8 rfl) (d8 rfl) (ab2 (a76 (a76 L.ks)) (by rw [List.getElem?_map,e];rfl))
 refine ⟨m,pm,rfl,?_⟩
 refine Eq.trans (congrArg toR (m8 (o9 (jf _ _ _) (o9 (d8 rfl) (uz (d8 rfl) (a9j (a0m g _))) (am9 (by omega))) ye))) ?_
 rw [et]
 refine Eq.trans (congrArg toR (m8 (s4 _ rfl rfl))) ?_
 refine Eq.trans (congrArg toR (m8 (uz (z1 _) (show xn [.rol ((SRC.a7m rows m).map qy)] H = .ok (.tup ((SRC.a7m rows m).map qy)) H from rfl)))) ?_
 exact congrArg toR (lz (a3v (d8 rfl) (d8 rfl) (uz (z3 _) (show xn [.rol ((SRC.a89 ks m).map D.int)] H = .ok (.tup ((SRC.a89 ks m).map D.int)) H from rfl)) ama))
def Rch (rows:List (List Nat)) (r:Nat):Prop:=∀ Q:Nat→Prop,Q 0→(∀ r,Q r→∀ x∈(rows[r]?).getD [],Q x)→Q r
theorem Rch.zero (rows:List (List Nat)):Rch rows 0:=fun _ q _=>q
theorem Rch.step {rows:List (List Nat)} {r x:Nat} (h:Rch rows r) (hx:x∈(rows[r]?).getD []):Rch rows x:=fun Q q0 qs=>qs r (h Q q0 qs) x hx
theorem amc {m:List Nat} {x:Nat} (h:x∈m):m[SRC.pos m x]? = some x:=by
 have e:=(ad6 (SRC.ahk h).1).1
 unfold SRC.cst at e
 rw [List.getElem?_map] at e
 cases q:m[SRC.pos m x]? with
 | none=>rw [q] at e;cases e
 | some y =>
  rw [q] at e
  have e:(y:Int)=(x:Int):=by simpa using e
  congr 1
  omega
theorem amd {m:List Nat} {x i:Nat} (nd:m.Nodup) (h:m[i]? = some x):SRC.pos m x=i:=by
 have h1:=amc (List.mem_of_getElem? h)
 obtain ⟨a,ea⟩:=List.getElem?_eq_some_iff.mp h
 obtain ⟨b,eb⟩:=List.getElem?_eq_some_iff.mp h1
 have pw:=List.pairwise_iff_getElem.mp nd
 rcases Nat.lt_trichotomy (SRC.pos m x) i with z | z | z
 ·exact absurd (eb.trans ea.symm) (pw _ _ b a z)
 ·exact z
 ·exact absurd (ea.trans eb.symm) (pw _ _ a b z)
theorem apl {rows:List (List Nat)} {m:List Nat} (nd:m.Nodup) (m0:m[0]? = some 0) (cl:∀ r∈m,∀ x∈(rows[r]?).getD [],x∈m) (rc:∀ r∈m,Rch rows r):∀ r,r<(SRC.a7m rows m).length→Rch (SRC.a7m rows m) r:=by
 intro r hr Q q0 qs
 have hr':r<m.length:=by simpa using hr
 have er:m[r]? = some m[r]:=List.getElem?_eq_getElem hr'
 have key:=(rc m[r] (List.getElem_mem hr') (fun x=>x∈m∧Q (SRC.pos m x)) ⟨List.mem_of_getElem? m0,by rw [amd nd m0];exact q0⟩ fun a ⟨ha,qa⟩ x hx=>⟨cl a ha x hx,qs _ qa _ (by
  rw [List.getElem?_map,amc ha]
  exact List.mem_map.mpr ⟨x,hx,rfl⟩)⟩).2
 rwa [amd nd er] at key
theorem auo (L:Laid g rows ks) (T1:Tongue tg) (n1:1≤n) (n32:n≤32) (lr:rows.length=n) (lk:ks.length=n) (k0:ks[0]? = some (-1)) (kk:∀ k∈ks,KOk k) (rr:∀ r∈rows,aiq tg.length n r) :
  ∃ (T:Table) (x y:O),T.Ok∧T.tg=tg∧T.go.length≤n∧(∀ r,r<T.go.length→Rch T.go r)∧j4 [.str (S tg), .ref 1, .ref 2,gf tu] g = .ok T.d (g++[x]++[y]):=by
 obtain ⟨met,i,t6,ew,M,m0,cl,rc⟩:=apj (tg:=tg) (tu:=tu) L n1 n32 lr rr (Rch rows) (Rch.zero rows) fun r h x hx=>h.step hx
 obtain ⟨m,pm,mz,ee⟩:=apk (tg:=tg) (tu:=tu) (i:=i) (t6:=t6) L n32 lr lk T1.hi rr M m0 cl
 have lm:m.length=met.length:=pm.length_eq
 have ln:=M.len
 have ml:1≤m.length:=by cases m with | nil=>simp at mz | cons _ _=>simp
 let T:Table:=⟨tg,SRC.a7m rows m,SRC.a89 ks m⟩
 have ok:T.Ok:=by
  refine ⟨T1,by simpa [T] using ml,by show (SRC.a7m rows m).length≤32;rw [List.length_map];omega,fun r hr=>?_,by simp [T],?_,fun k hk=>?_⟩
  ·obtain ⟨q,hq,rfl⟩:=List.mem_map.mp hr
   have h1:=M.lt q (pm.mem_iff.mp hq)
   have e:rows[q]? = some ((rows[q]?).getD []):=by rw [List.getElem?_eq_getElem (by omega)];rfl
   obtain ⟨a,b⟩:=rr _ (List.mem_of_getElem? e)
   refine ⟨by rw [List.length_map];exact a,fun x hx=>?_⟩
   obtain ⟨v,hv,rfl⟩:=List.mem_map.mp hx
   show SRC.pos m v<(SRC.a7m rows m).length
   rw [List.length_map]
   exact (SRC.ahk (pm.mem_iff.mpr (cl q (pm.mem_iff.mp hq) v hv))).2
  ·show (SRC.a89 ks m)[0]? = _
   rw [List.getElem?_map,mz]
   show some ((ks[0]?).getD 0)=_
   rw [k0];rfl
  ·obtain ⟨q,hq,rfl⟩:=List.mem_map.mp hk
   have h1:=M.lt q (pm.mem_iff.mp hq)
   have e:ks[q]? = some ((ks[q]?).getD 0):=by rw [List.getElem?_eq_getElem (by omega)];rfl
   exact kk _ (List.mem_of_getElem? e)
 refine ⟨T,zx met,zx m,ok,rfl,by show (SRC.a7m rows m).length≤n;rw [List.length_map];omega,apl (pm.nodup_iff.mpr M.nd) mz (fun r hr x hx=>pm.mem_iff.mpr (cl r (pm.mem_iff.mp hr) x hx)) (fun r hr=>rc r (pm.mem_iff.mp hr)),?_⟩
 unfold j4
 rw [j6]
 show toR (zc [some (.str (S tg)),some (.ref 1),some (.ref 2),some (gf tu),none,none,none,none] g)=_
 unfold zc
 refine Eq.trans (congrArg toR (m8 (d:=.ref g.length) (h1:=g++[zx [0]]) rfl)) ?_
 refine Eq.trans (congrArg toR (m8 (jf _ _ _))) ?_
 refine Eq.trans (congrArg toR (a1v ew)) ?_
 exact ee
end
end PN
namespace PN
open PySem PySem.Spec L2 MI AT HND EVX K22 K23 K21
noncomputable def qd:SF:=o8 (a1m j4 az) 11
abbrev refs (k:Nat):List D:=(List.range k).map fun j=>D.ref (3+j)
abbrev HT (u:O) (is:List D) (ks:List Int) (t:Hd):Hd:=u::.lst is::.lst (ks.map D.int)::t
abbrev τP (tg:List Nat) (most many:Nat) (road often:Int) (i r k:Option D):Sd:=[some (.ref 0),some (.str (S tg)),some (gf most),some (gf many),some (.int road),some (.int often),some (.ref 1),some (.ref 2),i,r,k]
theorem ahn (u:O) (is:List D) (ks:List Int) (t:Hd) (x:O):(HT u is ks (t++[x]))[3+t.length]? = some x:=by
 rw [show 3+t.length=t.length+1+1+1 by omega]
 simp
theorem aup (u:O) (is:List D) (ks:List Int) (t:Hd) (x y:O):(HT u is ks (t++[x])).set (3+t.length) y=HT u is ks (t++[y]):=by
 rw [show 3+t.length=t.length+1+1+1 by omega]
 simp
section
variable {u:O} {N n most:Nat} {tg:List Nat} {is:List D} {ks:List Int} {t:Hd} {road often:Int}
theorem tk {m:Int} (P:Pen u N) (hN:N≤999999000) (m0:0<m) (m1:m<1073741824):∃ (r:Int) (u':O),0≤r∧r<m∧Pen u' (N+1)∧∀ h:Hd,jo false 2 az [.ref 0, .int m] (u::h) = .ok (.int r) (u'::h):=by
 obtain ⟨r,u',e,r0,r1,P'⟩:=ac4 P (by omega) m0 m1
 exact ⟨r,u',r0,r1,P',fun h=>e 0 _ rfl⟩
theorem aho {i r k:Option D} (P:Pen u N) (hN:N≤999990000) (t6:tg.length≤6) (n1:1≤n) (n32:n≤32) :
  ∃ (u':O) (row:List Nat),aiq tg.length n row∧Pen u' (N+6)∧uy (sIt (sV 1)) t1 (zf j4 az) [0,3] (τP tg most n road often i r k) (HT u is ks t) = .ok (.ref (3+t.length)) (HT u' is ks (t++[zx row])):=by
 have mp:=ade (f:=a7h t1 (zf j4 az) (frs' [0,3] (τP tg most n road often i r k))) (fun c:Nat=>D.str (S [c]))
  (fun pre ys h=>∃ (u':O) (row:List Nat),h=HT u' is ks t∧Pen u' (N+pre.length)∧ys=row.map gf∧row.length=pre.length∧∀ x∈row,x<n)
  tg [] [] (HT u is ks t) ?_ ⟨u,[],rfl,P,rfl,rfl,by simp⟩
 ·obtain ⟨zs,h',em,u',row,rfl,P',ez,rl,rx⟩:=mp
  rw [List.nil_append] at ez rl P'
  subst ez
  refine ⟨u',row,⟨rl,rx⟩,P'.up (by omega),?_⟩
  unfold uy
  rw [ac0 (d8 rfl) (PAP.axc tg _),di]
  dsimp only
  rw [if_pos (by rw [List.length_map];exact n8 (by omega)),em,di]
  show R.ok (D.ref (HT u' is ks t).length) (HT u' is ks t++[zx row])=_
  rw [show (HT u' is ks t).length=3+t.length by simp;omega]
  rfl
 ·rintro pre c post ys h all ⟨u',row,rfl,P',rfl,rl,rx⟩
  rw [List.nil_append] at all
  have pl:pre.length<tg.length:=by rw [all];simp
  obtain ⟨x,u2,x0,x1,P2,c1⟩:=tk (m:=(n:Int)) P' (by omega) (by omega) (by omega)
  obtain ⟨j,rfl⟩:=Int.eq_ofNat_of_zero_le x0
  refine ⟨gf j,HT u2 is ks t,?_,u2,row++[j],rfl,P2.up (by rw [List.length_append,List.length_singleton];omega),by rw [List.map_append];rfl,by rw [List.length_append,List.length_append,List.length_singleton,List.length_singleton,rl],fun y hy=>?_⟩
  ·rw [zb]
   unfold zf
   exact ym (d8 rfl) (d8 rfl) (c1 _)
  ·rcases List.mem_append.mp hy with z | z
   ·exact rx y z
   ·rw [List.mem_singleton] at z;subst z;omega
theorem turn {i:Nat} {r k:Option D} (P:Pen u N) (hN:N≤999990000) (t1:1≤tg.length) (t6:tg.length≤6) (n1:1≤n) (n32:n≤32) (hi:i<n) (o2:0<often) (o3:often<10) (il:is.length≤100) (kl:ks.length≤100) (k0:ks.length=i) :
  ∃ (u':O) (row:List Nat) (kd:Int) (r' k':Option D),aiq tg.length n row∧KOk kd∧(i=0→kd = -1)∧Pen u' (N+9) ∧
   vz j4 az (τP tg most n road often (some (gf i)) r k) (HT u is ks t) = .nx (τP tg most n road often (some (gf i)) r' k') (HT u' (is++[.ref (3+t.length)]) (ks++[kd]) (t++[zx row])):=by
 obtain ⟨u1,row,⟨l1,x1⟩,P1,e1⟩:=aho (most:=most) (road:=road) (often:=often) (i:=some (gf i)) (r:=r) (k:=k) (is:=is) (ks:=ks) (t:=t) P hN t6 n1 n32
 let τ1:Sd:=τP tg most n road often (some (gf i)) (some (.ref (3+t.length))) k
 obtain ⟨u2,row2,⟨l2,x2⟩,P2,e2⟩:∃ (u2:O) (row2:List Nat),aiq tg.length n row2∧Pen u2 (N+7)∧∀ g:SS,jd (sIf (sT (s2 hEq (sV 4) (sC (.int 0))))
   (acu (sA a4s (aj (s2 j8 (sV 8) (sC (.int 1))) (aj (s2 a7f (sV 3) (sC (.int 1))) bj))) (sV 9) (sA (jo false 2 az) (aj (sV 0) (aj (sA um (aj (sV 9) bj)) bj))))
   sNx) g τ1 (HT u1 is ks (t++[zx row]))=g τ1 (HT u2 is ks (t++[zx row2])):=by
  by_cases hr:road=0
  ·obtain ⟨x,u2,x0,x1',P2,c1⟩:=tk (m:=(row.length:Int)) P1 (by omega) (by omega) (by omega)
   obtain ⟨j,rfl⟩:=Int.eq_ofNat_of_zero_le x0
   let v:Nat:=if n - 1<i+1 then n - 1 else i+1
   have ev:a4s [.int ((i:Int)+1), .int ((n:Int) - 1)] (HT u1 is ks (t++[zx row])) = .ok (gf v) (HT u1 is ks (t++[zx row])):=by
    show R.ok (D.int (if (n:Int) - 1<(i:Int)+1 then (n:Int) - 1 else (i:Int)+1)) _=_
    have:(if (n:Int) - 1<(i:Int)+1 then (n:Int) - 1 else (i:Int)+1)=((v:Nat):Int):=by show _=((if n - 1<i+1 then n - 1 else i+1:Nat):Int);split<;>split<;>omega
    rw [this]
   have vn:v<n:=by show (if n - 1<i+1 then n - 1 else i+1)<n;split<;>omega
   refine ⟨u2,row.set j v,⟨by rw [List.length_set,l1],fun y hy=>?_⟩,P2,fun g=>?_⟩
   ·rcases List.mem_or_eq_of_mem_set hy with z | z
    ·exact x1 y z
    ·rw [z];exact vn
   ·refine a1v (Eq.trans (ifT (tof (o9 (d8 rfl) (jf _ _ _) (ac1 hr)))) (ax9 (ym (o9 (d8 rfl) (jf _ _ _) ye) (o9 (d8 rfl) (jf _ _ _) (a74 _ _)) ev) (d8 rfl) (ym (d8 rfl) (uz (d8 rfl) (a9j (ahn _ _ _ _ _))) (c1 _)) ?_))
    have pu:=axa (v:=gf v) (ahn u2 is ks t (zx row)) (j:=j) (by rw [List.length_map];omega)
    rw [aup] at pu
    show put (.ref (3+t.length)) (.int (j:Nat)) (gf v) (HT u2 is ks (t++[zx row]))=_
    rw [pu]
    show _=some (HT u2 is ks (t++[.lst ((row.set j v).map gf)]))
    rw [List.map_set]
  ·refine ⟨u1,row,⟨l1,x1⟩,P1.up (by omega),fun g=>?_⟩
   exact ifN (tof (o9 (d8 rfl) (jf _ _ _) (ac2 hr)))
 obtain ⟨a,u3,a0,a1,P3,c3⟩:=tk (m:=6) P2 (by omega) (by omega) (by omega)
 obtain ⟨b,u4,b0,b1,P4,c4⟩:=tk (m:=often) P3 (by omega) (by omega) (by omega)
 let t':Hd:=t++[zx row2]
 have fin:∀ (w:O) (kd:Int),jd (a0o (sML a8r (sV 6) (aj (sV 9) bj))) (a0o (sML a8r (sV 7) (aj (sV 10) bj))) (τP tg most n road often (some (gf i)) (some (.ref (3+t.length))) (some (.int kd))) (HT w is ks t') = .nx (τP tg most n road often (some (gf i)) (some (.ref (3+t.length))) (some (.int kd))) (HT w (is++[.ref (3+t.length)]) (ks++[kd]) t'):=fun w kd=>by
  refine Eq.trans (a1v (a72 (d8 rfl) rfl (arg1 (d8 rfl)) (a73 (xs:=is) rfl (a5v (by omega))))) ?_
  unfold HT
  rw [List.map_append]
  exact a72 (d8 rfl) rfl (arg1 (d8 rfl)) (a73 (xs:=ks.map D.int) rfl (by rw [List.length_map];exact a5v (by omega)))
 have start:∀ g:SS,jd (o7 10 (sA (jo false 2 az) (aj (sV 0) (aj (sC (.int 6)) bj)))) g τ1 (HT u2 is ks t')=g (τP tg most n road often (some (gf i)) (some (.ref (3+t.length))) (some (.int a))) (HT u3 is ks t'):=fun g=>m8 (ym (d8 rfl) (jf _ _ _) (c3 _))
 have main:∃ (w:O) (kd:Int),KOk kd∧(i=0→kd = -1)∧Pen w (N+9)∧vz j4 az (τP tg most n road often (some (gf i)) r k) (HT u is ks t) = .nx (τP tg most n road often (some (gf i)) (some (.ref (3+t.length))) (some (.int kd))) (HT w (is++[.ref (3+t.length)]) (ks++[kd]) t'):=by
  unfold vz
  by_cases h0:(i:Int)=0
  ·refine ⟨u3, -1,by decide,fun _=>rfl,P3.up (by omega),?_⟩
   refine Eq.trans (m8 e1) ?_
   refine Eq.trans (e2 _) ?_
   refine Eq.trans (start _) ?_
   refine Eq.trans (a1v (Eq.trans (ifT (orT (tof (o9 (d8 rfl) (jf _ _ _) (ac1 h0))))) (ap8 (am8 (jf _ _ _) (ac3 _))))) ?_
   exact fin _ _
  ·by_cases hb:0<b
   ·refine ⟨u4, -1,by decide,fun _=>rfl,P4.up (by omega),?_⟩
    refine Eq.trans (m8 e1) ?_
    refine Eq.trans (e2 _) ?_
    refine Eq.trans (start _) ?_
    refine Eq.trans (a1v (Eq.trans (ifT (orF (tof (o9 (d8 rfl) (jf _ _ _) (ac2 h0))) (tof (o9 (ym (d8 rfl) (d8 rfl) (c4 _)) (jf _ _ _) (auc hb))))) (ap8 (am8 (jf _ _ _) (ac3 _))))) ?_
    exact fin _ _
   ·refine ⟨u4,a,by constructor<;>omega,fun z=>absurd (by omega) h0,P4.up (by omega),?_⟩
    refine Eq.trans (m8 e1) ?_
    refine Eq.trans (e2 _) ?_
    refine Eq.trans (start _) ?_
    refine Eq.trans (ifN (orF (tof (o9 (d8 rfl) (jf _ _ _) (ac2 h0))) (tof (o9 (ym (d8 rfl) (d8 rfl) (c4 _)) (jf _ _ _) (ap9 hb))))) ?_
    exact fin _ _
 obtain ⟨w,kd,q1,q2,q3,q4⟩:=main
 exact ⟨w,row2,kd,_,_,⟨l2,x2⟩,q1,q2,q3,q4⟩
end
end PN
namespace PN
open PySem PySem.Spec L2 MI AT HND EVX K22 K23 K21
theorem a6a {n x:Nat} {pre post:List Nat} (e:List.range n=pre++x::post):x=pre.length∧pre.length<n:=by
 have h1:(List.range n)[pre.length]? = some x:=by rw [e];simp
 have h2:=List.getElem?_eq_some_iff.mp h1
 obtain ⟨h3,h4⟩:=h2
 rw [List.getElem_range] at h4
 rw [List.length_range] at h3
 exact ⟨h4.symm,h3⟩
theorem ahp (k:Nat):refs (k+1)=refs k++[.ref (3+k)]:=by unfold refs;rw [List.range_succ,List.map_append];rfl
theorem laid {u:O} {N:Nat} {rows:List (List Nat)} {ks:List Int} (P:Pen u N):Laid (HT u (refs rows.length) ks (rows.map zx)) rows ks:=by
 refine ⟨⟨(List.range rows.length).map fun j=>3+j,?_,fun r hr=>⟨3+r,by rw [List.getElem?_map,List.getElem?_range hr];rfl,?_⟩⟩,rfl,?_⟩
 ·show some (O.lst (refs rows.length))=_
  rw [List.map_map];rfl
 ·rw [show 3+r=r+1+1+1 by omega]
  simp only [List.getElem?_cons_succ]
  rw [List.getElem?_map,List.getElem?_eq_getElem hr];rfl
 ·intro o ho
  simp only [List.mem_cons] at ho
  rcases ho with rfl | rfl | rfl | ho
  ·exact ul (Nat.zero_le _) P.clo
  ·refine jg fun j hj=>?_
   rw [List.mem_range] at hj
   show 3+j<_
   simp only [List.length_cons,List.length_map]
   omega
  ·exact ul (Nat.zero_le _) (jg fun x _=>iw x)
  ·obtain ⟨r,_,rfl⟩:=List.mem_map.mp ho
   exact ul (Nat.zero_le _) (m5 _)
theorem akq {o:O} {N most:Nat} {tg:List Nat} (P:Pen o N) (hN:N≤999980000) (T1:Tongue tg) (m1:1≤most) (m32:most≤32) :
  ∃ (T:Table) (o':O),T.Ok∧T.tg=tg∧T.go.length≤most∧(∀ r,r<T.go.length→Rch T.go r)∧Dr qd 3 [.str (S tg),gf most] o T.d o'∧Pen o' (N+400):=by
 obtain ⟨x,o1,x0,x1,P1,c1⟩:=tk (m:=(most:Int)) P (by omega) (by omega) (by omega)
 obtain ⟨road,o2,y0,y1,P2,c2⟩:=tk (m:=3) P1 (by omega) (by omega) (by omega)
 obtain ⟨z,o3,z0,z1,P3,c3⟩:=tk (m:=2) P2 (by omega) (by omega) (by omega)
 obtain ⟨j,rfl⟩:=Int.eq_ofNat_of_zero_le x0
 let n:Nat:=1+j
 have en:(1:Int)+(j:Int)=((n:Nat):Int):=by show _=((1+j:Nat):Int);omega
 have hn1:1≤n:=by show 1≤1+j;omega
 have hnm:n≤most:=by show 1+j≤most;omega
 let often:Int:=2+z
 have lp:=a0r (g:=kN 8) (b:=vz j4 az) gf
  (fun pre τ h=>∃ (u:O) (rows:List (List Nat)) (ks:List Int) (i r k:Option D),τ=τP tg most n road often i r k∧h=HT u (refs rows.length) ks (rows.map zx)∧Pen u (N+3+9*pre.length)∧rows.length=pre.length∧ks.length=pre.length∧(∀ r∈rows,aiq tg.length n r)∧(∀ k∈ks,KOk k)∧(0<pre.length→ks[0]? = some (-1)))
  (List.range n) (τP tg most n road often none none none) (HT o3 (refs 0) [] []) ?_ ⟨o3,[],[],none,none,none,rfl,rfl,P3,rfl,rfl,by simp,by simp,by simp⟩
 ·obtain ⟨τ',h',e,u,rows,ks,i,r,k,rfl,rfl,Pu,lr,lk,rr,kk,k0⟩:=lp
  rw [List.length_range] at Pu lr lk k0
  obtain ⟨w,u',w0,w1,Pw,c4⟩:=tk (m:=32) Pu (by omega) (by omega) (by omega)
  obtain ⟨tu,rfl⟩:=Int.eq_ofNat_of_zero_le w0
  obtain ⟨T,a,b,ok,et,el,rc,ec⟩:=auo (tu:=tu) (laid (rows:=rows) (ks:=ks) Pw) T1 hn1 (by omega) lr lk (k0 (by omega)) kk rr
  refine ⟨T,u',ok,et,by omega,rc,Dr.of rfl (akl (nj _) (iw _)) P.clo (r:=.ok T.d (HT u' (refs rows.length) ks (rows.map zx)++[a]++[b])) ?_ (qw (a85 (Nat.zero_le 1) Table.clo) (by intro x hx;rw [show List.take 1 (HT u' (refs rows.length) ks (rows.map zx)++[a]++[b])=[u'] from rfl,List.mem_singleton] at hx;subst hx;exact ul (by omega) Pw.clo)) Table.clo Pw.clo,Pw.up (by omega)⟩
  unfold qd
  rw [j6]
  show toR (a1m j4 az [some (.ref 0),some (.str (S tg)),some (gf most),none,none,none,none,none,none,none,none] [o])=_
  unfold a1m
  refine Eq.trans (congrArg toR (m8 (o9 (jf _ _ _) (ym (d8 rfl) (d8 rfl) (c1 _)) ye))) ?_
  rw [en]
  refine Eq.trans (congrArg toR (m8 (ym (d8 rfl) (jf _ _ _) (c2 _)))) ?_
  refine Eq.trans (congrArg toR (m8 (o9 (jf _ _ _) (ym (d8 rfl) (jf _ _ _) (c3 _)) ye))) ?_
  refine Eq.trans (congrArg toR (m8 (d:=.ref 1) (h1:=[o3, .lst []]) rfl)) ?_
  refine Eq.trans (congrArg toR (m8 (d:=.ref 2) (h1:=HT o3 (refs 0) [] []) rfl)) ?_
  refine Eq.trans (congrArg toR (ab1 (a5j (n:=n) (d8 rfl) (n8 (by omega))))) ?_
  refine Eq.trans (congrArg (fun z=>toR (MI.thn z _)) e) ?_
  rw [a0i]
  refine congrArg toR (lz (SRC.ayf (wg (d8 rfl) (wg (d8 rfl) (wg (d8 rfl) (wg (ym (d8 rfl) (jf _ _ _) (c4 _)) rfl)))) ?_))
  unfold sN
  exact (if_pos (show [D.str (S tg),D.ref 1,D.ref 2,gf tu].length=4 from rfl)).trans ec
 ·rintro pre x post τ h all ⟨u,rows,ks,i,r,k,rfl,rfl,Pu,lr,lk,rr,kk,k0⟩
  obtain ⟨rfl,hx⟩:=a6a all
  obtain ⟨u',row,kd,r',k',q1,q2,q3,q4,q5⟩:=turn (most:=most) (road:=road) (often:=often) (i:=pre.length) (r:=r) (k:=k) (is:=refs rows.length) (ks:=ks) (t:=rows.map zx) Pu (by omega) T1.lo T1.hi hn1 (by omega) hx (by show 0<2+z;omega) (by show 2+z<10;omega) (by simp;omega) (by omega) lk
  refine ⟨_,_,rfl,τP tg most n road often (some (gf pre.length)) r' k',HT u' (refs (rows++[row]).length) (ks++[kd]) ((rows++[row]).map zx),?_,u',rows++[row],ks++[kd],_,_,_,rfl,rfl,q4.up (by simp;omega),by simp [lr],by simp [lk],fun y hy=>?_,fun y hy=>?_,fun _=>?_⟩
  ·rw [List.length_append,List.length_singleton,ahp,List.map_append]
   rw [List.length_map] at q5
   exact q5
  ·rcases List.mem_append.mp hy with z | z
   ·exact rr y z
   ·rw [List.mem_singleton] at z;subst z;exact q1
  ·rcases List.mem_append.mp hy with z | z
   ·exact kk y z
   ·rw [List.mem_singleton] at z;subst z;exact q2
  ·cases ks with
   | nil=>show some kd=_;rw [q3 (by simpa using lk.symm)]
   | cons a l=>exact k0 (by rw [← lk];simp)
end PN
namespace PN
open PySem PySem.Spec L2 MI AT HND EVX K22 K23 K21
inductive Deed where
 | stay | shut | opn (k:Nat) | trn (k:Nat)
def Deed.d:Deed→D
 | .stay=>.tup [.str "stay"]
 | .shut=>.tup [.str "shut"]
 | .opn k=>.tup [.str "open",gf k]
 | .trn k=>.tup [.str "turn",gf k]
def Deed.Ok (n:Nat):Deed→Prop
 | .opn k=>k<n
 | .trn k=>k<n
 | _=>True
theorem Deed.clo (x:Deed) (n:Nat):MI.clo n x.d:=by
 cases x
 ·exact gk (dj (nj _) n6)
 ·exact gk (dj (nj _) n6)
 ·exact gk (dj (nj _) (dj (iw _) n6))
 ·exact gk (dj (nj _) (dj (iw _) n6))
noncomputable def jh:SF:=o8 (a1n az) 7
abbrev six (k:Nat):List Deed:=[.stay, .shut, .opn k, .trn k, .shut, .opn k]
abbrev dsD (ds:List Deed):List D:=ds.map Deed.d
theorem a4i (n:Nat) (ds:List Deed):clos n (dsD ds):=jg fun x _=>x.clo n
abbrev τQ (size many:Nat) (i a b:Option D):Sd:=[some (.ref 0),some (gf size),some (gf many),some (.ref 1),i,a,b]
theorem ado {o:O} {N size many:Nat} (P:Pen o N) (hN:N≤999990000) (s6:size≤6) (m1:1≤many) (m4:many≤4) :
  ∃ (ds:List Deed) (o':O),ds.length=size∧(∀ x∈ds,x.Ok many)∧Dr jh 3 [gf size,gf many] o (.tup (dsD ds)) o'∧Pen o' (N+12):=by
 have lp:=a0r (g:=kN 4) (b:=a0u az) gf
  (fun pre τ h=>∃ (u:O) (ds:List Deed) (i a b:Option D),τ=τQ size many i a b∧h=[u, .lst (dsD ds)]∧Pen u (N+2*pre.length)∧ds.length=pre.length∧∀ x∈ds,x.Ok many)
  (List.range size) (τQ size many none none none) [o, .lst []] ?_ ⟨o,[],none,none,none,rfl,rfl,P,rfl,by simp⟩
 ·obtain ⟨τ',h',e,u,ds,i,a,b,rfl,rfl,Pu,ld,dk⟩:=lp
  rw [List.length_range] at Pu ld
  have one:∀ x∈List.take 1 [u,O.lst (dsD ds)],a1r 1 x:=by
   intro x hx
   rw [show List.take 1 [u,O.lst (dsD ds)]=[u] from rfl,List.mem_singleton] at hx
   subst hx
   exact ul (by omega) Pu.clo
  refine ⟨ds,u,ld,dk,Dr.of rfl (akl (iw _) (iw _)) P.clo (r:=.ok (.tup (dsD ds)) [u, .lst (dsD ds)]) ?_ (qw (gk (a4i _ _)) one) (gk (a4i _ _)) Pu.clo,Pu.up (by omega)⟩
  unfold jh
  rw [j6]
  show toR (a1n az [some (.ref 0),some (gf size),some (gf many),none,none,none,none] [o])=_
  unfold a1n
  refine Eq.trans (congrArg toR (m8 (d:=.ref 1) (h1:=[o, .lst []]) rfl)) ?_
  refine Eq.trans (congrArg toR (ab1 (a5j (n:=size) (d8 rfl) (n8 (by omega))))) ?_
  refine Eq.trans (congrArg (fun z=>toR (MI.thn z _)) e) ?_
  rw [a0i]
  exact congrArg toR (lz (uz (d8 rfl) rfl))
 ·rintro pre x post τ h all ⟨u,ds,i,a,b,rfl,rfl,Pu,ld,dk⟩
  obtain ⟨rfl,hx⟩:=a6a all
  obtain ⟨y,u1,y0,y1,P1,c1⟩:=tk (m:=(many:Int)) Pu (by omega) (by omega) (by omega)
  obtain ⟨z,u2,z0,z1,P2,c2⟩:=tk (m:=6) P1 (by omega) (by omega) (by omega)
  obtain ⟨k,rfl⟩:=Int.eq_ofNat_of_zero_le y0
  obtain ⟨j,rfl⟩:=Int.eq_ofNat_of_zero_le z0
  have jl:j<(six k).length:=by show j<6;omega
  have gx:(six k)[j]? = some (six k)[j]:=List.getElem?_eq_getElem jl
  have gm:(six k)[j]∈six k:=List.getElem_mem jl
  generalize (six k)[j]=w at gx gm
  have wk:w.Ok many:=by
   simp only [List.mem_cons,List.not_mem_nil,or_false] at gm
   rcases gm with rfl | rfl | rfl | rfl | rfl | rfl<;>first | trivial | (show k<many;omega)
  refine ⟨_,_,rfl,τQ size many (some (gf pre.length)) (some (gf k)) (some (.rol (dsD (six k)))),[u2, .lst (dsD (ds++[w]))],?_,u2,ds++[w],_,_,_,rfl,rfl,P2.up (by rw [List.length_append,List.length_singleton];omega),by rw [List.length_append,List.length_append,ld];rfl,fun q hq=>?_⟩
  ·unfold a0u
   refine Eq.trans (m8 (ym (d8 rfl) (d8 rfl) (c1 _))) ?_
   have cl:∀ q∈[u1,O.lst (dsD ds)],a1r 2 q:=by
    intro q hq
    simp only [List.mem_cons,List.not_mem_nil,or_false] at hq
    rcases hq with rfl | rfl
    ·exact ul (by omega) P1.clo
    ·exact a4i _ _
   have z:∀ τ:Sd,τ[5]? = some (some (gf k))→sZ (sA a0d (aj (sA kh (aj (sC (.str "stay")) bj)) (aj (sA kh (aj (sC (.str "shut")) bj)) (aj (sA kh (aj (sC (.str "open")) (aj (sV 5) bj))) (aj (sA kh (aj (sC (.str "turn")) (aj (sV 5) bj))) (aj (sA kh (aj (sC (.str "shut")) bj)) (aj (sA kh (aj (sC (.str "open")) (aj (sV 5) bj))) bj))))))) τ [u1, .lst (dsD ds)] = .ok (.rol (dsD (six k))) [u1, .lst (dsD ds)]:=fun τ h5 =>
    a7k (SRC.ayf (wg (uz (jf _ _ _) rfl) (wg (uz (jf _ _ _) rfl) (wg (ym (jf _ _ _) (d8 h5) afa) (wg (ym (jf _ _ _) (d8 h5) afa) (wg (uz (jf _ _ _) rfl) (wg (ym (jf _ _ _) (d8 h5) afa) rfl)))))) rfl) (a4i _ (six k)) cl
   refine Eq.trans (m8 (z _ rfl)) ?_
   unfold dsD
   rw [List.map_append]
   exact a72 (d8 rfl) rfl (arg1 (o9 (d8 rfl) (ym (d8 rfl) (jf _ _ _) (c2 _)) (axb (by rw [List.getElem?_map,gx];rfl)))) (a73 (xs:=dsD ds) rfl (by rw [List.length_map];exact a5v (by omega)))
  ·rcases List.mem_append.mp hq with z | z
   ·exact dk q z
   ·rw [List.mem_singleton] at z;subst z;exact wk
structure Mach where
 tg:List Nat
 ms:List (Table × List Deed)
abbrev a0x (m:Table × List Deed):D:=.tup [.tup (m.1.go.map qy), .tup (m.1.ks.map D.int), .tup (dsD m.2)]
def Mach.d (M:Mach):D:=.tup [.str (S M.tg), .tup (M.ms.map a0x)]
structure ModeOk (tg:List Nat) (n:Nat) (m:Table × List Deed):Prop where
 ok:m.1.Ok
 tg:m.1.tg=tg
 dl:m.2.length≤6
 kd:∀ k∈m.1.ks,k<(m.2.length:Int)
 dk:∀ x∈m.2,x.Ok n
 rc:∀ r,r<m.1.go.length→Rch m.1.go r
structure Mach.Ok (M:Mach):Prop where
 tong:Tongue M.tg
 n1:1≤M.ms.length
 n4:M.ms.length≤4
 mode:∀ m∈M.ms,ModeOk M.tg M.ms.length m
theorem akr (n:Nat) (m:Table × List Deed):MI.clo n (a0x m):=gk (dj (gk (jg fun x _=>gk (m5 _))) (dj (gk (jg fun x _=>iw x)) (dj (gk (a4i _ _)) n6)))
theorem ahq (n:Nat) (ms:List (Table × List Deed)):clos n (ms.map a0x):=jg fun m _=>akr n m
theorem Mach.clo (M:Mach) (n:Nat):MI.clo n M.d:=gk (dj (nj _) (dj (gk (ahq _ _)) n6))
noncomputable def my:SF:=o8 (a01 jh qd az) 8
abbrev τM (tg:List Nat) (most many:Nat) (i a b:Option D):Sd:=[some (.ref 0),some (.str (S tg)),some (gf most),some (gf many),some (.ref 1),i,a,b]
theorem af5 {o:O} {N most:Nat} {tg:List Nat} (P:Pen o N) (hN:N≤999970000) (T1:Tongue tg) (m1:1≤most) (m32:most≤32) :
  ∃ (M:Mach) (o':O),M.Ok∧M.tg=tg∧Dr my 3 [.str (S tg),gf most] o M.d o'∧Pen o' (N+2000):=by
 obtain ⟨x,o1,x0,x1,P1,c1⟩:=tk (m:=4) P (by omega) (by omega) (by omega)
 obtain ⟨j,rfl⟩:=Int.eq_ofNat_of_zero_le x0
 let n:Nat:=1+j
 have en:(1:Int)+(j:Int)=((n:Nat):Int):=by show _=((1+j:Nat):Int);omega
 have hn1:1≤n:=by show 1≤1+j;omega
 have hn4:n≤4:=by show 1+j≤4;omega
 have lp:=a0r (g:=kN 5) (b:=zq jh qd az) gf
  (fun pre τ h=>∃ (u:O) (ms:List (Table × List Deed)) (i a b:Option D),τ=τM tg most n i a b∧h=[u, .lst (ms.map a0x)]∧Pen u (N+1+450*pre.length)∧ms.length=pre.length∧∀ m∈ms,ModeOk tg n m)
  (List.range n) (τM tg most n none none none) [o1, .lst []] ?_ ⟨o1,[],none,none,none,rfl,rfl,P1,rfl,by simp⟩
 ·obtain ⟨τ',h',e,u,ms,i,a,b,rfl,rfl,Pu,lm,mk⟩:=lp
  rw [List.length_range] at Pu lm
  have one:∀ x∈List.take 1 [u,O.lst (ms.map a0x)],a1r 1 x:=by
   intro x hx
   rw [show List.take 1 [u,O.lst (ms.map a0x)]=[u] from rfl,List.mem_singleton] at hx
   subst hx
   exact ul (by omega) Pu.clo
  let M:Mach:=⟨tg,ms⟩
  refine ⟨M,u,⟨T1,by show 1≤ms.length;omega,by show ms.length≤4;omega,fun m hm=>by show ModeOk tg ms.length m;rw [lm];exact mk m hm⟩,rfl,Dr.of rfl (akl (nj _) (iw _)) P.clo (r:=.ok M.d [u, .lst (ms.map a0x)]) ?_ (qw (M.clo 1) one) (M.clo 0) Pu.clo,Pu.up (by omega)⟩
  unfold my
  rw [j6]
  show toR (a01 jh qd az [some (.ref 0),some (.str (S tg)),some (gf most),none,none,none,none,none] [o])=_
  unfold a01
  refine Eq.trans (congrArg toR (m8 (o9 (jf _ _ _) (ym (d8 rfl) (jf _ _ _) (c1 _)) ye))) ?_
  rw [en]
  refine Eq.trans (congrArg toR (m8 (d:=.ref 1) (h1:=[o1, .lst []]) rfl)) ?_
  refine Eq.trans (congrArg toR (ab1 (a5j (n:=n) (d8 rfl) (n8 (by omega))))) ?_
  refine Eq.trans (congrArg (fun z=>toR (MI.thn z _)) e) ?_
  rw [a0i]
  exact congrArg toR (lz (ym (d8 rfl) (uz (d8 rfl) (show xn [.ref 1] [u, .lst (ms.map a0x)] = .ok (.tup (ms.map a0x)) [u, .lst (ms.map a0x)] from rfl)) afa))
 ·rintro pre x post τ h all ⟨u,ms,i,a,b,rfl,rfl,Pu,lm,mk⟩
  obtain ⟨rfl,hx⟩:=a6a all
  obtain ⟨T,u1,ok,et,_,rc,e1,P1⟩:=akq (tg:=tg) (most:=most) Pu (by omega) T1 m1 m32
  have ne:T.ks≠[]:=by intro z;have:=ok.k0;rw [z] at this;cases this
  obtain ⟨mi,mx⟩:=aag ne
  have mk':=ok.kk _ mi
  obtain ⟨l,hl⟩:=Int.eq_ofNat_of_zero_le (show 0≤mxI T.ks+1 by omega)
  obtain ⟨y,u2,y0,y1,P2,c2⟩:=tk (m:=7 - (l:Int)) P1 (by omega) (by omega) (by omega)
  obtain ⟨q,rfl⟩:=Int.eq_ofNat_of_zero_le y0
  obtain ⟨ds,u3,ld,dk,e3,P3⟩:=ado (size:=l+q) (many:=n) P2 (by omega) (by omega) hn1 hn4
  have d1:jo false 3 qd [.ref 0, .str (S tg),gf most] [u, .lst (ms.map a0x)] = .ok T.d [u1, .lst (ms.map a0x)]:=e1 0 _ rfl
  have d3:jo false 3 jh [.ref 0, .int ((l:Int)+(q:Int)),gf n] [u2, .lst (ms.map a0x)] = .ok (.tup (dsD ds)) [u3, .lst (ms.map a0x)]:=by
   have:=e3 0 [u2, .lst (ms.map a0x)] rfl
   rwa [show gf (l+q)=D.int ((l:Int)+(q:Int)) by show D.int ((l+q:Nat):Int)=_;congr 1] at this
  refine ⟨_,_,rfl,τM tg most n (some (gf pre.length)) (some T.d) (some (gf l)),[u3, .lst ((ms++[(T,ds)]).map a0x)],?_,u3,ms++[(T,ds)],_,_,_,rfl,rfl,P3.up (by rw [List.length_append,List.length_singleton];omega),by rw [List.length_append,List.length_append,lm];rfl,fun m hm=>?_⟩
  ·unfold zq
   refine Eq.trans (m8 (a3v (d8 rfl) (d8 rfl) (d8 rfl) d1)) ?_
   have i2:∀ hh:Hd,gIx T.d (.int 2) hh = .ok (.tup (T.ks.map D.int)) hh:=fun hh=>af9 (j:=2) rfl
   have i1:∀ hh:Hd,gIx T.d (.int 1) hh = .ok (.tup (T.go.map qy)) hh:=fun hh=>af9 (j:=1) rfl
   refine Eq.trans (m8 (o9 (uz (o9 (d8 rfl) (jf _ _ _) (i2 _)) (ah6 ne)) (jf _ _ _) ye)) ?_
   rw [hl,List.map_append]
   exact a72 (d8 rfl) rfl (arg1 (a3v (o9 (d8 rfl) (jf _ _ _) (i1 _)) (o9 (d8 rfl) (jf _ _ _) (i2 _)) (a3v (d8 rfl) (o9 (d8 rfl) (ym (d8 rfl) (o9 (jf _ _ _) (d8 rfl) (a74 _ _)) (c2 _)) ye) (d8 rfl) d3) ama)) (a73 (xs:=ms.map a0x) rfl (by rw [List.length_map];exact a5v (by omega)))
  ·rcases List.mem_append.mp hm with z | z
   ·exact mk m z
   ·rw [List.mem_singleton] at z;subst z
    exact ⟨ok,et,by show ds.length≤6;omega,fun k hk=>by have:=mx k hk;show k<(ds.length:Int);rw [ld];omega,dk,rc⟩
end PN
namespace PN
open PySem PySem.Spec L2 MI AT HND EVX K22 K23 K21
end PN
namespace K20
open PySem PySem.Spec L2 MI
noncomputable def yw:SS :=
 (ud (v9 (sA p7 (aj (sV 0) (aj (sC (.ty "int")) bj))) (a5x (sA p7 (aj (sV 0) (aj (sC (.ty "bool")) bj))))))
noncomputable def qp (qe:SF):SS :=
 (ud (v9 (sA (jo false 1 qe) (aj (sV 0) bj)) (sCh gLe gLe (sV 1) (sV 0) (sV 2))))
noncomputable def a2q:SS :=
 (ud (v9 (sA p7 (aj (sV 0) (aj (sC (.ty "tuple")) bj))) (sCh gLe gLe (sV 1) (sA um (aj (sV 0) bj)) (sV 2))))
noncomputable def a1h:SS :=
 (jd (sIf (sOr (a0b (a0n (sA p7 (aj (sV 0) (aj (sC (.ty "str")) bj))))) (sT (s2 hNe (sA um (aj (sV 0) bj)) (sC (.int 1)))))
 aei
 sNx)
 (jd (sIf (sT (s2 hEq (sV 0) (sC (.str "\n"))))
 (ud (sC (.bl true)))
 sNx)
 (ud (v9 (sCh gLe gLe (sC (.str " ")) (sV 0) (sC (.str "~"))) (s2 hNe (sA aqa (aj (sV 0) bj)) (sC (.int 37)))))))
noncomputable def qx (oh:SF):SE :=
 (sA (jo false 1 oh) (aj (sV 0) bj))
noncomputable def p8 (oh:SF):SS :=
 (jd (sIf (sOr (a0b (a0n (sA p7 (aj (sV 0) (aj (sC (.ty "str")) bj))))) (a0b (sT (sCh gLe gLe (sC (.int 1)) (sA um (aj (sV 0) bj)) (sC (.int 6))))))
 (ud (sC (.bl false)))
 sNx)
 (ud (v9 (s2 hEq (s1 a2d (sV 0)) (sA um (aj (sV 0) bj))) (sA aaj (aj (sZ (uy (sIt (sV 0)) t1 (qx oh) [])) bj)))))
noncomputable def yx (jb:SF):SS :=
 (ud (sA (jo false 1 jb) (aj (sV 0) bj)))
noncomputable def a02 (jj:SF) (g8:SF) (ut:SF) (bx:SF) (jk:SF):SE :=
 (sA (jo false 3 ut) (aj (sV 0) (aj (sA um (aj (sV 1) bj)) (aj (sA um (aj (sV 2) bj)) bj))))
noncomputable def nq (jj:SF) (g8:SF) (ut:SF) (bx:SF) (jk:SF):SS :=
 (jd (sIf (a0b (a0n (sA (jo false 3 bx) (aj (sV 0) (aj (sC (.int 3)) (aj (sC (.int 3)) bj))))))
 (ud (sC (.bl false)))
 sNx)
 (jd (a8p (sV 0) (a7w 3 (ue (kN 1) (ue (kN 2) (ue (kN 3) a8o)))))
 (jd (sIf (sOr (a0b (a0n (sA (jo false 1 jk) (aj (sV 1) bj)))) (a0b (a0n (sA (jo false 3 bx) (aj (sV 2) (aj (sC (.int 1)) (aj (sC (.int 32)) bj)))))))
 (ud (sC (.bl false)))
 sNx)
 (jd (sIf (a0b (a0n (sA aaj (aj (sZ (uy (sIt (sV 2)) t1 (a02 jj g8 ut bx jk) [1,2])) bj))))
 (ud (sC (.bl false)))
 sNx)
 (ud (v9 (sA (jo false 2 jj) (aj (sV 3) (aj (sA um (aj (sV 2) bj)) bj))) (sA (jo false 1 g8) (aj (sV 2) bj))))))))
noncomputable def a5c (bu:SF) (bx:SF):SE :=
 (sA (jo false 3 bu) (aj (sV 0) (aj (sC (.int 0)) (aj (s2 a7f (sV 1) (sC (.int 1))) bj))))
noncomputable def a5d (bu:SF) (bx:SF):SS :=
 (ud (v9 (sA (jo false 3 bx) (aj (sV 0) (aj (sV 1) (aj (sV 1) bj)))) (sA aaj (aj (sZ (uy (sIt (sV 0)) t1 (a5c bu bx) [2])) bj))))
noncomputable def zg (bu:SF) (bx:SF):SE :=
 (sA (jo false 3 bu) (aj (sV 0) (aj (s1 a4r (sC (.int 1))) (aj (sC (.int 5)) bj))))
noncomputable def yz (bu:SF) (bx:SF):SS :=
 (jd (sIf (a0b (a0n (sA (jo false 3 bx) (aj (sV 0) (aj (sV 1) (aj (sV 1) bj))))))
 (ud (sC (.bl false)))
 sNx)
 (ud (v9 (sA aaj (aj (sZ (uy (sIt (sV 0)) t1 (zg bu bx) [])) bj)) (s2 hEq (s2 gIx (sV 0) (sC (.int 0))) (s1 a4r (sC (.int 1)))))))
noncomputable def rz (km:SF):SS :=
 (ud (s2 hEq (sA um (aj (sA (jo false 1 km) (aj (sV 0) bj)) bj)) (sA um (aj (sV 0) bj))))
noncomputable def sr:SS :=
 (sIf (sT (s2 (atb true) (sV 5) (sV 2)))
 (jd (a6t (sC (.bl true)) (sV 2) (sV 5))
 (a0o (sML a8r (sV 1) (aj (sV 5) bj))))
 sNx)
noncomputable def vo:ST :=
 (sT (s2 gLt (sV 3) (sA um (aj (sV 1) bj))))
noncomputable def u6:SS :=
 (jd (o7 4 (s2 gIx (sV 0) (s2 gIx (sV 1) (sV 3))))
 (jd (abr (sIt (sV 4)) (kN 5) sr)
 (af7 3 aal (sC (.int 1)))))
noncomputable def ur:SS :=
 (jd (o7 1 (sA a0d (aj (sC (.int 0)) bj)))
 (jd (o7 2 (s2 gD1 (sC (.int 0)) (sC (.bl true))))
 (jd (o7 3 (sC (.int 0)))
 (jd (sWh vo u6 100000)
 (ud (sV 1))))))
end K20
namespace K20
open PySem PySem.Spec L2 MI AT HND EVX
open PAP hiding wg a4h aof
def Deep:Nat→D→Prop
 | 0,d=>Pln d
 | n+1,d=>Pln d∧∀ ws,d = .tup ws→ws.length≤1000∧∀ x∈ws,Deep n x
theorem Deep.pln {n:Nat} {d:D} (h:Deep n d):Pln d:=by cases n with | zero=>exact h | succ n=>exact h.1
theorem Deep.down {n:Nat}:∀ {d:D},Deep (n+1) d→Deep n d:=by
 induction n with
 | zero=>exact fun h=>h.1
 | succ n ih=>exact fun h=>⟨h.1,fun ws e=>⟨(h.2 ws e).1,fun x hx=>ih ((h.2 ws e).2 x hx)⟩⟩
def isInt:D→Bool | .int _=>true | _=>false
def ame:D→Bool | .bl _=>true | _=>false
def isStr:D→Bool | .str _=>true | _=>false
section
variable {d:D} {h:Hd}
theorem axe (p:Pln d):p7 [d, .ty "int"] h = .ok (.bl (isInt d || ame d)) h:=by
 cases d<;>first | (simp only [Pln] at p;done) | simp [p7,aeh,tyD,a80,isInt,ame]
theorem axf (p:Pln d):p7 [d, .ty "bool"] h = .ok (.bl (ame d)) h:=by
 cases d<;>first | (simp only [Pln] at p;done) | simp [p7,aeh,tyD,a80,ame]
theorem apm (p:Pln d):p7 [d, .ty "str"] h = .ok (.bl (isStr d)) h:=by
 cases d<;>first | (simp only [Pln] at p;done) | simp [p7,aeh,tyD,a80,isStr]
end
theorem apn {f g k:SE} {τ:Sd} {h:Hd} {a x b:Int} (e1:f τ h = .ok (.int a) h) (e2:g τ h = .ok (.int x) h) (e3:k τ h = .ok (.int b) h):sCh gLe gLe f g k τ h = .ok (.bl (decide (a≤x∧x≤b))) h:=by
 unfold sCh
 rw [e1,di,e2,di,show gLe (.int a) (.int x) h = .ok (.bl (decide (a≤x))) h from rfl,di]
 by_cases c:a≤x
 ·simp only [c,decide_true,true_and]
  rw [e3,di]
  rfl
 ·simp only [c,decide_false,false_and]
def a1x (lo hi:Int):D→Bool | .int i=>decide (lo≤i∧i≤hi) | _=>false
theorem aks {lo hi:Int} {d:D} (h:a1x lo hi d=true):∃ i,d = .int i∧lo≤i∧i≤hi:=by
 cases d<;>first | (simp [a1x] at h;done) | skip
 rename_i i
 simp [a1x] at h
 exact ⟨i,rfl,h.1,h.2⟩
theorem axg {lo hi:Int} {d:D} (h:isInt d=false):a1x lo hi d=false:=by cases d<;>first | rfl | simp [isInt] at h
theorem ar1 {a:D} (ha:MI.clo 0 a):∀ x∈[a],MI.clo 0 x:=by intro x hx;rw [List.mem_singleton] at hx;subst hx;exact ha
theorem ar2 {a b:D} (ha:MI.clo 0 a) (hb:MI.clo 0 b):∀ x∈[a,b],MI.clo 0 x:=by
 intro x hx
 simp only [List.mem_cons,List.not_mem_nil,or_false] at hx
 rcases hx with rfl | rfl
 ·exact ha
 ·exact hb
theorem ar3 {a b c:D} (ha:MI.clo 0 a) (hb:MI.clo 0 b) (hc:MI.clo 0 c):∀ x∈[a,b,c],MI.clo 0 x:=by
 intro x hx
 rcases List.mem_cons.mp hx with rfl | hx
 ·exact ha
 ·exact ar2 hb hc x hx
theorem ar4 {a b c e:D} (ha:MI.clo 0 a) (hb:MI.clo 0 b) (hc:MI.clo 0 c) (he:MI.clo 0 e):∀ x∈[a,b,c,e],MI.clo 0 x:=by
 intro x hx
 rcases List.mem_cons.mp hx with rfl | hx
 ·exact ha
 ·exact ar3 hb hc he x hx
theorem a1w {F:SF} {n:Nat} {ds:List D} {b:Bool} {h':Hd} (hn:ds.length=n) (ca:∀ x∈ds,MI.clo 0 x) (e:F ds [] = .ok (.bl b) h'):Pu F n ds (.bl b):=Pu.of hn ca e (qw (a84 _) (by simp)) (a84 _)
noncomputable def qe:SF:=o8 yw 1
theorem akt {d:D} (p:Pln d):Pu qe 1 [d] (.bl (isInt d)):=by
 refine a1w rfl (ar1 p.clo) (h':=[]) ?_
 unfold qe
 rw [j6]
 show toR (yw [some d] [])=_
 unfold yw
 have a1:sA p7 (aj (sV 0) (aj (sC (.ty "int")) bj)) [some d] [] = .ok (.bl (isInt d || ame d)) []:=ym (d8 rfl) (jf _ _ _) (axe p)
 have a2:sA p7 (aj (sV 0) (aj (sC (.ty "bool")) bj)) [some d] [] = .ok (.bl (ame d)) []:=ym (d8 rfl) (jf _ _ _) (axf p)
 cases hi:isInt d with
 | true =>
  rw [hi,Bool.true_or] at a1
  have:ame d=false:=by cases d<;>first | rfl | simp [isInt] at hi
  rw [this] at a2
  exact congrArg toR (lz (a3a a1 (EVX.ahh a2)))
 | false =>
  rw [hi,Bool.false_or] at a1
  cases hb:ame d with
  | true=>rw [hb] at a1 a2;exact congrArg toR (lz (a3a a1 (EVX.ahh a2)))
  | false=>rw [hb] at a1;exact congrArg toR (lz (a75 a1))
noncomputable def bu:SF:=o8 (qp qe) 3
theorem a1j {d:D} (p:Pln d) (lo hi:Int):Pu bu 3 [d, .int lo, .int hi] (.bl (a1x lo hi d)):=by
 refine a1w rfl (ar3 p.clo (iw _) (iw _)) (h':=[]) ?_
 unfold bu
 rw [j6]
 show toR (qp qe [some d,some (.int lo),some (.int hi)] [])=_
 unfold qp
 have c:=akt p []
 cases hi':isInt d with
 | true =>
  obtain ⟨i,rfl⟩:∃ i,d = .int i:=by cases d<;>first | exact ⟨_,rfl⟩ | simp [isInt] at hi'
  exact congrArg toR (lz (a3a (uz (d8 rfl) c) (apn (d8 rfl) (d8 rfl) (d8 rfl))))
 | false =>
  rw [hi'] at c
  rw [axg hi']
  exact congrArg toR (lz (a75 (uz (d8 rfl) c)))
def yg (lo hi:Int):D→Bool | .tup xs=>decide (lo≤(xs.length:Int)∧(xs.length:Int)≤hi) | _=>false
theorem len_T (xs:List D) (h:Hd):um [.tup xs] h = .ok (.int (xs.length:Nat)) h:=a3n
noncomputable def bx:SF:=o8 a2q 3
theorem wy {d:D} (p:Pln d) (lo hi:Int):Pu bx 3 [d, .int lo, .int hi] (.bl (yg lo hi d)):=by
 refine a1w rfl (ar3 p.clo (iw _) (iw _)) (h':=[]) ?_
 unfold bx
 rw [j6]
 show toR (a2q [some d,some (.int lo),some (.int hi)] [])=_
 unfold a2q
 have a1:sA p7 (aj (sV 0) (aj (sC (.ty "tuple")) bj)) [some d,some (.int lo),some (.int hi)] [] = .ok (.bl (isTup d)) []:=ym (d8 rfl) (jf _ _ _) (auj p)
 cases ht:isTup d with
 | true =>
  obtain ⟨xs,rfl⟩:∃ xs,d = .tup xs:=by cases d<;>first | exact ⟨_,rfl⟩ | simp [isTup] at ht
  exact congrArg toR (lz (a3a a1 (apn (d8 rfl) (uz (d8 rfl) (len_T xs _)) (d8 rfl))))
 | false =>
  rw [ht] at a1
  have:yg lo hi d=false:=by cases d<;>first | rfl | simp [isTup] at ht
  rw [this]
  exact congrArg toR (lz (a75 a1))
theorem a77 {fi:SI} {ce:SE} {ix:List Nat} {τ:Sd} {xs:List D} {P:D→Bool} (e:fi τ [] = .ok ⟨xs,fun _=>True⟩ []) (ln:xs.length≤1000000) (st:∀ x∈xs,a7h t1 ce (frs' ix τ) x [] = .ok (.bl (P x)) []) :
  sA aaj (aj (sZ (uy fi t1 ce ix)) bj) τ [] = .ok (.bl (xs.all P)) []:=by
 have e':fi τ [] = .ok ⟨xs.map (fun x=>x),fun _=>True⟩ []:=by rw [List.map_id'];exact e
 have cz:sZ (uy fi t1 ce ix) τ [] = .ok (.rol ((xs.map P).map D.bl)) []:=by
  rw [List.map_map]
  exact a7k (a71 (fun x=>x) (fun x=>.bl (P x)) xs e' (n8 ln) st) (jg fun c _=>a84 _) (by simp)
 refine uz cz ?_
 rw [auk,List.all_map]
 rfl
def a1y (n:Nat) (lo hi:Int):D→Bool | .tup xs=>decide (xs.length=n) && xs.all (a1x lo hi) | _=>false
noncomputable def ut:SF:=o8 (a5d bu bx) 3
theorem apo {d:D} (p:Deep 1 d) (n r:Nat):Pu ut 3 [d,gf n,gf r] (.bl (a1y n 0 ((r:Int) - 1) d)):=by
 refine a1w rfl (ar3 p.pln.clo (iw _) (iw _)) (h':=[]) ?_
 unfold ut
 rw [j6]
 show toR (a5d bu bx [some d,some (gf n),some (gf r)] [])=_
 unfold a5d
 have a1:sA (jo false 3 bx) (aj (sV 0) (aj (sV 1) (aj (sV 1) bj))) [some d,some (gf n),some (gf r)] [] = .ok (.bl (yg n n d)) []:=a3v (d8 rfl) (d8 rfl) (d8 rfl) (wy p.pln _ _ _)
 cases ht:isTup d with
 | true =>
  obtain ⟨xs,rfl⟩:∃ xs,d = .tup xs:=by cases d<;>first | exact ⟨_,rfl⟩ | simp [isTup] at ht
  obtain ⟨xl,px⟩:=p.2 xs rfl
  by_cases hn:xs.length=n
  ·rw [show yg n n (.tup xs)=true from decide_eq_true (by omega)] at a1
   refine Eq.trans (congrArg toR (lz (a3a a1 (a77 (P:=a1x 0 ((r:Int) - 1)) (ac0 (d8 rfl) rfl) (by omega) fun x hx=>?_)))) ?_
   ·rw [zb]
    exact a3v (d8 rfl) (jf _ _ _) (o9 (d8 rfl) (jf _ _ _) (a74 _ _)) (a1j (px x hx).pln 0 _ _)
   ·show R.ok (D.bl (xs.all (a1x 0 ((r:Int) - 1)))) [] = .ok (.bl (decide (xs.length=n) && xs.all (a1x 0 ((r:Int) - 1)))) []
    rw [decide_eq_true hn,Bool.true_and]
  ·rw [show yg n n (.tup xs)=false from decide_eq_false (by omega)] at a1
   refine Eq.trans (congrArg toR (lz (a75 a1))) ?_
   show R.ok (D.bl false) [] = .ok (.bl (decide (xs.length=n) && xs.all (a1x 0 ((r:Int) - 1)))) []
   rw [decide_eq_false hn,Bool.false_and]
 | false =>
  have e1:yg n n d=false:=by cases d<;>first | rfl | simp [isTup] at ht
  have e2:a1y n 0 ((r:Int) - 1) d=false:=by cases d<;>first | rfl | simp [isTup] at ht
  rw [e1] at a1
  rw [e2]
  exact congrArg toR (lz (a75 a1))
def hdB:D→Bool | .tup (.int i::_)=>decide (i = -1) | _=>false
noncomputable def jj:SF:=o8 (yz bu bx) 2
theorem axh {xs:List D} (a:xs.all (a1x (-1) 5)=true) (n:1≤xs.length):∃ i ys,xs = .int i::ys:=by
 cases xs with
 | nil=>simp at n
 | cons x ys =>
  rw [List.all_cons,Bool.and_eq_true] at a
  obtain ⟨i,rfl,_⟩:=aks a.1
  exact ⟨i,ys,rfl⟩
theorem ahr {d:D} (p:Deep 1 d) {n:Nat} (n1:1≤n):Pu jj 2 [d,gf n] (.bl (a1y n (-1) 5 d && hdB d)):=by
 refine a1w rfl (ar2 p.pln.clo (iw _)) (h':=[]) ?_
 unfold jj
 rw [j6]
 show toR (yz bu bx [some d,some (gf n)] [])=_
 unfold yz
 have a1:sA (jo false 3 bx) (aj (sV 0) (aj (sV 1) (aj (sV 1) bj))) [some d,some (gf n)] [] = .ok (.bl (yg n n d)) []:=a3v (d8 rfl) (d8 rfl) (d8 rfl) (wy p.pln _ _ _)
 cases ht:isTup d with
 | true =>
  obtain ⟨xs,rfl⟩:∃ xs,d = .tup xs:=by cases d<;>first | exact ⟨_,rfl⟩ | simp [isTup] at ht
  obtain ⟨xl,px⟩:=p.2 xs rfl
  by_cases hn:xs.length=n
  ·rw [show yg n n (.tup xs)=true from decide_eq_true (by omega)] at a1
   refine Eq.trans (congrArg toR (ifN (a2z (nu a1 (j5 _))))) ?_
   have al:=a77 (fi:=sIt (sV 0)) (ce:=zg bu bx) (ix:=[]) (τ:=[some (.tup xs),some (gf n)]) (P:=a1x (-1) 5) (ac0 (d8 rfl) rfl) (by omega) fun x hx=>by
    rw [zb]
    exact a3v (d8 rfl) (am8 (jf _ _ _) (ac3 _)) (jf _ _ _) (a1j (px x hx).pln (-1) 5 _)
   cases ha:xs.all (a1x (-1) 5) with
   | true =>
    rw [ha] at al
    obtain ⟨i,ys,rfl⟩:=axh ha (by omega)
    refine Eq.trans (congrArg toR (lz (a3a al (o9 (o9 (d8 rfl) (jf _ _ _) (af9 (j:=0) rfl)) (am8 (jf _ _ _) (ac3 _)) a70)))) ?_
    simp only [a1y,hdB,ha,hn,decide_true,Bool.true_and]
    rfl
   | false =>
    rw [ha] at al
    refine Eq.trans (congrArg toR (lz (a75 al))) ?_
    simp only [a1y,ha,Bool.and_false,Bool.false_and]
    rfl
  ·rw [show yg n n (.tup xs)=false from decide_eq_false (by omega)] at a1
   refine Eq.trans (congrArg toR (a0w (Eq.trans (ifT (a9q (nu a1 (j5 _)))) (lz (jf _ _ _))))) ?_
   simp only [a1y,hn,decide_false,Bool.false_and]
   rfl
 | false =>
  have e1:yg n n d=false:=by cases d<;>first | rfl | simp [isTup] at ht
  have e2:a1y n (-1) 5 d=false:=by cases d<;>first | rfl | simp [isTup] at ht
  rw [e1] at a1
  rw [e2,Bool.false_and]
  exact congrArg toR (a0w (Eq.trans (ifT (a9q (nu a1 (j5 _)))) (lz (jf _ _ _))))
end K20
namespace K20
open PySem PySem.Spec L2 MI AT HND EVX
open PAP hiding wg a4h aof
def apq (l:List Nat):Bool:=decide (1≤l.length∧l.length≤6) && (decide l.Nodup && l.all (fun c=>decide (c∈sig)))
def a5y:D→Bool | .str x=>apq x.cps.toList | _=>false
theorem ahs (l:List Nat):a5y (.str (S l))=apq l:=by simp only [a5y,a2y]
theorem aur:∀ c:Nat,c<127→(c∈sig↔c=10∨(32≤c∧c≤126∧c≠37)):=by decide +kernel
theorem a9k (c:Nat):c∈sig↔c=10∨(32≤c∧c≤126∧c≠37):=by
 by_cases h:c<127
 ·exact aur c h
 ·constructor
  ·intro z;exact absurd (ahj c z) h
  ·intro z;omega
theorem aus (a b:Nat) (h:Hd):gLe (.str (S [a])) (.str (S [b])) h = .ok (.bl (decide (a≤b))) h:=by
 unfold gLe
 have:(S [b]).cps.toList<(S [a]).cps.toList↔b<a:=by
  rw [a2y,a2y,List.cons_lt_cons_iff]
  simp
 by_cases c:a≤b
 ·rw [decide_eq_true c]
  have n:¬ (S [b]).cps.toList<(S [a]).cps.toList:=fun z=>by have:=this.mp z;omega
  simp only [n,decide_false,Bool.not_false]
 ·rw [decide_eq_false c]
  have n:(S [b]).cps.toList<(S [a]).cps.toList:=this.mpr (by omega)
  simp only [n,decide_true,Bool.not_true]
theorem ayh {a b:List Nat} {h:Hd}:hEq (.str (S a)) (.str (S b)) h = .ok (.bl (decide (a=b))) h:=by rw [ax5,ax4]
noncomputable def oh:SF:=o8 a1h 1
theorem aht (c:Nat):Pu oh 1 [.str (S [c])] (.bl (decide (c∈sig))):=by
 refine a1w rfl (ar1 (nj _)) (h':=[]) ?_
 unfold oh
 rw [j6]
 show toR (a1h [some (.str (S [c]))] [])=_
 unfold a1h
 refine Eq.trans (congrArg toR (ifN (orF (a2z (nu (ym (d8 rfl) (jf _ _ _) (apm (d:=.str (S [c])) (by simp [Pln]))) (j5 _))) (tof (o9 (uz (d8 rfl) (af0 (n8 (by simp)))) (jf _ _ _) (akk rfl)))))) ?_
 by_cases h10:c=10
 ·subst h10
  exact (congrArg toR (a0w (Eq.trans (ifT (tof (o9 (d8 rfl) (jf _ _ _) (ayh (b:=[10]))))) (lz (jf _ _ _))))).trans (by rw [decide_eq_true ((a9k 10).mpr (.inl rfl))];rfl)
 ·refine Eq.trans (congrArg toR (ifN (tof (o9 (d8 rfl) (jf _ _ _) ((ayh (b:=[10])).trans (by rw [decide_eq_false (by simpa using h10)])))))) ?_
  have od:aqa [.str (S [c])] [] = .ok (.int (c:Nat)) []:=by
   unfold aqa
   dsimp only
   rw [if_pos (by rw [a9d];rfl)]
   rfl
  have ch:sCh gLe gLe (sC (.str " ")) (sV 0) (sC (.str "~")) [some (.str (S [c]))] [] = .ok (.bl (decide (32≤c∧c≤126))) []:=by
   unfold sCh
   rw [jf,di,d8 rfl,di,show gLe (.str " ") (.str (S [c])) [] = .ok (.bl (decide (32≤c))) [] from aus 32 c [],di]
   by_cases z:32≤c
   ·simp only [z,decide_true,true_and]
    rw [jf,di]
    exact aus c 126 []
   ·simp only [z,decide_false,false_and]
  by_cases z:32≤c∧c≤126
  ·rw [decide_eq_true z] at ch
   refine Eq.trans (congrArg toR (lz (a3a ch (o9 (uz (d8 rfl) od) (jf _ _ _) a9e)))) ?_
   rw [a4b]
   congr 2
   by_cases q:c=37
   ·subst q
    rw [decide_eq_false (fun z=>by have:=(a9k 37).mp z;omega)]
    rfl
   ·rw [decide_eq_true ((a9k c).mpr (.inr ⟨z.1,z.2,q⟩)),Bool.not_eq_true',beq_eq_false_iff_ne]
    omega
  ·rw [decide_eq_false z] at ch
   refine Eq.trans (congrArg toR (lz (a75 ch))) ?_
   rw [decide_eq_false (fun w=>by have:=(a9k c).mp w;omega)]
   rfl
noncomputable def jb:SF:=o8 (p8 oh) 1
theorem ahu {d:D} (p:Pln d):Pu jb 1 [d] (.bl (a5y d)):=by
 refine a1w rfl (ar1 p.clo) (h':=[]) ?_
 unfold jb
 rw [j6]
 show toR (p8 oh [some d] [])=_
 unfold p8
 have a1:sA p7 (aj (sV 0) (aj (sC (.ty "str")) bj)) [some d] [] = .ok (.bl (isStr d)) []:=ym (d8 rfl) (jf _ _ _) (apm p)
 cases hs:isStr d with
 | true =>
  obtain ⟨x,rfl⟩:∃ x,d = .str x:=by cases d<;>first | exact ⟨_,rfl⟩ | simp [isStr] at hs
  have xl:x.cps.toList.length≤1000:=p
  rw [← ahc x] at a1 ⊢
  generalize x.cps.toList=l at xl a1
  rw [ahs]
  have ln:∀ hh,um [.str (S l)] hh = .ok (.int (l.length:Nat)) hh:=fun hh=>af0 (n8 (by omega))
  have ch:=apn (f:=sC (.int 1)) (g:=sA um (aj (sV 0) bj)) (k:=sC (.int 6)) (τ:=[some (.str (S l))]) (h:=[]) (jf _ _ _) (uz (d8 rfl) (ln _)) (jf _ _ _)
  by_cases hl:1≤l.length∧l.length≤6
  ·rw [decide_eq_true (by omega)] at ch
   refine Eq.trans (congrArg toR (ifN (orF (a2z (nu a1 (j5 _))) (a2z (tof ch))))) ?_
   have ls:a2d (.str (S l)) [] = .ok (.int ((a5w l).length:Nat)) []:=by
    unfold a2d
    dsimp only
    rw [if_pos (by rw [a9d];omega)]
   have al:=a77 (fi:=sIt (sV 0)) (ce:=qx oh) (ix:=[]) (τ:=[some (.str (S l))]) (xs:=l.map fun c=>.str (S [c])) (P:=fun d=>match d with | .str x=>x.cps.toList.all (fun c=>decide (c∈sig)) | _=>false) (ac0 (d8 rfl) (axc l _)) (by rw [List.length_map];omega) fun x hx=>by
    obtain ⟨c,_,rfl⟩:=List.mem_map.mp hx
    rw [zb]
    refine (uz (d8 rfl) (aht c _)).trans ?_
    simp only [a2y,List.all_cons,List.all_nil,Bool.and_true]
   have ea:(l.map fun c=>D.str (S [c])).all (fun d=>match d with | .str x=>x.cps.toList.all (fun c=>decide (c∈sig)) | _=>false)=l.all (fun c=>decide (c∈sig)):=by
    rw [List.all_map]
    congr 1
    funext c
    simp only [Function.comp,a2y,List.all_cons,List.all_nil,Bool.and_true]
   rw [ea] at al
   have eq:hEq (.int ((a5w l).length:Nat)) (.int (l.length:Nat)) [] = .ok (.bl (decide l.Nodup)) []:=by
    rw [a70]
    by_cases nd:l.Nodup
    ·rw [decide_eq_true nd,(aad l).mpr nd,beq_self_eq_true]
    ·rw [decide_eq_false nd,beq_eq_false_iff_ne.mpr (fun z=>nd ((aad l).mp (by omega)))]
   have a2:s2 hEq (s1 a2d (sV 0)) (sA um (aj (sV 0) bj)) [some (.str (S l))] [] = .ok (.bl (decide l.Nodup)) []:=o9 (am8 (d8 rfl) ls) (uz (d8 rfl) (ln _)) eq
   unfold apq
   rw [decide_eq_true hl,Bool.true_and]
   by_cases nd:l.Nodup
   ·rw [decide_eq_true nd] at a2 ⊢
    exact congrArg toR (lz (a3a a2 al))
   ·rw [decide_eq_false nd] at a2 ⊢
    exact congrArg toR (lz (a75 a2))
  ·rw [decide_eq_false (by omega)] at ch
   unfold apq
   rw [decide_eq_false hl,Bool.false_and]
   exact congrArg toR (a0w (Eq.trans (ifT (orF (a2z (nu a1 (j5 _))) (a9q (tof ch)))) (lz (jf _ _ _))))
 | false =>
  rw [hs] at a1
  have:a5y d=false:=by cases d<;>first | rfl | simp [isStr] at hs
  rw [this]
  exact congrArg toR (a0w (Eq.trans (ifT (orT (a9q (nu a1 (j5 _))))) (lz (jf _ _ _))))
noncomputable def jk:SF:=o8 (yx jb) 1
theorem ac8 {d:D} (p:Pln d):Pu jk 1 [d] (.bl (a5y d)):=by
 refine a1w rfl (ar1 p.clo) (h':=[]) ?_
 unfold jk
 rw [j6]
 show toR (yx jb [some d] [])=_
 unfold yx
 exact congrArg toR (lz (uz (d8 rfl) (ahu p _)))
end K20
namespace K20
open PySem PySem.Spec L2 MI AT HND EVX
open PAP hiding wg a4h aof
def grow (G:List (List Nat)):Nat→List Nat→Nat→List Nat
 | 0,ms,_=>ms
 | f+1,ms,i=>match ms[i]? with | none=>ms | some x=>grow G f (((G[x]?).getD []).foldl stepK ms) (i+1)
def met (G:List (List Nat)):List Nat:=grow G (G.length+1) [0] 0
theorem adp {G:List (List Nat)} {f i:Nat} {ms:List Nat} (h:ms[i]? = none):grow G f ms i=ms:=by
 cases f with
 | zero=>rfl
 | succ f=>simp only [grow,h]
theorem ahv {G:List (List Nat)} {f i x:Nat} {ms r:List Nat} (h:ms[i]? = some x) (hr:G[x]? = some r):grow G (f+1) ms i=grow G f (r.foldl stepK ms) (i+1):=by simp only [grow,h,hr,Option.getD_some]
structure Gd (G:List (List Nat)):Prop where
 n1:1≤G.length
 n32:G.length≤32
 rg:∀ r∈G,∀ x∈r,x<G.length
theorem fold_lt {n:Nat}:∀ (r ms:List Nat),(∀ x∈r,x<n)→(∀ x∈ms,x<n)→∀ x∈r.foldl stepK ms,x<n
 | [],ms,_,hm=>hm
 | a::r,ms,hr,hm=>by
  rw [List.foldl_cons]
  refine fold_lt r _ (fun x hx=>hr x (List.mem_cons_of_mem _ hx)) fun x hx=>?_
  rcases (a6h ms a x).mp hx with z | rfl
  ·exact hm x z
  ·exact hr _ List.mem_cons_self
abbrev ns (l:List Nat):List D:=l.map gf
def xq (l:List Nat):List (Key × D):=l.map fun x:Nat=>((.inl (x:Int):Key),D.bl true)
theorem aku {x:Nat} {l:List Nat} (h:x∈l):∃ d,abb (xq l) (.inl (x:Int))=some d:=by
 unfold abb
 cases e:(xq l).find? fun kv=>decide (kv.1=(.inl (x:Int):Key)) with
 | some kv=>exact ⟨kv.2,rfl⟩
 | none =>
  rw [List.find?_eq_none] at e
  exact absurd (decide_eq_true rfl) (e _ (List.mem_map.mpr ⟨x,h,rfl⟩))
theorem ahw {x:Nat} {l:List Nat} (h:x ∉ l):abb (xq l) (.inl (x:Int))=none∧putD (xq l) (.inl (x:Int)) (.bl true)=xq (l++[x]):=by
 have no:∀ kv∈xq l,¬ decide (kv.1=(.inl (x:Int):Key))=true:=fun kv hk=>by
  obtain ⟨v,hv,rfl⟩:=List.mem_map.mp hk
  rw [decide_eq_true_iff]
  intro z
  have:=Sum.inl.inj z
  exact h (by rwa [show x=v by omega])
 refine ⟨?_,?_⟩
 ·unfold abb
  rw [List.find?_eq_none.mpr no]
  rfl
 ·unfold putD
  rw [if_neg (fun z=>by obtain ⟨kv,hk,e⟩:=List.any_eq_true.mp z;exact no kv hk e)]
  unfold xq
  rw [List.map_append]
  rfl
theorem amf {x:Nat} {l:List Nat} {o:O}:atb true (gf x) (.ref 1) [o, .dK (xq l)] = .ok (.bl (!decide (x∈l))) [o, .dK (xq l)]:=by
 show (match (some (abb (xq l) (.inl (x:Int))):Option (Option D)) with | some r=>R.ok (D.bl (if true then !r.isSome else r.isSome)) [o,O.dK (xq l)] | none=>.no)=_
 by_cases h:x∈l
 ·obtain ⟨d,e⟩:=aku h
  rw [e,decide_eq_true h]
  rfl
 ·rw [(ahw h).1,decide_eq_false h]
  rfl
section
variable {G:List (List Nat)}
def Inv (G:List (List Nat)) (m i:Nat) (ms:List Nat):Prop:=ms.Nodup∧(∀ x∈ms,x<G.length)∧i+m=G.length+1∧grow G m ms i=met G
theorem Inv.step (g:Gd G) {m i x:Nat} {ms r:List Nat} (h:Inv G m i ms) (e:ms[i]? = some x) (er:G[x]? = some r):1≤m∧Inv G (m - 1) (i+1) (r.foldl stepK ms):=by
 obtain ⟨nd,lt,im,gr⟩:=h
 have ml:=BF.a07 G.length ms nd lt
 have il:=(List.getElem?_eq_some_iff.mp e).1
 have m1:1≤m:=by omega
 refine ⟨m1,(a09 r ms nd).1,fold_lt r ms (g.rg r (List.mem_of_getElem? er)) lt,by omega,?_⟩
 rw [← gr,← ahv e er]
 congr 1
 omega
noncomputable def km:SF:=o8 ur 6
theorem aut (g:Gd G):Pu km 1 [.tup (G.map qy)] (.rol (ns (met G))):=by
 have w:=aox (c:=vo) (f:=u6)
  (fun m τ h=>∃ (ms:List Nat) (i:Nat) (t4 t5:Option D),τ=[some (.tup (G.map qy)),some (.ref 0),some (.ref 1),some (gf i),t4,t5]∧h=[.lst (ns ms), .dK (xq ms)]∧Inv G m i ms)
  (fun τ h=>∃ (i:Nat) (t4 t5:Option D),τ=[some (.tup (G.map qy)),some (.ref 0),some (.ref 1),some (gf i),t4,t5]∧h=[.lst (ns (met G)), .dK (xq (met G))])
  (fun _ _=>False) ?_ (G.length+1) 100000 [some (.tup (G.map qy)),some (.ref 0),some (.ref 1),some (gf 0),none,none] [.lst (ns [0]), .dK (xq [0])] (by have:=g.n32;omega)
  ⟨[0],0,none,none,rfl,rfl,by simp,by intro x hx;rw [List.mem_singleton] at hx;subst hx;exact g.n1,by omega,rfl⟩
 ·rcases w with ⟨τ',h',e,i,t4,t5,rfl,rfl⟩ | ⟨_,_,_,z⟩
  ·refine Pu.of rfl (ar1 (gk (jg fun x _=>gk (m5 _)))) (r:=.ok (.ref 0) [.lst (ns (met G)), .dK (xq (met G))]) ?_ (a96 (Nat.le_refl _) rfl (m5 _) (by simp)) (a95 (m5 _))
   unfold km
   rw [j6]
   show toR (ur [some (.tup (G.map qy)),none,none,none,none,none] [])=_
   unfold ur
   refine Eq.trans (congrArg toR (m8 (d:=.ref 0) (h1:=[.lst (ns [0])]) rfl)) ?_
   refine Eq.trans (congrArg toR (m8 (d:=.ref 1) (h1:=[.lst (ns [0]), .dK (xq [0])]) rfl)) ?_
   refine Eq.trans (congrArg toR (m8 (jf _ _ _))) ?_
   refine Eq.trans (congrArg toR (a1v e)) ?_
   exact congrArg toR (lz (d8 rfl))
  ·exact z.elim
 ·rintro m τ h ⟨ms,i,t4,t5,rfl,rfl,inv⟩
  have lm:um [.ref 0] [.lst (ns ms), .dK (xq ms)] = .ok (gf ms.length) [.lst (ns ms), .dK (xq ms)]:=by rw [a9h (xs:=ns ms) rfl,List.length_map]
  by_cases lt:i<ms.length
  ·refine .inr ⟨_,tof (o9 (d8 rfl) (uz (d8 rfl) lm) (avp (by omega))), .inl ?_⟩
   have ex:ms[i]? = some ms[i]:=List.getElem?_eq_getElem lt
   have xl:=inv.2.1 _ (List.getElem_mem lt)
   generalize ms[i]=x at ex xl
   have er:G[x]? = some G[x]:=List.getElem?_eq_getElem xl
   generalize G[x]=r at er
   obtain ⟨m1,inv'⟩:=inv.step g ex er
   have small:=BF.a07 G.length ms inv.1 inv.2.1
   have n32:=g.n32
   have lp:=a0r (g:=kN 5) (b:=sr) gf
    (fun pre τ h=>∃ t5:Option D,τ=[some (.tup (G.map qy)),some (.ref 0),some (.ref 1),some (gf i),some (qy r),t5]∧h=[.lst (ns (pre.foldl stepK ms)), .dK (xq (pre.foldl stepK ms))])
    r [some (.tup (G.map qy)),some (.ref 0),some (.ref 1),some (gf i),some (qy r),t5] [.lst (ns ms), .dK (xq ms)] ?_ ⟨t5,rfl,rfl⟩
   ·obtain ⟨τ',h',e,t5',rfl,rfl⟩:=lp
    refine ⟨[some (.tup (G.map qy)),some (.ref 0),some (.ref 1),some (gf (i+1)),some (qy r),t5'],[.lst (ns (r.foldl stepK ms)), .dK (xq (r.foldl stepK ms))],m - 1,?_,by omega,_,i+1,_,t5',rfl,rfl,inv'⟩
    unfold u6
    refine Eq.trans (m8 (o9 (d8 rfl) (o9 (d8 rfl) (d8 rfl) (ab2 (xs:=ns ms) rfl (y:=gf x) (by rw [List.getElem?_map,ex];rfl))) (af9 (y:=qy r) (by rw [List.getElem?_map,er];rfl)))) ?_
    have i1:sIt (sV 4) [some (.tup (G.map qy)),some (.ref 0),some (.ref 1),some (gf i),some (qy r),t5] [.lst (ns ms), .dK (xq ms)] = .ok ⟨ns r,fun _=>True⟩ [.lst (ns ms), .dK (xq ms)]:=ac0 (d8 rfl) rfl
    refine Eq.trans (ab1 i1) ?_
    refine Eq.trans (congrArg (fun z=>MI.thn z _) e) ?_
    rw [a0i]
    exact aua rfl (jf _ _ _) (show aal (gf i) (.int 1) _ = .ok (gf (i+1)) _ from rfl)
   ·rintro pre y post τ h all ⟨t5,rfl,rfl⟩
    have nd:=a09 pre ms inv.1
    have fl:(pre.foldl stepK ms).length≤G.length:=BF.a07 _ _ nd.1 (fold_lt pre ms (fun z hz=>g.rg r (List.mem_of_getElem? er) z (by rw [all];simp [hz])) inv.2.1)
    refine ⟨_,_,rfl,[some (.tup (G.map qy)),some (.ref 0),some (.ref 1),some (gf i),some (qy r),some (gf y)],[.lst (ns ((pre++[y]).foldl stepK ms)), .dK (xq ((pre++[y]).foldl stepK ms))],?_,_,rfl,rfl⟩
    rw [List.foldl_append,List.foldl_cons,List.foldl_nil]
    unfold sr
    by_cases q:y∈pre.foldl stepK ms
    ·refine Eq.trans (ifF (tof (o9 (d8 rfl) (d8 rfl) (amf.trans (by rw [decide_eq_true q];rfl))))) ?_
     rw [show stepK (pre.foldl stepK ms) y=pre.foldl stepK ms from if_pos q]
     rfl
    ·refine Eq.trans (ifT (tof (o9 (d8 rfl) (d8 rfl) (amf.trans (by rw [decide_eq_false q];rfl))))) ?_
     rw [show stepK (pre.foldl stepK ms) y=pre.foldl stepK ms++[y] from if_neg q]
     generalize pre.foldl stepK ms=u at q fl
     have pt:aqd (.ref 1) (gf y) (.bl true) [.lst (ns u), .dK (xq u)]=some [.lst (ns u), .dK (xq (u++[y]))]:=by
      have lt:(xq u).length<LINE:=a5v (by unfold xq;rw [List.length_map];omega)
      show (if (xq u).length<LINE then some [O.lst (ns u),O.dK (putD (xq u) (.inl (y:Int)) (.bl true))] else none)=_
      rw [if_pos lt,(ahw q).2]
     refine Eq.trans (a1v (aub (jf _ _ _) (d8 rfl) (d8 rfl) pt)) ?_
     unfold ns
     rw [List.map_append]
     exact a72 (d8 rfl) rfl (arg1 (d8 rfl)) (a73 (xs:=u.map gf) rfl (by rw [List.length_map];exact a5v (by omega)))
  ·refine .inl ⟨_,tof (o9 (d8 rfl) (uz (d8 rfl) lm) (avq (by omega))),i,t4,t5,rfl,?_⟩
   rw [← inv.2.2.2,adp (List.getElem?_eq_none (by omega))]
noncomputable def g8:SF:=o8 (rz km) 1
theorem ahx (g:Gd G):Pu g8 1 [.tup (G.map qy)] (.bl (decide ((met G).length=G.length))):=by
 refine a1w rfl (ar1 (gk (jg fun x _=>gk (m5 _)))) (h':=[]) ?_
 unfold g8
 rw [j6]
 show toR (rz km [some (.tup (G.map qy))] [])=_
 unfold rz
 refine Eq.trans (congrArg toR (lz (o9 (uz (uz (d8 rfl) (aut g _)) a3o) (uz (d8 rfl) (len_T _ _)) a70))) ?_
 rw [a4b,List.length_map,List.length_map]
 congr 2
 by_cases h:(met G).length=G.length
 ·rw [decide_eq_true h,h,beq_self_eq_true]
 ·rw [decide_eq_false h,beq_eq_false_iff_ne]
  omega
end
end K20
namespace K20
open PySem PySem.Spec L2 MI AT HND EVX
open PAP hiding wg a4h aof
def ab3:D→Nat | .str x=>x.cps.toList.length | _=>0
def a5k (s:Nat) (rs:List D):Bool:=rs.all (a1y s 0 ((rs.length:Int) - 1))
def natOf:D→Nat | .int i=>i.toNat | _=>0
def a78:D→List Nat | .tup xs=>xs.map natOf | _=>[]
def gOf (rs:List D):List (List Nat):=rs.map a78
def a08:D→Bool
 | .tup [a, .tup rs,k]=>a5y a && (decide (1≤rs.length∧rs.length≤32) && (a5k (ab3 a) rs && ((a1y rs.length (-1) 5 k && hdB k) && decide ((met (gOf rs)).length=rs.length))))
 | _=>false
theorem adq {s n:Nat} {d:D} (h:a1y s 0 ((n:Int) - 1) d=true):d=qy (a78 d)∧(a78 d).length=s∧∀ x∈a78 d,x<n:=by
 cases d<;>first | (simp [a1y] at h;done) | skip
 rename_i xs
 simp only [a1y,Bool.and_eq_true,decide_eq_true_iff,List.all_eq_true] at h
 refine ⟨?_,by simp [a78,h.1],fun x hx=>?_⟩
 ·show D.tup xs = .tup ((xs.map natOf).map gf)
  rw [List.map_map]
  congr 1
  have:xs.map (gf ∘ natOf)=xs.map fun x=>x:=List.map_congr_left fun y hy=>by
   obtain ⟨i,rfl,i0,i1⟩:=aks (h.2 y hy)
   show D.int ((i.toNat:Nat):Int) = .int i
   rw [Int.toNat_of_nonneg i0]
  rw [this,List.map_id']
 ·obtain ⟨y,hy,rfl⟩:=List.mem_map.mp hx
  obtain ⟨i,rfl,i0,i1⟩:=aks (h.2 y hy)
  show i.toNat<n
  omega
theorem auu {s:Nat} {rs:List D} (n1:1≤rs.length∧rs.length≤32) (h:a5k s rs=true):rs=(gOf rs).map qy∧Gd (gOf rs):=by
 unfold a5k at h
 rw [List.all_eq_true] at h
 have gl:(gOf rs).length=rs.length:=List.length_map ..
 refine ⟨?_,⟨by omega,by omega,fun r hr x hx=>?_⟩⟩
 ·unfold gOf
  rw [List.map_map]
  have:rs.map (qy ∘ a78)=rs.map fun x=>x:=List.map_congr_left fun y hy=>((adq (h y hy)).1).symm
  rw [this,List.map_id']
 ·obtain ⟨y,hy,rfl⟩:=List.mem_map.mp hr
  rw [gl]
  exact (adq (h y hy)).2.2 x hx
theorem apr {a:D} (t:a5y a=true) (h:Hd):um [a] h = .ok (gf (ab3 a)) h:=by
 cases a<;>first | (simp [a5y] at t;done) | skip
 rename_i x
 have xl:x.cps.toList.length≤6:=by
  simp only [a5y,apq,Bool.and_eq_true,decide_eq_true_iff] at t
  exact t.1.2
 rw [← ahc x]
 show _=R.ok (gf (ab3 (.str (S x.cps.toList)))) h
 simp only [ab3,a2y]
 exact af0 (n8 (by omega))
theorem axi {ws:List D} (h:ws.length≠3):a08 (.tup ws)=false:=by
 unfold a08
 split
 ·rename_i e
  injection e with e
  subst e
  simp at h
 ·rfl
theorem axj {a g k:D} (h:isTup g=false):a08 (.tup [a,g,k])=false:=by cases g<;>first | rfl | simp [isTup] at h
theorem three {ws:List D} (h:ws.length=3):∃ a g k,ws=[a,g,k]:=by
 match ws,h with
 | [a,g,k],_=>exact ⟨a,g,k,rfl⟩
noncomputable def kj:SF:=o8 (nq jj g8 ut bx jk) 4
theorem a5l {d:D} (p:Deep 3 d):Pu kj 1 [d] (.bl (a08 d)):=by
 have fin:∀ (b:Bool) (h':Hd),toR (nq jj g8 ut bx jk [some d,none,none,none] []) = .ok (.bl b) h'→a08 d=b→Pu kj 1 [d] (.bl (a08 d)):=fun b h' e t=>by
  rw [t]
  refine a1w rfl (ar1 p.pln.clo) (h':=h') ?_
  unfold kj
  rw [j6]
  exact e
 have a1:sA (jo false 3 bx) (aj (sV 0) (aj (sC (.int 3)) (aj (sC (.int 3)) bj))) [some d,none,none,none] [] = .ok (.bl (yg 3 3 d)) []:=a3v (d8 rfl) (jf _ _ _) (jf _ _ _) (wy p.pln _ _ _)
 by_cases h3:yg 3 3 d=true
 ·obtain ⟨ws,rfl⟩:∃ xs,d = .tup xs:=by cases d<;>first | exact ⟨_,rfl⟩ | simp [yg] at h3
  obtain ⟨wl,pw⟩:=p.2 ws rfl
  obtain ⟨a,g,k,rfl⟩:=three (ws:=ws) (by simp only [yg,decide_eq_true_iff] at h3;omega)
  rw [h3] at a1
  have pa:=pw a (by simp)
  have pg:=pw g (by simp)
  have pk:=pw k (by simp)
  have tg:=ac8 pa.pln []
  have s0:∀ g':SS,jd (sIf (a0b (a0n (sA (jo false 3 bx) (aj (sV 0) (aj (sC (.int 3)) (aj (sC (.int 3)) bj)))))) (ud (sC (.bl false))) sNx) (jd (a8p (sV 0) (a7w 3 (ue (kN 1) (ue (kN 2) (ue (kN 3) a8o))))) g') [some (.tup [a,g,k]),none,none,none] []=g' [some (.tup [a,g,k]),some a,some g,some k] []:=fun g'=>by
   refine Eq.trans (ifN (a2z (nu a1 (j5 _)))) ?_
   exact a1v (ahf (d8 rfl) rfl)
  cases ta:a5y a with
  | false =>
   rw [ta] at tg
   refine fin false [] ?_ (by cases g<;>first | rfl | simp only [a08,ta,Bool.false_and])
   unfold nq
   rw [s0]
   exact congrArg toR (a0w (Eq.trans (ifT (orT (a9q (nu (uz (d8 rfl) tg) (j5 _))))) (lz (jf _ _ _))))
  | true =>
   rw [ta] at tg
   have g1:sA (jo false 3 bx) (aj (sV 2) (aj (sC (.int 1)) (aj (sC (.int 32)) bj))) [some (.tup [a,g,k]),some a,some g,some k] [] = .ok (.bl (yg 1 32 g)) []:=a3v (d8 rfl) (jf _ _ _) (jf _ _ _) (wy pg.pln _ _ _)
   cases hg:yg 1 32 g with
   | false =>
    rw [hg] at g1
    refine fin false [] ?_ ?_
    ·unfold nq
     rw [s0]
     exact congrArg toR (a0w (Eq.trans (ifT (orF (a2z (nu (uz (d8 rfl) tg) (j5 _))) (a9q (nu g1 (j5 _))))) (lz (jf _ _ _))))
    ·cases ig:isTup g with
     | false=>exact axj ig
     | true =>
      obtain ⟨rs,rfl⟩:∃ xs,g = .tup xs:=by cases g<;>first | exact ⟨_,rfl⟩ | simp [isTup] at ig
      have hl:¬ (1≤rs.length∧rs.length≤32):=fun z=>by simp only [yg,decide_eq_false_iff_not] at hg;omega
      simp only [a08,decide_eq_false hl,Bool.false_and,Bool.and_false]
   | true =>
    obtain ⟨rs,rfl⟩:∃ xs,g = .tup xs:=by cases g<;>first | exact ⟨_,rfl⟩ | simp [yg] at hg
    obtain ⟨rl,pr⟩:=pg.2 rs rfl
    have hl:1≤rs.length∧rs.length≤32:=by simp only [yg,decide_eq_true_iff] at hg;omega
    rw [hg] at g1
    have al:=a77 (fi:=sIt (sV 2)) (ce:=a02 jj g8 ut bx jk) (ix:=[1,2]) (τ:=[some (.tup [a, .tup rs,k]),some a,some (.tup rs),some k]) (P:=a1y (ab3 a) 0 ((rs.length:Int) - 1)) (ac0 (d8 rfl) rfl) (by omega) fun x hx=>by
     rw [zb]
     exact a3v (d8 rfl) (uz (d8 rfl) (apr ta _)) (uz (d8 rfl) (len_T _ _)) (apo (pr x hx) _ _ _)
    have s9:∀ g':SS,jd (sIf (sOr (a0b (a0n (sA (jo false 1 jk) (aj (sV 1) bj)))) (a0b (a0n (sA (jo false 3 bx) (aj (sV 2) (aj (sC (.int 1)) (aj (sC (.int 32)) bj))))))) (ud (sC (.bl false))) sNx) g' [some (.tup [a, .tup rs,k]),some a,some (.tup rs),some k] []=g' [some (.tup [a, .tup rs,k]),some a,some (.tup rs),some k] []:=fun g'=>ifN (orF (a2z (nu (uz (d8 rfl) tg) (j5 _))) (a2z (nu g1 (j5 _))))
    cases ha:rs.all (a1y (ab3 a) 0 ((rs.length:Int) - 1)) with
    | false =>
     rw [ha] at al
     refine fin false [] ?_ (by simp only [a08,a5k,ha,Bool.false_and,Bool.and_false])
     unfold nq
     rw [s0,s9]
     exact congrArg toR (a0w (Eq.trans (ifT (a9q (nu al (j5 _)))) (lz (jf _ _ _))))
    | true =>
     rw [ha] at al
     have kd:=ahr pk.down hl.1 []
     obtain ⟨eg,gd⟩:=auu (s:=ab3 a) hl ha
     have mt:=ahx gd []
     rw [← eg,show (gOf rs).length=rs.length from List.length_map ..] at mt
     have kk:sA (jo false 2 jj) (aj (sV 3) (aj (sA um (aj (sV 2) bj)) bj)) [some (.tup [a, .tup rs,k]),some a,some (.tup rs),some k] [] = .ok (.bl (a1y rs.length (-1) 5 k && hdB k)) []:=ym (d8 rfl) (uz (d8 rfl) (len_T _ _)) kd
     cases hk:(a1y rs.length (-1) 5 k && hdB k) with
     | false =>
      rw [hk] at kk
      refine fin false [] ?_ (by simp only [a08,hk,Bool.false_and,Bool.and_false])
      unfold nq
      rw [s0,s9]
      exact Eq.trans (congrArg toR (ifN (a2z (nu al (j5 _))))) (congrArg toR (lz (a75 kk)))
     | true =>
      rw [hk] at kk
      refine fin (decide ((met (gOf rs)).length=rs.length)) [] ?_ (by simp only [a08,ta,a5k,ha,hk,decide_eq_true hl,Bool.true_and])
      unfold nq
      rw [s0,s9]
      exact Eq.trans (congrArg toR (ifN (a2z (nu al (j5 _))))) (congrArg toR (lz (a3a kk (uz (d8 rfl) mt))))
 ·have h3':yg 3 3 d=false:=by simpa using h3
  rw [h3'] at a1
  refine fin false [] ?_ ?_
  ·unfold nq
   exact congrArg toR (a0w (Eq.trans (ifT (a9q (nu a1 (j5 _)))) (lz (jf _ _ _))))
  ·cases it:isTup d with
   | false=>cases d<;>first | rfl | simp [isTup] at it
   | true =>
    obtain ⟨ws,rfl⟩:∃ xs,d = .tup xs:=by cases d<;>first | exact ⟨_,rfl⟩ | simp [isTup] at it
    exact axi (fun z=>by simp only [yg,decide_eq_false_iff_not] at h3';omega)
end K20
namespace K34
open PySem PySem.Spec L2 MI
end K34
namespace K34
open PySem PySem.Spec L2 MI AT HND EVX K22 K23 K21
end K34
namespace K34
open PySem PySem.Spec L2 MI AT HND EVX K22 K23 K21
section
variable {T:Table}
theorem sub_len:∀ {l t:List Nat},l.Nodup→(∀ x∈l,x∈t)→l.length≤t.length
 | [],_,_,_=>Nat.zero_le _
 | a::l,t,nd,h=>by
  obtain ⟨na,nl⟩:=List.nodup_cons.mp nd
  have ha:=h a List.mem_cons_self
  have:=sub_len (t:=t.erase a) nl fun x hx=>(List.mem_erase_of_ne (fun e:x=a=>na (e ▸ hx))).mpr (h x (List.mem_cons_of_mem _ hx))
  rw [List.length_erase_of_mem ha] at this
  have:=List.length_pos_of_mem ha
  rw [List.length_cons]
  omega
end
end K34
namespace K67
open PySem PySem.Spec L2 MI AT HND EVX PN
open PAP hiding wg a4h aof
open K20 (Deep a1x yg a1y hdB a08 a5y isStr ar1 ar2 ar3 ar4 a1w)
def inW (a b:Str) (s:Str):Bool:=a == s || b == s
def a3b (n:Nat):D→Bool
 | .tup [.str s]=>inW "stay" "shut" s
 | .tup [.str s,k]=>inW "open" "turn" s && a1x 0 ((n:Int) - 1) k
 | _=>false
theorem amg (a b s:Str) (h:Hd):gIn false (.str s) (.tup [.str a, .str b]) h = .ok (.bl (inW a b s)) h:=by
 unfold gIn a1a
 dsimp only
 rw [if_pos ⟨rfl,rfl⟩]
 simp [inD,inW,eqF]
noncomputable def qe:SF:=o8 K67.yw 1
noncomputable def bu:SF:=o8 (K67.qp qe) 3
noncomputable def bx:SF:=o8 K67.a2q 3
noncomputable def oh:SF:=o8 K67.a1h 1
noncomputable def jb:SF:=o8 (K67.p8 oh) 1
noncomputable def jk:SF:=o8 (K67.yx jb) 1
noncomputable def ut:SF:=o8 (K67.a5d bu bx) 3
noncomputable def jj:SF:=o8 (K67.yz bu bx) 2
noncomputable def km:SF:=o8 K67.ur 6
noncomputable def g8:SF:=o8 (K67.rz km) 1
noncomputable def kj:SF:=o8 (K67.nq jj g8 ut bx jk) 4
theorem a1j {d:D} (p:Pln d) (lo hi:Int):Pu bu 3 [d, .int lo, .int hi] (.bl (a1x lo hi d)):=K20.a1j p lo hi
theorem wy {d:D} (p:Pln d) (lo hi:Int):Pu bx 3 [d, .int lo, .int hi] (.bl (yg lo hi d)):=K20.wy p lo hi
theorem akv {F G:SF} {n:Nat} {ds:List D} {d:D} (cd:∀ x∈ds,MI.clo 0 x) (e:F ds []=G ds []) (P:Pu G n ds d):Pu F n ds d:=fun h=>by
 obtain ⟨p1,p2,_⟩:=a4c cd
 have:=P h
 unfold jo aoh at this ⊢
 simp only [p1,p2,a2f,e] at this ⊢
 exact this
theorem a5l {a g k:D} (p:Deep 3 (.tup [a,g,k])):Pu kj 1 [.tup [a,g,k]] (.bl (a08 (.tup [a,g,k]))):=by
 have h:kj [.tup [a,g,k]] []=K20.kj [.tup [a,g,k]] []:=by
  unfold kj K20.kj
  rw [j6,j6]
  show toR (K67.nq jj g8 ut bx jk [some (.tup [a,g,k]),none,none,none] [])=toR (K20.nq K20.jj K20.g8 K20.ut K20.bx K20.jk [some (.tup [a,g,k]),none,none,none] [])
  unfold K67.nq K20.nq
  have e:sA (jo false 3 bx) (aj (sV 0) (aj (sC (.int 3)) (aj (sC (.int 3)) bj))) [some (.tup [a,g,k]),none,none,none] [] = .ok (.bl true) []:=a3v (d8 rfl) (jf _ _ _) (jf _ _ _) (wy p.pln 3 3 _)
  exact (congrArg toR (ifN (a2z (nu e (j5 _))))).trans (congrArg toR (ifN (a2z (nu e (j5 _))))).symm
 exact akv (ar1 p.pln.clo) h (K20.a5l p)
theorem axk (a b:Str) (h:Hd):hEq (.str a) (.str b) h = .ok (.bl (a == b)) h:=by
 unfold hEq
 rw [if_pos ⟨rfl,rfl⟩]
 rfl
noncomputable def v7:SF:=o8 (a0k bu bx) 2
theorem ahy {d:D} (p:Deep 1 d) (n:Nat):Pu v7 2 [d,gf n] (.bl (a3b n d)):=by
 have fin:∀ b:Bool,toR (a0k bu bx [some d,some (gf n)] []) = .ok (.bl b) []→a3b n d=b→Pu v7 2 [d,gf n] (.bl (a3b n d)):=fun b e t=>by
  rw [t]
  refine a1w rfl (ar2 p.pln.clo (iw _)) (h':=[]) ?_
  unfold v7
  rw [j6]
  exact e
 have a1:sA (jo false 3 bx) (aj (sV 0) (aj (sC (.int 1)) (aj (sC (.int 2)) bj))) [some d,some (gf n)] [] = .ok (.bl (yg 1 2 d)) []:=a3v (d8 rfl) (jf _ _ _) (jf _ _ _) (wy p.pln 1 2 _)
 by_cases h1:yg 1 2 d=true
 ·obtain ⟨ws,rfl⟩:∃ xs,d = .tup xs:=by cases d<;>first | exact ⟨_,rfl⟩ | simp [yg] at h1
  obtain ⟨wl,pw⟩:=p.2 ws rfl
  rw [h1] at a1
  simp only [yg,decide_eq_true_iff] at h1
  obtain ⟨a,r,rfl⟩:∃ a r,ws=a::r:=by cases ws with | nil=>simp at h1 | cons a r=>exact ⟨a,r,rfl⟩
  have pa:Pln a:=pw a (by simp)
  have i0:∀ hh:Hd,gIx (.tup (a::r)) (.int 0) hh = .ok a hh:=fun hh=>af9 (j:=0) rfl
  have a2:sA p7 (aj (s2 gIx (sV 0) (sC (.int 0))) (aj (sC (.ty "str")) bj)) [some (.tup (a::r)),some (gf n)] [] = .ok (.bl (isStr a)) []:=ym (o9 (d8 rfl) (jf _ _ _) (i0 _)) (jf _ _ _) (K20.apm pa)
  by_cases h2:isStr a=true
  ·obtain ⟨s,rfl⟩:∃ s,a = .str s:=by cases a<;>first | exact ⟨_,rfl⟩ | simp [isStr] at h2
   rw [h2] at a2
   have head:∀ g:SS,jd (sIf (sOr (a0b (a0n (sA (jo false 3 bx) (aj (sV 0) (aj (sC (.int 1)) (aj (sC (.int 2)) bj)))))) (a0b (a0n (sA p7 (aj (s2 gIx (sV 0) (sC (.int 0))) (aj (sC (.ty "str")) bj)))))) (ud (sC (.bl false))) sNx) g [some (.tup (.str s::r)),some (gf n)] []=g [some (.tup (.str s::r)),some (gf n)] []:=fun g=>ifN (orF (a2z (nu a1 (j5 _))) (a2z (nu a2 (j5 _))))
   cases r with
   | nil =>
    refine fin (inW "stay" "shut" s) ?_ rfl
    unfold a0k
    refine Eq.trans (congrArg toR (head _)) ?_
    have e1:s2 (gIn false) (s2 gIx (sV 0) (sC (.int 0))) (sA MI.kh (aj (sC (.str "stay")) (aj (sC (.str "shut")) bj))) [some (.tup [.str s]),some (gf n)] [] = .ok (.bl (inW "stay" "shut" s)) []:=o9 (o9 (d8 rfl) (jf _ _ _) (i0 _)) (ym (jf _ _ _) (jf _ _ _) afa) (amg _ _ _ _)
    have e0:sT (s2 hEq (sA um (aj (sV 0) bj)) (sC (.int 1))) [some (.tup [.str s]),some (gf n)] [] = .ok true []:=tof (o9 (uz (d8 rfl) (K20.len_T _ _)) (jf _ _ _) (ac1 rfl))
    exact congrArg toR (a0w (Eq.trans (ifT e0) (lz e1)))
   | cons k r =>
    have:r=[]:=by cases r with | nil=>rfl | cons _ _=>simp at h1;omega
    subst this
    have pk:Pln k:=pw k (by simp)
    have i1:∀ hh:Hd,gIx (.tup [.str s,k]) (.int 1) hh = .ok k hh:=fun hh=>af9 (j:=1) rfl
    refine fin (inW "open" "turn" s && a1x 0 ((n:Int) - 1) k) ?_ rfl
    unfold a0k
    refine Eq.trans (congrArg toR (head _)) ?_
    refine Eq.trans (congrArg toR (ifN (tof (o9 (uz (d8 rfl) (K20.len_T _ _)) (jf _ _ _) (ac2 (by simp)))))) ?_
    have e1:s2 (gIn false) (s2 gIx (sV 0) (sC (.int 0))) (sA MI.kh (aj (sC (.str "open")) (aj (sC (.str "turn")) bj))) [some (.tup [.str s,k]),some (gf n)] [] = .ok (.bl (inW "open" "turn" s)) []:=o9 (o9 (d8 rfl) (jf _ _ _) (i0 _)) (ym (jf _ _ _) (jf _ _ _) afa) (amg _ _ _ _)
    cases hw:inW "open" "turn" s with
    | false =>
     rw [hw] at e1
     exact congrArg toR (lz (a75 e1))
    | true =>
     rw [hw] at e1
     exact congrArg toR (lz (a3a e1 (a3v (o9 (d8 rfl) (jf _ _ _) (i1 _)) (jf _ _ _) (o9 (d8 rfl) (jf _ _ _) (a74 _ _)) (a1j pk _ _ _))))
  ·have h2:isStr a=false:=by simpa using h2
   rw [h2] at a2
   refine fin false ?_ ?_
   ·unfold a0k
    exact congrArg toR (a0w (Eq.trans (ifT (orF (a2z (nu a1 (j5 _))) (a9q (nu a2 (j5 _))))) (lz (jf _ _ _))))
   ·cases a<;>first | rfl | simp [isStr] at h2
 ·have h1:yg 1 2 d=false:=by simpa using h1
  rw [h1] at a1
  refine fin false ?_ ?_
  ·unfold a0k
   exact congrArg toR (a0w (Eq.trans (ifT (orT (a9q (nu a1 (j5 _))))) (lz (jf _ _ _))))
  ·unfold a3b
   split
   ·simp [yg] at h1
   ·simp [yg] at h1
   ·rfl
def intOf:D→Int | .int i=>i | _=>0
def a7n (k:D) (ds:List D):Bool:=match k with | .tup ks=>decide (mxI (ks.map intOf)<(ds.length:Int)) | _=>false
def xr (t:D) (n:Nat):D→Bool
 | .tup [g,k, .tup ds]=>a08 (.tup [t,g,k]) && (decide (ds.length≤6) && (a7n k ds && ds.all (a3b n)))
 | _=>false
noncomputable def v8:SF:=o8 (a0l v7 bx kj) 6
theorem axl {a g k:D} (t:a08 (.tup [a,g,k])=true):∃ ks:List Int,k = .tup (ks.map D.int)∧ks≠[]:=by
 obtain ⟨rs,rfl⟩:∃ rs,g = .tup rs:=by cases g<;>first | exact ⟨_,rfl⟩ | (simp [a08] at t;done)
 simp only [a08,Bool.and_eq_true,decide_eq_true_iff] at t
 obtain ⟨ta,n1,tc,⟨t1,td⟩,tf⟩:=t
 obtain ⟨ks,rfl⟩:∃ ks,k = .tup ks:=by cases k<;>first | exact ⟨_,rfl⟩ | (simp [a1y] at t1;done)
 simp only [a1y,Bool.and_eq_true,decide_eq_true_iff,List.all_eq_true] at t1
 refine ⟨ks.map intOf,?_,fun z=>?_⟩
 ·congr 1
  rw [List.map_map]
  have:ks.map (D.int ∘ intOf)=ks.map fun x=>x:=List.map_congr_left fun y hy=>by
   obtain ⟨i,rfl,_⟩:=K20.aks (t1.2 y hy)
   rfl
  rw [this,List.map_id']
 ·have:=congrArg List.length z
  simp at this
  subst this
  simp at t1
  omega
theorem ahz {t d:D} (pt:Deep 2 t) (p:Deep 3 d) (n:Nat):Pu v8 3 [t,d,gf n] (.bl (xr t n d)):=by
 have fin:∀ b:Bool,toR (a0l v7 bx kj [some t,some d,some (gf n),none,none,none] []) = .ok (.bl b) []→xr t n d=b→Pu v8 3 [t,d,gf n] (.bl (xr t n d)):=fun b e q=>by
  rw [q]
  refine a1w rfl (ar3 pt.pln.clo p.pln.clo (iw _)) (h':=[]) ?_
  unfold v8
  rw [j6]
  exact e
 have a1:sA (jo false 3 bx) (aj (sV 1) (aj (sC (.int 3)) (aj (sC (.int 3)) bj))) [some t,some d,some (gf n),none,none,none] [] = .ok (.bl (yg 3 3 d)) []:=a3v (d8 rfl) (jf _ _ _) (jf _ _ _) (wy p.pln 3 3 _)
 by_cases h3:yg 3 3 d=true
 ·obtain ⟨ws,rfl⟩:∃ xs,d = .tup xs:=by cases d<;>first | exact ⟨_,rfl⟩ | simp [yg] at h3
  obtain ⟨wl,pw⟩:=p.2 ws rfl
  obtain ⟨g,k,e,rfl⟩:=K20.three (ws:=ws) (by simp only [yg,decide_eq_true_iff] at h3;omega)
  rw [h3] at a1
  have pg:=pw g (by simp)
  have pk:=pw k (by simp)
  have pe:=pw e (by simp)
  let τ:Sd:=[some t,some (.tup [g,k,e]),some (gf n),some g,some k,some e]
  have as:a8p (sV 1) (a7w 3 (ue (kN 3) (ue (kN 4) (ue (kN 5) a8o)))) [some t,some (.tup [g,k,e]),some (gf n),none,none,none] [] = .nx τ []:=ahf (d8 rfl) rfl
  have head:∀ f:SS,jd (sIf (a0b (a0n (sA (jo false 3 bx) (aj (sV 1) (aj (sC (.int 3)) (aj (sC (.int 3)) bj)))))) (ud (sC (.bl false))) sNx) (jd (a8p (sV 1) (a7w 3 (ue (kN 3) (ue (kN 4) (ue (kN 5) a8o))))) f) [some t,some (.tup [g,k,e]),some (gf n),none,none,none] []=f τ []:=fun f=>(ifN (a2z (nu a1 (j5 _)))).trans (a1v as)
  have pT:Deep 3 (.tup [t,g,k]):=by
   refine ⟨dj pt.pln.clo (dj pg.pln.clo (dj pk.pln.clo n6)),fun ws e=>?_⟩
   cases e
   refine ⟨by simp,fun x hx=>?_⟩
   simp only [List.mem_cons,List.not_mem_nil,or_false] at hx
   rcases hx with rfl | rfl | rfl<;>assumption
  have a2:sA (jo false 1 kj) (aj (sA MI.kh (aj (sV 0) (aj (sV 3) (aj (sV 4) bj)))) bj) τ [] = .ok (.bl (a08 (.tup [t,g,k]))) []:=uz (a3v (d8 rfl) (d8 rfl) (d8 rfl) ama) (a5l pT _)
  have a3:sA (jo false 3 bx) (aj (sV 5) (aj (sC (.int 0)) (aj (sC (.int 6)) bj))) τ [] = .ok (.bl (yg 0 6 e)) []:=a3v (d8 rfl) (jf _ _ _) (jf _ _ _) (wy pe.pln 0 6 _)
  by_cases h4:a08 (.tup [t,g,k])=true
  ·rw [h4] at a2
   by_cases h5:yg 0 6 e=true
   ·obtain ⟨ds,rfl⟩:∃ xs,e = .tup xs:=by cases e<;>first | exact ⟨_,rfl⟩ | simp [yg] at h5
    rw [h5] at a3
    simp only [yg,decide_eq_true_iff] at h5
    obtain ⟨ks,rfl,kn⟩:=axl h4
    obtain ⟨_,pd⟩:=pe.2 ds rfl
    have ov:s2 gGt (sA um (aj (sV 5) bj)) (sA aaw (aj (sV 4) bj)) τ [] = .ok (.bl (a7n (.tup (ks.map D.int)) ds)) []:=by
     refine (o9 (uz (d8 rfl) (K20.len_T _ _)) (uz (d8 rfl) (ah6 kn)) rfl).trans ?_
     show R.ok (D.bl (decide (mxI ks<(ds.length:Int)))) []=R.ok (D.bl (decide (mxI ((ks.map D.int).map intOf)<(ds.length:Int)))) []
     rw [List.map_map,show (intOf ∘ D.int)=id from rfl,List.map_id]
    have al:sA aaj (aj (sZ (uy (sIt (sV 5)) t1 (a2l v7 bx kj) [2])) bj) τ [] = .ok (.bl (ds.all (a3b n))) []:=K20.a77 (ac0 (d8 rfl) rfl) (by omega) fun x hx=>by
     rw [zb]
     unfold a2l
     exact ym (d8 rfl) (d8 rfl) (ahy (pd x hx) n _)
    refine fin (a7n (.tup (ks.map D.int)) ds && ds.all (a3b n)) ?_ ?_
    ·unfold a0l
     refine Eq.trans (congrArg toR (head _)) ?_
     refine Eq.trans (congrArg toR (ifN (orF (a2z (nu a2 (j5 _))) (a2z (nu a3 (j5 _)))))) ?_
     cases hv:a7n (.tup (ks.map D.int)) ds with
     | false=>rw [hv] at ov;exact congrArg toR (lz (a75 ov))
     | true=>rw [hv] at ov;exact congrArg toR (lz (a3a ov al))
    ·show (a08 (.tup [t,g, .tup (ks.map D.int)]) && (decide (ds.length≤6) && _))=_
     rw [h4,decide_eq_true (by omega)]
     rfl
   ·have h5:yg 0 6 e=false:=by simpa using h5
    rw [h5] at a3
    refine fin false ?_ ?_
    ·unfold a0l
     refine Eq.trans (congrArg toR (head _)) ?_
     exact congrArg toR (a0w (Eq.trans (ifT (orF (a2z (nu a2 (j5 _))) (a9q (nu a3 (j5 _))))) (lz (jf _ _ _))))
    ·by_cases ht:∃ ds,e = .tup ds
     ·obtain ⟨ds,rfl⟩:=ht
      simp only [yg,decide_eq_false_iff_not] at h5
      show (a08 (.tup [t,g,k]) && (decide (ds.length≤6) && _))=false
      rw [decide_eq_false (by omega),Bool.false_and,Bool.and_false]
     ·cases e<;>first | rfl | exact absurd ⟨_,rfl⟩ ht
  ·have h4:a08 (.tup [t,g,k])=false:=by simpa using h4
   rw [h4] at a2
   refine fin false ?_ ?_
   ·unfold a0l
    refine Eq.trans (congrArg toR (head _)) ?_
    exact congrArg toR (a0w (Eq.trans (ifT (orT (a9q (nu a2 (j5 _))))) (lz (jf _ _ _))))
   ·cases e<;>first | rfl | skip
    show (a08 (.tup [t,g,k]) && _)=false
    rw [h4,Bool.false_and]
 ·have h3:yg 3 3 d=false:=by simpa using h3
  rw [h3] at a1
  refine fin false ?_ ?_
  ·unfold a0l
   exact congrArg toR (a0w (Eq.trans (ifT (a9q (nu a1 (j5 _)))) (lz (jf _ _ _))))
  ·unfold xr
   split
   ·simp [yg] at h3
   ·rfl
end K67
namespace K67
open PySem PySem.Spec L2 MI AT HND EVX PN
open PAP hiding wg a4h aof
open K20 (Deep a1x yg a1y hdB a08 a5y isStr ar1 ar2 ar3 ar4 a1w)
def a0y:D→Bool
 | .tup [t, .tup ms]=>decide (1≤ms.length∧ms.length≤4) && ms.all (xr t ms.length)
 | _=>false
theorem aps {n m:Nat} (h:n≤m) {d:D} (p:Deep m d):Deep n d:=by
 induction m with
 | zero=>rw [show n=0 by omega];exact p
 | succ m ih =>
  by_cases e:n=m+1
  ·rw [e];exact p
  ·exact ih (by omega) p.down
noncomputable def d9:SF:=o8 (wu v8 bx) 3
theorem a8a {d:D} (p:Deep 5 d):d9 [d] []=if a0y d=true then .ok d [] else .ex "NoModes" []:=by
 unfold d9
 rw [j6]
 show toR (wu v8 bx [some d,none,none] [])=_
 unfold wu
 have a1:sA (jo false 3 bx) (aj (sV 0) (aj (sC (.int 2)) (aj (sC (.int 2)) bj))) [some d,none,none] [] = .ok (.bl (yg 2 2 d)) []:=a3v (d8 rfl) (jf _ _ _) (jf _ _ _) (wy p.pln 2 2 _)
 have no:∀ (c:ST) (f:SS),c [some d,none,none] [] = .ok true []→toR (jd (sIf c (a86 "NoModes" (aj (sC (.str "no machine")) bj)) sNx) f [some d,none,none] []) = .ex "NoModes" []:=fun c f e=>congrArg toR (aue (Eq.trans (ifT e) (ahg (arg1 (jf _ _ _)) (by simp))))
 by_cases h2:yg 2 2 d=true
 ·obtain ⟨ws,rfl⟩:∃ xs,d = .tup xs:=by cases d<;>first | exact ⟨_,rfl⟩ | simp [yg] at h2
  obtain ⟨wl,pw⟩:=p.2 ws rfl
  rw [h2] at a1
  simp only [yg,decide_eq_true_iff] at h2
  obtain ⟨t,m,rfl⟩:∃ t m,ws=[t,m]:=by
   match ws,h2 with
   | [t,m],_=>exact ⟨t,m,rfl⟩
   | [],h=>simp at h
   | [_],h=>simp at h
   | _::_::_::_,h=>simp at h;omega
  have pt:=pw t (by simp)
  have pm:=pw m (by simp)
  have i1:∀ hh:Hd,gIx (.tup [t,m]) (.int 1) hh = .ok m hh:=fun hh=>af9 (j:=1) rfl
  have a2:sA (jo false 3 bx) (aj (s2 gIx (sV 0) (sC (.int 1))) (aj (sC (.int 1)) (aj (sC (.int 4)) bj))) [some (.tup [t,m]),none,none] [] = .ok (.bl (yg 1 4 m)) []:=a3v (o9 (d8 rfl) (jf _ _ _) (i1 _)) (jf _ _ _) (jf _ _ _) (wy pm.pln 1 4 _)
  by_cases h3:yg 1 4 m=true
  ·obtain ⟨ms,rfl⟩:∃ xs,m = .tup xs:=by cases m<;>first | exact ⟨_,rfl⟩ | simp [yg] at h3
   obtain ⟨ml,pms⟩:=pm.2 ms rfl
   rw [h3] at a2
   simp only [yg,decide_eq_true_iff] at h3
   refine Eq.trans (congrArg toR (ifN (orF (a2z (nu a1 (j5 _))) (a2z (nu a2 (j5 _)))))) ?_
   let τ:Sd:=[some (.tup [t, .tup ms]),some t,some (.tup ms)]
   have as:a8p (sV 0) (a7w 2 (ue (kN 1) (ue (kN 2) a8o))) [some (.tup [t, .tup ms]),none,none] [] = .nx τ []:=ahf (d8 rfl) rfl
   refine Eq.trans (congrArg toR (a1v as)) ?_
   have al:sA aaj (aj (sZ (uy (sIt (sV 2)) t1 (xf v8 bx) [1,2])) bj) τ [] = .ok (.bl (ms.all (xr t ms.length))) []:=K20.a77 (ac0 (d8 rfl) rfl) (by omega) fun x hx=>by
    rw [zb]
    unfold xf
    exact a3v (d8 rfl) (d8 rfl) (uz (d8 rfl) (K20.len_T _ _)) (ahz (aps (m:=4) (by decide) pt) (pms x hx) ms.length _)
   have em:a0y (.tup [t, .tup ms])=ms.all (xr t ms.length):=by
    show (decide (1≤ms.length∧ms.length≤4) && _)=_
    rw [decide_eq_true (by omega),Bool.true_and]
   rw [em]
   cases hv:ms.all (xr t ms.length) with
   | false =>
    rw [hv] at al
    rw [if_neg (by simp)]
    exact congrArg toR (aue (Eq.trans (ifT (a9q (nu al (j5 _)))) (ahg (arg1 (jf _ _ _)) (by simp))))
   | true =>
    rw [hv] at al
    rw [if_pos rfl]
    refine Eq.trans (congrArg toR (ifN (a2z (nu al (j5 _))))) ?_
    exact congrArg toR (lz (d8 rfl))
  ·have h3:yg 1 4 m=false:=by simpa using h3
   rw [h3] at a2
   have em:a0y (.tup [t,m])=false:=by
    by_cases ht:∃ ms,m = .tup ms
    ·obtain ⟨ms,rfl⟩:=ht
     simp only [yg,decide_eq_false_iff_not] at h3
     show (decide (1≤ms.length∧ms.length≤4) && _)=_
     rw [decide_eq_false (by omega),Bool.false_and]
    ·cases m<;>first | rfl | exact absurd ⟨_,rfl⟩ ht
   rw [em,if_neg (by simp)]
   exact no _ _ (orF (a2z (nu a1 (j5 _))) (a9q (nu a2 (j5 _))))
 ·have h2:yg 2 2 d=false:=by simpa using h2
  rw [h2] at a1
  have em:a0y d=false:=by
   unfold a0y
   split
   ·simp [yg] at h2
   ·rfl
  rw [em,if_neg (by simp)]
  exact no _ _ (orT (a9q (nu a1 (j5 _))))
theorem a9l {d:D} (p:Deep 5 d) (t:a0y d=true) (h:Hd):a1u 1 d9 [d] h = .ok d h:=by
 have r:=a8a p
 rw [if_pos t] at r
 exact apb (ar1 p.pln.clo) r (Pu.of rfl (ar1 p.pln.clo) r (qw p.pln.clo (by simp)) p.pln.clo)
theorem akx {d:D} (p:Deep 5 d) (t:a0y d=false) (h:Hd):a1u 1 d9 [d] h = .ex "NoModes" h:=by
 have r:=a8a p
 rw [if_neg (by simp [t])] at r
 exact apa rfl (ar1 p.pln.clo) r
noncomputable def lq:SF:=o8 (K67.a04 d9) 3
theorem a5m {d:D} (p:Deep 5 d) (t:a0y d=false):Pu K67.lq 1 [d] (.bl true):=by
 refine a1w rfl (ar1 p.pln.clo) (h':=[]) ?_
 unfold K67.lq
 rw [j6]
 show toR (K67.a04 d9 [some d,none,none] [])=_
 unfold K67.a04
 refine Eq.trans (congrArg toR (m8 (jf _ _ _))) ?_
 refine Eq.trans (congrArg toR (a1v (auf (c := "NoModes") (h1:=[]) ?_ (by decide) (Eq.trans (m8 (a3a (apc (b:=true) rfl (by decide)) (apc (b:=true) rfl (by decide)))) (Eq.trans (ifF (nu (apc (c := "NoModes") rfl (b:=false) (by decide)) (j5 _))) rfl))))) ?_
 ·exact auh ((azx (qof (wg (d8 rfl) rfl))).trans (akx p t _))
 ·exact congrArg toR (lz (d8 rfl))
theorem ab4 (G:List (List Nat)):∀ (r ms:List Nat),ms.Nodup→(r.foldl L2.stepK ms).Nodup∧(∃ add,r.foldl L2.stepK ms=ms++add)∧∀ x,x∈r.foldl L2.stepK ms↔x∈ms∨x∈r
 | [],ms,nd=>⟨nd,⟨[],by simp⟩,by simp⟩
 | a::r,ms,nd=>by
  rw [List.foldl_cons]
  have n1:(L2.stepK ms a).Nodup:=by
   unfold L2.stepK
   split
   ·exact nd
   ·rename_i h
    rw [List.nodup_append]
    refine ⟨nd,by simp,fun x hx y hy=>?_⟩
    rw [List.mem_singleton] at hy
    subst hy
    exact fun e=>h (e ▸ hx)
  have n2:∃ add,L2.stepK ms a=ms++add:=by
   unfold L2.stepK
   split
   ·exact ⟨[],by simp⟩
   ·exact ⟨[a],rfl⟩
  obtain ⟨i1,⟨add,i2⟩,i3⟩:=ab4 G r (L2.stepK ms a) n1
  obtain ⟨b,n2⟩:=n2
  refine ⟨i1,⟨b++add,by rw [i2,n2,List.append_assoc]⟩,fun x=>?_⟩
  rw [i3,L2.a6h,List.mem_cons]
  constructor
  ·rintro ((h | h) | h)
   ·exact .inl h
   ·exact .inr (.inl h)
   ·exact .inr (.inr h)
  ·rintro (h | h | h)
   ·exact .inl (.inl h)
   ·exact .inl (.inr h)
   ·exact .inr h
theorem ai0 {G:List (List Nat)} (g:K20.Gd G):∀ (f:Nat) (ms:List Nat) (i:Nat),ms.Nodup→(∀ x∈ms,x<G.length)→(∀ j,j<i→∀ r,ms[j]? = some r→∀ x∈(G[r]?).getD [],x∈ms)→G.length+1≤i+f →
  (K20.grow G f ms i).Nodup∧(∀ x∈K20.grow G f ms i,x<G.length)∧(∀ x∈ms,x∈K20.grow G f ms i)∧∀ r∈K20.grow G f ms i,∀ x∈(G[r]?).getD [],x∈K20.grow G f ms i:=by
 intro f
 induction f with
 | zero =>
  intro ms i nd lt cl hi
  have ml:ms.length≤G.length:=BF.a07 G.length ms nd lt
  refine ⟨nd,lt,fun x hx=>hx,fun r hr x hx=>?_⟩
  have hr:r∈ms:=hr
  obtain ⟨j,hj,rfl⟩:=List.getElem_of_mem hr
  exact cl j (Nat.lt_of_lt_of_le hj (by omega)) _ (List.getElem?_eq_getElem hj) x hx
 | succ f ih =>
  intro ms i nd lt cl hi
  unfold K20.grow
  cases e:ms[i]? with
  | none =>
   have ml:ms.length≤i:=List.getElem?_eq_none_iff.mp e
   refine ⟨nd,lt,fun x hx=>hx,fun r hr x hx=>?_⟩
   have hr:r∈ms:=hr
   obtain ⟨j,hj,rfl⟩:=List.getElem_of_mem hr
   exact cl j (Nat.lt_of_lt_of_le hj (by omega)) _ (List.getElem?_eq_getElem hj) x hx
  | some y =>
   dsimp only
   have yl:y<G.length:=lt y (List.mem_of_getElem? e)
   have rx:∀ x∈(G[y]?).getD [],x<G.length:=fun x hx=>by
    rw [List.getElem?_eq_getElem yl] at hx
    exact g.rg _ (List.getElem_mem yl) x hx
   obtain ⟨s1,⟨add,s2⟩,s3⟩:=ab4 G ((G[y]?).getD []) ms nd
   have il:i<ms.length:=(List.getElem?_eq_some_iff.mp e).1
   obtain ⟨q1,q2,q3,q4⟩:=ih (((G[y]?).getD []).foldl L2.stepK ms) (i+1) s1 (fun x hx=>((s3 x).mp hx).elim (lt x) (rx x)) (fun j hj r hr x hx=>by
    rw [s3]
    by_cases je:j=i
    ·subst je
     rw [s2,List.getElem?_append_left il,e] at hr
     cases hr
     exact .inr hx
    ·rw [s2,List.getElem?_append_left (by omega)] at hr
     exact .inl (cl j (by omega) r hr x hx)) (by omega)
   exact ⟨q1,q2,fun x hx=>q3 x ((s3 x).mpr (.inl hx)),q4⟩
theorem ai1 {G:List (List Nat)} (g:K20.Gd G) (rc:∀ r,r<G.length→Rch G r):(K20.met G).length=G.length:=by
 have n1:=g.n1
 obtain ⟨q1,q2,q3,q4⟩:=ai0 g (G.length+1) [0] 0 (by simp) (by intro x hx;rw [List.mem_singleton] at hx;omega) (fun j hj=>absurd hj (Nat.not_lt_zero j)) (by omega)
 have h1:(K20.met G).length≤G.length:=BF.a07 G.length _ q1 q2
 have h2:=K34.sub_len (l:=List.range G.length) (t:=K20.met G) List.nodup_range fun r hr=>by
  rw [List.mem_range] at hr
  exact rc r hr (fun x=>x∈K20.met G) (q3 0 (by simp)) fun a ha x hx=>q4 a ha x hx
 rw [List.length_range] at h2
 omega
end K67
namespace K67
open PySem PySem.Spec L2 MI AT HND EVX PN
open PAP hiding wg a4h aof
open K20 (Deep a1x yg a1y hdB a08 a5y isStr ar1 ar2 ar3 ar4 a1w)
noncomputable def fu:Nat→SF
 | 0=>fun _ _=>.no
 | n+1=>o8 (za (fu n)) 4
theorem apt {n:Nat} {a b:D}:fu (n+1) [a,b] []=toR (za (fu n) [some a,some b,none,none] []):=by
 show o8 (za (fu n)) 4 [a,b] []=_
 rw [j6]
 rfl
theorem ai2 {F:SF} {n:Nat} {ds:List D} {b:Bool} (hn:ds.length=n) (ca:∀ x∈ds,MI.clo 0 x) (e:F ds [] = .ok (.bl b) []):Pu F n ds (.bl b):=Pu.of hn ca e (qw (a84 _) (by simp)) (a84 _)
theorem tys (τ:Sd) (h:Hd):sA MI.kh (aj (sC (.ty "list")) (aj (sC (.ty "tuple")) bj)) τ h = .ok (.tup [.ty "list", .ty "tuple"]) h:=ym (jf _ _ _) (jf _ _ _) afa
theorem auv (b:Bool) (h:Hd):hNe (.bl b) (.bl b) h = .ok (.bl false) h:=by
 unfold hNe
 rw [if_pos ⟨rfl,rfl⟩]
 cases b<;>rfl
theorem ai3 (n:Nat) (i:Int):Pu (fu (n+1)) 2 [.int i, .int i] (.bl true):=by
 refine ai2 rfl (ar2 (iw _) (iw _)) ?_
 rw [apt]
 unfold za
 have i1:a9a [.int i, .tup [.ty "list", .ty "tuple"]] [] = .ok (.bl false) []:=by simp [a9a,tyD,a80,akg,a6v]
 have i2:p7 [.int i, .ty "str"] [] = .ok (.bl false) []:=by simp [p7,aeh,tyD,a80]
 have i3:p7 [.int i, .ty "int"] [] = .ok (.bl true) []:=by simp [p7,aeh,tyD,a80]
 have i4:p7 [.int i, .ty "bool"] [] = .ok (.bl false) []:=by simp [p7,aeh,tyD,a80]
 refine Eq.trans (congrArg toR (ifN (nu (ym (d8 rfl) (tys _ _) i1) (j5 _)))) ?_
 refine Eq.trans (congrArg toR (ifN (tof (o9 (d8 rfl) (jf _ _ _) (show gIs (.int i) .non [] = .ok (.bl false) [] from rfl))))) ?_
 refine Eq.trans (congrArg toR (ifN (nu (ym (d8 rfl) (jf _ _ _) i2) (j5 _)))) ?_
 exact congrArg toR (lz (a3a (ym (d8 rfl) (jf _ _ _) i3) (a3a (ahh (ym (d8 rfl) (jf _ _ _) i4)) (o9 (d8 rfl) (d8 rfl) (ac1 rfl)))))
theorem ai4 (n:Nat) (x:Str):Pu (fu (n+1)) 2 [.str x, .str x] (.bl true):=by
 refine ai2 rfl (ar2 (nj _) (nj _)) ?_
 rw [apt]
 unfold za
 have i1:a9a [.str x, .tup [.ty "list", .ty "tuple"]] [] = .ok (.bl false) []:=by simp [a9a,tyD,a80,akg,a6v]
 have i2:p7 [.str x, .ty "str"] [] = .ok (.bl true) []:=by simp [p7,aeh,tyD,a80]
 refine Eq.trans (congrArg toR (ifN (nu (ym (d8 rfl) (tys _ _) i1) (j5 _)))) ?_
 refine Eq.trans (congrArg toR (ifN (tof (o9 (d8 rfl) (jf _ _ _) (show gIs (.str x) .non [] = .ok (.bl false) [] from rfl))))) ?_
 exact congrArg toR (a0w (Eq.trans (ifT (nu (ym (d8 rfl) (jf _ _ _) i2) (j5 _))) (lz (a3a (ym (d8 rfl) (jf _ _ _) i2) (o9 (d8 rfl) (d8 rfl) ((axk _ _ _).trans (by rw [beq_self_eq_true])))))))
theorem adt:∀ xs:List D,(xs.zip xs).map (fun p=>D.tup [p.1,p.2])=xs.map fun x=>.tup [x,x]
 | []=>rfl
 | x::xs=>by rw [List.zip_cons_cons,List.map_cons,List.map_cons,adt xs]
theorem a4j {n:Nat} {d:D} {xs:List D} (hd:d = .tup xs∨d = .rol xs) (cx:clos 0 xs) (h:∀ x∈xs,Pu (fu n) 2 [x,x] (.bl true)):Pu (fu (n+1)) 2 [d,d] (.bl true):=by
 have cd:MI.clo 0 d:=by rcases hd with rfl | rfl;exact gk cx;exact a95 cx
 refine ai2 rfl (ar2 cd cd) ?_
 rw [apt]
 unfold za
 have i1:a9a [d, .tup [.ty "list", .ty "tuple"]] [] = .ok (.bl true) []:=by rcases hd with rfl | rfl<;>simp [a9a,tyD,a80,akg,a6v]
 have i2:∃ b,p7 [d, .ty "list"] [] = .ok (.bl b) []:=by rcases hd with rfl | rfl<;>simp [p7,aeh,tyD,a80]
 have i3:∃ b,p7 [d, .ty "tuple"] [] = .ok (.bl b) []:=by rcases hd with rfl | rfl<;>simp [p7,aeh,tyD,a80]
 obtain ⟨b2,i2⟩:=i2
 obtain ⟨b3,i3⟩:=i3
 have ln:um [d] [] = .ok (gf xs.length) []:=by rcases hd with rfl | rfl<;>rfl
 have zi:aoe (sV 0) (sV 1) [some d,some d,none,none] [] = .ok ⟨xs.map fun x=>.tup [x,x],fun _=>True⟩ []:=by
  unfold aoe
  rw [d8 rfl,di,d8 rfl,di]
  rcases hd with rfl | rfl
  all_goals
   show R.ok (⟨(xs.zip xs).map fun p=>.tup [p.1,p.2],fun _=>True∧True⟩:Itm) []=_
   rw [adt]
   congr 2
   funext _
   simp
 have lp:=a0r (g:=a7w 2 (ue (kN 2) (ue (kN 3) a8o))) (b:=a1p (fu n)) (fun x:D=>.tup [x,x])
  (fun pre τ hh=>∃ t2 t3:Option D,τ=[some d,some d,t2,t3]∧hh=[]) xs [some d,some d,none,none] [] ?_ ⟨none,none,rfl,rfl⟩
 ·obtain ⟨τ',h',e,t2,t3,rfl,rfl⟩:=lp
  refine congrArg toR (a0w (Eq.trans (ifT (nu (ym (d8 rfl) (tys _ _) i1) (j5 _))) ?_))
  refine Eq.trans (ifN (orF (tof (o9 (ym (d8 rfl) (jf _ _ _) i2) (ym (d8 rfl) (jf _ _ _) i2) (auv _ _))) (tof (o9 (ym (d8 rfl) (jf _ _ _) i3) (ym (d8 rfl) (jf _ _ _) i3) (auv _ _))))) ?_
  refine Eq.trans (ifN (tof (o9 (uz (d8 rfl) ln) (uz (d8 rfl) ln) (akk rfl)))) ?_
  refine Eq.trans (ab1 zi) ?_
  refine Eq.trans (congrArg (fun z=>MI.thn z _) e) ?_
  rw [a0i]
  exact lz (jf _ _ _)
 ·rintro pre x post τ hh all ⟨t2,t3,rfl,rfl⟩
  have hx:x∈xs:=by rw [all];simp
  refine ⟨_,_,rfl,[some d,some d,some x,some x],[],?_,_,_,rfl,rfl⟩
  unfold a1p
  exact Eq.trans (ifF (a2z (nu (ym (d8 rfl) (d8 rfl) (h x hx _)) (j5 _)))) rfl
theorem apu (n:Nat) (l:List Nat):Pu (fu (n+2)) 2 [.tup (l.map gf), .tup (l.map gf)] (.bl true):=a4j (.inl rfl) (m5 _) fun x hx=>by obtain ⟨y,_,rfl⟩:=List.mem_map.mp hx;exact ai3 n _
theorem apv (n:Nat) (l:List Int):Pu (fu (n+2)) 2 [.tup (l.map D.int), .tup (l.map D.int)] (.bl true):=a4j (.inl rfl) (jg fun x _=>iw x) fun x hx=>by obtain ⟨y,_,rfl⟩:=List.mem_map.mp hx;exact ai3 n _
theorem apw (n:Nat) (x:Deed):Pu (fu (n+2)) 2 [x.d,x.d] (.bl true):=by
 have two:∀ (s:Str) (k:Nat),Pu (fu (n+2)) 2 [.tup [.str s,gf k], .tup [.str s,gf k]] (.bl true):=fun s k=>a4j (.inl rfl) (dj (nj _) (dj (iw _) n6)) fun x hx=>by
  simp only [List.mem_cons,List.not_mem_nil,or_false] at hx
  rcases hx with rfl | rfl
  ·exact ai4 n _
  ·exact ai3 n _
 have one:∀ (s:Str),Pu (fu (n+2)) 2 [.tup [.str s], .tup [.str s]] (.bl true):=fun s=>a4j (.inl rfl) (dj (nj _) n6) fun x hx=>by
  simp only [List.mem_cons,List.not_mem_nil,or_false] at hx
  subst hx
  exact ai4 n _
 cases x
 ·exact one _
 ·exact one _
 ·exact two _ _
 ·exact two _ _
abbrev mdD (go:List (List Nat)) (ks:List Int) (ds:List Deed):D:=.tup [.tup (go.map qy), .tup (ks.map D.int), .tup (dsD ds)]
theorem auw (n:Nat) (go:List (List Nat)) (ks:List Int) (ds:List Deed):MI.clo n (mdD go ks ds):=gk (dj (gk (jg fun x _=>gk (m5 _))) (dj (gk (jg fun x _=>iw x)) (dj (gk (a4i _ _)) n6)))
theorem apx (n:Nat) (go:List (List Nat)) (ks:List Int) (ds:List Deed):Pu (fu (n+4)) 2 [mdD go ks ds,mdD go ks ds] (.bl true):=by
 refine a4j (.inl rfl) (dj (gk (jg fun x _=>gk (m5 _))) (dj (gk (jg fun x _=>iw x)) (dj (gk (a4i _ _)) n6))) fun x hx=>?_
 simp only [List.mem_cons,List.not_mem_nil,or_false] at hx
 rcases hx with rfl | rfl | rfl
 ·refine a4j (.inl rfl) (jg fun x _=>gk (m5 _)) fun y hy=>?_
  obtain ⟨r,_,rfl⟩:=List.mem_map.mp hy
  exact apu n r
 ·exact apv (n+1) _
 ·refine a4j (.inl rfl) (a4i _ _) fun y hy=>?_
  obtain ⟨r,_,rfl⟩:=List.mem_map.mp hy
  exact apw n r
theorem aca {x:Str} {ms:List D} (h:∀ m∈ms,∃ go ks ds,m=mdD go ks ds):Pu (fu 6) 2 [.tup [.str x, .tup ms], .tup [.str x, .tup ms]] (.bl true):=by
 have cm:clos 0 ms:=m7.mpr fun m hm=>by obtain ⟨a,b,c,rfl⟩:=h m hm;exact auw _ _ _ _
 refine a4j (.inl rfl) (dj (nj _) (dj (gk cm) n6)) fun y hy=>?_
 simp only [List.mem_cons,List.not_mem_nil,or_false] at hy
 rcases hy with rfl | rfl
 ·exact ai4 4 _
 ·refine a4j (.inl rfl) cm fun m hm=>?_
  obtain ⟨a,b,c,rfl⟩:=h m hm
  exact apx 0 a b c
theorem auy {l:List Nat} (h:Tongue l):a5y (.str (S l))=true:=by
 rw [K20.ahs]
 unfold K20.apq
 rw [decide_eq_true ⟨h.lo,h.hi⟩,decide_eq_true h.nd,Bool.true_and,Bool.true_and,List.all_eq_true]
 intro c hc
 exact decide_eq_true (h.sub c hc)
theorem aky (r:List Nat):K20.a78 (qy r)=r:=by
 show (r.map gf).map K20.natOf=r
 rw [List.map_map]
 refine (List.map_congr_left fun x _=>?_).trans (List.map_id r)
 show (Int.toNat ((x:Nat):Int))=x
 exact Int.toNat_natCast x
theorem adu (go:List (List Nat)):K20.gOf (go.map qy)=go:=by
 unfold K20.gOf
 rw [List.map_map]
 exact (List.map_congr_left fun x _=>aky x).trans (List.map_id go)
theorem auz {s n:Nat} {r:List Nat} (h:aiq s n r):a1y s 0 ((n:Int) - 1) (qy r)=true:=by
 show (decide ((r.map gf).length=s) && (r.map gf).all (a1x 0 ((n:Int) - 1)))=true
 rw [decide_eq_true (by rw [List.length_map];exact h.1),Bool.true_and,List.all_eq_true]
 intro x hx
 obtain ⟨y,hy,rfl⟩:=List.mem_map.mp hx
 exact decide_eq_true ⟨by omega,by have:=h.2 y hy;omega⟩
theorem av0 {tg:List Nat} {go:List (List Nat)} {ks:List Int} (h:Table.Ok ⟨tg,go,ks⟩) (rc:∀ r,r<go.length→Rch go r):a08 (.tup [.str (S tg), .tup (go.map qy), .tup (ks.map D.int)])=true:=by
 have lS:K20.ab3 (.str (S tg))=tg.length:=by simp only [K20.ab3,a2y]
 have n1:1≤go.length:=h.n1
 have n32:go.length≤32:=h.n32
 have kl:ks.length=go.length:=h.kl
 show (a5y (.str (S tg)) && (decide (1≤(go.map qy).length∧(go.map qy).length≤32) && (K20.a5k (K20.ab3 (.str (S tg))) (go.map qy) && ((a1y (go.map qy).length (-1) 5 (.tup (ks.map D.int)) && hdB (.tup (ks.map D.int))) && decide ((K20.met (K20.gOf (go.map qy))).length=(go.map qy).length)))))=true
 rw [auy h.tong,lS,adu,List.length_map,decide_eq_true ⟨n1,n32⟩]
 have gd:K20.Gd go:=⟨n1,n32,fun r hr x hx=>(h.row r hr).2 x hx⟩
 rw [decide_eq_true (ai1 gd rc)]
 have r1:K20.a5k tg.length (go.map qy)=true:=by
  unfold K20.a5k
  rw [List.all_eq_true,List.length_map]
  intro x hx
  obtain ⟨r,hr,rfl⟩:=List.mem_map.mp hx
  exact auz (h.row r hr)
 have r2:a1y go.length (-1) 5 (.tup (ks.map D.int))=true:=by
  show (decide ((ks.map D.int).length=go.length) && (ks.map D.int).all (a1x (-1) 5))=true
  rw [decide_eq_true (by rw [List.length_map];exact kl),Bool.true_and,List.all_eq_true]
  intro x hx
  obtain ⟨y,hy,rfl⟩:=List.mem_map.mp hx
  exact decide_eq_true (h.kk y hy)
 have r3:hdB (.tup (ks.map D.int))=true:=by
  have k0:ks[0]? = some (-1):=h.k0
  cases ks with
  | nil=>cases k0
  | cons a l =>
   have:a = -1:=by simpa using k0
   subst this
   rfl
 rw [r1,r2,r3]
 rfl
theorem ai5 {n:Nat} {x:Deed} (h:x.Ok n):a3b n x.d=true:=by
 cases x with
 | stay=>rfl
 | shut=>rfl
 | opn k =>
  have hk:k<n:=h
  show (inW "open" "turn" "open" && a1x 0 ((n:Int) - 1) (.int (k:Nat)))=true
  rw [show inW "open" "turn" "open" = true from rfl,Bool.true_and]
  exact decide_eq_true ⟨by omega,by omega⟩
 | trn k =>
  have hk:k<n:=h
  show (inW "open" "turn" "turn" && a1x 0 ((n:Int) - 1) (.int (k:Nat)))=true
  rw [show inW "open" "turn" "turn" = true from rfl,Bool.true_and]
  exact decide_eq_true ⟨by omega,by omega⟩
theorem ai6 (ks:List Int) (ds:List D):a7n (.tup (ks.map D.int)) ds=decide (mxI ks<(ds.length:Int)):=by
 show decide (mxI ((ks.map D.int).map intOf)<(ds.length:Int))=_
 rw [List.map_map,show (intOf ∘ D.int)=id from rfl,List.map_id]
theorem a79 {tg:List Nat} {n:Nat} {go:List (List Nat)} {ks:List Int} {ds:List Deed} (h:Table.Ok ⟨tg,go,ks⟩) (rc:∀ r,r<go.length→Rch go r) (dl:ds.length≤6) (kd:∀ k∈ks,k<(ds.length:Int)) (dk:∀ x∈ds,x.Ok n):xr (.str (S tg)) n (mdD go ks ds)=true:=by
 have ne:ks≠[]:=by intro z;have:=h.k0;rw [show (Table.ks ⟨tg,go,ks⟩)=ks from rfl,z] at this;cases this
 show (a08 (.tup [.str (S tg), .tup (go.map qy), .tup (ks.map D.int)]) && (decide ((dsD ds).length≤6) && (a7n (.tup (ks.map D.int)) (dsD ds) && (dsD ds).all (a3b n))))=true
 rw [av0 h rc,ai6,List.length_map,decide_eq_true dl,decide_eq_true (kd _ (aag ne).1),Bool.true_and,Bool.true_and,Bool.true_and,List.all_eq_true]
 intro x hx
 obtain ⟨y,hy,rfl⟩:=List.mem_map.mp hx
 exact ai5 (dk y hy)
end K67
namespace EVT
open PySem PySem.Spec L2 MI AT HND
section
variable {f g k f1 f2 f3:SE} {ka:SA} {c c1 c2:ST} {τ:Sd} {h h1 h2 h3:Hd} {a b d v:D} {i:Nat} {t u:Bool} {xs ys ds:List D}
theorem amh {r:R D} {P:D→Prop} (e:r = .ok d h) (p:P d):∃ d,r = .ok d h∧P d:=⟨d,e,p⟩
theorem ai7 {r:R D} {P:D→O→Prop} (e:r = .ok d h) (p:∃ o',h=[o']∧P d o'):∃ d o',r = .ok d [o']∧P d o':=by obtain ⟨o,rfl,q⟩:=p;exact ⟨d,o,e,q⟩
theorem axm:bj τ h = .ok [] h:=rfl
theorem b00:oN τ h = .ok none h:=rfl
theorem PuE {F:SF} {n:Nat} (p:Pu F n ds d):jo false n F ds h = .ok d h:=p h
theorem avu {F:SF} {n:Nat} {o o':O} (p:Dr F n ds o d o'):jo false n F (.ref 0::ds) (o::h) = .ok d (o'::h):=p 0 (o::h) rfl
theorem apy {n:Nat} (hv:n<xs.length):gIx (.rol xs) (.int (n:Nat)) h = .ok (xs.getD n .non) h:=axb (by rw [List.getD_eq_getElem?_getD,List.getElem?_eq_getElem hv];rfl)
theorem axn {n:Nat} (hv:n<xs.length):gIx (.tup xs) (.int (n:Nat)) h = .ok (xs.getD n .non) h:=af9 (by rw [List.getD_eq_getElem?_getD,List.getElem?_eq_getElem hv];rfl)
theorem a0z {P:D→Prop} {n:Nat} (hv:n<xs.length) (al:∀ x∈xs,P x):P (xs.getD n .non):=by
 rw [List.getD_eq_getElem?_getD,List.getElem?_eq_getElem hv]
 exact al _ (List.getElem_mem hv)
theorem ami:um [.tup xs] h = .ok (gf xs.length) h:=rfl
theorem amj:um [.rol xs] h = .ok (gf xs.length) h:=rfl
theorem amk (e:f τ h=R.ok (D.ref h1.length) (h1++[.lst xs])) (hl:h1.length=h.length) (cx:clos 0 xs) (co:∀ o∈h1,a1r 0 o):sZ f τ h = .ok (.rol xs) h1 :=
 PAP.a4h hl e (a0t (Nat.zero_le _) cx) fun o ho=>ul (Nat.zero_le _) (co o ho)
theorem av1 (e:ka τ h = .ok ds h1) (hl:h1.length=h.length) (cd:clos 0 ds) (co:∀ o∈h1,a1r 0 o) (z:ds.length≤1000000):sZ (sA MI.a0d ka) τ h = .ok (.rol ds) h1:=by
 refine amk ?_ hl cd co
 unfold sA
 rw [e,di]
 unfold MI.a0d
 exact if_pos (n8 z)
theorem apz (e:f τ h = .ok (.tup xs) h1) (hl:h1.length=h.length) (cd:clos 0 xs) (co:∀ o∈h1,a1r 0 o):sZ (sA a2c (aj f bj)) τ h = .ok (.rol xs) h1:=amk (uz e rfl) hl cd co
theorem aq0 {l:List Nat} (e:f τ h = .ok (.str (S l)) h1) (hl:h1.length=h.length) (co:∀ o∈h1,a1r 0 o) (z:l.length≤1000000):sZ (sA a2c (aj f bj)) τ h = .ok (.rol (l.map fun c=>.str (S [c]))) h1:=by
 refine amk (uz e ?_) hl (jg fun _ _=>nj _) co
 show (if (S l).length≤LINE then R.ok (D.ref h1.length) (h1++[O.lst (a1d (S l))]) else R.no)=_
 rw [if_pos (n8 (by rw [a9d];exact z))]
 unfold a1d
 rw [a2y]
theorem av2 (e1:f τ h = .ok (.rol xs) h1) (e2:g τ h1 = .ok (.rol ys) h2) (hl:h2.length=h.length) (c1:clos 0 xs) (c2:clos 0 ys) (co:∀ o∈h2,a1r 0 o) (z:xs.length+ys.length≤1000000):sZ (s2 j8 f g) τ h = .ok (.rol (xs++ys)) h2:=by
 refine amk (o9 e1 e2 ?_) hl (m7.mpr fun x hx=>(List.mem_append.mp hx).elim (m7.mp c1 x) (m7.mp c2 x)) co
 rw [a92 (xs:=xs) (ys:=ys) rfl rfl,if_pos (n8 z)]
theorem av3 {k:Int} (e1:f τ h = .ok (.rol xs) h1) (e2:g τ h1 = .ok (.int k) h2) (hl:h2.length=h.length) (c1:clos 0 xs) (co:∀ o∈h2,a1r 0 o) (z:xs.length*k.toNat≤1000000) (zn : -1000000≤k∧k≤1000000):sZ (s2 a2x f g) τ h = .ok (.rol (List.replicate k.toNat xs).flatten) h2:=by
 refine amk (o9 e1 e2 ?_) hl (m7.mpr fun x hx=>?_) co
 ·have:a2x (.rol xs) (.int k) h2=if (-(2 ^ 63)≤k∧k<2 ^ 63)∧xs.length*k.toNat≤LINE then .ok (.ref h2.length) (h2++[.lst (List.replicate k.toNat xs).flatten]) else .no:=rfl
  rw [this,if_pos ⟨by omega,n8 z⟩]
 ·obtain ⟨l,hl,hx⟩:=List.mem_flatten.mp hx
  rw [(List.mem_replicate.mp hl).2] at hx
  exact m7.mp c1 x hx
theorem aml (co:∀ o∈h,a1r 0 o):sZ ajr τ h = .ok (.rod [] []) h:=by
 unfold sZ
 show ad3 h.length (.ok (.ref h.length) (h++[.dK []]))=_
 rw [aby (d':=.rod [] []) ?_ ?_]
 ·simp
 ·unfold FU a81
  rw [if_neg (by simp only [MI.clo];omega)]
  simp [a2f]
 ·simp only [List.take_left']
  exact fun o ho=>ul (Nat.zero_le _) (co o ho)
theorem b01 {l:List Nat} {lo hi:Option Int} (hl:l.length≤1000000):a6r (.str (S l)) lo hi h = .ok (.str (S (a4o l lo hi))) h:=by
 show gSl (.str (S l)) lo hi h=_
 unfold gSl
 dsimp only
 rw [if_pos (by rw [a9d];exact n8 hl)]
theorem a9m {n:Nat}:(List.replicate n xs).flatten.length=n*xs.length:=by simp
theorem acb {n:Nat} {x:D} (hx:x∈(List.replicate n [a]).flatten):x=a:=by
 obtain ⟨l,hl,hx⟩:=List.mem_flatten.mp hx
 rw [(List.mem_replicate.mp hl).2] at hx
 exact List.mem_singleton.mp hx
theorem a9n (c1:clos i xs) (c2:clos i ys):clos i (xs++ys):=m7.mpr fun x hx=>(List.mem_append.mp hx).elim (m7.mp c1 x) (m7.mp c2 x)
theorem ab5 {n:Nat} (c:clos i xs):clos i (xs.take n):=m7.mpr fun x hx=>m7.mp c x (List.mem_of_mem_take hx)
theorem ab6 {n:Nat} (c:clos i xs):clos i (xs.drop n):=m7.mpr fun x hx=>m7.mp c x (List.mem_of_mem_drop hx)
theorem adv {n:Nat} (c:clos i xs):clos i (List.replicate n xs).flatten:=m7.mpr fun x hx=>by
 obtain ⟨l,hl,hx⟩:=List.mem_flatten.mp hx
 rw [(List.mem_replicate.mp hl).2] at hx
 exact m7.mp c x hx
theorem akz {n:Nat} (c:clos i xs):clo i (xs.getD n .non):=by
 rw [List.getD_eq_getElem?_getD]
 cases e:xs[n]? with
 | none=>exact ah4
 | some x=>exact m7.mp c x (List.mem_of_getElem? e)
theorem al0:clo i (.rod [] []):=by simp [clo,clos]
theorem acd:∀ u∈([]:List O),a1r 0 u:=fun u hu=>by cases hu
theorem a3q {o:O} (c:a1r 0 o):∀ u∈[o],a1r 0 u:=fun u hu=>by rw [List.mem_singleton] at hu;subst hu;exact c
end
def wth (ws:List D) (k:Nat) (d:D):List D:=ws.take k++[d]++ws.drop (k+1)
theorem ai8 {ws:List D} {k:Nat} {d:D}:(wth ws k d).length≤ws.length+1:=by
 unfold wth
 simp only [List.length_append,List.length_take,List.length_singleton,List.length_drop]
 omega
theorem ace {ws:List D} {k:Nat} {d x:D} (hx:x∈wth ws k d):x∈ws∨x=d:=by
 unfold wth at hx
 simp only [List.mem_append,List.mem_singleton] at hx
 rcases hx with (hx | rfl) | hx
 ·exact .inl (List.mem_of_mem_take hx)
 ·exact .inr rfl
 ·exact .inl (List.mem_of_mem_drop hx)
theorem ab7 {ws:List D} {k:Nat} {d:D} (hk:k<ws.length):(wth ws k d).length=ws.length∧d∈wth ws k d:=by
 unfold wth
 refine ⟨by simp only [List.length_append,List.length_take,List.length_singleton,List.length_drop];omega,by simp⟩
theorem al1 {ws:List D} {k i:Nat} {d:D} (c:clos i ws) (cd:clo i d):clos i (wth ws k d):=a9n (a9n (ab5 c) (dj cd n6)) (ab6 c)
theorem amm {α:Type} (l:List α):a4o l none (some (-1))=l.take (l.length - 1):=by
 unfold a4o
 rw [HT.a8f,List.drop_zero,Nat.sub_zero]
 congr 1
 unfold HT.sIx
 simp
 omega
theorem av4 {l:List Nat} (hl:l.length≤1000000) (hh:Hd):a6r (.str (S l)) none (some (-1)) hh = .ok (.str (S (l.take (l.length - 1)))) hh:=by rw [b01 hl,amm]
theorem av5 (ys:List D) (hh:Hd):a6r (.tup ys) none (some (-1)) hh = .ok (.tup (ys.take (ys.length - 1))) hh:=by rw [PAP.axd,amm]
end EVT
namespace K67
open PySem PySem.Spec L2 MI AT HND EVX PN
open PAP hiding wg a4h aof
open K20 (Deep a1x yg a1y hdB a08 a5y isStr ar1 ar2 ar3 ar4 a1w)
open EVT (wth ai8 ace ab7 av5)
local macro_rules | `(tactic| walk_at "c") => `(tactic| first | assumption | exact iw _ | (with_reducible exact EVT.al0) | exact nj _ | exact a84 _ | exact ah4 | exact n6 | ((with_reducible apply dj)<;>walk_at "c") | ((with_reducible apply gk);walk_at "c") | ((with_reducible apply a95);walk_at "c") | ((with_reducible apply EVT.a9n)<;>walk_at "c") | ((with_reducible apply EVT.ab5);walk_at "c") | ((with_reducible apply EVT.ab6);walk_at "c") | ((with_reducible apply EVT.adv);walk_at "c") | ((with_reducible apply EVT.akz);walk_at "c") | ((with_reducible apply EVT.al1)<;>walk_at "c") | exact jg fun _ _=>iw _ | exact jg fun _ _=>nj _)
local macro_rules | `(tactic| walk_at "h") => `(tactic| first | assumption | exact EVT.acd | exact EVT.a3q (by assumption))
local macro_rules | `(tactic| walk_at "z") => `(tactic| first | assumption | omega | (simp only [List.length_cons,List.length_nil,List.length_append,List.length_take,List.length_drop,List.length_map,List.length_singleton,EVT.a9m,Int.reduceToNat]<;>omega))
local macro_rules | `(tactic| walk_at "l") => `(tactic| first
 | assumption
 | (with_reducible exact azy) | (with_reducible exact aqj) | (with_reducible exact afa) | (with_reducible exact ama)
 | (with_reducible exact EVT.ami) | (with_reducible exact EVT.amj)
 | ((with_reducible apply EVT.PuE);assumption)
 | ((with_reducible apply EVT.avu);assumption)
 | (with_reducible exact EVT.av5 _ _) | (with_reducible exact PAP.avt _ _ _) | (with_reducible exact PAP.adm _ _ _)
 | ((with_reducible apply PAP.apd);walk_at "z")
 | ((with_reducible apply EVT.apy);walk_at "z")
 | ((with_reducible apply EVT.axn);walk_at "z")
 | (with_reducible exact a74 _ _) | (with_reducible exact ac3 _) | (with_reducible exact j5 _)
 | ((with_reducible apply avp);walk_at "z") | ((with_reducible apply avq);walk_at "z")
 | ((with_reducible apply auc);walk_at "z") | ((with_reducible apply ap9);walk_at "z")
 | ((with_reducible apply ac1);walk_at "z") | ((with_reducible apply ac2);walk_at "z")
 | ((with_reducible apply aud);walk_at "z") | ((with_reducible apply akk);walk_at "z")
 | exact rfl)
local macro_rules | `(tactic| walk_at "x") => `(tactic| first
 | (with_reducible exact jf _ _ _)
 | ((with_reducible apply d8);exact rfl)
 | (with_reducible exact EVT.axm) | (with_reducible exact EVT.b00)
 | ((with_reducible apply EVT.av1);walk_at "x";exact rfl;walk_at "c";walk_at "h";walk_at "z")
 | ((with_reducible apply EVT.apz);walk_at "x";exact rfl;walk_at "c";walk_at "h")
 | ((with_reducible apply EVT.aq0);walk_at "x";exact rfl;walk_at "h";walk_at "z")
 | ((with_reducible apply EVT.av2);walk_at "x";walk_at "x";exact rfl;walk_at "c";walk_at "c";walk_at "h";walk_at "z")
 | ((with_reducible apply EVT.av3);walk_at "x";walk_at "x";exact rfl;walk_at "c";walk_at "h";walk_at "z";walk_at "z")
 | ((with_reducible apply EVT.aml);walk_at "h")
 | ((with_reducible apply o9);walk_at "x";walk_at "x";walk_at "l")
 | ((with_reducible apply am8);walk_at "x";walk_at "l")
 | ((with_reducible apply PAP.aof);walk_at "x";walk_at "l")
 | ((with_reducible apply PAP.wg);walk_at "x";walk_at "x")
 | ((with_reducible apply avs);walk_at "x";walk_at "x";walk_at "x";walk_at "l")
 | ((with_reducible apply avr);walk_at "x")
 | ((with_reducible apply tof);walk_at "x")
 | ((with_reducible apply nu);walk_at "x";walk_at "l")
 | ((with_reducible apply a2z);walk_at "x") | ((with_reducible apply a9q);walk_at "x")
 | ((with_reducible apply azv);walk_at "x";walk_at "x") | ((with_reducible apply azw);walk_at "x")
 | ((with_reducible apply orT);walk_at "x") | ((with_reducible apply orF);walk_at "x";walk_at "x"))
def Dp (d:D):Prop:=∀ n,Deep n d
theorem acf {d:D} (p:Pln d) (t:isTup d=false):Dp d
 | 0=>p
 | n+1=>⟨p,fun ws e=>by subst e;simp [isTup] at t⟩
theorem Dp.clo {d:D} (h:Dp d):MI.clo 0 d:=(h 0).pln.clo
theorem jm {ws:List D} (wl:ws.length≤1000) (h:∀ x∈ws,Dp x):Dp (.tup ws)
 | 0=>m7.mpr fun x hx=>(h x hx).clo
 | n+1=>⟨m7.mpr fun x hx=>(h x hx).clo,fun ws' e=>by cases e;exact ⟨wl,fun x hx=>h x hx n⟩⟩
theorem yf (i:Int):Dp (.int i):=acf trivial rfl
theorem al2 (i:Bool):Dp (.bl i):=acf trivial rfl
theorem a8b:Dp .non:=acf trivial rfl
theorem adw {t:List Nat} (tl:t.length≤1000):Dp (.str (S t)):=acf (by simp only [Pln,a2y];exact tl) rfl
theorem a7a {x:Str} (tl:x.cps.toList.length≤1000):Dp (.str x):=acf tl rfl
theorem amn {ws:List D} (h:clos 0 ws):Dp (.rol ws):=acf h rfl
theorem qi:∀ x∈([]:List D),Dp x:=nofun
theorem fj {a:D} {ws:List D} (h:Dp a) (t:∀ x∈ws,Dp x):∀ x∈a::ws,Dp x:=fun x hx=>by
 rcases List.mem_cons.mp hx with rfl | q
 ·exact h
 ·exact t x q
theorem av6 {us ws:List D} (h:∀ x∈us,Dp x) (t:∀ x∈ws,Dp x):∀ x∈us++ws,Dp x:=fun x hx=>(List.mem_append.mp hx).elim (h x) (t x)
theorem aq1 {us:List D} {n:Nat} (h:∀ x∈us,Dp x):∀ x∈us.take n,Dp x:=fun x hx=>h x (List.mem_of_mem_take hx)
theorem aq2 {us:List D} {n:Nat} (h:∀ x∈us,Dp x):∀ x∈us.drop n,Dp x:=fun x hx=>h x (List.mem_of_mem_drop hx)
theorem ab8 {ws:List D} {k:Nat} {d:D} (wl:ws.length≤900) (h:∀ x∈ws,Dp x) (hd:Dp d):Dp (.tup (wth ws k d)):=jm (by have:=ai8 (ws:=ws) (k:=k) (d:=d);omega) fun x hx=>by
 rcases ace hx with q | rfl
 ·exact h x q
 ·exact hd
theorem a3r (l:List Nat):∀ x∈l.map gf,Dp x:=fun x hx=>by obtain ⟨y,_,rfl⟩:=List.mem_map.mp hx;exact yf _
theorem a7b (l:List Int):∀ x∈l.map D.int,Dp x:=fun x hx=>by obtain ⟨y,_,rfl⟩:=List.mem_map.mp hx;exact yf _
theorem a3s {ws:List D} (h:∀ x∈ws,Dp x):clos 0 ws:=m7.mpr fun x hx=>(h x hx).clo
noncomputable def jc:SF:=o8 K67.a4f 3
theorem ai9 {k:Nat} {ws:List D} {d:D} (wl:ws.length≤900) (cw:clos 0 ws) (cd:MI.clo 0 d):Pu jc 3 [.tup ws,gf k,d] (.tup (wth ws k d)):=by
 have cr:MI.clo 0 (.tup (wth ws k d)):=gk (m7.mpr fun x hx=>by
  rcases ace hx with q | rfl
  ·exact m7.mp cw x q
  ·exact cd)
 refine Pu.of rfl (ar3 (gk cw) (iw _) cd) (r:=.ok (.tup (wth ws k d)) []) ?_ (qw cr (by simp)) cr
 unfold jc
 rw [j6]
 show toR (K67.a4f [some (.tup ws),some (gf k),some d] [])=_
 unfold K67.a4f
 refine congrArg toR (lz (o9 (o9 (avs (d8 rfl) rfl (avr (d8 rfl)) (avt ws k _)) (uz (d8 rfl) EVX.aqj) (apd ?_)) (avs (d8 rfl) (avr (o9 (d8 rfl) (jf _ _ _) ye)) rfl (adm ws (k+1) _)) (apd ?_)))
 ·simp only [List.length_take,List.length_singleton];omega
 ·simp only [List.length_append,List.length_take,List.length_singleton,List.length_drop];omega
theorem tkN {u:O} {N:Nat} (m:Int) (P:Pen u N) (hN:N≤999999000) (m0:0<m) (m1:m<1073741824):∃ (v:Nat) (u':O),(v:Int)<m∧Pen u' (N+1)∧jo false 2 PN.az [.ref 0, .int m] [u] = .ok (gf v) [u']:=by
 obtain ⟨r,u',r0,r1,P',c⟩:=tk P hN m0 m1
 obtain ⟨v,rfl⟩:=Int.eq_ofNat_of_zero_le r0
 exact ⟨v,u',r1,P',c []⟩
theorem aia {a g k:D} (h:isTup g=false):a08 (.tup [a,g,k])=false:=by cases g<;>first | rfl | simp [isTup] at h
theorem a4k {ws:List D} {f:D→Bool} {d:D} (hd:d∈ws) (h:f d=false):ws.all f=false:=by
 rw [List.all_eq_false]
 exact ⟨d,hd,by simp [h]⟩
section
variable {a k:D} {rs:List D}
theorem a9o (h:a5y a=false):a08 (.tup [a, .tup rs,k])=false:=by show (a5y a && _)=false;rw [h,Bool.false_and]
theorem aib (h:¬ (1≤rs.length∧rs.length≤32)):a08 (.tup [a, .tup rs,k])=false:=by show (a5y a && (decide _ && _))=false;rw [decide_eq_false h,Bool.false_and,Bool.and_false]
theorem a9p {d:D} (hd:d∈rs) (h:a1y (K20.ab3 a) 0 ((rs.length:Int) - 1) d=false):a08 (.tup [a, .tup rs,k])=false:=by
 have:K20.a5k (K20.ab3 a) rs=false:=a4k hd h
 show (a5y a && (decide _ && (K20.a5k _ _ && _)))=false
 rw [this,Bool.false_and,Bool.and_false,Bool.and_false]
theorem a3t (h:a1y rs.length (-1) 5 k=false):a08 (.tup [a, .tup rs,k])=false:=by
 show (a5y a && (decide _ && (K20.a5k _ _ && ((a1y rs.length (-1) 5 k && _) && _))))=false
 rw [h,Bool.false_and,Bool.false_and,Bool.and_false,Bool.and_false,Bool.and_false]
theorem av7 (h:hdB k=false):a08 (.tup [a, .tup rs,k])=false:=by
 show (a5y a && (decide _ && (K20.a5k _ _ && ((a1y rs.length (-1) 5 k && hdB k) && _))))=false
 rw [h,Bool.and_false,Bool.false_and,Bool.and_false,Bool.and_false,Bool.and_false]
end
theorem a2m {n:Nat} {lo hi:Int} {ws:List D} (h:ws.length≠n):a1y n lo hi (.tup ws)=false:=by show (decide _ && _)=false;rw [decide_eq_false h,Bool.false_and]
theorem adx {n:Nat} {lo hi:Int} {d:D} (h:isTup d=false):a1y n lo hi d=false:=by cases d<;>first | rfl | simp [isTup] at h
theorem amo {n:Nat} {lo hi:Int} {ws:List D} {d:D} (hd:d∈ws) (h:a1x lo hi d=false):a1y n lo hi (.tup ws)=false:=by show (decide _ && ws.all _)=false;rw [a4k hd h,Bool.and_false]
theorem aic {lo hi i:Int} (h:i<lo):a1x lo hi (.int i)=false:=decide_eq_false (by omega)
theorem a8c {lo hi i:Int} (h:hi<i):a1x lo hi (.int i)=false:=decide_eq_false (by omega)
theorem aid {P:D→Prop} {as:List D} {b:D} {n:Nat} (ha:∀ x∈as,P x) (hb:P b):∀ x∈as++(List.replicate n [b]).flatten,P x:=fun x hx=>by
 rcases List.mem_append.mp hx with q | q
 ·exact ha x q
 ·rw [EVT.acb q];exact hb
local macro_rules | `(tactic| walk_at "l") => `(tactic| ((with_reducible apply EVT.PuE);(with_reducible apply ai9);walk_at "z";walk_at "c";walk_at "c"))
local macro_rules | `(tactic| walk_at "d") => `(tactic| first | assumption | (with_reducible exact yf _) | (with_reducible exact al2 _) | (with_reducible exact a8b) | ((with_reducible refine ab8 ?_ ?_ ?_);walk_at "z";walk_at "d";walk_at "d") | ((with_reducible refine jm ?_ ?_);walk_at "z";walk_at "d") | ((with_reducible refine amn ?_);walk_at "c") | ((with_reducible refine adw ?_);walk_at "z") | (with_reducible exact a7a (by decide)) | (refine qi;done) | (refine a3r _;done) | (refine a7b _;done) | (refine fj ?_ ?_<;>walk_at "d") | (refine av6 ?_ ?_<;>walk_at "d") | (refine aq1 ?_;walk_at "d") | (refine aq2 ?_;walk_at "d"))
noncomputable def iy:SF:=o8 (yc jc PN.az) 8
section
variable {T:Table}
theorem al3 {u:O} {N:Nat} (P:Pen u N) (hN:N≤999990000) (h:T.Ok):∃ g o',Dr iy 2 [.tup (T.go.map qy)] u g o'∧Pen o' (N+10)∧Dp g∧a08 (.tup [.str (S T.tg),g, .tup (T.ks.map D.int)])=false:=by
 have n1:=h.n1
 have n32:=h.n32
 have s1:=h.tong.lo
 have s6:=h.tong.hi
 have kl:=h.kl
 have lS:K20.ab3 (.str (S T.tg))=T.tg.length:=by simp only [K20.ab3,a2y]
 obtain ⟨gs,hgs⟩:∃ gs,gs=T.go.map qy:=⟨_,rfl⟩
 have gl:gs.length=T.go.length:=by rw [hgs,List.length_map]
 rw [← hgs]
 have dg:∀ x∈gs,Dp x:=fun x hx=>by
  rw [hgs] at hx
  obtain ⟨r,hr,rfl⟩:=List.mem_map.mp hx
  exact jm (by rw [List.length_map,(h.row r hr).1];omega) (a3r r)
 have cg:clos 0 gs:=a3s dg
 obtain ⟨room,u1,r1,P1,c1⟩:=tkN (gs.length:Nat) P (by omega) (by omega) (by omega)
 obtain ⟨r,er⟩:∃ r,T.go[room]? = some r:=⟨_,List.getElem?_eq_getElem (by omega)⟩
 have rm:r∈T.go:=List.mem_of_getElem? er
 have rl:=(h.row r rm).1
 have ir:∀ hh,gIx (.tup gs) (gf room) hh = .ok (.tup (r.map gf)) hh:=fun hh=>af9 (by rw [hgs,List.getElem?_map,er];rfl)
 have rin:D.tup (r.map gf)∈gs:=by rw [hgs];exact List.mem_map.mpr ⟨r,rm,rfl⟩
 obtain ⟨ws,hws⟩:∃ ws,ws=r.map gf:=⟨_,rfl⟩
 rw [← hws] at ir rin
 have wl:ws.length=T.tg.length:=by rw [hws,List.length_map,rl]
 have dw:∀ x∈ws,Dp x:=by rw [hws];exact a3r r
 have cw:clos 0 ws:=a3s dw
 have ir1:=ir [u1]
 obtain ⟨at',u2,a1,P2,c2⟩:=tkN (ws.length:Nat) P1 (by omega) (by omega) (by omega)
 obtain ⟨v,u3,v1,P3,c3⟩:=tkN 7 P2 (by omega) (by omega) (by omega)
 obtain ⟨w,u4,w1,P4,c4⟩:=tkN 5 P3 (by omega) (by omega) (by omega)
 obtain ⟨x,u5,x1,P5,c5⟩:=tkN 12 P4 (by omega) (by omega) (by omega)
 have C:=P.clo
 have C1:=P1.clo
 have C2:=P2.clo
 have C3:=P3.clo
 have C4:=P4.clo
 have C5:=P5.clo
 have add31:∀ hh,j8 (.int (gs.length:Nat)) (.int 31) hh = .ok (.int ((gs.length:Nat)+31)) hh:=fun _=>rfl
 have vl:v<7:=by omega
 have wl':w<5:=by omega
 have xl:x<12:=by omega
 have R:∃ g,toR (yc jc PN.az [some (.ref 0),some (.tup gs),none,none,none,none,none,none] [u]) = .ok g [u5]∧Dp g∧a08 (.tup [.str (S T.tg),g, .tup (T.ks.map D.int)])=false:=by
  apply EVT.amh
  ·unfold yc
   refine Eq.trans (congrArg toR (m8 (by walk_at "x"))) ?_
   refine Eq.trans (congrArg toR (m8 (by walk_at "x"))) ?_
   refine Eq.trans (congrArg toR (m8 (by walk_at "x"))) ?_
   refine Eq.trans (congrArg toR (m8 (by walk_at "x"))) ?_
   refine Eq.trans (congrArg toR (m8 (by walk_at "x"))) ?_
   refine Eq.trans (congrArg toR (m8 (by walk_at "x"))) ?_
   refine congrArg toR (lz (by walk_at "x"))
  ·refine EVT.a0z (P:=fun g=>Dp g∧a08 (.tup [.str (S T.tg),g, .tup (T.ks.map D.int)])=false) (by walk_at "z") (aid ?_ ?_)
   ·intro g hg
    simp only [List.mem_cons,List.not_mem_nil,or_false] at hg
    rcases hg with rfl | rfl | rfl | rfl | rfl | rfl
    ·exact ⟨by walk_at "d",aia rfl⟩
    ·exact ⟨by walk_at "d",aib (by simp)⟩
    ·exact ⟨by walk_at "d",aia rfl⟩
    ·exact ⟨by walk_at "d",a3t (a2m (by walk_at "z"))⟩
    ·exact ⟨by walk_at "d",a9p (List.mem_append_right _ (List.mem_singleton.mpr rfl)) (a2m (by rw [lS];walk_at "z"))⟩
    ·exact ⟨by walk_at "d",a3t (a2m (by walk_at "z"))⟩
   ·have rw':∀ y,Dp y∧a1y T.tg.length 0 ((gs.length:Int) - 1) y=false→Dp (.tup (wth gs room y))∧a08 (.tup [.str (S T.tg), .tup (wth gs room y), .tup (T.ks.map D.int)])=false:=fun y hy=>by
     have q:=ab7 (ws:=gs) (k:=room) (d:=y) (by omega)
     exact ⟨ab8 (by omega) dg hy.1,a9p q.2 (by rw [lS,q.1];exact hy.2)⟩
    refine rw' _ (EVT.a0z (P:=fun y=>Dp y∧a1y T.tg.length 0 ((gs.length:Int) - 1) y=false) (by walk_at "z") ?_)
    intro y hy
    simp only [List.mem_cons,List.not_mem_nil,or_false] at hy
    rcases hy with rfl | rfl | rfl | rfl | rfl
    ·have q:=fun o=>ab7 (ws:=ws) (k:=at') (d:=o) (by omega)
     have:=EVT.a0z (xs:=[gf gs.length,D.int (-1),D.bl true,D.non,D.str "0",D.tup [D.int 0],D.int ((gs.length:Nat)+31)]) (n:=v) (P:=fun o=>Dp o∧a1x 0 ((gs.length:Int) - 1) o=false) (by walk_at "z") (by
      intro o ho
      simp only [List.mem_cons,List.not_mem_nil,or_false] at ho
      rcases ho with rfl | rfl | rfl | rfl | rfl | rfl | rfl
      ·exact ⟨yf _,a8c (by omega)⟩
      ·exact ⟨yf _,aic (by omega)⟩
      ·exact ⟨al2 _,rfl⟩
      ·exact ⟨a8b,rfl⟩
      ·exact ⟨a7a (by decide),rfl⟩
      ·exact ⟨by walk_at "d",rfl⟩
      ·exact ⟨yf _,a8c (by omega)⟩)
     exact ⟨ab8 (by omega) dw this.1,amo (q _).2 this.2⟩
    ·exact ⟨by walk_at "d",a2m (by walk_at "z")⟩
    ·exact ⟨by walk_at "d",a2m (by walk_at "z")⟩
    ·exact ⟨by walk_at "d",adx rfl⟩
    ·exact ⟨by walk_at "d",adx rfl⟩
 obtain ⟨g,e,dg',tg'⟩:=R
 refine ⟨g,u5,Dr.of rfl (by intro x hx;rw [List.mem_singleton] at hx;subst hx;exact gk cg) C (r:=.ok g [u5]) ?_ (qw (a85 (by omega) dg'.clo) (fun x hx=>ul (by omega) (EVT.a3q C5 x hx))) dg'.clo C5,P5.up (by omega),dg',tg'⟩
 unfold iy
 rw [j6]
 exact e
end
noncomputable def ie:SF:=o8 (ww jc PN.az) 5
section
variable {T:Table}
theorem aie {u:O} {N:Nat} (P:Pen u N) (hN:N≤999990000) (h:T.Ok):∃ g o',Dr ie 2 [.tup (T.ks.map D.int)] u g o'∧Pen o' (N+10)∧Dp g∧a08 (.tup [.str (S T.tg), .tup (T.go.map qy),g])=false:=by
 have n1:=h.n1
 have n32:=h.n32
 have kl:=h.kl
 have gl:(T.go.map qy).length=T.go.length:=List.length_map _
 obtain ⟨ws,hws⟩:∃ ws,ws=T.ks.map D.int:=⟨_,rfl⟩
 have wl:ws.length=T.go.length:=by rw [hws,List.length_map,kl]
 rw [← hws]
 have dw:∀ x∈ws,Dp x:=by rw [hws];exact a7b _
 have cw:clos 0 ws:=a3s dw
 obtain ⟨at',u1,a1,P1,c1⟩:=tkN (ws.length:Nat) P (by omega) (by omega) (by omega)
 obtain ⟨v,u2,v1,P2,c2⟩:=tkN 6 P1 (by omega) (by omega) (by omega)
 obtain ⟨x,u3,x1,P3,c3⟩:=tkN 10 P2 (by omega) (by omega) (by omega)
 have C:=P.clo
 have C1:=P1.clo
 have C2:=P2.clo
 have C3:=P3.clo
 have p0:∀ hh,jo false 3 jc [.tup ws, .int 0, .int 0] hh = .ok (.tup (wth ws 0 (.int 0))) hh:=fun hh=>ai9 (k:=0) (by omega) cw (iw _) hh
 have p02:=p0 [u2]
 have vl:v<6:=by omega
 have xl:x<10:=by omega
 have R:∃ g,toR (ww jc PN.az [some (.ref 0),some (.tup ws),none,none,none] [u]) = .ok g [u3]∧(Dp g∧a08 (.tup [.str (S T.tg), .tup (T.go.map qy),g])=false):=by
  apply EVT.amh
  ·unfold ww
   refine Eq.trans (congrArg toR (m8 (by walk_at "x"))) ?_
   refine Eq.trans (congrArg toR (m8 (by walk_at "x"))) ?_
   refine Eq.trans (congrArg toR (m8 (by walk_at "x"))) ?_
   refine congrArg toR (lz (by walk_at "x"))
  ·refine EVT.a0z (P:=fun g=>Dp g∧a08 (.tup [.str (S T.tg), .tup (T.go.map qy),g])=false) (by walk_at "z") (aid ?_ ?_)
   ·intro g hg
    simp only [List.mem_cons,List.not_mem_nil,or_false] at hg
    rcases hg with rfl | rfl | rfl | rfl | rfl
    ·exact ⟨by walk_at "d",a3t (a2m (by walk_at "z"))⟩
    ·exact ⟨by walk_at "d",a3t (a2m (by walk_at "z"))⟩
    ·exact ⟨by walk_at "d",a3t (adx rfl)⟩
    ·exact ⟨by walk_at "d",a3t (adx rfl)⟩
    ·exact ⟨by walk_at "d",av7 rfl⟩
   ·have q:=fun o=>ab7 (ws:=ws) (k:=at') (d:=o) (by omega)
    have:=EVT.a0z (xs:=[D.int 6,D.int (-2),D.bl true,D.non,D.str "1",D.int 60]) (n:=v) (P:=fun o=>Dp o∧a1x (-1) 5 o=false) (by walk_at "z") (by
     intro o ho
     simp only [List.mem_cons,List.not_mem_nil,or_false] at ho
     rcases ho with rfl | rfl | rfl | rfl | rfl | rfl
     ·exact ⟨yf _,a8c (by omega)⟩
     ·exact ⟨yf _,aic (by omega)⟩
     ·exact ⟨al2 _,rfl⟩
     ·exact ⟨a8b,rfl⟩
     ·exact ⟨a7a (by decide),rfl⟩
     ·exact ⟨yf _,a8c (by omega)⟩)
    exact ⟨ab8 (by omega) dw this.1,a3t (amo (q _).2 this.2)⟩
 obtain ⟨g,e,dg',tg'⟩:=R
 refine ⟨g,u3,Dr.of rfl (by intro x hx;rw [List.mem_singleton] at hx;subst hx;exact gk cw) C (r:=.ok g [u3]) ?_ (qw (a85 (by omega) dg'.clo) (fun x hx=>ul (by omega) (EVT.a3q C3 x hx))) dg'.clo C3,P3.up (by omega),dg',tg'⟩
 unfold ie
 rw [j6]
 exact e
end
theorem aif {t g k:D} {n:Nat} {d:D} (h:isTup d=false):xr t n (.tup [g,k,d])=false:=by cases d<;>first | rfl | simp [isTup] at h
section
variable {t g k:D} {n:Nat} {ds:List D}
theorem a2u (h:a08 (.tup [t,g,k])=false) {d:D}:xr t n (.tup [g,k,d])=false:=by
 cases d<;>first | rfl | skip
 show (a08 _ && _)=false
 rw [h,Bool.false_and]
theorem ady (h:6<ds.length):xr t n (.tup [g,k, .tup ds])=false:=by
 show (a08 _ && (decide (ds.length≤6) && _))=false
 rw [decide_eq_false (by omega),Bool.false_and,Bool.and_false]
theorem a6b {d:D} (hd:d∈ds) (h:a3b n d=false):xr t n (.tup [g,k, .tup ds])=false:=by
 show (a08 _ && (_ && (a7n k ds && ds.all (a3b n))))=false
 rw [a4k hd h,Bool.and_false,Bool.and_false,Bool.and_false]
theorem adz (h:a7n k ds=false):xr t n (.tup [g,k, .tup ds])=false:=by
 show (a08 _ && (_ && (a7n k ds && ds.all (a3b n))))=false
 rw [h,Bool.false_and,Bool.and_false,Bool.and_false]
end
noncomputable def ik:SF:=o8 (uq PN.az) 9
def afb (many:Nat):List D:=[.tup [.str "open",gf many], .tup [.str "turn",gf many], .tup [.str "open", .int (-1)], .tup [.str "turn", .bl true], .tup [.str "open"], .tup [.str "stay", .int 0], .tup [.str "shut", .int 0], .str "stay"]++[.rol [.str "stay"], .tup [.str "turn", .non], .tup [.str "go"], .tup [.str "Open", .int 0], .tup [], .non, .tup [.str "open", .int 0, .int 0], .tup [.str "shut", .non], .tup [.tup [.str "stay"]]]
theorem a2v {n:Nat} {s:Str} {k:D} (h:a1x 0 ((n:Int) - 1) k=false):a3b n (.tup [.str s,k])=false:=by
 show (inW "open" "turn" s && a1x 0 ((n:Int) - 1) k)=false
 rw [h,Bool.and_false]
theorem a7c {n:Nat} {s:Str} {k:D} (h:inW "open" "turn" s=false):a3b n (.tup [.str s,k])=false:=by
 show (inW "open" "turn" s && a1x 0 ((n:Int) - 1) k)=false
 rw [h,Bool.false_and]
theorem ae0 (many:Nat):∀ d∈afb many,Dp d∧a3b many d=false:=by
 have lit:∀ x:Str,x.cps.toList.length≤1000→Dp (.str x):=fun x h=>a7a h
 have so:Dp (.str "open"):=lit _ (by decide)
 have st:Dp (.str "turn"):=lit _ (by decide)
 have sy:Dp (.str "stay"):=lit _ (by decide)
 have ss:Dp (.str "shut"):=lit _ (by decide)
 have sg:Dp (.str "go"):=lit _ (by decide)
 have sO:Dp (.str "Open"):=lit _ (by decide)
 have two:∀ {a b:D},Dp a→Dp b→Dp (.tup [a,b]):=fun ha hb=>jm (by simp) (fj ha (fj hb qi))
 have one:∀ {a:D},Dp a→Dp (.tup [a]):=fun ha=>jm (by simp) (fj ha qi)
 intro d hd
 simp only [afb,List.mem_append,List.mem_cons,List.not_mem_nil,or_false] at hd
 rcases hd with (rfl | rfl | rfl | rfl | rfl | rfl | rfl | rfl) | (rfl | rfl | rfl | rfl | rfl | rfl | rfl | rfl | rfl)
 ·exact ⟨two so (yf _),a2v (a8c (by omega))⟩
 ·exact ⟨two st (yf _),a2v (a8c (by omega))⟩
 ·exact ⟨two so (yf _),a2v (aic (by omega))⟩
 ·exact ⟨two st (al2 _),a2v rfl⟩
 ·exact ⟨one so,by show inW "stay" "shut" "open" = false;decide⟩
 ·exact ⟨two sy (yf _),a7c (by decide)⟩
 ·exact ⟨two ss (yf _),a7c (by decide)⟩
 ·exact ⟨sy,rfl⟩
 ·exact ⟨amn (dj (nj _) n6),rfl⟩
 ·exact ⟨two st a8b,a2v rfl⟩
 ·exact ⟨one sg,by show inW "stay" "shut" "go" = false;decide⟩
 ·exact ⟨two sO (yf _),a7c (by decide)⟩
 ·exact ⟨jm (by simp) qi,rfl⟩
 ·exact ⟨a8b,rfl⟩
 ·exact ⟨jm (by simp) (fj so (fj (yf _) (fj (yf _) qi))),rfl⟩
 ·exact ⟨two ss a8b,a2v rfl⟩
 ·exact ⟨one (one sy),rfl⟩
section
variable {T:Table} {ds:List Deed} {many:Nat}
theorem acg (x:Deed):Dp x.d:=by
 cases x<;>exact jm (by simp) (by walk_at "d")
theorem ae1 {ks:List Int} {es:List D} (h:(es.length:Int)≤mxI ks):a7n (.tup (ks.map D.int)) es=false:=by
 rw [ai6]
 exact decide_eq_false (by omega)
theorem aig {u:O} {N l:Nat} (P:Pen u N) (hN:N≤999990000) (hd:ds.length≤6) (hl:mxI T.ks+1=(l:Int)) (l6:l≤6) (ld:l≤ds.length) (g:D) (t:D):∃ e o',Dr ik 4 [.tup (dsD ds),gf l,gf many] u e o'∧Pen o' (N+10)∧Dp e∧xr t many (.tup [g, .tup (T.ks.map D.int),e])=false:=by
 obtain ⟨es,hes⟩:∃ es,es=dsD ds:=⟨_,rfl⟩
 have el:es.length=ds.length:=by rw [hes];exact List.length_map _
 rw [← hes]
 have de:∀ x∈es,Dp x:=fun x hx=>by
  rw [hes] at hx
  obtain ⟨y,_,rfl⟩:=List.mem_map.mp hx
  exact acg y
 have ce:clos 0 es:=a3s de
 obtain ⟨v,u1,v1,P1,c1⟩:=tkN 17 P (by omega) (by omega) (by omega)
 obtain ⟨at',u2,a1,P2,c2⟩:=tkN 6 P1 (by omega) (by omega) (by omega)
 have al:at'<6:=by omega
 have am:at' % 6=at':=Nat.mod_eq_of_lt al
 have C:=P.clo
 have C1:=P1.clo
 have C2:=P2.clo
 have bl:(afb many).length=17:=rfl
 have BB:=EVT.a0z (xs:=afb many) (n:=v) (P:=fun d=>Dp d∧a3b many d=false) (by omega) (ae0 many)
 have ix0:gIx (.rol (afb many)) (gf v) [u1] = .ok ((afb many).getD v .non) [u1]:=EVT.apy (by omega)
 generalize hodd:(afb many).getD v .non=odd at BB ix0
 obtain ⟨dO,bO⟩:=BB
 have cO:=dO.clo
 have cb:clos 0 (afb many):=a3s fun x hx=>(ae0 many x hx).1
 have more:∀ hh,a0v (.tup [.tup [.str "stay"]]) (.int 7) hh = .ok (.tup (List.replicate 7 [D.tup [.str "stay"]]).flatten) hh:=fun hh=>aqe (k:=7) (by simp) (by omega) (by omega) (by simp)
 obtain ⟨ms,hms⟩:∃ ms,ms=(List.replicate 7 [D.tup [.str "stay"]]).flatten:=⟨_,rfl⟩
 rw [← hms] at more
 have ml:ms.length=7:=by rw [hms,EVT.a9m];rfl
 have dm:∀ x∈ms,Dp x:=fun x hx=>by
  rw [hms] at hx
  rw [EVT.acb hx]
  exact jm (by simp) (fj (a7a (by decide)) qi)
 have cm:clos 0 ms:=a3s dm
 have m2:=more [u2]
 have to7:a6r (.tup (es++ms)) none (some 7) [u2] = .ok (.tup ((es++ms).take 7)) [u2]:=avt _ 7 _
 have ad7:j8 (.int 7) (gf at') [u2] = .ok (gf (7+at')) [u2]:=by show R.ok (D.int (7+(at':Int))) [u2]=_;congr 2
 have md6:a5q (gf at') (.int 6) [u2] = .ok (gf at') [u2]:=(am9 (by omega)).trans (by congr 2;omega)
 have first5:∀ e∈[D.rol es, .non, .tup ((es++ms).take 7), .tup ((es++ms).take (7+at')), .tup (es.take at'++[odd]++es.drop at')],Dp e∧xr t many (.tup [g, .tup (T.ks.map D.int),e])=false:=by
  intro e he
  simp only [List.mem_cons,List.not_mem_nil,or_false] at he
  rcases he with rfl | rfl | rfl | rfl | rfl
  ·exact ⟨by walk_at "d",aif rfl⟩
  ·exact ⟨by walk_at "d",aif rfl⟩
  ·exact ⟨by walk_at "d",ady (by walk_at "z")⟩
  ·exact ⟨by walk_at "d",ady (by walk_at "z")⟩
  ·exact ⟨by walk_at "d",a6b (d:=odd) (by simp) bO⟩
 have c5:clos 0 [D.rol es, .non, .tup ((es++ms).take 7), .tup ((es++ms).take (7+at')), .tup (es.take at'++[odd]++es.drop at')]:=by walk_at "c"
 obtain ⟨L5,h5⟩:∃ L,L=[D.rol es, .non, .tup ((es++ms).take 7), .tup ((es++ms).take (7+at')), .tup (es.take at'++[odd]++es.drop at')]:=⟨_,rfl⟩
 have l5:L5.length=5:=by rw [h5];rfl
 rw [← h5] at first5 c5
 have bad1:(.rol (afb many):D) = .rol ([.tup [.str "open",gf many], .tup [.str "turn",gf many], .tup [.str "open", .int (-1)], .tup [.str "turn", .bl true], .tup [.str "open"], .tup [.str "stay", .int 0], .tup [.str "shut", .int 0], .str "stay"]++[.rol [.str "stay"], .tup [.str "turn", .non], .tup [.str "go"], .tup [.str "Open", .int 0], .tup [], .non, .tup [.str "open", .int 0, .int 0], .tup [.str "shut", .non], .tup [.tup [.str "stay"]]]):=rfl
 have st:∀ (gg:SS),jd (o7 4 (sZ (sA MI.a0d (aj (sA MI.kh (aj (sC (.str "open")) (aj (sV 3) bj))) (aj (sA MI.kh (aj (sC (.str "turn")) (aj (sV 3) bj))) (aj (sA MI.kh (aj (sC (.str "open")) (aj (s1 a4r (sC (.int 1))) bj))) (aj (sA MI.kh (aj (sC (.str "turn")) (aj (sC (.bl true)) bj))) (aj (sA MI.kh (aj (sC (.str "open")) bj)) (aj (sA MI.kh (aj (sC (.str "stay")) (aj (sC (.int 0)) bj))) (aj (sA MI.kh (aj (sC (.str "shut")) (aj (sC (.int 0)) bj))) (aj (sC (.str "stay")) bj)))))))))))
    (jd (o7 4 (sZ (s2 j8 (sV 4) (sZ (sA MI.a0d (aj (sZ (sA MI.a0d (aj (sC (.str "stay")) bj))) (aj (sA MI.kh (aj (sC (.str "turn")) (aj (sC .non) bj))) (aj (sA MI.kh (aj (sC (.str "go")) bj)) (aj (sA MI.kh (aj (sC (.str "Open")) (aj (sC (.int 0)) bj))) (aj (sA MI.kh bj) (aj (sC .non) (aj (sA MI.kh (aj (sC (.str "open")) (aj (sC (.int 0)) (aj (sC (.int 0)) bj)))) (aj (sA MI.kh (aj (sC (.str "shut")) (aj (sC .non) bj))) (aj (sA MI.kh (aj (sA MI.kh (aj (sC (.str "stay")) bj)) bj)) bj))))))))))))))
    gg) [some (.ref 0),some (.tup es),some (gf l),some (gf many),none,none,none,none,none] [u]=gg [some (.ref 0),some (.tup es),some (gf l),some (gf many),some (.rol (afb many)),none,none,none,none] [u]:=fun gg=>by
  refine Eq.trans (m8 (by walk_at "x")) ?_
  refine Eq.trans (m8 (by walk_at "x")) ?_
  rfl
 have st2:∀ (gg:SS),jd (o7 5 (s2 gIx (sV 4) (sA (jo false 2 PN.az) (aj (sV 0) (aj (sC (.int 17)) bj)))))
    (jd (o7 6 (sA (jo false 2 PN.az) (aj (sV 0) (aj (sC (.int 6)) bj))))
    (jd (o7 7 (s2 a0v (sA MI.kh (aj (sA MI.kh (aj (sC (.str "stay")) bj)) bj)) (sC (.int 7))))
    (jd (o7 8 (sZ (sA MI.a0d (aj (sZ (sA a2c (aj (sV 1) bj))) (aj (sC .non) (aj (a0h (s2 j8 (sV 1) (sV 7)) oN (oS (sC (.int 7)))) (aj (a0h (s2 j8 (sV 1) (sV 7)) oN (oS (s2 j8 (sC (.int 7)) (sV 6)))) (aj (s2 j8 (s2 j8 (a0h (sV 1) oN (oS (s2 a5q (sV 6) (sC (.int 6))))) (sA MI.kh (aj (sV 5) bj))) (a0h (sV 1) (oS (s2 a5q (sV 6) (sC (.int 6)))) oN)) bj))))))))
    gg))) [some (.ref 0),some (.tup es),some (gf l),some (gf many),some (.rol (afb many)),none,none,none,none] [u]=gg [some (.ref 0),some (.tup es),some (gf l),some (gf many),some (.rol (afb many)),some odd,some (gf at'),some (.tup ms),some (.rol L5)] [u2]:=fun gg=>by
  refine Eq.trans (m8 (by walk_at "x")) ?_
  refine Eq.trans (m8 (by walk_at "x")) ?_
  refine Eq.trans (m8 (by walk_at "x")) ?_
  rw [h5]
  refine Eq.trans (m8 (by walk_at "x")) ?_
  rfl
 have fin:∀ {L:List D} {τ:Sd},1≤L.length→L.length≤100→τ[0]? = some (some (.ref 0))→τ[8]? = some (some (.rol L))→(∀ e∈L,Dp e∧xr t many (.tup [g, .tup (T.ks.map D.int),e])=false)→∃ e o',toR (ud (s2 gIx (sV 8) (sA (jo false 2 PN.az) (aj (sV 0) (aj (sA um (aj (sV 8) bj)) bj)))) τ [u2]) = .ok e [o']∧Pen o' (N+10)∧Dp e∧xr t many (.tup [g, .tup (T.ks.map D.int),e])=false:=fun {L τ} n1 n2 t0 t8 al=>by
  obtain ⟨x,u3,x1,P3,c3⟩:=tkN (L.length:Nat) P2 (by omega) (by omega) (by omega)
  have xl:x<L.length:=by omega
  refine ⟨L.getD x .non,u3,?_,P3.up (by omega),EVT.a0z (P:=fun e=>Dp e∧xr t many (.tup [g, .tup (T.ks.map D.int),e])=false) xl al⟩
  exact congrArg toR (lz (o9 (d8 t8) (ym (d8 t0) (uz (d8 t8) EVT.amj) c3) (EVT.apy xl)))
 have R:∃ e o',toR (uq PN.az [some (.ref 0),some (.tup es),some (gf l),some (gf many),none,none,none,none,none] [u]) = .ok e [o']∧Pen o' (N+10)∧Dp e∧xr t many (.tup [g, .tup (T.ks.map D.int),e])=false:=by
  unfold uq
  rw [st,st2]
  cases l with
  | zero =>
   rw [ifN (tof (o9 (d8 rfl) (jf _ _ _) (ap9 (by omega))))]
   exact fin (by omega) (by omega) rfl rfl first5
  | succ l =>
   have sb:MI.a7f (gf (l+1)) (.int 1) [u2] = .ok (gf l) [u2]:=(a74 _ _).trans (by congr 2;omega)
   have fr1:a6r (.tup es) (some 1) none [u2] = .ok (.tup (es.drop 1)) [u2]:=adm _ 1 _
   have mo:a0v (.tup [odd]) (gf (l+1)) [u2] = .ok (.tup (List.replicate (l+1) [odd]).flatten) [u2]:=aqe (by simp) (by omega) (by omega) (by simp)
   have cod:clos 0 (List.replicate (l+1) [odd]).flatten:=EVT.adv (dj cO n6)
   rw [a1v (p:=sIf _ _ _) (Eq.trans (ifT (tof (o9 (d8 rfl) (jf _ _ _) (auc (by omega))))) (ap8 (by walk_at "x")))]
   refine fin (by walk_at "z") (by walk_at "z") rfl rfl ?_
   intro e he
   rcases List.mem_append.mp he with q | q
   ·exact first5 e q
   ·simp only [List.mem_cons,List.not_mem_nil,or_false] at q
    rcases q with rfl | rfl | rfl | rfl | rfl
    ·exact ⟨by walk_at "d",adz (ae1 (by rw [List.length_take];omega))⟩
    ·exact ⟨by walk_at "d",adz (ae1 (by rw [List.length_nil];omega))⟩
    ·refine ⟨jm (by rw [EVT.a9m,List.length_singleton];omega) fun x hx=>by rw [EVT.acb hx];exact dO,a6b (d:=odd) ?_ bO⟩
     rw [List.replicate_succ,List.flatten_cons]
     simp
    ·exact ⟨by walk_at "d",a6b (d:=odd) (by simp) bO⟩
    ·exact ⟨by walk_at "d",a6b (d:=odd) (by simp) bO⟩
 obtain ⟨e,o',ee,Po,de',te⟩:=R
 have Co:=Po.clo
 refine ⟨e,o',Dr.of rfl (ar3 (gk ce) (iw _) (iw _)) C (r:=.ok e [o']) ?_ (qw (a85 (by omega) de'.clo) (fun x hx=>ul (by omega) (EVT.a3q Co x hx))) de'.clo Co,Po,de',te⟩
 unfold ik
 rw [j6]
 exact ee
end
theorem a7d {t d:D} {ms:List D} (hd:d∈ms) (h:xr t ms.length d=false):a0y (.tup [t, .tup ms])=false:=by
 show (decide _ && ms.all (xr t ms.length))=false
 rw [a4k hd h,Bool.and_false]
theorem al4 {t:D} {ms:List D} (h:¬ (1≤ms.length∧ms.length≤4)):a0y (.tup [t, .tup ms])=false:=by
 show (decide _ && _)=false
 rw [decide_eq_false h,Bool.false_and]
theorem al5 {t:D} {n:Nat} (h:a5y t=false) (d:D):xr t n d=false:=by
 unfold xr
 split
 ·rename_i g k ds
  have:a08 (.tup [t,g,k])=false:=by
   by_cases q:isTup g=true
   ·obtain ⟨rs,rfl⟩:∃ rs,g = .tup rs:=by cases g<;>first | exact ⟨_,rfl⟩ | simp [isTup] at q
    exact a9o h
   ·exact aia (by simpa using q)
  rw [this,Bool.false_and]
 ·rfl
theorem al6 {t x:D} (h:a5y t=false):a0y (.tup [t,x])=false:=by
 cases x<;>first | rfl | skip
 rename_i ms
 cases ms with
 | nil=>rfl
 | cons m r=>exact a7d (d:=m) (by simp) (al5 h m)
theorem al7 {T:Table} (h:T.Ok) {t' k:D} (hl:K20.ab3 t'≠T.tg.length):a08 (.tup [t', .tup (T.go.map qy),k])=false:=by
 have n1:=h.n1
 obtain ⟨r,er⟩:∃ r,T.go[0]? = some r:=⟨_,List.getElem?_eq_getElem (by omega)⟩
 have rm:r∈T.go:=List.mem_of_getElem? er
 exact a9p (d:=qy r) (List.mem_map.mpr ⟨r,rm,rfl⟩) (a2m (by rw [List.length_map,(h.row r rm).1];omega))
theorem aih {tg:List Nat} {n:Nat} {m:Table × List Deed} (h:ModeOk tg n m):Dp (.tup (m.1.go.map qy))∧Dp (.tup (m.1.ks.map D.int))∧Dp (.tup (dsD m.2)):=by
 have ok:=h.ok
 have n32:=ok.n32
 have s6:=ok.tong.hi
 have dl:=h.dl
 refine ⟨jm (by rw [List.length_map];omega) fun x hx=>?_,jm (by rw [List.length_map,ok.kl];omega) (a7b _),jm (by rw [List.length_map];omega) fun x hx=>?_⟩
 ·obtain ⟨r,hr,rfl⟩:=List.mem_map.mp hx
  exact jm (by rw [List.length_map,(ok.row r hr).1];omega) (a3r r)
 ·obtain ⟨y,_,rfl⟩:=List.mem_map.mp hx
  exact acg y
theorem aii {f g k:SE} {τ:Sd} {h:Hd} {a x b:Int} (e1:f τ h = .ok (.int a) h) (e2:g τ h = .ok (.int x) h) (e3:k τ h = .ok (.int b) h):sCh gLt gLt f g k τ h = .ok (.bl (decide (a<x∧x<b))) h:=by
 unfold sCh
 rw [e1,di,e2,di,show gLt (.int a) (.int x) h = .ok (.bl (decide (a<x))) h from rfl,di]
 by_cases c:a<x
 ·simp only [c,decide_true,true_and]
  rw [e3,di]
  rfl
 ·simp only [c,decide_false,false_and]
noncomputable def uc:SF:=o8 (a2r ik iy ie jc PN.gq PN.az) 13
theorem aq3 {u:O} {N:Nat} {M:Mach} (P:Pen u N) (hN:N≤999980000) (h:M.Ok):∃ d o',Dr uc 2 [M.d] u d o'∧Pen o' (N+100)∧Dp d∧a0y d=false:=by
 have n1:=h.n1
 have n4:=h.n4
 have s1:=h.tong.lo
 have s6:=h.tong.hi
 obtain ⟨ms,hms⟩:∃ ms,ms=M.ms.map a0x:=⟨_,rfl⟩
 have ml:ms.length=M.ms.length:=by rw [hms,List.length_map]
 have dms:∀ x∈ms,Dp x:=fun x hx=>by
  rw [hms] at hx
  obtain ⟨m,hm,rfl⟩:=List.mem_map.mp hx
  obtain ⟨a,b,c⟩:=aih (h.mode m hm)
  exact jm (by simp) (fj a (fj b (fj c qi)))
 have cms:clos 0 ms:=a3s dms
 have eM:M.d = .tup [.str (S M.tg), .tup ms]:=by rw [hms];rfl
 rw [eM]
 obtain ⟨road,u1,r1,P1,c1⟩:=tkN 12 P (by omega) (by omega) (by omega)
 obtain ⟨at',u2,a1,P2,c2⟩:=tkN (ms.length:Nat) P1 (by omega) (by omega) (by omega)
 have C:=P.clo
 have C1:=P1.clo
 have C2:=P2.clo
 obtain ⟨m,em⟩:∃ m,M.ms[at']? = some m:=⟨_,List.getElem?_eq_getElem (by omega)⟩
 have mm:m∈M.ms:=List.mem_of_getElem? em
 have mk:=h.mode m mm
 have ok:=mk.ok
 have etg:=mk.tg
 have dl:=mk.dl
 obtain ⟨dg,dk,dd⟩:=aih mk
 have ixm:gIx (.tup ms) (gf at') [u2] = .ok (a0x m) [u2]:=af9 (by rw [hms,List.getElem?_map,em];rfl)
 obtain ⟨rest,hrest⟩:∃ l,l=sig.filter fun c => !decide (c∈M.tg):=⟨_,rfl⟩
 have rne:∃ c,rest[0]? = some c:=by
  have:rest≠[]:=fun z=>by
   have sub:∀ c∈sig,c∈M.tg:=fun c hc=>by
    apply Classical.byContradiction
    intro nc
    have:c∈rest:=by rw [hrest];exact List.mem_filter.mpr ⟨hc,by simp [nc]⟩
    rw [z] at this
    cases this
   have:=K34.sub_len (l:=sig) (t:=M.tg) am7 sub
   rw [a9f] at this
   omega
  cases rest with
  | nil=>exact absurd rfl this
  | cons c r=>exact ⟨c,rfl⟩
 obtain ⟨c0,ec0⟩:=rne
 have cf:∀ τ:Sd,τ[2]? = some (some (.str (S M.tg)))→sZ (a7y (sIt (sA (jo false 0 PN.gq) bj)) t1 (a03 ik iy ie jc PN.gq PN.az) (a4g ik iy ie jc PN.gq PN.az) [2]) τ [u2] = .ok (.rol (K21.ones rest)) [u2]:=fun τ h2=>by
  rw [hrest,← K21.a9i]
  refine EVT.amk (ahe (fun c:Nat=>D.str (S [c])) (fun c=>if (!decide (c∈M.tg))=true then some (D.str (S [c])) else none) sig (ac0 (aye (PN.a69 _)) (axc sig _)) (n8 (by rw [a9f];omega)) fun c _=>?_) rfl (by rw [K21.a9i];exact K21.akm _ _) (EVT.a3q C2)
  rw [ap7,a9g,abz,h2]
  have q:a03 ik iy ie jc PN.gq PN.az [some (.str (S [c])),some (.str (S M.tg))] [u2] = .ok (!decide (c∈M.tg)) [u2]:=tof (o9 (d8 rfl) (d8 rfl) (K21.aum c M.tg _))
  show (a03 ik iy ie jc PN.gq PN.az [some (.str (S [c])),some (.str (S M.tg))] [u2]).bind _=_
  rw [q,di]
  by_cases hc:c∈M.tg
  ·rw [decide_eq_true hc];rfl
  ·rw [decide_eq_false hc];rfl
 obtain ⟨b0,eb0⟩:∃ c,M.tg[0]? = some c:=⟨_,List.getElem?_eq_getElem (by omega)⟩
 have tl:M.tg.length≤1000000:=by omega
 have w0:gIx (.rol (K21.ones rest)) (.int 0) [u2] = .ok (.str (S [c0])) [u2]:=axb (j:=0) (by rw [List.getElem?_map,ec0];rfl)
 have w1:j8 (.str (S M.tg)) (.str (S [c0])) [u2] = .ok (.str (S (M.tg++[c0]))) [u2]:=aez (n8 (by simp only [List.length_singleton];omega))
 have w2:gIx (.str (S M.tg)) (.int 0) [u2] = .ok (.str (S [b0])) [u2]:=ayd (i:=0) (n8 tl) eb0
 have w3:j8 (.str (S M.tg)) (.str (S [b0])) [u2] = .ok (.str (S (M.tg++[b0]))) [u2]:=aez (n8 (by simp only [List.length_singleton];omega))
 have w4:a6r (.str (S M.tg)) (some 1) none [u2] = .ok (.str (S (M.tg.drop 1))) [u2]:=am6 1 (n8 tl)
 have w5:=EVT.av4 tl [u2]
 have w6:j8 (.str (S (M.tg.take (M.tg.length - 1)))) (.str "\t") [u2] = .ok (.str (S (M.tg.take (M.tg.length - 1)++[9]))) [u2]:=aez (b:=[9]) (n8 (by simp only [List.length_take,List.length_singleton];omega))
 have w7:a0v (.tup ms) (.int 5) [u2] = .ok (.tup (List.replicate 5 ms).flatten) [u2]:=aqe (k:=5) (by intro z;rw [z] at ml;simp at ml;omega) (by omega) (by omega) (by omega)
 have w8:a6r (.tup (List.replicate 5 ms).flatten) none (some 5) [u2] = .ok (.tup ((List.replicate 5 ms).flatten.take 5)) [u2]:=avt _ 5 _
 have zdn:∀ τ:Sd,sZ ajr τ [u2] = .ok (.rod [] []) [u2]:=fun τ=>EVT.aml (EVT.a3q C2)
 have dT:Dp (.str (S M.tg)):=adw (by omega)
 have mmD:a0x m∈ms:=by rw [hms];exact List.mem_map.mpr ⟨m,mm,rfl⟩
 let G:D:=.tup (m.1.go.map qy)
 let Kk:D:=.tup (m.1.ks.map D.int)
 let E:D:=.tup (dsD m.2)
 let τ1:Sd:=[some (.ref 0),some (.tup [.str (S M.tg), .tup ms]),some (.str (S M.tg)),some (.tup ms),some (gf road),some (gf at'),some G,some Kk,some E,some (.rol (K21.ones rest)),none,none,none]
 have cG:MI.clo 0 G:=dg.clo
 have cK:MI.clo 0 Kk:=dk.clo
 have cE:MI.clo 0 E:=dd.clo
 have dG:Dp G:=dg
 have dK:Dp Kk:=dk
 have dE:Dp E:=dd
 have R:∃ d o',toR (a2r ik iy ie jc PN.gq PN.az [some (.ref 0),some (.tup [.str (S M.tg), .tup ms]),none,none,none,none,none,none,none,none,none,none,none] [u]) = .ok d [o']∧Pen o' (N+100)∧Dp d∧a0y d=false:=by
  unfold a2r
  rw [a1v (ahf (d8 rfl) rfl),m8 (by walk_at "x"),m8 (by walk_at "x"),a1v (ahf (o9 (d8 rfl) (d8 rfl) ixm) rfl),m8 (cf _ rfl)]
  by_cases r0:road=0
  ·subst r0
   obtain ⟨v,u3,v1,P3,c3⟩:=tkN 7 P2 (by omega) (by omega) (by omega)
   have vl:v<7:=by omega
   have C3:=P3.clo
   refine EVT.ai7 (h:=[u3]) (d:=.tup [([D.str (S (M.tg++[c0])), .str (S (M.tg++[b0])), .str "", .rol (M.tg.map fun c=>.str (S [c])), .non, .str (S (M.tg.drop 1)), .str (S (M.tg.take (M.tg.length - 1)++[9]))]:List D).getD v .non, .tup ms]) ?_ ⟨u3,rfl,P3.up (by omega),?_⟩
   ·exact congrArg toR (a0w (Eq.trans (ifT (tof (o9 (d8 rfl) (jf _ _ _) (ac1 rfl)))) (Eq.trans (m8 (by walk_at "x")) (lz (by walk_at "x")))))
   ·have:=EVT.a0z (xs:=[D.str (S (M.tg++[c0])), .str (S (M.tg++[b0])), .str "", .rol (M.tg.map fun c=>.str (S [c])), .non, .str (S (M.tg.drop 1)), .str (S (M.tg.take (M.tg.length - 1)++[9]))]) (n:=v) (P:=fun w=>Dp w∧a08 (.tup [w,G,Kk])=false) (by walk_at "z") (by
     have ls:∀ l:List Nat,K20.ab3 (.str (S l))=l.length:=fun l=>by simp only [K20.ab3,a2y]
     intro w hw
     simp only [List.mem_cons,List.not_mem_nil,or_false] at hw
     rcases hw with rfl | rfl | rfl | rfl | rfl | rfl | rfl
     ·exact ⟨by walk_at "d",al7 ok (by rw [ls,etg];walk_at "z")⟩
     ·exact ⟨by walk_at "d",al7 ok (by rw [ls,etg];walk_at "z")⟩
     ·exact ⟨a7a (by decide),al7 ok (by rw [etg];show 0≠_;omega)⟩
     ·exact ⟨by walk_at "d",a9o rfl⟩
     ·exact ⟨by walk_at "d",a9o rfl⟩
     ·exact ⟨by walk_at "d",al7 ok (by rw [ls,etg];walk_at "z")⟩
     ·refine ⟨by walk_at "d",a9o ?_⟩
      rw [K20.ahs]
      unfold K20.apq
      have:(M.tg.take (M.tg.length - 1)++[9]).all (fun c=>decide (c∈sig))=false:=by
       rw [List.all_eq_false]
       exact ⟨9,by simp,by decide +kernel⟩
      rw [this,Bool.and_false,Bool.and_false])
    exact ⟨jm (by simp) (fj this.1 (fj (jm (by omega) dms) qi)),a7d mmD (a2u this.2)⟩
  ·rw [ifN (tof (o9 (d8 rfl) (jf _ _ _) (ac2 (by omega))))]
   by_cases r1':road=1
   ·subst r1'
    obtain ⟨v,u3,v1,P3,c3⟩:=tkN 12 P2 (by omega) (by omega) (by omega)
    have vl:v<12:=by omega
    have C3:=P3.clo
    refine EVT.ai7 (h:=[u3]) (d:=([D.tup [.str (S M.tg), .tup []], .tup [.str (S M.tg), .rol ms], .tup [.str (S M.tg), .tup ((List.replicate 5 ms).flatten.take 5)], .tup [.str (S M.tg)], .tup [.str (S M.tg), .tup ms, .tup []]]++[D.non, .int 7, .rol [.str (S M.tg), .tup ms], .rod [] [], .str (S M.tg), .tup ms, .tup [.tup ms, .str (S M.tg)]]:List D).getD v .non) ?_ ⟨u3,rfl,P3.up (by omega),?_⟩
    ·exact congrArg toR (a0w (Eq.trans (ifT (tof (o9 (d8 rfl) (jf _ _ _) (ac1 rfl)))) (Eq.trans (m8 (by walk_at "x")) (lz (by walk_at "x")))))
    ·refine EVT.a0z (P:=fun d=>Dp d∧a0y d=false) (by walk_at "z") ?_
     have dMs:Dp (.tup ms):=jm (by omega) dms
     intro d hd
     simp only [List.mem_append,List.mem_cons,List.not_mem_nil,or_false] at hd
     rcases hd with (rfl | rfl | rfl | rfl | rfl) | (rfl | rfl | rfl | rfl | rfl | rfl | rfl)
     ·exact ⟨by walk_at "d",rfl⟩
     ·exact ⟨by walk_at "d",rfl⟩
     ·have l5:((List.replicate 5 ms).flatten.take 5).length=5:=by rw [List.length_take,EVT.a9m];omega
      refine ⟨jm (by simp) (fj dT (fj (jm (by omega) fun x hx=>?_) qi)),al4 (by omega)⟩
      obtain ⟨l,hl,hx⟩:=List.mem_flatten.mp (List.mem_of_mem_take hx)
      rw [(List.mem_replicate.mp hl).2] at hx
      exact dms x hx
     ·exact ⟨by walk_at "d",rfl⟩
     ·exact ⟨by walk_at "d",rfl⟩
     ·exact ⟨by walk_at "d",rfl⟩
     ·exact ⟨by walk_at "d",rfl⟩
     ·exact ⟨by walk_at "d",rfl⟩
     ·exact ⟨acf (by simp [Pln,clos]) rfl,rfl⟩
     ·exact ⟨by walk_at "d",rfl⟩
     ·refine ⟨dMs,?_⟩
      rw [hms]
      match M.ms with
      | []=>rfl
      | [_]=>rfl
      | [a,b]=>exact al6 rfl
      | _::_::_::_=>rfl
     ·exact ⟨by walk_at "d",rfl⟩
   ·rw [ifN (tof (o9 (d8 rfl) (jf _ _ _) (ac2 (by omega)))),m8 (by walk_at "x")]
    obtain ⟨v,u3,v1,P3,c3⟩:=tkN 5 P2 (by omega) (by omega) (by omega)
    have vl:v<5:=by omega
    have C3:=P3.clo
    rw [m8 (by walk_at "x")]
    have first:=EVT.a0z (xs:=[D.tup [G,Kk], .tup [G,Kk,E, .tup []], .rol [G,Kk,E], .non, .tup [Kk,G,E]]) (n:=v) (P:=fun d=>Dp d∧xr (.str (S M.tg)) M.ms.length d=false) (by walk_at "z") (by
     intro d hd
     simp only [List.mem_cons,List.not_mem_nil,or_false] at hd
     rcases hd with rfl | rfl | rfl | rfl | rfl
     ·exact ⟨by walk_at "d",rfl⟩
     ·exact ⟨by walk_at "d",rfl⟩
     ·exact ⟨by walk_at "d",rfl⟩
     ·exact ⟨by walk_at "d",rfl⟩
     ·refine ⟨by walk_at "d",a2u ?_⟩
      have k0:=ok.k0
      cases hk:m.1.ks with
      | nil=>rw [hk] at k0;cases k0
      | cons a l=>exact a9p (d:=.int a) (by simp [hk]) rfl)
    generalize ([D.tup [G,Kk], .tup [G,Kk,E, .tup []], .rol [G,Kk,E], .non, .tup [Kk,G,E]]:List D).getD v .non=md at first
    have fin:∀ {md:D} {o':O} {τ:Sd},Dp md∧xr (.str (S M.tg)) M.ms.length md=false→Pen o' (N+100)→τ[2]? = some (some (.str (S M.tg)))→τ[3]? = some (some (.tup ms))→τ[5]? = some (some (gf at'))→τ[12]? = some (some md)→∃ d o'',toR (ud (sA MI.kh (aj (sV 2) (aj (sA (jo false 3 jc) (aj (sV 3) (aj (sV 5) (aj (sV 12) bj)))) bj))) τ [o']) = .ok d [o'']∧Pen o'' (N+100)∧Dp d∧a0y d=false:=fun {md o' τ} b Po t2 t3 t5 t12=>by
     have q:=ab7 (ws:=ms) (k:=at') (d:=md) (by omega)
     refine ⟨.tup [.str (S M.tg), .tup (wth ms at' md)],o',congrArg toR (lz (ym (d8 t2) (a3v (d8 t3) (d8 t5) (d8 t12) (ai9 (by omega) cms b.1.clo _)) afa)),Po,jm (by simp) (fj dT (fj (ab8 (by omega) dms b.1) qi)),a7d q.2 (by rw [q.1,ml];exact b.2)⟩
    by_cases q1:2<road∧road<6
    ·obtain ⟨g',u4,D4,P4,dg',tg'⟩:=al3 P3 (by omega) ok
     rw [etg] at tg'
     have c4:=EVT.avu (h:=[]) D4
     rw [a1v (p:=sIf _ _ _) (Eq.trans (ifT (tof ((aii (jf _ _ _) (d8 rfl) (jf _ _ _)).trans (by rw [decide_eq_true (by omega)])))) (ap8 (a3v (ym (d8 rfl) (d8 rfl) c4) (d8 rfl) (d8 rfl) ama)))]
     rw [ifN (tof ((aii (jf _ _ _) (d8 rfl) (jf _ _ _)).trans (by rw [decide_eq_false (by omega)])))]
     rw [ifN (tof (o9 (d8 rfl) (jf _ _ _) (ap9 (by omega))))]
     exact fin ⟨jm (by simp) (fj dg' (fj dK (fj dE qi))),a2u tg'⟩ (P4.up (by omega)) rfl rfl rfl rfl
    ·rw [ifN (tof ((aii (jf _ _ _) (d8 rfl) (jf _ _ _)).trans (by rw [decide_eq_false (by omega)])))]
     by_cases q2:5<road∧road<9
     ·obtain ⟨g',u4,D4,P4,dg',tg'⟩:=aie P3 (by omega) ok
      rw [etg] at tg'
      have c4:=EVT.avu (h:=[]) D4
      rw [a1v (p:=sIf _ _ _) (Eq.trans (ifT (tof ((aii (jf _ _ _) (d8 rfl) (jf _ _ _)).trans (by rw [decide_eq_true (by omega)])))) (ap8 (a3v (d8 rfl) (ym (d8 rfl) (d8 rfl) c4) (d8 rfl) ama)))]
      rw [ifN (tof (o9 (d8 rfl) (jf _ _ _) (ap9 (by omega))))]
      exact fin ⟨jm (by simp) (fj dG (fj dg' (fj dE qi))),a2u tg'⟩ (P4.up (by omega)) rfl rfl rfl rfl
     ·rw [ifN (tof ((aii (jf _ _ _) (d8 rfl) (jf _ _ _)).trans (by rw [decide_eq_false (by omega)])))]
      by_cases q3:8<road
      ·have ne:m.1.ks≠[]:=by intro z;have:=ok.k0;rw [z] at this;cases this
       obtain ⟨mi,mx⟩:=aag ne
       have mk':=ok.kk _ mi
       have kd:=mk.kd _ mi
       unfold KOk at mk'
       obtain ⟨l,hl⟩:=Int.eq_ofNat_of_zero_le (show 0≤mxI m.1.ks+1 by omega)
       obtain ⟨g',u4,D4,P4,dg',tg'⟩:=aig (T:=m.1) (ds:=m.2) (many:=ms.length) (l:=l) P3 (by omega) dl hl (by omega) (by omega) G (.str (S M.tg))
       have c4:=EVT.avu (h:=[]) D4
       rw [ml] at tg'
       rw [a1v (p:=sIf _ _ _) (Eq.trans (ifT (tof (o9 (d8 rfl) (jf _ _ _) (auc (by omega))))) (ap8 (a3v (d8 rfl) (d8 rfl) (EVX.azz (d8 rfl) (d8 rfl) (o9 (uz (d8 rfl) (ah6 ne)) (jf _ _ _) (ye.trans (by rw [hl]))) (uz (d8 rfl) EVT.ami) c4) ama)))]
       exact fin ⟨jm (by simp) (fj dG (fj dK (fj dg' qi))),tg'⟩ (P4.up (by omega)) rfl rfl rfl rfl
      ·rw [ifN (tof (o9 (d8 rfl) (jf _ _ _) (ap9 (by omega))))]
       exact fin first (P3.up (by omega)) rfl rfl rfl rfl
 obtain ⟨d,o',ee,Po,dd',td⟩:=R
 have Co:=Po.clo
 refine ⟨d,o',Dr.of rfl (by intro x hx;rw [List.mem_singleton] at hx;subst hx;exact gk (dj (nj _) (dj (gk cms) n6))) C (r:=.ok d [o']) ?_ (qw (a85 (by omega) dd'.clo) (fun x hx=>ul (by omega) (EVT.a3q Co x hx))) dd'.clo Co,Po,dd',td⟩
 unfold uc
 rw [j6]
 exact ee
def chn (n s:Nat):List (List Nat):=(List.range n).map fun r=>List.replicate s (min (r+1) (n - 1))
def kch (n:Nat):List Int:=(List.range n).map fun r=>if 0<r then 0 else -1
noncomputable def ph:SF:=o8 a2s 4
theorem aij (s x:Nat):(List.replicate s [gf x]).flatten=(List.replicate s x).map gf:=by
 induction s with
 | zero=>rfl
 | succ s ih=>rw [List.replicate_succ,List.flatten_cons,ih];rfl
theorem aik {tg:List Nat} (T1:Tongue tg) {n:Nat} (n1:1≤n) (n33:n≤33) {dd:D} (cd:MI.clo 0 dd):Pu ph 3 [.str (S tg),gf n,dd] (.tup [.tup ((chn n tg.length).map qy), .tup ((kch n).map D.int),dd]):=by
 have s1:=T1.lo
 have s6:=T1.hi
 have c1:clos 0 ((chn n tg.length).map qy):=jg fun x _=>gk (m5 _)
 have c2:clos 0 ((kch n).map D.int):=jg fun x _=>iw x
 have cr:MI.clo 0 (.tup [.tup ((chn n tg.length).map qy), .tup ((kch n).map D.int),dd]):=gk (dj (gk c1) (dj (gk c2) (dj cd n6)))
 refine Pu.of rfl (ar3 (nj _) (iw _) cd) (r:=.ok (.tup [.tup ((chn n tg.length).map qy), .tup ((kch n).map D.int),dd]) []) ?_ (qw cr (by simp)) cr
 unfold ph
 rw [j6]
 show toR (a2s [some (.str (S tg)),some (gf n),some dd,none] [])=_
 unfold a2s
 have q1:∀ τ:Sd,τ[0]? = some (some (.str (S tg)))→τ[1]? = some (some (gf n))→sZ (uy (sRg a2a (aj (sV 1) bj)) t1 a05 [0,1]) τ [] = .ok (.rol ((chn n tg.length).map qy)) []:=fun τ h0 h1=>by
  have e:=a71 (fe:=a05) (t:=t1) (ix:=[0,1]) (τ:=τ) (h:=[]) (fun i:Nat=>D.int (i:Nat)) (fun r=>qy (List.replicate tg.length (min (r+1) (n - 1)))) (List.range n) (a5j (n:=n) (d8 h1) (n8 (by omega))) (n8 (by rw [List.length_range];omega)) fun r hr=>by
   rw [List.mem_range] at hr
   rw [zb,a9g,a9g,abz,h0,h1]
   unfold a05
   have g1:a4s [.int ((r:Int)+1), .int ((n:Int) - 1)] [] = .ok (gf (min (r+1) (n - 1))) []:=by
    show R.ok (D.int (if ((n:Int) - 1)<(r:Int)+1 then ((n:Int) - 1) else (r:Int)+1)) []=_
    congr 2
    split<;>omega
   refine o9 (uz (ym (o9 (d8 rfl) (jf _ _ _) ye) (o9 (d8 rfl) (jf _ _ _) (a74 _ _)) g1) EVX.aqj) (uz (d8 rfl) (af0 (n8 (by omega)))) ?_
   refine (aqe (k:=tg.length) (by simp) s1 (by omega) (by simp)).trans ?_
   rw [aij]
  have e2:(List.range n).map (fun r=>qy (List.replicate tg.length (min (r+1) (n - 1))))=(chn n tg.length).map qy:=by unfold chn;rw [List.map_map];rfl
  rw [e2] at e
  exact EVT.amk e rfl c1 EVT.acd
 have q2:∀ τ:Sd,τ[1]? = some (some (gf n))→sZ (uy (sRg a2a (aj (sV 1) bj)) t1 a06 []) τ [] = .ok (.rol ((kch n).map D.int)) []:=fun τ h1=>by
  have e:=a71 (fe:=a06) (t:=t1) (ix:=[]) (τ:=τ) (h:=[]) (fun i:Nat=>D.int (i:Nat)) (fun r=>D.int (if 0<r then 0 else -1)) (List.range n) (a5j (n:=n) (d8 h1) (n8 (by omega))) (n8 (by rw [List.length_range];omega)) fun r hr=>by
   rw [zb,abz]
   unfold a06
   by_cases q:0<r
   ·rw [if_pos q]
    exact o9 (am8 (jf _ _ _) (ac3 _)) (uz (o9 (d8 rfl) (jf _ _ _) (auc (by omega))) rfl) ye
   ·rw [if_neg q]
    exact o9 (am8 (jf _ _ _) (ac3 _)) (uz (o9 (d8 rfl) (jf _ _ _) (ap9 (by omega))) rfl) ye
  have e2:(List.range n).map (fun r=>D.int (if 0<r then 0 else -1))=(kch n).map D.int:=by unfold kch;rw [List.map_map];rfl
  rw [e2] at e
  exact EVT.amk e rfl c2 EVT.acd
 refine Eq.trans (congrArg toR (m8 (uz (q1 _ rfl rfl) rfl))) ?_
 exact congrArg toR (lz (a3v (d8 rfl) (uz (q2 _ rfl) rfl) (d8 rfl) ama))
theorem av8 {n s r:Nat} (h:r<n):(chn n s)[r]? = some (List.replicate s (min (r+1) (n - 1))):=by
 unfold chn
 rw [List.getElem?_map,List.getElem?_range h]
 rfl
theorem a3u (n s:Nat):(chn n s).length=n:=by unfold chn;rw [List.length_map,List.length_range]
theorem ail (n:Nat):(kch n).length=n:=by unfold kch;rw [List.length_map,List.length_range]
theorem av9 {tg:List Nat} (T1:Tongue tg) {n:Nat} (n1:1≤n) (n32:n≤32):Table.Ok ⟨tg,chn n tg.length,kch n⟩:=by
 refine ⟨T1,by show 1≤(chn n tg.length).length;rw [a3u];exact n1,by show (chn n tg.length).length≤32;rw [a3u];exact n32,fun r hr=>?_,by show (kch n).length=(chn n tg.length).length;rw [a3u,ail],?_,fun k hk=>?_⟩
 ·obtain ⟨i,hi,rfl⟩:=List.mem_map.mp hr
  rw [List.mem_range] at hi
  refine ⟨List.length_replicate,fun x hx=>?_⟩
  rw [(List.mem_replicate.mp hx).2,show (Table.go ⟨tg,chn n tg.length,kch n⟩).length=n from a3u _ _]
  omega
 ·show (kch n)[0]? = some (-1)
  unfold kch
  rw [List.getElem?_map,List.getElem?_range n1]
  rfl
 ·obtain ⟨i,hi,rfl⟩:=List.mem_map.mp hk
  unfold KOk
  split<;>omega
theorem ava {s n:Nat} (s1:1≤s) (r:Nat):r<n→Rch (chn n s) r:=by
 induction r with
 | zero=>exact fun _ Q q0 _=>q0
 | succ r ih =>
  intro h Q q0 st
  refine st r (ih (by omega) Q q0 st) (r+1) ?_
  rw [av8 (by omega)]
  show r+1∈List.replicate s (min (r+1) (n - 1))
  rw [show min (r+1) (n - 1)=r+1 by omega]
  exact List.mem_replicate.mpr ⟨by omega,rfl⟩
theorem a7e {t:D} {ms:List D} (l:1≤ms.length∧ms.length≤4) (h:∀ m∈ms,xr t ms.length m=true):a0y (.tup [t, .tup ms])=true:=by
 show (decide _ && ms.all (xr t ms.length))=true
 rw [decide_eq_true l,Bool.true_and,List.all_eq_true]
 exact h
theorem aq4 {tg:List Nat} {go:List (List Nat)} {ks:List Int} {ds:List Deed} (h:Table.Ok ⟨tg,go,ks⟩) (dl:ds.length≤6):Dp (mdD go ks ds):=by
 have n32:go.length≤32:=h.n32
 have s6:tg.length≤6:=h.tong.hi
 have kl:ks.length=go.length:=h.kl
 refine jm (by simp) (fj (jm (by rw [List.length_map];omega) fun x hx=>?_) (fj (jm (by rw [List.length_map];omega) (a7b _)) (fj (jm (by rw [List.length_map];omega) fun x hx=>?_) qi)))
 ·obtain ⟨r,hr,rfl⟩:=List.mem_map.mp hx
  have:r.length=tg.length:=(h.row r hr).1
  exact jm (by rw [List.length_map];omega) (a3r r)
 ·obtain ⟨y,_,rfl⟩:=List.mem_map.mp hx
  exact acg y
theorem avb {M:Mach} (h:M.Ok):Dp M.d∧a0y M.d=true∧∀ m∈M.ms.map a0x,∃ go ks ds,m=mdD go ks ds:=by
 have n1:=h.n1
 have n4:=h.n4
 have s6:=h.tong.hi
 have at':∀ m∈M.ms,Table.Ok ⟨M.tg,m.1.go,m.1.ks⟩:=fun m hm=>by
  have:=(h.mode m hm).ok
  have e:=(h.mode m hm).tg
  rw [← e]
  exact this
 refine ⟨jm (by simp) (fj (adw (by omega)) (fj (jm (by rw [List.length_map];omega) fun x hx=>?_) qi)),a7e (by rw [List.length_map];omega) fun x hx=>?_,fun x hx=>?_⟩
 ·obtain ⟨m,hm,rfl⟩:=List.mem_map.mp hx
  exact aq4 (at' m hm) (h.mode m hm).dl
 ·obtain ⟨m,hm,rfl⟩:=List.mem_map.mp hx
  have k:=h.mode m hm
  rw [List.length_map]
  exact a79 (at' m hm) k.rc k.dl k.kd k.dk
 ·obtain ⟨m,hm,rfl⟩:=List.mem_map.mp hx
  exact ⟨_,_,_,rfl⟩
theorem al8:∀ s:Nat,1≤s→s≤6→(K20.met [List.replicate s 0,List.replicate s 1]).length≠2:=by
 intro s h1 h2
 rcases (show s=1∨s=2∨s=3∨s=4∨s=5∨s=6 by omega) with rfl | rfl | rfl | rfl | rfl | rfl<;>decide
noncomputable def al9:SF:=o8 (K67.akj uc PN.jh ph PN.my PN.v6 K67.lq (fu 6) PN.gq PN.u9 d9) 10
theorem avc (ns:List Int):∃ h',K67.al9 [.scr (ns.map D.int)] [] = .ok (.bl true) h':=by
 obtain ⟨o,P,e0⟩:=aui ns []
 let sc:D:=.scr (ns.map D.int)
 have lp:=a0r (g:=kN 2) (b:=K67.a9b uc PN.jh ph PN.my PN.v6 K67.lq (fu 6) PN.gq PN.u9 d9) gf
  (fun pre τ hh=>∃ (u:O) (i t3 t4 t5:Option D),τ=[some sc,some (.ref 0),i,t3,t4,t5,none,none,none,none]∧hh=[u]∧Pen u (3000*pre.length)∧(pre=[]∨∃ tg,Tongue tg∧t3=some (.str (S tg))))
  (List.range 4) [some sc,some (.ref 0),none,none,none,none,none,none,none,none] [o] ?_ ⟨o,none,none,none,none,rfl,rfl,P, .inl rfl⟩
 ·obtain ⟨τ',h',e,u,i,t3,t4,t5,rfl,rfl,Pu,ht⟩:=lp
  obtain ⟨tg,T1,rfl⟩:∃ tg,Tongue tg∧t3=some (.str (S tg)):=by
   rcases ht with z | z
   ·exact absurd z (by decide)
   ·exact z
  have s1:=T1.lo
  have s6:=T1.hi
  rw [List.length_range] at Pu
  obtain ⟨ds,u1,dl,dk,D1,P1⟩:=ado (size:=6) (many:=4) Pu (by omega) (by omega) (by omega) (by omega)
  have c1:jo false 3 PN.jh [.ref 0, .int 6, .int 4] [u] = .ok (.tup (dsD ds)) [u1]:=D1 0 _ rfl
  have cds:MI.clo 0 (.tup (dsD ds)):=gk (a4i _ _)
  let z0:List (List Nat):=[List.replicate tg.length 0]
  have ok32:=av9 T1 (n:=32) (by omega) (by omega)
  have rc32:=fun r (hr:r<(chn 32 tg.length).length)=>ava (s:=tg.length) (n:=32) s1 r (by rw [a3u] at hr;exact hr)
  have ok1:Table.Ok ⟨tg,z0,[-1]⟩:=⟨T1,by show 1≤1;omega,by show 1≤32;omega,fun r hr=>by
   have:r=List.replicate tg.length 0:=List.mem_singleton.mp hr
   subst this
   refine ⟨List.length_replicate,fun x hx=>?_⟩
   rw [(List.mem_replicate.mp hx).2]
   show 0<1
   omega,rfl,rfl,fun k hk=>by have:k = -1:=List.mem_singleton.mp hk;subst this;unfold KOk;omega⟩
  have rc1:∀ r,r<z0.length→Rch z0 r:=fun r hr Q q0 _=>by
   have:r=0:=by have:r<1:=hr;omega
   subst this
   exact q0
  have m32:∀ n,n=4→xr (.str (S tg)) n (mdD (chn 32 tg.length) (kch 32) ds)=true:=fun n hn=>a79 ok32 rc32 (by omega) (fun k hk=>by obtain ⟨j,_,rfl⟩:=List.mem_map.mp hk;rw [dl];split<;>omega) (by rw [hn];exact dk)
  have m1:∀ n,xr (.str (S tg)) n (mdD z0 [-1] [])=true:=fun n=>a79 ok1 rc1 (by simp) (fun k hk=>by have:k = -1:=List.mem_singleton.mp hk;subst this;simp) nofun
  obtain ⟨A,hA⟩:∃ A,A=mdD (chn 32 tg.length) (kch 32) ds:=⟨_,rfl⟩
  obtain ⟨B,hB⟩:∃ B,B=mdD z0 [-1] []:=⟨_,rfl⟩
  have dA:Dp A:=by rw [hA];exact aq4 ok32 (by omega)
  have dB:Dp B:=by rw [hB];exact aq4 ok1 (by simp)
  have dT:Dp (.str (S tg)):=adw (by omega)
  let wide:D:=.tup [.str (S tg), .tup [A,A,A,B]]
  have dW:Dp wide:=jm (by simp) (fj dT (fj (jm (by simp) (fj dA (fj dA (fj dA (fj dB qi))))) qi))
  have tW:a0y wide=true:=a7e (by simp) fun m hm=>by
   simp only [List.mem_cons,List.not_mem_nil,or_false] at hm
   rcases hm with rfl | rfl | rfl | rfl
   ·rw [hA];exact m32 _ rfl
   ·rw [hA];exact m32 _ rfl
   ·rw [hA];exact m32 _ rfl
   ·rw [hB];exact m1 _
  have sW:=aca (x:=S tg) (ms:=[A,A,A,B]) fun m hm=>by
   simp only [List.mem_cons,List.not_mem_nil,or_false] at hm
   rcases hm with rfl | rfl | rfl | rfl
   ·exact ⟨_,_,_,hA⟩
   ·exact ⟨_,_,_,hA⟩
   ·exact ⟨_,_,_,hA⟩
   ·exact ⟨_,_,_,hB⟩
  let last:D:=.tup [.str (S tg), .tup [B]]
  have dL:Dp last:=jm (by simp) (fj dT (fj (jm (by simp) (fj dB qi)) qi))
  have tL:a0y last=true:=a7e (by simp) fun m hm=>by rw [List.mem_singleton.mp hm,hB];exact m1 _
  have sL:=aca (x:=S tg) (ms:=[B]) fun m hm=>by rw [List.mem_singleton.mp hm];exact ⟨_,_,_,hB⟩
  let stay:D:=.tup [.tup [.str "stay"]]
  have cst:MI.clo 0 stay:=gk (dj (gk (dj (nj _) n6)) n6)
  let far:D:=.tup [.str (S tg), .tup [.tup [.tup ((chn 33 tg.length).map qy), .tup ((kch 33).map D.int),stay]]]
  have dF:Dp far:=by
   refine jm (by simp) (fj dT (fj (jm (by simp) (fj (jm (by simp) (fj (jm (by rw [List.length_map,a3u];omega) fun x hx=>?_) (fj (jm (by rw [List.length_map,ail];omega) (a7b _)) (fj (jm (by simp) (fj (jm (by simp) (fj (a7a (by decide)) qi)) qi)) qi)))) qi)) qi))
   obtain ⟨r,hr,rfl⟩:=List.mem_map.mp hx
   obtain ⟨j,_,rfl⟩:=List.mem_map.mp hr
   exact jm (by rw [List.length_map,List.length_replicate];omega) (a3r _)
  have tF:a0y far=false:=a7d (List.mem_singleton.mpr rfl) (a2u (aib (by rw [List.length_map,a3u];omega)))
  let lone:D:=.tup [.tup [.tup [qy (List.replicate tg.length 0),qy (List.replicate tg.length 1)], .tup [.int (-1), .int (-1)], .tup []]]
  have dLn:Dp (.tup [.str (S tg),lone]):=by
   have rr:∀ j,Dp (qy (List.replicate tg.length j)):=fun j=>jm (by rw [List.length_map,List.length_replicate];omega) (a3r _)
   exact jm (by simp) (fj dT (fj (jm (by simp) (fj (jm (by simp) (fj (jm (by simp) (fj (rr 0) (fj (rr 1) qi))) (fj (jm (by simp) (fj (yf _) (fj (yf _) qi))) (fj (jm (by simp) qi) qi)))) qi)) qi))
  have tLn:a0y (.tup [.str (S tg),lone])=false:=by
   refine a7d (List.mem_singleton.mpr rfl) (a2u ?_)
   show (a5y _ && (decide _ && (K20.a5k _ _ && ((_ && _) && decide ((K20.met (K20.gOf ([List.replicate tg.length 0,List.replicate tg.length 1].map qy))).length=2)))))=false
   rw [adu,decide_eq_false (al8 _ s1 s6),Bool.and_false,Bool.and_false,Bool.and_false,Bool.and_false]
  have z0row:∀ (j:Nat) (hh:Hd),a0v (.tup [gf j]) (.int tg.length) hh = .ok (qy (List.replicate tg.length j)) hh:=fun j hh=>(aqe (k:=tg.length) (by simp) s1 (by omega) (by simp)).trans (by rw [aij])
  have r0:a0v (.tup [.int 0]) (.int tg.length) [u1] = .ok (qy (List.replicate tg.length 0)) [u1]:=z0row 0 _
  have r1:a0v (.tup [.int 1]) (.int tg.length) [u1] = .ok (qy (List.replicate tg.length 1)) [u1]:=z0row 1 _
  have lS:um [.str (S tg)] [u1] = .ok (.int tg.length) [u1]:=af0 (n8 (by omega))
  have lo1:jo false 3 ph [.str (S tg), .int 32, .tup (dsD ds)] [u1] = .ok A [u1]:=by rw [hA];exact aik T1 (n:=32) (by omega) (by omega) cds _
  have lo2:jo false 3 ph [.str (S tg), .int 33,stay] [u1] = .ok (.tup [.tup ((chn 33 tg.length).map qy), .tup ((kch 33).map D.int),stay]) [u1]:=aik T1 (n:=33) (by omega) (by omega) cst _
  have mu:a0v (.tup [A]) (.int 3) [u1] = .ok (.tup [A,A,A]) [u1]:=aqe (k:=3) (by simp) (by omega) (by omega) (by simp)
  have eB:B = .tup [.tup [qy (List.replicate tg.length 0)], .tup [.int (-1)], .tup []]:=hB
  have sl3:a6r (.tup [A,A,A,B]) (some 3) none [u1] = .ok (.tup [B]) [u1]:=adm _ 3 _
  have iW:gIx wide (.int 1) [u1] = .ok (.tup [A,A,A,B]) [u1]:=af9 (j:=1) rfl
  have kW:a1u 1 d9 [wide] [u1] = .ok wide [u1]:=a9l (dW 5) tW _
  have kL:a1u 1 d9 [last] [u1] = .ok last [u1]:=a9l (dL 5) tL _
  have kF:=a5m (dF 5) tF
  have kLn:=a5m (dLn 5) tLn
  refine ⟨[u1],?_⟩
  unfold K67.al9
  rw [j6]
  show toR (K67.akj uc PN.jh ph PN.my PN.v6 K67.lq (fu 6) PN.gq PN.u9 d9 [some sc,none,none,none,none,none,none,none,none,none] [])=_
  unfold K67.akj
  refine Eq.trans (congrArg toR (m8 (uz (d8 rfl) e0))) ?_
  refine Eq.trans (congrArg toR (ab1 (a5j (n:=4) (jf _ _ _) (n8 (by omega))))) ?_
  refine Eq.trans (congrArg (fun z=>toR (MI.thn z _)) e) ?_
  rw [a0i]
  refine Eq.trans (congrArg toR (m8 (by walk_at "x"))) ?_
  refine Eq.trans (congrArg toR (m8 (d:=wide) (h1:=[u1]) (by
   rw [show wide = .tup [.str (S tg), .tup ([A,A,A]++[D.tup [.tup [qy (List.replicate tg.length 0)], .tup [.int (-1)], .tup []]])] by rw [← eB];rfl]
   walk_at "x"))) ?_
  refine Eq.trans (congrArg toR (m8 (d:=far) (h1:=[u1]) (ym (d8 rfl) (uz (a3v (d8 rfl) (jf _ _ _) (uz (uz (jf _ _ _) EVX.aqj) EVX.aqj) lo2) EVX.aqj) afa))) ?_
  refine Eq.trans (congrArg toR (ifN (orF (a2z (nu (ym (uz (d8 rfl) kW) (d8 rfl) (sW _)) (j5 _))) (a2z (nu (uz (d8 rfl) (kF _)) (j5 _)))))) ?_
  refine Eq.trans (congrArg toR (m8 (d:=lone) (h1:=[u1]) (by
   rw [show lone = .tup [.tup [.tup ([qy (List.replicate tg.length 0)]++[qy (List.replicate tg.length 1)]), .tup [.int (-1), .int (-1)], .tup []]] from rfl]
   walk_at "x"))) ?_
  have el:∀ τ:Sd,τ[3]? = some (some (.str (S tg)))→τ[7]? = some (some wide)→sA MI.kh (aj (sV 3) (aj (a0h (s2 gIx (sV 7) (sC (.int 1))) (oS (sC (.int 3))) oN) bj)) τ [u1] = .ok last [u1]:=fun τ h3 h7=>ym (d8 h3) (avs (o9 (d8 h7) (jf _ _ _) iW) (avr (jf _ _ _)) rfl sl3) afa
  exact congrArg toR (lz (a3a (uz (ym (d8 rfl) (d8 rfl) afa) (kLn _)) (ym (uz (el _ rfl rfl) kL) (el _ rfl rfl) (sL _))))
 ·rintro pre x post τ hh all ⟨u,i,t3,t4,t5,rfl,rfl,Pu,_⟩
  obtain ⟨rfl,hx⟩:=a6a all
  obtain ⟨tg,u1,t1',t4',nd,sb,D1,P1⟩:=api (most:=4) (all:=sig) Pu (by omega) (by omega) (by rw [a9f];omega) (by rw [a9f];omega) am7
  have T1:Tongue tg:=⟨t1',by omega,nd,sb⟩
  have c1:jo false 3 PN.u9 [.ref 0, .str (S sig), .int 4] [u] = .ok (.str (S tg)) [u1]:=D1 0 _ rfl
  obtain ⟨M,u2,hM,et,D2,P2⟩:=af5 (most:=8) P1 (by omega) T1 (by omega) (by omega)
  have c2:jo false 3 PN.my [.ref 0, .str (S tg), .int 8] [u1] = .ok M.d [u2]:=D2 0 _ rfl
  obtain ⟨b,u3,D3,P3,db,tb⟩:=aq3 P2 (by omega) hM
  have c3:jo false 2 uc [.ref 0,M.d] [u2] = .ok b [u3]:=D3 0 _ rfl
  obtain ⟨dM,tM,fM⟩:=avb hM
  have kM:a1u 1 d9 [M.d] [u3] = .ok M.d [u3]:=a9l (dM 5) tM _
  have sM:MI.Pu (fu 6) 2 [M.d,M.d] (.bl true):=aca fM
  have kB:=a5m (db 5) tb
  refine ⟨_,_,rfl,[some sc,some (.ref 0),some (gf pre.length),some (.str (S tg)),some M.d,some b,none,none,none,none],[u3],?_,u3,_,_,_,_,rfl,rfl,P3.up (by rw [List.length_append,List.length_singleton];omega), .inr ⟨tg,T1,rfl⟩⟩
  unfold K67.a9b
  refine Eq.trans (m8 (a3v (d8 rfl) (aye (PN.a69 _)) (jf _ _ _) c1)) ?_
  refine Eq.trans (m8 (a3v (d8 rfl) (d8 rfl) (jf _ _ _) c2)) ?_
  refine Eq.trans (m8 (ym (d8 rfl) (d8 rfl) c3)) ?_
  refine Eq.trans (ifN (orF (a2z (nu (ym (uz (d8 rfl) kM) (d8 rfl) (sM _)) (j5 _))) (a2z (nu (uz (d8 rfl) (kB _)) (j5 _))))) ?_
  exact Eq.trans (ifF (a2z (nu (ym (uz (d8 rfl) kM) (d8 rfl) (sM _)) (j5 _)))) rfl
end K67
namespace L2
open PySem PySem.Spec PySem.W PyProof.Rows
theorem aq5 {K:Frag} {C:Addr} (q:excIn K C [.type "ValueError", .type "Exception", .type "BaseException", .type "object"] "ValueError.__new__" = true):XCls K C:=by
 unfold excIn at q
 split at q
 ·rename_i dd cd sl lo
  split at q
  ·rename_i C' bm k0 k1 k2 k3 n k5 mo ss
   simp only [Bool.and_eq_true,beq_iff_eq,Bool.not_eq_true'] at q
   obtain ⟨⟨⟨⟨⟨e1,e2⟩,nd⟩,tl⟩,no⟩,ni⟩:=q
   subst e1 e2
   cases cd
   dsimp only at mo nd no ni
   subst mo nd
   obtain ⟨l⟩:=sl
   simp only at ss
   subst ss
   exact ⟨_,_,_,_,bm,_,_,_,_,_,dd,k0,k1,k2,k3,k5,lo,no,ni,tl⟩
  ·cases q
 ·cases q
end L2
namespace K67
open PySem PySem.Spec L2 MI
section
variable {P:Program} {w:World} {K:PySem.W.Frag} {mg:Str→Option Value} {base:Heap} {f:Addr} {fd:FuncData}
theorem avd {f_22:Addr} {e_22:FuncData} (Fu_22:Fun K "_law_same" "_law_same" (top 42) f_22 e_22) (mk_22:mg "_law_same" = some (.ref f_22)) (kp_22:PySem.W.keepIn K (.ref f_22)=true) (bd_22:Binds K e_22 ["_law_found", "_law_due"] []) (M:Nm mg):∀ n:Nat,Dn P w K mg base (n+0) "_law_same" ["_law_found", "_law_due"] (qu K 2 (K67.fu n)) f_22 e_22:=by
 intro n
 induction n with
 | zero=>exact ⟨awv (ps:=["_law_found", "_law_due"]),mk_22,kp_22,bd_22⟩
 | succ n ih =>
  have e:n+1+0=n+0+1:=by omega
  rw [e]
  have s_law_same:=ih
  exact ⟨qg Fu_22 atz (azk M s_law_same (by omega)),mk_22,kp_22,bd_22⟩
end
def ala (K:PySem.W.Frag):Sp:=fun vs H Q _=>∃ (a:Addr) (ns:List Int),vs=[.ref a]∧SqF K H a (ns.map V.int)∧ns.length≤63∧∀ H',Q (.bl true) H'
theorem ab9 {K:PySem.W.Frag} {ι:List Addr} {H:Hp}:∀ ns:List Int,Reps K ι H (ns.map V.int) (ns.map D.int)
 | []=>.nil
 | n::ns=>.cons (.int n) (ab9 ns)
theorem ave {K:PySem.W.Frag} (vs:List V) (H:Hp) (Q:VK) (E:XK) (h:ala K vs H Q E):qu K 1 K67.al9 vs H Q E:=by
 obtain ⟨a,ns,rfl,hS,hl,q⟩:=h
 obtain ⟨h',e⟩:=K67.avc ns
 refine ⟨rfl,[],[.scr (ns.map D.int)],[], .cons (.scr hS (ab9 ns)) .nil,⟨List.nodup_nil,rfl,fun i a o z=>by simp at z⟩,?_⟩
 rw [e]
 intro ι' H' b g r hr
 cases r
 exact q H'
theorem avf {K:PySem.W.Frag} {H:Hp} {a:Addr} {vs:List V} (hO:Only H) (hS:SqL K H a vs):SqF K H a vs:=by
 rcases hS with r | r
 ·rcases r with r | ⟨o,r⟩
  ·rcases hO a with z | ⟨o,xs,z⟩<;>rw [z] at r<;>cases r
  ·exact .inl ⟨o,r⟩
 ·exact .inr (.inr r)
abbrev fo (x:Str) (t:Stmt) (kV dc pm:Value) (an:Option Addr) (cd ct:Value):=PySem.W.fnOf x x (a4n t) (j9 t) (bf t) .none kV dc pm an cd ct
theorem avh {l:PySem.W.OpenLaw} {w:World} {K:PySem.W.Frag} {h:Heap} {mg:Str→Option Value} {fa f1 f2 f3 f4 f5 f6 f7 f8 f9 f10 f11 f12 f13 f14 f15 f16 f17 f18 f19 f20 f21 f22 f23 f24 f25 f26 f27 f28 f29 f30 f31:Addr} (X:K.In h) (G:h.Ns mainGlobals mg) (hfa:mg "law" = some (.ref fa))
  {od1 an1 od2 an2 od3 an3 od4 an4 od5 an5 od6 an6 od7 an7 od8 an8 od9 an9 od10 an10 od11 an11 od12 an12 od13 an13 od14 an14 od15 an15 od16 an16 od17 an17 od18 an18 od19 an19 od20 an20 od21 an21 od22 an22 od23 an23 od24 an24 od25 an25 od26 an26 od27 an27 od28 an28 od29 an29 od30 an30 od31 an31:Option Addr} {sl1 sl2 sl3 sl4 sl5 sl6 sl7 sl8 sl9 sl10 sl11 sl12 sl13 sl14 sl15 sl16 sl17 sl18 sl19 sl20 sl21 sl22 sl23 sl24 sl25 sl26 sl27 sl28 sl29 sl30 sl31:Array (Option Value)} {oc1 kV1 dc1 pm1 cd1 ct1 oc2 kV2 dc2 pm2 cd2 ct2 oc3 kV3 dc3 pm3 cd3 ct3 oc4 kV4 dc4 pm4 cd4 ct4 oc5 kV5 dc5 pm5 cd5 ct5 oc6 kV6 dc6 pm6 cd6 ct6 oc7 kV7 dc7 pm7 cd7 ct7 oc8 kV8 dc8 pm8 cd8 ct8 oc9 kV9 dc9 pm9 cd9 ct9 oc10 kV10 dc10 pm10 cd10 ct10 oc11 kV11 dc11 pm11 cd11 ct11 oc12 kV12 dc12 pm12 cd12 ct12 oc13 kV13 dc13 pm13 cd13 ct13 oc14 kV14 dc14 pm14 cd14 ct14 oc15 kV15 dc15 pm15 cd15 ct15 oc16 kV16 dc16 pm16 cd16 ct16 oc17 kV17 dc17 pm17 cd17 ct17 oc18 kV18 dc18 pm18 cd18 ct18 oc19 kV19 dc19 pm19 cd19 ct19 oc20 kV20 dc20 pm20 cd20 ct20 oc21 kV21 dc21 pm21 cd21 ct21 oc22 kV22 dc22 pm22 cd22 ct22 oc23 kV23 dc23 pm23 cd23 ct23 oc24 kV24 dc24 pm24 cd24 ct24 oc25 kV25 dc25 pm25 cd25 ct25 oc26 kV26 dc26 pm26 cd26 ct26 oc27 kV27 dc27 pm27 cd27 ct27 oc28 kV28 dc28 pm28 cd28 ct28 oc29 kV29 dc29 pm29 cd29 ct29 oc30 kV30 dc30 pm30 cd30 ct30 oc31 kV31 dc31 pm31 cd31 ct31:Value}
  (a1:PySem.W.nsIn K mainGlobals "is_number" = some (some (.ref f1))) (l1:K.lookup f1=some ⟨oc1,od1, .func (fo "is_number" (top 1) kV1 dc1 pm1 an1 cd1 ct1),sl1⟩) (c1:PySem.W.codeIn K cd1 "is_number" = true) (k1:PySem.W.keepIn K (.ref f1)=true)
  (a2:PySem.W.nsIn K mainGlobals "is_number_from" = some (some (.ref f2))) (l2:K.lookup f2=some ⟨oc2,od2, .func (fo "is_number_from" (top 2) kV2 dc2 pm2 an2 cd2 ct2),sl2⟩) (c2:PySem.W.codeIn K cd2 "is_number_from" = true) (k2:PySem.W.keepIn K (.ref f2)=true)
  (a3:PySem.W.nsIn K mainGlobals "is_row" = some (some (.ref f3))) (l3:K.lookup f3=some ⟨oc3,od3, .func (fo "is_row" (top 3) kV3 dc3 pm3 an3 cd3 ct3),sl3⟩) (c3:PySem.W.codeIn K cd3 "is_row" = true) (k3:PySem.W.keepIn K (.ref f3)=true)
  (a4:PySem.W.nsIn K mainGlobals "is_sign" = some (some (.ref f4))) (l4:K.lookup f4=some ⟨oc4,od4, .func (fo "is_sign" (top 4) kV4 dc4 pm4 an4 cd4 ct4),sl4⟩) (c4:PySem.W.codeIn K cd4 "is_sign" = true) (k4:PySem.W.keepIn K (.ref f4)=true)
  (a5:PySem.W.nsIn K mainGlobals "is_unlike_signs" = some (some (.ref f5))) (l5:K.lookup f5=some ⟨oc5,od5, .func (fo "is_unlike_signs" (top 5) kV5 dc5 pm5 an5 cd5 ct5),sl5⟩) (c5:PySem.W.codeIn K cd5 "is_unlike_signs" = true) (k5:PySem.W.keepIn K (.ref f5)=true)
  (a6:PySem.W.nsIn K mainGlobals "is_tongue" = some (some (.ref f6))) (l6:K.lookup f6=some ⟨oc6,od6, .func (fo "is_tongue" (top 18) kV6 dc6 pm6 an6 cd6 ct6),sl6⟩) (c6:PySem.W.codeIn K cd6 "is_tongue" = true) (k6:PySem.W.keepIn K (.ref f6)=true)
  (a7:PySem.W.nsIn K mainGlobals "is_table" = some (some (.ref f7))) (l7:K.lookup f7=some ⟨oc7,od7, .func (fo "is_table" (top 22) kV7 dc7 pm7 an7 cd7 ct7),sl7⟩) (c7:PySem.W.codeIn K cd7 "is_table" = true) (k7:PySem.W.keepIn K (.ref f7)=true)
  (a8:PySem.W.nsIn K mainGlobals "is_go" = some (some (.ref f8))) (l8:K.lookup f8=some ⟨oc8,od8, .func (fo "is_go" (top 23) kV8 dc8 pm8 an8 cd8 ct8),sl8⟩) (c8:PySem.W.codeIn K cd8 "is_go" = true) (k8:PySem.W.keepIn K (.ref f8)=true)
  (a9:PySem.W.nsIn K mainGlobals "are_kinds" = some (some (.ref f9))) (l9:K.lookup f9=some ⟨oc9,od9, .func (fo "are_kinds" (top 24) kV9 dc9 pm9 an9 cd9 ct9),sl9⟩) (c9:PySem.W.codeIn K cd9 "are_kinds" = true) (k9:PySem.W.keepIn K (.ref f9)=true)
  (a10:PySem.W.nsIn K mainGlobals "is_all_led_to" = some (some (.ref f10))) (l10:K.lookup f10=some ⟨oc10,od10, .func (fo "is_all_led_to" (top 25) kV10 dc10 pm10 an10 cd10 ct10),sl10⟩) (c10:PySem.W.codeIn K cd10 "is_all_led_to" = true) (k10:PySem.W.keepIn K (.ref f10)=true)
  (a11:PySem.W.nsIn K mainGlobals "rooms_led_to" = some (some (.ref f11))) (l11:K.lookup f11=some ⟨oc11,od11, .func (fo "rooms_led_to" (top 26) kV11 dc11 pm11 an11 cd11 ct11),sl11⟩) (c11:PySem.W.codeIn K cd11 "rooms_led_to" = true) (k11:PySem.W.keepIn K (.ref f11)=true)
  (a12:PySem.W.nsIn K mainGlobals "is_deed" = some (some (.ref f12))) (l12:K.lookup f12=some ⟨oc12,od12, .func (fo "is_deed" (top 30) kV12 dc12 pm12 an12 cd12 ct12),sl12⟩) (c12:PySem.W.codeIn K cd12 "is_deed" = true) (k12:PySem.W.keepIn K (.ref f12)=true)
  (a13:PySem.W.nsIn K mainGlobals "looked_machine" = some (some (.ref f13))) (l13:K.lookup f13=some ⟨oc13,od13, .func (fo "looked_machine" (top 31) kV13 dc13 pm13 an13 cd13 ct13),sl13⟩) (c13:PySem.W.codeIn K cd13 "looked_machine" = true) (k13:PySem.W.keepIn K (.ref f13)=true)
  (a14:PySem.W.nsIn K mainGlobals "is_mode" = some (some (.ref f14))) (l14:K.lookup f14=some ⟨oc14,od14, .func (fo "is_mode" (top 32) kV14 dc14 pm14 an14 cd14 ct14),sl14⟩) (c14:PySem.W.codeIn K cd14 "is_mode" = true) (k14:PySem.W.keepIn K (.ref f14)=true)
  (a15:PySem.W.nsIn K mainGlobals "_law_pen" = some (some (.ref f15))) (l15:K.lookup f15=some ⟨oc15,od15, .func (fo "_law_pen" (top 34) kV15 dc15 pm15 an15 cd15 ct15),sl15⟩) (c15:PySem.W.codeIn K cd15 "_law_pen" = true) (k15:PySem.W.keepIn K (.ref f15)=true)
  (a16:PySem.W.nsIn K mainGlobals "_law_take" = some (some (.ref f16))) (l16:K.lookup f16=some ⟨oc16,od16, .func (fo "_law_take" (top 35) kV16 dc16 pm16 an16 cd16 ct16),sl16⟩) (c16:PySem.W.codeIn K cd16 "_law_take" = true) (k16:PySem.W.keepIn K (.ref f16)=true)
  (a17:PySem.W.nsIn K mainGlobals "_law_signs" = some (some (.ref f17))) (l17:K.lookup f17=some ⟨oc17,od17, .func (fo "_law_signs" (top 36) kV17 dc17 pm17 an17 cd17 ct17),sl17⟩) (c17:PySem.W.codeIn K cd17 "_law_signs" = true) (k17:PySem.W.keepIn K (.ref f17)=true)
  (a18:PySem.W.nsIn K mainGlobals "_law_some" = some (some (.ref f18))) (l18:K.lookup f18=some ⟨oc18,od18, .func (fo "_law_some" (top 37) kV18 dc18 pm18 an18 cd18 ct18),sl18⟩) (c18:PySem.W.codeIn K cd18 "_law_some" = true) (k18:PySem.W.keepIn K (.ref f18)=true)
  (a19:PySem.W.nsIn K mainGlobals "_law_cut_down" = some (some (.ref f19))) (l19:K.lookup f19=some ⟨oc19,od19, .func (fo "_law_cut_down" (top 38) kV19 dc19 pm19 an19 cd19 ct19),sl19⟩) (c19:PySem.W.codeIn K cd19 "_law_cut_down" = true) (k19:PySem.W.keepIn K (.ref f19)=true)
  (a20:PySem.W.nsIn K mainGlobals "_law_table" = some (some (.ref f20))) (l20:K.lookup f20=some ⟨oc20,od20, .func (fo "_law_table" (top 39) kV20 dc20 pm20 an20 cd20 ct20),sl20⟩) (c20:PySem.W.codeIn K cd20 "_law_table" = true) (k20:PySem.W.keepIn K (.ref f20)=true)
  (a21:PySem.W.nsIn K mainGlobals "_law_deeds" = some (some (.ref f21))) (l21:K.lookup f21=some ⟨oc21,od21, .func (fo "_law_deeds" (top 40) kV21 dc21 pm21 an21 cd21 ct21),sl21⟩) (c21:PySem.W.codeIn K cd21 "_law_deeds" = true) (k21:PySem.W.keepIn K (.ref f21)=true)
  (a22:PySem.W.nsIn K mainGlobals "_law_machine" = some (some (.ref f22))) (l22:K.lookup f22=some ⟨oc22,od22, .func (fo "_law_machine" (top 41) kV22 dc22 pm22 an22 cd22 ct22),sl22⟩) (c22:PySem.W.codeIn K cd22 "_law_machine" = true) (k22:PySem.W.keepIn K (.ref f22)=true)
  (a23:PySem.W.nsIn K mainGlobals "_law_same" = some (some (.ref f23))) (l23:K.lookup f23=some ⟨oc23,od23, .func (fo "_law_same" (top 42) kV23 dc23 pm23 an23 cd23 ct23),sl23⟩) (c23:PySem.W.codeIn K cd23 "_law_same" = true) (k23:PySem.W.keepIn K (.ref f23)=true)
  (a24:PySem.W.nsIn K mainGlobals "_law_put" = some (some (.ref f24))) (l24:K.lookup f24=some ⟨oc24,od24, .func (fo "_law_put" (top 43) kV24 dc24 pm24 an24 cd24 ct24),sl24⟩) (c24:PySem.W.codeIn K cd24 "_law_put" = true) (k24:PySem.W.keepIn K (.ref f24)=true)
  (a25:PySem.W.nsIn K mainGlobals "_law_bent_goes" = some (some (.ref f25))) (l25:K.lookup f25=some ⟨oc25,od25, .func (fo "_law_bent_goes" (top 44) kV25 dc25 pm25 an25 cd25 ct25),sl25⟩) (c25:PySem.W.codeIn K cd25 "_law_bent_goes" = true) (k25:PySem.W.keepIn K (.ref f25)=true)
  (a26:PySem.W.nsIn K mainGlobals "_law_bent_kinds" = some (some (.ref f26))) (l26:K.lookup f26=some ⟨oc26,od26, .func (fo "_law_bent_kinds" (top 45) kV26 dc26 pm26 an26 cd26 ct26),sl26⟩) (c26:PySem.W.codeIn K cd26 "_law_bent_kinds" = true) (k26:PySem.W.keepIn K (.ref f26)=true)
  (a27:PySem.W.nsIn K mainGlobals "_law_bent_deeds" = some (some (.ref f27))) (l27:K.lookup f27=some ⟨oc27,od27, .func (fo "_law_bent_deeds" (top 46) kV27 dc27 pm27 an27 cd27 ct27),sl27⟩) (c27:PySem.W.codeIn K cd27 "_law_bent_deeds" = true) (k27:PySem.W.keepIn K (.ref f27)=true)
  (a28:PySem.W.nsIn K mainGlobals "_law_bent" = some (some (.ref f28))) (l28:K.lookup f28=some ⟨oc28,od28, .func (fo "_law_bent" (top 47) kV28 dc28 pm28 an28 cd28 ct28),sl28⟩) (c28:PySem.W.codeIn K cd28 "_law_bent" = true) (k28:PySem.W.keepIn K (.ref f28)=true)
  (a29:PySem.W.nsIn K mainGlobals "_law_refused" = some (some (.ref f29))) (l29:K.lookup f29=some ⟨oc29,od29, .func (fo "_law_refused" (top 48) kV29 dc29 pm29 an29 cd29 ct29),sl29⟩) (c29:PySem.W.codeIn K cd29 "_law_refused" = true) (k29:PySem.W.keepIn K (.ref f29)=true)
  (a30:PySem.W.nsIn K mainGlobals "_law_long" = some (some (.ref f30))) (l30:K.lookup f30=some ⟨oc30,od30, .func (fo "_law_long" (top 49) kV30 dc30 pm30 an30 cd30 ct30),sl30⟩) (c30:PySem.W.codeIn K cd30 "_law_long" = true) (k30:PySem.W.keepIn K (.ref f30)=true)
  (a31:PySem.W.nsIn K mainGlobals "law" = some (some (.ref f31))) (l31:K.lookup f31=some ⟨oc31,od31, .func (fo "law" (top 50) kV31 dc31 pm31 an31 cd31 ct31),sl31⟩) (c31:PySem.W.codeIn K cd31 "law" = true) (k31:PySem.W.keepIn K (.ref f31)=true)
  {y_NoModes y_ReachError y_Closed y_NoBook y_NoPlace y_NoTable y_NoText y_TooHeavy y_TooMany y_Unlike:Addr}
  (xg_NoModes:PySem.W.nsIn K mainGlobals "NoModes" = some (some (.ref y_NoModes)))
  (xg_ReachError:PySem.W.nsIn K mainGlobals "ReachError" = some (some (.ref y_ReachError)))
  (xg_Closed:PySem.W.nsIn K mainGlobals "Closed" = some (some (.ref y_Closed)))
  (xg_NoBook:PySem.W.nsIn K mainGlobals "NoBook" = some (some (.ref y_NoBook)))
  (xg_NoPlace:PySem.W.nsIn K mainGlobals "NoPlace" = some (some (.ref y_NoPlace)))
  (xg_NoTable:PySem.W.nsIn K mainGlobals "NoTable" = some (some (.ref y_NoTable)))
  (xg_NoText:PySem.W.nsIn K mainGlobals "NoText" = some (some (.ref y_NoText)))
  (xg_TooHeavy:PySem.W.nsIn K mainGlobals "TooHeavy" = some (some (.ref y_TooHeavy)))
  (xg_TooMany:PySem.W.nsIn K mainGlobals "TooMany" = some (some (.ref y_TooMany)))
  (xg_Unlike:PySem.W.nsIn K mainGlobals "Unlike" = some (some (.ref y_Unlike)))
  (xc_NoModes:XCls K y_NoModes)
  (xk_NoModes:XKit K y_NoModes)
  (xe_NoModes_ReachError:PySem.W.exmOne K (.ref y_NoModes) (.ref y_ReachError)=some true)
  (xi_NoModes_ValueError:PySem.W.kitOne K (.ref y_NoModes) (.type "ValueError")=some true)
  (xi_NoModes_NoModes:PySem.W.kitOne K (.ref y_NoModes) (.ref y_NoModes)=some true)
  (xi_NoModes_Closed_NoBook_NoPlace_NoTable_NoText_TooHeavy_TooMany_Unlike:PySem.W.kitAny K (.ref y_NoModes) [.ref y_Closed, .ref y_NoBook, .ref y_NoPlace, .ref y_NoTable, .ref y_NoText, .ref y_TooHeavy, .ref y_TooMany, .ref y_Unlike]=some false)
  (z1:PySem.W.nsIn K mainGlobals "ValueError" = some none) (z2:PySem.W.nsIn K mainGlobals "abs" = some none) (z3:PySem.W.nsIn K mainGlobals "all" = some none) (z4:PySem.W.nsIn K mainGlobals "bool" = some none) (z5:PySem.W.nsIn K mainGlobals "int" = some none) (z6:PySem.W.nsIn K mainGlobals "isinstance" = some none) (z7:PySem.W.nsIn K mainGlobals "len" = some none) (z8:PySem.W.nsIn K mainGlobals "list" = some none) (z9:PySem.W.nsIn K mainGlobals "max" = some none) (z10:PySem.W.nsIn K mainGlobals "min" = some none) (z11:PySem.W.nsIn K mainGlobals "ord" = some none) (z12:PySem.W.nsIn K mainGlobals "range" = some none) (z13:PySem.W.nsIn K mainGlobals "set" = some none) (z14:PySem.W.nsIn K mainGlobals "str" = some none) (z15:PySem.W.nsIn K mainGlobals "tuple" = some none) (z16:PySem.W.nsIn K mainGlobals "zip" = some none) {ty1:Tok} (y1:PySem.W.nsIn K mainGlobals "LAST_KIND" = some (some (.int 5 ty1))) {ty2:Tok} (y2:PySem.W.nsIn K mainGlobals "MOST_DEEDS" = some (some (.int 6 ty2))) {ty3:Tok} (y3:PySem.W.nsIn K mainGlobals "MOST_MODES" = some (some (.int 4 ty3))) {ty4:Tok} (y4:PySem.W.nsIn K mainGlobals "MOST_ROOMS" = some (some (.int 32 ty4))) :
  ∃ fd:FuncData,(∀ (s:Shared) (v:Value),BindsTo s fd ⟨[v],[]⟩ [("_law_script",v)])∧∀ base:Heap,K.In base→base.Ns mainGlobals mg→FnOk l.prog w K mg base CX0 8 fa fd ["_law_script"] (ala K):=by
 have e:=hfa.symm.trans (PySem.W.mg_of X G a31)
 cases e
 have F1:=pq (st:=top 1) l1 c1 k1
 have b1:=F1.binds (ps:=["thing"]) fun _ _ _ _ _ _ us hl=>match us,hl with | [_],_=>rfl
 have F2:=pq (st:=top 2) l2 c2 k2
 have b2:=F2.binds (ps:=["thing", "low", "high"]) fun _ _ _ _ _ _ us hl=>match us,hl with | [_,_,_],_=>rfl
 have F3:=pq (st:=top 3) l3 c3 k3
 have b3:=F3.binds (ps:=["thing", "low", "high"]) fun _ _ _ _ _ _ us hl=>match us,hl with | [_,_,_],_=>rfl
 have F4:=pq (st:=top 4) l4 c4 k4
 have b4:=F4.binds (ps:=["thing"]) fun _ _ _ _ _ _ us hl=>match us,hl with | [_],_=>rfl
 have F5:=pq (st:=top 5) l5 c5 k5
 have b5:=F5.binds (ps:=["thing"]) fun _ _ _ _ _ _ us hl=>match us,hl with | [_],_=>rfl
 have F6:=pq (st:=top 18) l6 c6 k6
 have b6:=F6.binds (ps:=["thing"]) fun _ _ _ _ _ _ us hl=>match us,hl with | [_],_=>rfl
 have F7:=pq (st:=top 22) l7 c7 k7
 have b7:=F7.binds (ps:=["thing"]) fun _ _ _ _ _ _ us hl=>match us,hl with | [_],_=>rfl
 have F8:=pq (st:=top 23) l8 c8 k8
 have b8:=F8.binds (ps:=["thing", "signs", "rooms"]) fun _ _ _ _ _ _ us hl=>match us,hl with | [_,_,_],_=>rfl
 have F9:=pq (st:=top 24) l9 c9 k9
 have b9:=F9.binds (ps:=["thing", "rooms"]) fun _ _ _ _ _ _ us hl=>match us,hl with | [_,_],_=>rfl
 have F10:=pq (st:=top 25) l10 c10 k10
 have b10:=F10.binds (ps:=["goes"]) fun _ _ _ _ _ _ us hl=>match us,hl with | [_],_=>rfl
 have F11:=pq (st:=top 26) l11 c11 k11
 have b11:=F11.binds (ps:=["goes"]) fun _ _ _ _ _ _ us hl=>match us,hl with | [_],_=>rfl
 have F12:=pq (st:=top 30) l12 c12 k12
 have b12:=F12.binds (ps:=["thing", "modes"]) fun _ _ _ _ _ _ us hl=>match us,hl with | [_,_],_=>rfl
 have F13:=pq (st:=top 31) l13 c13 k13
 have b13:=F13.binds (ps:=["thing"]) fun _ _ _ _ _ _ us hl=>match us,hl with | [_],_=>rfl
 have F14:=pq (st:=top 32) l14 c14 k14
 have b14:=F14.binds (ps:=["tongue", "thing", "modes"]) fun _ _ _ _ _ _ us hl=>match us,hl with | [_,_,_],_=>rfl
 have F15:=pq (st:=top 34) l15 c15 k15
 have b15:=F15.binds (ps:=["_law_script"]) fun _ _ _ _ _ _ us hl=>match us,hl with | [_],_=>rfl
 have F16:=pq (st:=top 35) l16 c16 k16
 have b16:=F16.binds (ps:=["_law_pen_here", "_law_many"]) fun _ _ _ _ _ _ us hl=>match us,hl with | [_,_],_=>rfl
 have F17:=pq (st:=top 36) l17 c17 k17
 have b17:=F17.binds (ps:=[]) fun _ _ _ _ _ _ us hl=>match us,hl with | [],_=>rfl
 have F18:=pq (st:=top 37) l18 c18 k18
 have b18:=F18.binds (ps:=["_law_pen_here", "_law_rest", "_law_most"]) fun _ _ _ _ _ _ us hl=>match us,hl with | [_,_,_],_=>rfl
 have F19:=pq (st:=top 38) l19 c19 k19
 have b19:=F19.binds (ps:=["_law_tongue", "_law_goes", "_law_kinds", "_law_turn"]) fun _ _ _ _ _ _ us hl=>match us,hl with | [_,_,_,_],_=>rfl
 have F20:=pq (st:=top 39) l20 c20 k20
 have b20:=F20.binds (ps:=["_law_pen_here", "_law_tongue", "_law_most"]) fun _ _ _ _ _ _ us hl=>match us,hl with | [_,_,_],_=>rfl
 have F21:=pq (st:=top 40) l21 c21 k21
 have b21:=F21.binds (ps:=["_law_pen_here", "_law_size", "_law_many"]) fun _ _ _ _ _ _ us hl=>match us,hl with | [_,_,_],_=>rfl
 have F22:=pq (st:=top 41) l22 c22 k22
 have b22:=F22.binds (ps:=["_law_pen_here", "_law_tongue", "_law_most"]) fun _ _ _ _ _ _ us hl=>match us,hl with | [_,_,_],_=>rfl
 have F23:=pq (st:=top 42) l23 c23 k23
 have b23:=F23.binds (ps:=["_law_found", "_law_due"]) fun _ _ _ _ _ _ us hl=>match us,hl with | [_,_],_=>rfl
 have F24:=pq (st:=top 43) l24 c24 k24
 have b24:=F24.binds (ps:=["_law_row", "_law_at", "_law_thing"]) fun _ _ _ _ _ _ us hl=>match us,hl with | [_,_,_],_=>rfl
 have F25:=pq (st:=top 44) l25 c25 k25
 have b25:=F25.binds (ps:=["_law_pen_here", "_law_goes"]) fun _ _ _ _ _ _ us hl=>match us,hl with | [_,_],_=>rfl
 have F26:=pq (st:=top 45) l26 c26 k26
 have b26:=F26.binds (ps:=["_law_pen_here", "_law_kinds"]) fun _ _ _ _ _ _ us hl=>match us,hl with | [_,_],_=>rfl
 have F27:=pq (st:=top 46) l27 c27 k27
 have b27:=F27.binds (ps:=["_law_pen_here", "_law_deeds_here", "_law_least", "_law_many"]) fun _ _ _ _ _ _ us hl=>match us,hl with | [_,_,_,_],_=>rfl
 have F28:=pq (st:=top 47) l28 c28 k28
 have b28:=F28.binds (ps:=["_law_pen_here", "_law_machine_here"]) fun _ _ _ _ _ _ us hl=>match us,hl with | [_,_],_=>rfl
 have F29:=pq (st:=top 48) l29 c29 k29
 have b29:=F29.binds (ps:=["_law_thing"]) fun _ _ _ _ _ _ us hl=>match us,hl with | [_],_=>rfl
 have F30:=pq (st:=top 49) l30 c30 k30
 have b30:=F30.binds (ps:=["_law_tongue", "_law_size", "_law_deeds_here"]) fun _ _ _ _ _ _ us hl=>match us,hl with | [_,_,_],_=>rfl
 have F31:=pq (st:=top 50) l31 c31 k31
 have b31:=F31.binds (ps:=["_law_script"]) fun _ _ _ _ _ _ us hl=>match us,hl with | [_],_=>rfl
 have M:Nm mg:=⟨PySem.W.mg_none_of X G z1,PySem.W.mg_none_of X G z2,PySem.W.mg_none_of X G z3,PySem.W.mg_none_of X G z4,PySem.W.mg_none_of X G z5,PySem.W.mg_none_of X G z6,PySem.W.mg_none_of X G z7,PySem.W.mg_none_of X G z8,PySem.W.mg_none_of X G z9,PySem.W.mg_none_of X G z10,PySem.W.mg_none_of X G z11,PySem.W.mg_none_of X G z12,PySem.W.mg_none_of X G z13,PySem.W.mg_none_of X G z14,PySem.W.mg_none_of X G z15,PySem.W.mg_none_of X G z16⟩
 have C:Cn mg:=⟨⟨_,PySem.W.mg_of X G y1⟩,⟨_,PySem.W.mg_of X G y2⟩,⟨_,PySem.W.mg_of X G y3⟩,⟨_,PySem.W.mg_of X G y4⟩⟩
 have Z:Xn K mg y_NoModes y_ReachError y_Closed y_NoBook y_NoPlace y_NoTable y_NoText y_TooHeavy y_TooMany y_Unlike:=⟨PySem.W.mg_of X G xg_NoModes,PySem.W.mg_of X G xg_ReachError,PySem.W.mg_of X G xg_Closed,PySem.W.mg_of X G xg_NoBook,PySem.W.mg_of X G xg_NoPlace,PySem.W.mg_of X G xg_NoTable,PySem.W.mg_of X G xg_NoText,PySem.W.mg_of X G xg_TooHeavy,PySem.W.mg_of X G xg_TooMany,PySem.W.mg_of X G xg_Unlike,xg_NoModes,xc_NoModes,xk_NoModes,xe_NoModes_ReachError,xi_NoModes_ValueError,xi_NoModes_NoModes,xi_NoModes_Closed_NoBook_NoPlace_NoTable_NoText_TooHeavy_TooMany_Unlike⟩
 refine ⟨PySem.W.fnOf "law" "law" (a4n (top 50)) (j9 (top 50)) (bf (top 50)) .none kV31 dc31 pm31 an31 cd31 ct31,fun s v=>.of_eq rfl,fun base _ _=>?_⟩
 have D_0:Dn l.prog w K mg base 1 "is_number" ["thing"] (qu K 1 (K67.qe)) _ _:=⟨qg F1 ay3 (m_0 M),PySem.W.mg_of X G a1,k1,b1⟩
 have D_1:Dn l.prog w K mg base 2 "is_number_from" ["thing", "low", "high"] (qu K 3 (K67.bu)) _ _:=⟨qg F2 ay4 (m_1 D_0 (by decide)),PySem.W.mg_of X G a2,k2,b2⟩
 have D_2:Dn l.prog w K mg base 1 "is_row" ["thing", "low", "high"] (qu K 3 (K67.bx)) _ _:=⟨qg F3 ay5 (m_2 M),PySem.W.mg_of X G a3,k3,b3⟩
 have D_3:Dn l.prog w K mg base 1 "is_sign" ["thing"] (qu K 1 (K67.oh)) _ _:=⟨qg F4 ay6 (m_3 M),PySem.W.mg_of X G a4,k4,b4⟩
 have D_4:Dn l.prog w K mg base 2 "is_unlike_signs" ["thing"] (qu K 1 (K67.jb)) _ _:=⟨qg F5 ay7 (m_4 M D_3 (by decide)),PySem.W.mg_of X G a5,k5,b5⟩
 have D_5:Dn l.prog w K mg base 3 "is_tongue" ["thing"] (qu K 1 (K67.jk)) _ _:=⟨qg F6 ay8 (m_5 D_4 (by decide)),PySem.W.mg_of X G a6,k6,b6⟩
 have D_8:Dn l.prog w K mg base 3 "are_kinds" ["thing", "rooms"] (qu K 2 (K67.jj)) _ _:=⟨qg F9 ayb (m_8 M C D_1 (by decide) D_2 (by decide)),PySem.W.mg_of X G a9,k9,b9⟩
 have D_10:Dn l.prog w K mg base 1 "rooms_led_to" ["goes"] (qu K 1 (K67.km)) _ _:=⟨qg F11 atl (az8 M),PySem.W.mg_of X G a11,k11,b11⟩
 have D_9:Dn l.prog w K mg base 2 "is_all_led_to" ["goes"] (qu K 1 (K67.g8)) _ _:=⟨qg F10 ayc (m_9 M D_10 (by decide)),PySem.W.mg_of X G a10,k10,b10⟩
 have D_7:Dn l.prog w K mg base 3 "is_go" ["thing", "signs", "rooms"] (qu K 3 (K67.ut)) _ _:=⟨qg F8 aya (m_7 M D_1 (by decide) D_2 (by decide)),PySem.W.mg_of X G a8,k8,b8⟩
 have D_6:Dn l.prog w K mg base 4 "is_table" ["thing"] (qu K 1 (K67.kj)) _ _:=⟨qg F7 ay9 (m_6 M C D_8 (by decide) D_9 (by decide) D_7 (by decide) D_2 (by decide) D_5 (by decide)),PySem.W.mg_of X G a7,k7,b7⟩
 have D_11:Dn l.prog w K mg base 3 "is_deed" ["thing", "modes"] (qu K 2 (K67.v7)) _ _:=⟨qg F12 atm (az9 M D_1 (by decide) D_2 (by decide)),PySem.W.mg_of X G a12,k12,b12⟩
 have D_13:Dn l.prog w K mg base 5 "is_mode" ["tongue", "thing", "modes"] (qu K 3 (K67.v8)) _ _:=⟨qg F14 ato (azb M C D_11 (by decide) D_2 (by decide) D_6 (by decide)),PySem.W.mg_of X G a14,k14,b14⟩
 have D_12:DnX l.prog w K mg base 6 "looked_machine" ["thing"] (spX K mg 1 (K67.d9)) _ _:=⟨ap0 F13 atn (aza M C Z D_13 (by decide) D_2 (by decide)),PySem.W.mg_of X G a13,k13,b13⟩
 have D_14:Dn l.prog w K mg base 1 "_law_pen" ["_law_script"] (qu K 1 (PN.v6)) _ _:=⟨qg F15 atp (azc ),PySem.W.mg_of X G a15,k15,b15⟩
 have D_15:Dn l.prog w K mg base 1 "_law_take" ["_law_pen_here", "_law_many"] (qu K 2 (PN.az)) _ _:=⟨qg F16 atq (azd M),PySem.W.mg_of X G a16,k16,b16⟩
 have D_16:Dn l.prog w K mg base 1 "_law_signs" [] (qu K 0 (PN.gq)) _ _:=⟨qg F17 atr (aze ),PySem.W.mg_of X G a17,k17,b17⟩
 have D_17:Dn l.prog w K mg base 2 "_law_some" ["_law_pen_here", "_law_rest", "_law_most"] (qu K 3 (PN.u9)) _ _:=⟨qg F18 atu (azf M D_15 (by decide)),PySem.W.mg_of X G a18,k18,b18⟩
 have D_18:Dn l.prog w K mg base 1 "_law_cut_down" ["_law_tongue", "_law_goes", "_law_kinds", "_law_turn"] (qu K 4 (PN.j4)) _ _:=⟨qg F19 atv (azg M),PySem.W.mg_of X G a19,k19,b19⟩
 have D_19:Dn l.prog w K mg base 2 "_law_table" ["_law_pen_here", "_law_tongue", "_law_most"] (qu K 3 (PN.qd)) _ _:=⟨qg F20 atw (azh M D_18 (by decide) D_15 (by decide)),PySem.W.mg_of X G a20,k20,b20⟩
 have D_20:Dn l.prog w K mg base 2 "_law_deeds" ["_law_pen_here", "_law_size", "_law_many"] (qu K 3 (PN.jh)) _ _:=⟨qg F21 atx (azi M D_15 (by decide)),PySem.W.mg_of X G a21,k21,b21⟩
 have D_21:Dn l.prog w K mg base 3 "_law_machine" ["_law_pen_here", "_law_tongue", "_law_most"] (qu K 3 (PN.my)) _ _:=⟨qg F22 aty (azj M D_20 (by decide) D_19 (by decide) D_15 (by decide)),PySem.W.mg_of X G a22,k22,b22⟩
 have D_22:=avd (P:=l.prog) (w:=w) (base:=base) F23 (PySem.W.mg_of X G a23) k23 b23 M 6
 have D_23:Dn l.prog w K mg base 1 "_law_put" ["_law_row", "_law_at", "_law_thing"] (qu K 3 (K67.jc)) _ _:=⟨qg F24 au0 (azl ),PySem.W.mg_of X G a24,k24,b24⟩
 have D_24:Dn l.prog w K mg base 2 "_law_bent_goes" ["_law_pen_here", "_law_goes"] (qu K 2 (K67.iy)) _ _:=⟨qg F25 au1 (azm M D_23 (by decide) D_15 (by decide)),PySem.W.mg_of X G a25,k25,b25⟩
 have D_25:Dn l.prog w K mg base 2 "_law_bent_kinds" ["_law_pen_here", "_law_kinds"] (qu K 2 (K67.ie)) _ _:=⟨qg F26 au2 (azn M D_23 (by decide) D_15 (by decide)),PySem.W.mg_of X G a26,k26,b26⟩
 have D_26:Dn l.prog w K mg base 2 "_law_bent_deeds" ["_law_pen_here", "_law_deeds_here", "_law_least", "_law_many"] (qu K 4 (K67.ik)) _ _:=⟨qg F27 au3 (azo M D_15 (by decide)),PySem.W.mg_of X G a27,k27,b27⟩
 have D_27:Dn l.prog w K mg base 3 "_law_bent" ["_law_pen_here", "_law_machine_here"] (qu K 2 (K67.uc)) _ _:=⟨qg F28 au4 (azp M D_26 (by decide) D_24 (by decide) D_25 (by decide) D_23 (by decide) D_16 (by decide) D_15 (by decide)),PySem.W.mg_of X G a28,k28,b28⟩
 have D_28:Dn l.prog w K mg base 7 "_law_refused" ["_law_thing"] (qu K 1 (K67.lq)) _ _:=⟨qg F29 au5 (azq M Z D_12 (by decide)),PySem.W.mg_of X G a29,k29,b29⟩
 have D_29:Dn l.prog w K mg base 1 "_law_long" ["_law_tongue", "_law_size", "_law_deeds_here"] (qu K 3 (K67.ph)) _ _:=⟨qg F30 au6 (azr M),PySem.W.mg_of X G a30,k30,b30⟩
 have D_30:Dn l.prog w K mg base 8 "law" ["_law_script"] (qu K 1 (K67.al9)) _ _:=⟨qg F31 au7 (azs M D_27 (by decide) D_20 (by decide) D_29 (by decide) D_21 (by decide) D_14 (by decide) D_28 (by decide) D_22 (by decide) D_16 (by decide) D_17 (by decide) D_12 (by decide)),PySem.W.mg_of X G a31,k31,b31⟩
 exact D_30.ok.imp ave
theorem walk {l:PySem.W.OpenLaw} {q:Program} {loose:List Str} {XP:(Str→Option Value)→Heap→Prop} {YP:World→Heap→Prop} {d:DefRec} {K:Params→PySem.W.Frag} (hn:l.most=some 63) (hdf:d.params.defaults=[])
  (hY:∀ (w:World) (h:Heap),YP w h→(K w.params).In h)
  (F:∀ (w:World) (mg:Str→Option Value) (fa:Addr) (h:Heap),(K w.params).In h→h.Ns mainGlobals mg→mg d.name=some (.ref fa) →
   ∃ fd:FuncData,(∀ (s:Shared) (u:Value),BindsTo s fd ⟨[u],[]⟩ [("_law_script",u)])∧∀ base:Heap,(K w.params).In base→base.Ns mainGlobals mg→FnOk l.prog w (K w.params) mg base CX0 8 fa fd ["_law_script"] (ala (K w.params))) :
  PySem.W.WalkO q loose XP YP l.row.toRowW d [] (fun f vs=>PySem.call f vs) :=
 L2.ank (n:=63) (k:=8) (x := "_law_script") (CX:=fun _=>CX0) (sp:=fun w=>ala (K w.params)) hn (by decide) hdf ⟨rfl,by decide,by decide,rfl⟩ hY F (fun _ _ a ns hl hO hS=>⟨a,ns,rfl,avf hO hS,hl,fun _=>rfl⟩) fun _ _ _ _ _ z=>z
end K67
open PySem PySem.W PyProof.Rows
local macro_rules | `(tactic| o_head $H) => `(tactic| refine PySem.W.holds_open (q:=K67.hq) (loose:=K67.hl) (Xt:=fun _=>true) (XP:=fun _ _=>True) (Yf:=Hook.obs $H) (Ya:=Hook.val $H) (YP:=Hook.says $H) (N:=20000) ?hl (Hook.of $H) (Hook.keeps $H) (fun _ _=>trivial) (fun _ _ _ _ _=>trivial) (by rfl) (by rfl) (by rfl) (fun _ _=>recFacts_nil rfl) (by rfl) (by assumption) (by decide +kernel) ⟨rfl,rfl,rfl,rfl,rfl,by decide +kernel⟩ ?hw ?hc)
set_option maxRecDepth 100000 in
set_option maxHeartbeats 0 in
theorem PySem.Challenge.cw_nearreach_k67_machines_of_anything_holds : PySem.Challenge.rw_nearreach_k67_machines_of_anything.Holds := by
 w_on;refine holds_law K67.said fun said=>?_;o_head (kHook K67.A.heap_1 [2,3,15,17,18,20,21,22,24,25,27,28,29,31,32,34,35,36,38,39,41,42,43,46,47,48,55,56,57,58,61,68,69,70,73,80,81,82,85,92,93,94,97,104,105,106,109,116,117,118,121,128,129,130,133,140,141,142,145,152,153,154,157,164,165,166,169,171,172,174,175,176,179,180,181,184,185,186,189,190,191,193,194,196,197,198,200,201,203,204,205,207,208,210,211,212,215,216,217,220,221,222,224,225,227,228,229,231,232,234,235,236,238,239,241,242,243,245,246,248,249,250,253,254,255,258,259,260,262,263,265,266,267,269,270,272,273,274,276,277,279,280,281,283,284,286,287,288,290,291,293,294,295,297,298,300,301,302,304,305,307,308,309,312,313,314,316,317,319,320,321,324,325,326,328,329,331,332] (fun _=>by kernel_rfl))
 (case hw=>w_witness2)
 (case hl=>exact K67.hlok)
 k_fill
 refine K67.walk (l:=PySem.Challenge.rw_nearreach_k67_machines_of_anything) rfl rfl (fun w h Y=>PySem.W.kIn_of Y) ?F
 case F =>
  intro w mg fa h KX G hmg
  refine' K67.avh KX G hmg ?a1 ?l1 ?c1 ?k1 ?a2 ?l2 ?c2 ?k2 ?a3 ?l3 ?c3 ?k3 ?a4 ?l4 ?c4 ?k4 ?a5 ?l5 ?c5 ?k5 ?a6 ?l6 ?c6 ?k6 ?a7 ?l7 ?c7 ?k7 ?a8 ?l8 ?c8 ?k8 ?a9 ?l9 ?c9 ?k9 ?a10 ?l10 ?c10 ?k10 ?a11 ?l11 ?c11 ?k11 ?a12 ?l12 ?c12 ?k12 ?a13 ?l13 ?c13 ?k13 ?a14 ?l14 ?c14 ?k14 ?a15 ?l15 ?c15 ?k15 ?a16 ?l16 ?c16 ?k16 ?a17 ?l17 ?c17 ?k17 ?a18 ?l18 ?c18 ?k18 ?a19 ?l19 ?c19 ?k19 ?a20 ?l20 ?c20 ?k20 ?a21 ?l21 ?c21 ?k21 ?a22 ?l22 ?c22 ?k22 ?a23 ?l23 ?c23 ?k23 ?a24 ?l24 ?c24 ?k24 ?a25 ?l25 ?c25 ?k25 ?a26 ?l26 ?c26 ?k26 ?a27 ?l27 ?c27 ?k27 ?a28 ?l28 ?c28 ?k28 ?a29 ?l29 ?c29 ?k29 ?a30 ?l30 ?c30 ?k30 ?a31 ?l31 ?c31 ?k31 ?xg_NoModes ?xg_ReachError ?xg_Closed ?xg_NoBook ?xg_NoPlace ?xg_NoTable ?xg_NoText ?xg_TooHeavy ?xg_TooMany ?xg_Unlike ?xc_NoModes ?xk_NoModes ?xe_NoModes_ReachError ?xi_NoModes_ValueError ?xi_NoModes_NoModes ?xi_NoModes_Closed_NoBook_NoPlace_NoTable_NoText_TooHeavy_TooMany_Unlike ?z1 ?z2 ?z3 ?z4 ?z5 ?z6 ?z7 ?z8 ?z9 ?z10 ?z11 ?z12 ?z13 ?z14 ?z15 ?z16 ?y1 ?y2 ?y3 ?y4
  (case a1=>k_is);(case l1=>k_is);(case c1=>k_is);(case k1=>k_is)
  (case a2=>k_is);(case l2=>k_is);(case c2=>k_is);(case k2=>k_is)
  (case a3=>k_is);(case l3=>k_is);(case c3=>k_is);(case k3=>k_is)
  (case a4=>k_is);(case l4=>k_is);(case c4=>k_is);(case k4=>k_is)
  (case a5=>k_is);(case l5=>k_is);(case c5=>k_is);(case k5=>k_is)
  (case a6=>k_is);(case l6=>k_is);(case c6=>k_is);(case k6=>k_is)
  (case a7=>k_is);(case l7=>k_is);(case c7=>k_is);(case k7=>k_is)
  (case a8=>k_is);(case l8=>k_is);(case c8=>k_is);(case k8=>k_is)
  (case a9=>k_is);(case l9=>k_is);(case c9=>k_is);(case k9=>k_is)
  (case a10=>k_is);(case l10=>k_is);(case c10=>k_is);(case k10=>k_is)
  (case a11=>k_is);(case l11=>k_is);(case c11=>k_is);(case k11=>k_is)
  (case a12=>k_is);(case l12=>k_is);(case c12=>k_is);(case k12=>k_is)
  (case a13=>k_is);(case l13=>k_is);(case c13=>k_is);(case k13=>k_is)
  (case a14=>k_is);(case l14=>k_is);(case c14=>k_is);(case k14=>k_is)
  (case a15=>k_is);(case l15=>k_is);(case c15=>k_is);(case k15=>k_is)
  (case a16=>k_is);(case l16=>k_is);(case c16=>k_is);(case k16=>k_is)
  (case a17=>k_is);(case l17=>k_is);(case c17=>k_is);(case k17=>k_is)
  (case a18=>k_is);(case l18=>k_is);(case c18=>k_is);(case k18=>k_is)
  (case a19=>k_is);(case l19=>k_is);(case c19=>k_is);(case k19=>k_is)
  (case a20=>k_is);(case l20=>k_is);(case c20=>k_is);(case k20=>k_is)
  (case a21=>k_is);(case l21=>k_is);(case c21=>k_is);(case k21=>k_is)
  (case a22=>k_is);(case l22=>k_is);(case c22=>k_is);(case k22=>k_is)
  (case a23=>k_is);(case l23=>k_is);(case c23=>k_is);(case k23=>k_is)
  (case a24=>k_is);(case l24=>k_is);(case c24=>k_is);(case k24=>k_is)
  (case a25=>k_is);(case l25=>k_is);(case c25=>k_is);(case k25=>k_is)
  (case a26=>k_is);(case l26=>k_is);(case c26=>k_is);(case k26=>k_is)
  (case a27=>k_is);(case l27=>k_is);(case c27=>k_is);(case k27=>k_is)
  (case a28=>k_is);(case l28=>k_is);(case c28=>k_is);(case k28=>k_is)
  (case a29=>k_is);(case l29=>k_is);(case c29=>k_is);(case k29=>k_is)
  (case a30=>k_is);(case l30=>k_is);(case c30=>k_is);(case k30=>k_is)
  (case a31=>k_is);(case l31=>k_is);(case c31=>k_is);(case k31=>k_is)
  (case xg_NoModes=>k_is)
  (case xg_ReachError=>k_is)
  (case xg_Closed=>k_is)
  (case xg_NoBook=>k_is)
  (case xg_NoPlace=>k_is)
  (case xg_NoTable=>k_is)
  (case xg_NoText=>k_is)
  (case xg_TooHeavy=>k_is)
  (case xg_TooMany=>k_is)
  (case xg_Unlike=>k_is)
  (case xc_NoModes=>exact L2.aq5 (by kernel_rfl))
  (case xk_NoModes=>constructor<;>first | k_is | kernel_rfl)
  (case xe_NoModes_ReachError=>kernel_rfl)
  (case xi_NoModes_ValueError=>kernel_rfl)
  (case xi_NoModes_NoModes=>kernel_rfl)
  (case xi_NoModes_Closed_NoBook_NoPlace_NoTable_NoText_TooHeavy_TooMany_Unlike=>kernel_rfl)
  (case z1=>k_is)
  (case z2=>k_is)
  (case z3=>k_is)
  (case z4=>k_is)
  (case z5=>k_is)
  (case z6=>k_is)
  (case z7=>k_is)
  (case z8=>k_is)
  (case z9=>k_is)
  (case z10=>k_is)
  (case z11=>k_is)
  (case z12=>k_is)
  (case z13=>k_is)
  (case z14=>k_is)
  (case z15=>k_is)
  (case z16=>k_is)
  (case y1=>k_is)
  (case y2=>k_is)
  (case y3=>k_is)
  (case y4=>k_is)
