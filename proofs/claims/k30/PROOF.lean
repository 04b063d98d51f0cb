import PyProof.Rows.All
import Wide.All
import OpenK.AllK
import Wide.FinOn
import Lean
import PyProof.EqAt
import PyProof.EqKinds
import PyProof.TupleCall
import PyProof.ListStr
import PyProof.TupleOfStr
import PyProof.ConsumeWalk
import PyProof.SliceStr2
import PyProof.CompUse
import PyProof.Rows.SetFrom
import PyProof.SetRoads
import PyProof.StrLawsIn
import PyProof.Rows.StrIndexOr
import PyProof.Rows.StrJoin2
import PyProof.Rows.SumAny
import PyProof.Draws
import PyProof.ZipIter
import PyProof.EnumMake
import PyProof.ListRange
import PyProof.Rows.Range3
import KE.KStateDown
import PyProof.WalkInts
import PyProof.SeqI3
import Wide.Txt2
import PyProof.Rows.SortWalk
import PyProof.ReprRoads
import PyProof.CallFns
import KE.KTryDeep
import PyProof.ExcBaseAll.ValueError
import KE.KTryMore
import KE.KIsNot
import PyProof.ExcAttrAll.ValueError
import PyProof.NsDelKeeps
import PySem.SetOps
import PyProof.SetScanFacts
import PyProof.Walks
import PyProof.CollectWalk
import KE.KRevIter
import PyProof.CollectIter
import PyProof.WalksS
import PyProof.DictItems
import KE.KPairComp
import PyProof.WalksMore
import PySem.Challenge.RW_nearreach_k30_least_looked_at
set_option bootstrap.genMatcherCode false
set_option genSizeOf false
noncomputable section
set_option Elab.async false
set_option linter.all false
set_option maxRecDepth 100000
set_option maxHeartbeats 4000000
section
open PySem PySem.W PyProof.Rows
theorem K30.said:PySem.Challenge.rw_nearreach_k30_least_looked_at.wellSaid=true:=by kernel_rfl
noncomputable def K30.hq:Program:=view PySem.Challenge.pw_nearreach_k30_least_looked_at [PySem.Challenge.pw_nearreach_k30_least_looked_at.main.body.length - 1]
noncomputable def K30.hl:List Str:=PySem.Challenge.pw_nearreach_k30_least_looked_at.boundNames
local macro_rules | `(tactic| o_head $H) => `(tactic| refine PySem.W.holds_open (q:=K30.hq) (loose:=K30.hl) (Xt:=fun _=>true) (XP:=fun _ _=>True) (Yf:=Hook.obs $H) (Ya:=Hook.val $H) (YP:=Hook.says $H) (N:=20000) ?hl (Hook.of $H) (Hook.keeps $H) (fun _ _=>trivial) (fun _ _ _ _ _=>trivial) (by rfl) (by rfl) (by rfl) (fun _ _=>recFacts_nil rfl) (by rfl) (by assumption) (by decide +kernel) ⟨rfl,rfl,rfl,rfl,rfl,by decide +kernel⟩ ?hw ?hc)
set_option maxRecDepth 100000 in
set_option maxHeartbeats 0 in
theorem K30.A (hyp:∀ p:Prop,p):PySem.Challenge.rw_nearreach_k30_least_looked_at.Holds:=by
 w_on;refine holds_law K30.said fun said=>?_;k_head
 all_goals exact hyp _
set_option maxRecDepth 100000 in
set_option maxHeartbeats 0 in
theorem K30.hlok:LeftO PySem.Challenge.rw_nearreach_k30_least_looked_at.row.prog K30.hq K30.hl (fun _=>true) (Hook.obs (kHook K30.A.heap_1 [2,3,15,17,18,20,21,22,24,25,27,28,29,32,33,34,36,37,39,40,41,43,44,46,47,48,51,52,53,56,57,58,60,61,63,64,65,67,68,70,71,72,74,75,77,78,79,81,82,84,85,86,88,89,91,92,93,96,97,98,100,101,103,104,105,108,109,110,113,114,115,117,118,120,121,122,124,125,127,128,129,132,133,134,136,137,139,140,141,144,145,146,148,149,151,152,153,155,156,158,159,160,162,163,165,166,167,169,170,172,173,174,176,177,179,180,181,184,185,186,188,189,191,192,193,195,196,198,199,200,202,203,205,206,207,209,210,212,213,214,216,217,219,220,221,223,224,226,227,228,230,231,233,234,235,237,238,240,241] (fun _=>by kernel_rfl))) (Hook.val (kHook K30.A.heap_1 [2,3,15,17,18,20,21,22,24,25,27,28,29,32,33,34,36,37,39,40,41,43,44,46,47,48,51,52,53,56,57,58,60,61,63,64,65,67,68,70,71,72,74,75,77,78,79,81,82,84,85,86,88,89,91,92,93,96,97,98,100,101,103,104,105,108,109,110,113,114,115,117,118,120,121,122,124,125,127,128,129,132,133,134,136,137,139,140,141,144,145,146,148,149,151,152,153,155,156,158,159,160,162,163,165,166,167,169,170,172,173,174,176,177,179,180,181,184,185,186,188,189,191,192,193,195,196,198,199,200,202,203,205,206,207,209,210,212,213,214,216,217,219,220,221,223,224,226,227,228,230,231,233,234,235,237,238,240,241] (fun _=>by kernel_rfl))) 20000:=by
 intro w
 kernel_rfl
end
abbrev Fg:=PySem.W.Frag
open PySem PySem.Spec
namespace L2
open PyProof.Rows
abbrev Key:=Sum Int Str
noncomputable def ad7:Key->Value->Bool
 |.inl k,v=>Value.isInt k v
 |.inr x,v=>Value.isStrOf x v
noncomputable def b1o(w:World):Key->Int
 |.inl k=>hashInt k
 |.inr x=>hashStr w x
theorem ou:∀{k:Key} {v:Value},ad7 k v=true->(∃i t,k=Sum.inl i/\v=Value.int i t)\/(∃x t,k=Sum.inr x/\v=Value.str x t)
 |.inl i,v,h=>by
  obtain⟨t,e⟩:=Value.isInt_shape (k:=i) (v:=v) h;exact .inl ⟨i,t,rfl,e⟩
 |.inr x,v,h=>by
  obtain⟨t,e⟩:=Value.isStrOf_shape (x:=x) (v:=v) h;exact .inr ⟨x,t,rfl,e⟩
theorem aeh(i:Int)(t:Tok):ad7 (.inl i) (.int i t)=true:=by simp[ad7,Value.isInt]
theorem aei(x:Str)(t:Tok):ad7 (.inr x) (.str x t)=true:=by simp[ad7,Value.isStrOf]
theorem arq(a b:Int):decide ((Sum.inl a:Key)=Sum.inl b)=(a == b):=by
 by_cases e:a=b
 .subst e;simp
 .have h:¬ (Sum.inl a:Key)=Sum.inl b:=λq=>e (Sum.inl.inj q);rw[decide_eq_false h];exact(beq_eq_false_iff_ne.mpr e).symm
theorem ars(a b:Str):decide ((Sum.inr a:Key)=Sum.inr b)=decide (a=b):=by
 by_cases e:a=b
 .subst e;simp
 .have h:¬ (Sum.inr a:Key)=Sum.inr b:=λq=>e (Sum.inr.inj q);rw[decide_eq_false h,decide_eq_false e]
theorem art(a:Int)(b:Str):decide ((Sum.inl a:Key)=Sum.inr b)=false:=decide_eq_false (λq=>nomatch q)
theorem aru(a:Str)(b:Int):decide ((Sum.inr a:Key)=Sum.inl b)=false:=decide_eq_false (λq=>nomatch q)
noncomputable def mz(prog:Program)(w:World):PySem.KeyKind prog w Key where
 is:=ad7
 hash:=b1o w
 inj:=λv a b ha hb=>by
  rcases ou ha with⟨i,t,rfl,rfl⟩|⟨x,t,rfl,rfl⟩
  .rcases ou hb with⟨j,u,rfl,e⟩|⟨y,u,rfl,e⟩
   .injection e with e1 _;rw[e1]
   .exact nomatch e
  .rcases ou hb with⟨j,u,rfl,e⟩|⟨y,u,rfl,e⟩
   .exact nomatch e
   .injection e with e1 _;rw[e1]
 byValue:=λk v h=>by
  rcases ou h with⟨i,t,rfl,rfl⟩|⟨x,t,rfl,rfl⟩<;>rfl
 pyHash:=λhv h=>by
  rcases ou hv with⟨i,t,rfl,rfl⟩|⟨x,t,rfl,rfl⟩
  .exact wpAny_pyHash_int h
  .exact wpAny_pyHash_str h
 eqBool:=λhu hv h=>by
  rcases ou hu with⟨i,t,rfl,rfl⟩|⟨x,t,rfl,rfl⟩
  .rcases ou hv with⟨j,u,rfl,rfl⟩|⟨y,u,rfl,rfl⟩
   .rw[arq]at h;exact wpAny_eqBool_int h
   .rw[art]at h;exact SeqAt.EqAt.int_str i t y u _ _ _ _ h
  .rcases ou hv with⟨j,u,rfl,rfl⟩|⟨y,u,rfl,rfl⟩
   .rw[aru]at h;exact SeqAt.EqAt.str_int x t j u _ _ _ _ h
   .rw[ars]at h;exact wpAny_eqBool_str h
 «strs»:=λk x t v h=>by
  rcases ou h with⟨i,u,rfl,e⟩|⟨y,u,rfl,e⟩
  .exact nomatch e
  .injection e with e1 _
   subst e1
   cases v<;>rfl
theorem aag(prog:Program)(w:World)(i:Int)(t:Tok):(mz prog w).is (.inl i) (.int i t)=true:=aeh i t
theorem aah(prog:Program)(w:World)(x:Str)(t:Tok):(mz prog w).is (.inr x) (.str x t)=true:=aei x t
inductive V where
 |non|bl (b:Bool)|int (i:Int)|str (x:Str)|byt (b:Array UInt8)|flt (b:UInt64)|ref (a:Addr)|ty (n:String)
 deriving DecidableEq
def RelV:V->Value->Prop
 |.non,u=>u=Value.none
 |.bl b,u=>u=Value.bool b
 |.int i,u=>∃t,u=Value.int i t
 |.str x,u=>∃t,u=Value.str x t
 |.byt b,u=>∃t,u=Value.bytes b t
 |.flt b,u=>∃t,u=Value.float b t
 |.ref a,u=>u=Value.ref a
 |.ty n,u=>u=Value.type n
abbrev Vals:List V->List Value->Prop:=Paired RelV
theorem Vals.length(r:Vals xs us):xs.length=us.length:=Paired.length r
theorem Vals.get:∀{xs:List V} {us:List Value} {i:Nat} {x:V},Vals xs us->xs[i]? = some x->∃u,us[i]? = some u/\RelV x u
 |_,_,_,_,.nil,e=>by simp at e
 |_,_,0,_,.cons r _,e=>by simp at e;subst e;exact⟨_,rfl,r⟩
 |_,_,i+1,x,.cons _ t,e=>by
  obtain⟨u,h1,h2⟩:=Vals.get (i:=i) (x:=x) t (by simpa using e)
  exact⟨u,by simpa using h1,h2⟩
theorem Vals.set(r:RelV x u):∀{xs:List V} {us:List Value} (i:Nat),Vals xs us->Vals (xs.set i x) (us.set i u)
 |_,_,_,.nil=>.nil
 |_,_,0,.cons _ t=>.cons r t
 |_,_,i+1,.cons q t=>.cons q (Vals.set r i t)
theorem Vals.append:∀{xs ys:List V} {us ws:List Value},Vals xs us->Vals ys ws->Vals (xs++ys) (us++ws)
 |_,_,_,_,.nil,s=>s
 |_,_,_,_,.cons r t,s=>.cons r (Vals.append t s)
theorem Vals.take:∀{xs:List V} {us:List Value} (n:Nat),Vals xs us->Vals (xs.take n) (us.take n)
 |_,_,0,_=>.nil
 |_,_,_+1,.nil=>.nil
 |_,_,n+1,.cons r t=>.cons r (Vals.take n t)
theorem Vals.drop:∀{xs:List V} {us:List Value} (n:Nat),Vals xs us->Vals (xs.drop n) (us.drop n)
 |_,_,0,r=>r
 |_,_,_+1,.nil=>.nil
 |_,_,n+1,.cons _ t=>Vals.drop n t
def RelO:Option V->Option Value->Prop
 |some v,some u=>RelV v u
 |none,none=>True
 |_,_=>False
def KV{κ:Type}:List (κ×V)->List (κ×Value)->Prop:=Paired λ(p:κ×V) (q:κ×Value)=>p.1=q.1/\RelV p.2 q.2
noncomputable def kV:Key->V
 |.inl i=>.int i
 |.inr x=>.str x
inductive HO where
 |lst (xs:List V)
 |tup (xs:List V)
 |dK (kvs:List (Key×V))|dT (kvs:List (List Key×V))
 |set (S:Int->Bool) (n:Nat)
 |ins (C dx:Addr) (fs:List (Str×V))
 |own (x:Addr)
 |xd (fs:List (Str×V))
 |met (f x:Addr)
 |rng (lo hi:Int)
 |frz (o:Obj) (u:HO)
 |tbl (ps:Array Value)
 |ext (φ:Heap->Prop)
abbrev Hp:=Addr->Option HO
noncomputable def upd(H:Hp)(a:Addr)(o:HO):Hp:=λb=>if b=a then some o else H b
theorem lw:upd H a o a=some o:=by unfold upd;rw[if_pos rfl]
theorem gf(h:b≠a):upd H a o b=H b:=by unfold upd;rw[if_neg h]
theorem ayc{H:Hp}{a b:Addr}{o u:HO}(h:H a=some o)(h':H b=some u)(d:o≠u):a≠b:=by
 intro e;subst e;rw[h]at h';exact d (Option.some.inj h')
theorem iu{H:Hp}{a b:Addr}{o:HO}(h:H a=some o)(h':H b=none):a≠b:=by
 intro e;subst e;rw[h]at h';cases h'
section
variable(P:Program)(w:World)
def ObjOk(H:Hp)(h:Heap)(a:Addr):HO->Prop
 |.lst xs=>xs.length<=sizeLine/\∃(its:List Value) (n:Nat),Vals xs its/\h.get? a=some {cls:=.type "list",data:=.seq its.toArray n}
 |.tup xs=>xs.length<=sizeLine/\∃its:List Value,Vals xs its/\IsTup h a its.toArray
 |.dK kvs=>kvs.length<=sizeLine/\(a == sysModules)=false/\∃vs,KV kvs vs/\h.DictOf (mz P w) a vs
 | .dT kvs=>kvs.length<=sizeLine/\(a == sysModules)=false/\∃xs:List (List Key×Addr×Value),
   Paired (λ(p:List Key×V) (q:List Key×Addr×Value)=>p.1=q.1/\H q.2.1=some (.tup (p.1.map kV))/\RelV p.2 q.2.2) kvs xs /\
   ∃o es ep,h.get? a=some o/\o.ExactDict/\o.data=.dict es ep/\es.toList=xs.map (entryOfKey (tupleKind (mz P w)))/\(xs.map (·.1)).Nodup
 |.set S n=>h.SetOf (intKind P w) a S n
 | .ins C dx fs=>H dx=some (.own a)/\fs.length<=1000/\dx≠a/\h.get? a=some (PySem.W.instObj C dx) /\
   ∃mA,h.Ns1 dx mA/\(∀f,RelO (fs.lookup f) (mA f))/\PySem.Within mA (fs.map (·.1))
 |.own _=>∃o,h.get? a=some o
 |.xd fs=>∃mA,h.Ns1 a mA/\∀f,RelO (fs.lookup f) (mA f)
 |.rng lo hi=>∃t u v,h.get? a=some {cls:=.type "range",data:=.fields #[.int lo t,.int hi u,.int 1 v]}
 |.frz o u=>h.get? a=some o/\ObjOk H h a u
 |.tbl ps=>h.get? a=some {cls:=.none,data:=.fields ps}
 |.met f x=>h.get? a=some (PySem.W.methodObj (.ref f) (.ref x))
 |.ext φ=>φ h/\(∃o,h.get? a=some o)/\∀h1 h2:Heap,φ h1->(∀o,h1.get? a=some o->h2.get? a=some o)->φ h2
def HOk(H:Hp)(h:Heap):Prop:=∀a o,H a=some o->ObjOk P w H h a o
end
section
variable{P:Program}{w:World}{H H':Hp}{h h':Heap}{a:Addr}{o:HO}
theorem ObjOk.lt(x:ObjOk P w H h a o):a<h.objs.size:=by
 cases o with
 |lst xs=>obtain⟨_,_,_,_,e⟩:=x;exact Heap.lt_size e
 |tup xs=>obtain⟨_,_,_,p⟩:=x;exact p.lt
 |dK kvs=>obtain⟨_,_,_,_,o,_,_,e,_⟩:=x;exact Heap.lt_size e
 |dT kvs=>obtain⟨_,_,_,_,o,_,_,e,_⟩:=x;exact Heap.lt_size e
 |set S n=>obtain⟨o,_,_,_,e,_⟩:=x;exact Heap.lt_size e
 |ins C dx fs=>obtain⟨_,_,_,e,_⟩:=x;exact Heap.lt_size e
 |own y=>obtain⟨_,e⟩:=x;exact Heap.lt_size e
 |xd fs=>obtain⟨_,⟨_,_,_,e,_⟩,_⟩:=x;exact Heap.lt_size e
 |rng lo hi=>obtain⟨_,_,_,e⟩:=x;exact Heap.lt_size e
 |frz ob u=>obtain⟨e,_⟩:=x;exact Heap.lt_size e
 |tbl ps=>exact Heap.lt_size (show h.get? a=some _ from x)
 |met f y=>exact Heap.lt_size (show h.get? a=some _ from x)
 |ext φ=>obtain⟨_,⟨_,e⟩,_⟩:=x;exact Heap.lt_size e
theorem Paired.mapP{α β:Type}{F G:α->β->Prop}:∀{l₁:List α} {l₂:List β},Paired F l₁ l₂->(∀a b,F a b->G a b)->Paired G l₁ l₂
 |_,_,.nil,_=>.nil
 |_,_,.cons r t,f=>.cons (f _ _ r) (Paired.mapP t f)
theorem ObjOk.stay(x:ObjOk P w H h a o)(k:∀b u,(b=a\/H b=some (.own a))->h.get? b=some u->h'.get? b=some u)
  (ho:∀b,H b=some (.own a)->H' b=some (.own a)) (ht:∀b xs,H b=some (.tup xs)->H' b=some (.tup xs)):ObjOk P w H' h' a o:=by
 induction o with
 |lst xs=>obtain⟨z,its,n,r,e⟩:=x;exact⟨z,its,n,r,k _ _ (.inl rfl) e⟩
 |tup xs=>obtain⟨z,its,r,ob,e,c⟩:=x;exact⟨z,its,r,ob,k _ _ (.inl rfl) e,c⟩
 |dK kvs=>obtain⟨z,y,vs,r,ob,es,ep,e,c⟩:=x;exact⟨z,y,vs,r,ob,es,ep,k _ _ (.inl rfl) e,c⟩
 |dT kvs =>
  obtain⟨z,y,xs,r,ob,es,ep,e,c⟩:=x;exact⟨z,y,xs,Paired.mapP r λp q z=>⟨z.1,ht _ _ z.2.1,z.2.2⟩,ob,es,ep,k _ _ (.inl rfl) e,c⟩
 |set S n=>obtain⟨ob,es,ep,t,e,c⟩:=x;exact⟨ob,es,ep,t,k _ _ (.inl rfl) e,c⟩
 |ins C dx fs =>
  obtain⟨d,z,ne,e,mA,⟨od,es,ep,e2,c⟩,r⟩:=x;exact⟨ho _ d,z,ne,k _ _ (.inl rfl) e,mA,⟨od,es,ep,k _ _ (.inr d) e2,c⟩,r⟩
 |own y=>obtain⟨ob,e⟩:=x;exact⟨ob,k _ _ (.inl rfl) e⟩
 |xd fs=>obtain⟨mA,⟨od,es,ep,e,c⟩,r⟩:=x;exact⟨mA,⟨od,es,ep,k _ _ (.inl rfl) e,c⟩,r⟩
 |rng lo hi=>obtain⟨t,u,v,e⟩:=x;exact⟨t,u,v,k _ _ (.inl rfl) e⟩
 |frz ob u ih=>obtain⟨e,q⟩:=x;exact⟨k _ _ (.inl rfl) e,ih q⟩
 |tbl ps =>
  have e:h.get? a=some {cls:=.none,data:=.fields ps}:=x;show h'.get? a=some {cls:=.none,data:=.fields ps};exact k a _ (.inl rfl) e
 |met f y =>
  have e:h.get? a=some (PySem.W.methodObj (.ref f) (.ref y)):=x;show h'.get? a=some (PySem.W.methodObj (.ref f) (.ref y));exact k a _ (.inl rfl) e
 |ext φ=>obtain⟨p,⟨o,e⟩,st⟩:=x;exact⟨st _ _ p λo q=>k _ _ (.inl rfl) q,⟨o,k _ _ (.inl rfl) e⟩,st⟩
theorem HOk.lt(x:HOk P w H h)(e:H a=some o):a<h.objs.size:=(x a o e).lt
theorem HOk.fresh(x:HOk P w H h)(e:h.objs.size<=a):H a=none:=by
 cases q:H a with
 |none=>rfl
 |some u=>exact absurd (Nat.lt_of_lt_of_le (x.lt q) e) (Nat.lt_irrefl _)
theorem HOk.kept(x:HOk P w H h)(k:∀b u,h.get? b=some u->h'.get? b=some u):HOk P w H h':=λa o e =>
 (x a o e).stay (λb u _ q=>k b u q) (λ_ q=>q) λ_ _ q=>q
theorem HOk.laid(x:HOk P w H h)(k:∀b u,h.get? b=some u->h'.get? b=some u)(hp:h.objs.size<=a)(new:ObjOk P w (upd H a o) h' a o):HOk P w (upd H a o) h':=λb u e=>by
 have hn:=x.fresh hp
 by_cases hb:b=a
 .subst hb;rw[lw]at e;cases e;exact new
 .rw[gf hb]at e;exact(x b u e).stay (λc v _ q=>k c v q) (λc q=>by rw[gf (iu q hn)];exact q) λc xs q=>by rw[gf (iu q hn)];exact q
end
def Rd(H:Hp)(a:Addr)(u:HO):Prop:=H a=some u\/∃o,H a=some (.frz o u)
theorem Rd.of(h:H a=some u):Rd H a u:=.inl h
theorem Rd.ok(r:Rd H a u)(x:HOk P w H h):ObjOk P w H h a u:=by
 rcases r with r|⟨o,r⟩
 .exact x a u r
 .obtain⟨_,q⟩:=x a _ r;exact q
def Mut:Option HO->Prop
 |some (.lst _)=>True
 |some (.dK _)=>True
 |some (.dT _)=>True
 |some (.set _ _)=>True
 |some (.ins _ _ _)=>True
 |some (.ext _)=>True
 |_=>False
section
variable{P:Program}{w:World}{H:Hp}{h h':Heap}{x e:Addr}{o':HO}
theorem HOk.write(ok:HOk P w H h)(mu:Mut (H x))(he:e=x\/H e=some (.own x))(k:∀b u,b≠e->h.get? b=some u->h'.get? b=some u)(heo:∃u,h'.get? e=some u)
  (new:ObjOk P w (upd H x o') h' x o'):HOk P w (upd H x o') h':=λb u q=>by
 have nown:∀c y,H c=some (.own y)->c≠x:=λc y r z=>by subst z;rw[r]at mu;exact mu
 have ntup:∀c xs,H c=some (.tup xs)->c≠x:=λc xs r z=>by subst z;rw[r]at mu;exact mu
 by_cases hb:b=x
 .subst hb;rw[lw]at q;cases q;exact new
 .rw[gf hb]at q
  by_cases hbe:b=e
  .have q':H b=some (.own x):=by
    rcases he with z|z
    .exact absurd (hbe.trans z) hb
    .rw[hbe];exact z
   rw[q]at q';cases q'
   obtain⟨v,hv⟩:=heo;exact⟨v,by rw[hbe];exact hv⟩
  .refine(ok b u q).stay (λc v hc r=>k c v ?_ r) (λc r=>by rw[gf (nown c b r)];exact r) λc xs r=>by rw[gf (ntup c xs r)];exact r
   rcases hc with rfl|hc
   .exact hbe
   .rintro rfl
    rcases he with z|z
    .exact nown c b hc z
    .rw[hc]at z;cases z;exact hb rfl
end
structure Un (fs ex:List Addr) (H H':Hp) (h h':Heap):Prop where
 keep:∀b o,h.get? b=some o->H b=none->b∉fs->b∉ex->h'.get? b=some o
 slot:∀b o,h.get? b=some o->H b=none->b∈fs->b∉ex->∃sl,h'.get? b=some {o with slots:=sl}
 free:∀b o,h.get? b=some o->H b=none->b∉ex->H' b=none
 there:∀b o,h.get? b=some o->b∉ex->∃o',h'.get? b=some o'
 tups:∀b xs,H b=some (.tup xs)->H' b=some (.tup xs)
 frzs:∀b o u,H b=some (.frz o u)->H' b=some (.frz o u)
 tbls:∀b ps,H b=some (.tbl ps)->∃more,H' b=some (.tbl (ps++more))
section
variable{fs fs' ex ex':List Addr}{H H1 H2:Hp}{h h1 h2 h':Heap}{a x e:Addr}{o:HO}
theorem Un.any(u:Un fs ex H H1 h h1)(q:h.get? b=some ob)(n:H b=none)(hx:b∉ex):∃sl,h1.get? b=some {ob with slots:=sl}:=by
 by_cases hb:b∈fs
 .exact u.slot b ob q n hb hx
 .exact⟨ob.slots,u.keep b ob q n hb hx⟩
theorem Un.kept(k:∀b u,h.get? b=some u->h'.get? b=some u):Un fs ex H H h h' :=
 ⟨λb ob q _ _ _=>k b ob q,λb ob q _ _ _=>⟨ob.slots,k b ob q⟩,λ_ _ _ n _=>n,λb ob q _=>⟨ob,k b ob q⟩,λ_ _ q=>q,λ_ _ _ q=>q,λ_ ps q=>⟨#[],by rw[q];simp⟩⟩
theorem Un.refl:Un fs ex H H h h:=Un.kept λ_ _ q=>q
theorem Un.laid(k:∀b u,h.get? b=some u->h'.get? b=some u)(hp:h.objs.size<=a)(hn:H a=none):Un fs ex H (upd H a o) h h' where
 keep:=λb u q _ _ _=>k b u q
 slot:=λb u q _ _ _=>⟨u.slots,k b u q⟩
 free:=λb u q n _=>by rw[gf (Nat.ne_of_lt (Nat.lt_of_lt_of_le (Heap.lt_size q) hp))];exact n
 there:=λb u q _=>⟨u,k b u q⟩
 tups:=λb xs q=>by rw[gf (iu q hn)];exact q
 frzs:=λb u xs q=>by rw[gf (iu q hn)];exact q
 tbls:=λb ps q=>⟨#[],by rw[gf (iu q hn),q];simp⟩
theorem Un.write(mu:Mut (H x))(he:e=x\/H e=some (.own x))(k:∀b u,b≠e->h.get? b=some u->h'.get? b=some u)(heo:∃u,h'.get? e=some u):Un fs ex H (upd H x o) h h':=by
 have hx:∀b,H b=none->b≠x:=λb n z=>by subst z;rw[n]at mu;exact mu
 have hb:∀b,H b=none->b≠e:=λb n z=>by
  subst z
  rcases he with r|r
  .exact hx b n r
  .rw[n]at r;cases r
 have hm:∀b u,H b=some u->¬ Mut (some u)->b≠x:=λb u q nm z=>by subst z;rw[q]at mu;exact nm mu
 refine⟨λb u q n _ _=>k b u (hb b n) q,λb u q n _ _=>⟨u.slots,k b u (hb b n) q⟩,λb u q n _=>by rw[gf (hx b n)];exact n,λb u q _=>?_,
  λb xs q=>by rw[gf (hm b _ q λz=>z)];exact q,λb u xs q=>by rw[gf (hm b _ q λz=>z)];exact q,λb ps q=>⟨#[],by rw[gf (hm b _ q λz=>z),q];simp⟩⟩
 by_cases hbe:b=e
 .subst hbe;exact heo
 .exact⟨u,k b u hbe q⟩
end
noncomputable def trk(h:Heap)(H:Hp):List Addr:=(List.range h.objs.size).filter λa=>(H a).isSome
noncomputable def aim(h:Heap)(H:Hp):Heap:=PySem.W.hideAll h (trk h H)
theorem aej(h:Heap)(H:Hp):(aim h H).objs.size=h.objs.size:=PySem.W.hideAll_size _ _
theorem ain{h:Heap}(e:h.get? b=some o)(n:H b=none):(aim h H).get? b=some o :=
 PySem.W.hideAll_get _ e λhm=>by
  have q:(H b).isSome=true:=(List.mem_filter.mp hm).2;rw[n]at q;simp at q
theorem ana(e:(aim h H).get? b=some o):h.get? b=some o/\H b=none:=by
 have e':h.get? b=some o:=PySem.W.of_hideAll (trk h H) e;refine⟨e',?_⟩
 cases q:H b with
 |none=>rfl
 |some x =>
  have hm:b∈trk h H:=List.mem_filter.mpr ⟨List.mem_range.mpr (Heap.lt_size e'),by simp[q]⟩
  have z:(aim h H).get? b=none:=PySem.W.hideAll_none (trk h H) hm;rw[z]at e;cases e
noncomputable def anb(g h:Heap)(L:Addr):List (Addr×Obj):=(List.range h.objs.size).filterMap λa=>if a=L\/(g.get? a).isSome=true then none else (h.get? a).map λo=>(a,o)
noncomputable def aG(g h:Heap)(L d:Addr):List (Addr×Obj):=(anb g h L).filter λp=>decide (p.1≠d)
structure Mod (K:Fg) (mg:Str->Option Value) (base:Heap):Prop where
 kin:K.In base
 glob:base.Ns mainGlobals mg
 blt:∃mb,base.Ns builtinsNs mb/\∀x:Str,x ≠ "__name__"->mb x=bootBuiltins x
 nolimit:base.NoLimit
structure Cx where
 prog:Program
 w:World
 K:Fg
 mg:Str->Option Value
 base:Heap
 A:Around
 N:List Str
 s₀:Shared
 H₀:Hp
 env:Env
 outer:List Env
 stack:List Env
 ex:List Addr
 fn:Str->Bool
 calm:Bool
 pn:List (Addr×Obj)
 xe:Value->Shared->Prop
noncomputable def frs(l:List Env):List Addr:=l.filterMap (·.frame)
abbrev Cx.fs(X:Cx):List Addr:=frs X.outer
def Vis(sc:Scope)(x:Str):Prop:=sc.names.lookup x=some .local\/sc.names.lookup x=some .cell\/sc.names.lookup x=some .free
def Loc(sc:Scope)(x:Str):Prop:=sc.names.lookup x=some .local\/sc.names.lookup x=some .cell
def Look(env:Env)(h:Heap)(m:Str->Option Value)(x:Str)(u:Value):Prop :=
 (env.kindOf x=some .local/\m x=some u)\/((env.kindOf x=some .cell\/env.kindOf x=some .free)/\∃c,env.cells.lookup x=some c/\h.IsCell c (some u))
structure Cx.Ok (X:Cx):Prop where
 mod:Mod X.K X.mg X.base
 kind:X.env.scope.kind=.function
 glob:X.env.globals=mainGlobals
 blt:X.env.builtins=builtinsNs
 above:X.s₀.heap.objs.size<=X.env.locals
 inj:∀x y c,X.env.cells.lookup x=some c->X.env.cells.lookup y=some c->x=y
 has:∀x,(X.env.kindOf x=some .cell\/X.env.kindOf x=some .free)->∃c,X.env.cells.lookup x=some c
 cab:∀x c,X.fn x=true->X.env.cells.lookup x=some c->X.s₀.heap.objs.size<=c
 hd:X.calm=true->X.A.handled=none
 frames:X.A.frames=some X.stack
 stk:X.stack=X.outer\/(X.stack=X.env::X.outer/\X.env.frame=some X.env.locals)
 exf:∀b∈X.ex,b≠X.env.locals/\∀x c,X.env.cells.lookup x=some c->c≠b
 bs:∀b o,X.base.get? b=some o->X.s₀.heap.get? b=some o/\X.H₀ b=none
 bsz:X.base.objs.size<=X.s₀.heap.objs.size
 noex:∀b o,X.base.get? b=some o->b∉X.ex
 exfs:∀b∈X.ex,b∉X.fs
 funs:X.s₀.heap.FunFrames X.base X.outer
 frf:∀b∈X.fs,X.H₀ b=none
structure Inv (X:Cx) (aA:List (Addr×Obj)) (Z:List (Option V)) (H:Hp) (s:Shared):Prop where
 ok:X.Ok
 os:s.os=X.s₀.os
 bare:AllBare s.gens
 base:Un X.fs X.ex X.H₀ H X.s₀.heap s.heap
 loc:∃m,s.heap.Ns X.env.locals m/\∀(i:Nat) (x:Str) (v:V),X.N[i]? = some x->Z[i]? = some (some v)->Vis X.env.scope x->∃u,RelV v u/\Look X.env s.heap m x u
 cell:∀x c,X.env.cells.lookup x=some c->∃v,s.heap.IsCell c v
 free:H X.env.locals=none
 freeC:∀x c,X.env.cells.lookup x=some c->H c=none
 pin:∀p∈X.pn++aA,s.heap.get? p.1=some p.2/\H p.1=none/\p.1≠X.env.locals/\p.1∉X.fs/\∀v,p.2.data≠.cell v
 hok:HOk X.prog X.w H s.heap
 len:Z.length=X.N.length
section
variable{X:Cx}{aA:List (Addr×Obj)}{Z:List (Option V)}{H H':Hp}{s:Shared}{h':Heap}
theorem Cx.Ok.nofr(ok:X.Ok)(e:X.base.get? b=some o):b∉X.fs:=λhb=>by
 have:=(ok.funs.mem hb).1
 rw[e]at this;cases this
theorem Inv.bs(I:Inv X aA Z H s):∀b o,X.base.get? b=some o->s.heap.get? b=some o/\H b=none:=λb o e =>
 ⟨I.base.keep b o (I.ok.bs b o e).1 (I.ok.bs b o e).2 (I.ok.nofr e) (I.ok.noex b o e),I.base.free b o (I.ok.bs b o e).1 (I.ok.bs b o e).2 (I.ok.noex b o e)⟩
theorem Inv.bk(I:Inv X aA Z H s):∀b o,X.base.get? b=some o->s.heap.get? b=some o:=λb o e=>(I.bs b o e).1
theorem Inv.mod(I:Inv X aA Z H s):Mod X.K X.mg X.base:=I.ok.mod
theorem Inv.kIn(I:Inv X aA Z H s):X.K.In s.heap:=I.ok.mod.kin.keeps I.bk
theorem Inv.fr(I:Inv X aA Z H s):∃m,Fr X.base X.env.locals s.heap m :=
 let ⟨m,hn,_⟩:=I.loc
 ⟨m,hn,I.bk,Nat.le_trans I.ok.bsz I.ok.above⟩
theorem Inv.lt(I:Inv X aA Z H s):X.env.locals<s.heap.objs.size:=let ⟨_,hn,_⟩:=I.loc;hn.lt
theorem Inv.sz(I:Inv X aA Z H s):X.s₀.heap.objs.size<=s.heap.objs.size:=Nat.le_trans I.ok.above (Nat.le_of_lt I.lt)
theorem Inv.nofs(I:Inv X aA Z H s)(h:s.heap.objs.size<=a):a∉X.fs:=λhb=>by
 obtain⟨_,o,ho,_⟩:=I.ok.funs.mem hb;exact absurd (Nat.lt_of_lt_of_le (Heap.lt_size ho) (Nat.le_trans I.sz h)) (Nat.lt_irrefl _)
theorem Inv.cne(I:Inv X aA Z H s):∀x c,X.env.cells.lookup x=some c->c≠X.env.locals:=λx c e z=>by
 obtain⟨v,o,ho,hd⟩:=I.cell x c e;obtain⟨m,⟨o',es,ep,ho',hd',_⟩,_⟩:=I.loc;rw[z,ho']at ho;cases ho;rw[hd']at hd;cases hd
theorem Inv.funs(I:Inv X aA Z H s):s.heap.FunFrames X.base X.outer:=by
 have all:∀(l:List Env),(∀b∈frs l,b∈X.fs)->X.s₀.heap.FunFrames X.base l->s.heap.FunFrames X.base l:=by
  intro l
  induction l with
  |nil=>intro _ _;trivial
  |cons env r ih =>
   intro hs hl
   obtain⟨hk,⟨L,o,hf,hn,ho,hd⟩,hr⟩:=hl;have hL:L∈X.fs:=hs L (by unfold frs;rw[List.filterMap_cons,hf];exact List.mem_cons_self)
   obtain⟨sl,e⟩:=I.base.slot L o ho (I.ok.frf L hL) hL λz=>I.ok.exfs L z hL;exact⟨hk,⟨L,_,hf,hn,e,hd⟩,ih (λb hb=>hs b (by unfold frs;rw[List.filterMap_cons,hf];exact List.mem_cons_of_mem _ hb)) hr⟩
 exact all X.outer (λ_ hb=>hb) I.ok.funs
theorem Inv.stack(I:Inv X aA Z H s):s.heap.FunFrames X.base X.stack:=by
 rcases I.ok.stk with e|⟨e,hf⟩
 .rw[e];exact I.funs
 .rw[e];obtain⟨m,hn,_⟩:=I.loc;refine .cons (by rw[I.ok.kind];decide) hf hn ?_ I.funs
  exact Heap.get?_none_of_le (Nat.le_trans I.ok.bsz I.ok.above)
theorem Inv.stkSub(I:Inv X aA Z H s):∀b∈frs X.stack,b∈X.env.locals::X.fs:=λb hb=>by
 rcases I.ok.stk with e|⟨e,hf⟩
 .rw[e]at hb;exact List.mem_cons_of_mem _ hb
 .rw[e]at hb;unfold frs at hb;rw[List.filterMap_cons,hf]at hb;exact hb
theorem Inv.stkFree(I:Inv X aA Z H s):∀b∈frs X.stack,H b=none:=λb hb=>by
 rcases List.mem_cons.mp (I.stkSub b hb) with e|hb
 .rw[e];exact I.free
 .obtain⟨_,o,ho,_⟩:=I.ok.funs.mem hb;exact I.base.free b o ho (I.ok.frf b hb) λz=>I.ok.exfs b z hb
theorem Inv.step{g':Array GenState}{t':Nat}{d':Drawn}{ch:List Addr}(I:Inv X aA Z H s)
  (hch:∀b∈ch,(b∈X.ex\/X.s₀.heap.objs.size<=b)/\b≠X.env.locals/\(∀x c,X.env.cells.lookup x=some c->c≠b)/\∀p∈X.pn++aA,p.1≠b)
  (keep:∀b o,b≠X.env.locals->b∉X.fs->b∉ch->s.heap.get? b=some o->H b=none->h'.get? b=some o)
  (slot:∀b o,b≠X.env.locals->b∈X.fs->b∉ch->s.heap.get? b=some o->H b=none->∃sl,h'.get? b=some {o with slots:=sl}) (free:∀b o,b∉ch->s.heap.get? b=some o->H b=none->H' b=none)
  (there:∀b o,b∉ch->s.heap.get? b=some o->∃o',h'.get? b=some o')
  (tups:∀b xs,H b=some (.tup xs)->H' b=some (.tup xs)) (frzs:∀b o u,H b=some (.frz o u)->H' b=some (.frz o u)) (tbls:∀b ps,H b=some (.tbl ps)->∃more,H' b=some (.tbl (ps++more)))
  (ns:∀m,s.heap.Ns X.env.locals m->h'.Ns X.env.locals m) (hok:HOk X.prog X.w H' h') (hg:AllBare g') :
  Inv X aA Z H' {s with heap:=h',gens:=g',drawn:=d',toks:=t' }:=by
 have neL:∀b o,X.s₀.heap.get? b=some o->b≠X.env.locals:=λb o e=>Nat.ne_of_lt (Nat.lt_of_lt_of_le (Heap.lt_size e) I.ok.above);have neC:∀b o,X.s₀.heap.get? b=some o->b∉X.ex->b∉ch:=λb o e hx hb=>by
  rcases(hch b hb).1 with z|z
  .exact hx z
  .exact absurd (Nat.lt_of_lt_of_le (Heap.lt_size e) z) (Nat.lt_irrefl _)
 have cellK:∀x c,X.env.cells.lookup x=some c->∀v,s.heap.IsCell c v->h'.IsCell c v:=λx c e v ⟨o,ho,hd⟩=>by
  have nch:c∉ch:=λz=>(hch c z).2.2.1 x c e rfl
  by_cases hc:c∈X.fs
  .obtain⟨sl,q⟩:=slot c o (I.cne x c e) hc nch ho (I.freeC x c e);exact⟨_,q,hd⟩
  .exact⟨o,keep c o (I.cne x c e) hc nch ho (I.freeC x c e),hd⟩
 refine⟨I.ok,I.os,hg,⟨λb o e n hb hx=>?_,λb o e n hb hx=>?_,λb o e n hx=>?_,λb o e hx=>?_,λb xs e=>tups b xs (I.base.tups b xs e),λb o xs e=>frzs b o xs (I.base.frzs b o xs e),λb ps e=>?_⟩,?_,λx c e=>?_,?_,λx c e=>?_,λp hp=>?_,hok,I.len⟩
 .exact keep b o (neL b o e) hb (neC b o e hx) (I.base.keep b o e n hb hx) (I.base.free b o e n hx)
 .obtain⟨sl,e1⟩:=I.base.slot b o e n hb hx;obtain⟨sl',e2⟩:=slot b _ (neL b o e) hb (neC b o e hx) e1 (I.base.free b o e n hx);exact⟨sl',e2⟩
 .obtain⟨o',e1⟩:=I.base.there b o e hx;exact free b o' (neC b o e hx) e1 (I.base.free b o e n hx)
 .obtain⟨o',e1⟩:=I.base.there b o e hx;exact there b o' (neC b o e hx) e1
 .obtain⟨m1,e1⟩:=I.base.tbls b ps e;obtain⟨m2,e2⟩:=tbls b _ e1;exact⟨m1++m2,by rw[e2,Array.append_assoc]⟩
 .obtain⟨m,hn,hl⟩:=I.loc;refine⟨m,ns m hn,λi x v e1 e2 e3=>?_⟩;obtain⟨u,r,l⟩:=hl i x v e1 e2 e3;refine⟨u,r,?_⟩
  rcases l with l|⟨k,c,e,z⟩
  .exact .inl l
  .exact .inr ⟨k,c,e,cellK x c e _ z⟩
 .obtain⟨v,z⟩:=I.cell x c e;exact⟨v,cellK x c e v z⟩
 .obtain⟨m,⟨o,_,_,ho,_⟩,_⟩:=I.loc;exact free _ o (λz=>(hch _ z).2.1 rfl) ho I.free
 .obtain⟨v,o,ho,hd⟩:=I.cell x c e;exact free c o (λz=>(hch c z).2.2.1 x c e rfl) ho (I.freeC x c e)
 .obtain⟨e,n,ne,nf,d⟩:=I.pin p hp;have nch:p.1∉ch:=λz=>(hch p.1 z).2.2.2 p hp rfl;exact⟨keep p.1 p.2 ne nf nch e n,free p.1 p.2 nch e n,ne,nf,d⟩
theorem Inv.un{t':Nat}(I:Inv X aA Z H s)(u:Un X.fs [] H H' s.heap h')(hok:HOk X.prog X.w H' h'):Inv X aA Z H' {s with heap:=h',toks:=t' }:=by
 obtain⟨m,⟨o,es,ep,ho,r⟩,_⟩:=id I.loc;obtain⟨sl,hL⟩:=u.any ho I.free (by simp)
 exact I.step (g':=s.gens) (d':=s.drawn) (ch:=[]) (λ_ z=>nomatch z) (λb o _ hb _ e n=>u.keep b o e n hb (by simp)) (λb o _ hb _ e n=>u.slot b o e n hb (by simp)) (λb o _ e n=>u.free b o e n (by simp)) (λb o _ e=>u.there b o e (by simp)) u.tups u.frzs u.tbls (λm' hm=>by
  obtain⟨o',es',ep',ho',r'⟩:=hm;rw[ho]at ho';cases ho'
  exact⟨_,es',ep',hL,r'⟩) hok I.bare
theorem Inv.call{g':Array GenState}{t':Nat}{d':Drawn}{ch:List Addr}(I:Inv X aA Z H s)(u:Un (frs X.stack) ch H H' s.heap h')(hok:HOk X.prog X.w H' h')(hg:AllBare g')
  (hch:∀b∈ch,(b∈X.ex\/X.s₀.heap.objs.size<=b)/\b≠X.env.locals/\(∀x c,X.env.cells.lookup x=some c->c≠b)/\∀p∈X.pn++aA,p.1≠b) :
  Inv X aA Z H' {s with heap:=h',gens:=g',drawn:=d',toks:=t' }:=by
 obtain⟨m,⟨o,es,ep,ho,r⟩,_⟩:=id I.loc;obtain⟨sl,hL⟩:=u.any ho I.free λz=>(hch _ z).2.1 rfl;exact I.step (ch:=ch) hch (λb o hL hb hc e n=>u.keep b o e n (λz=>(List.mem_cons.mp (I.stkSub b z)).elim hL hb) hc) (λb o _ _ hc e n=>u.any e n hc) (λb o hc e n=>u.free b o e n hc) (λb o hc e=>u.there b o e hc) u.tups u.frzs u.tbls (λm' hm=>by
  obtain⟨o',es',ep',ho',r'⟩:=hm;rw[ho]at ho';cases ho'
  exact⟨_,es',ep',hL,r'⟩) hok hg
theorem Inv.turned{t':Nat}{it:Addr}(I:Inv X aA Z H s)(k:∀b o,b≠it->s.heap.get? b=some o->h'.get? b=some o)(hn:H it=none)(hL:it≠X.env.locals)
  (h1:it∈X.ex\/X.s₀.heap.objs.size<=it) (h2:∀x c,X.env.cells.lookup x=some c->c≠it) (h3:∀p∈X.pn++aA,p.1≠it):Inv X aA Z H {s with heap:=h',toks:=t' }:=by
 have nit:∀b u,H b=some u->b≠it:=λb u e z=>by rw[z,hn]at e;cases e
 refine I.step (g':=s.gens) (d':=s.drawn) (ch:=[it]) (λb hb=>?_) (λb o _ _ hc e _=>k b o (λz=>hc (by simp[z])) e) (λb o _ _ hc e _=>⟨o.slots,k b o (λz=>hc (by simp[z])) e⟩) (λ_ _ _ _ n=>n)
  (λb o hc e=>⟨o,k b o (λz=>hc (by simp[z])) e⟩) (λ_ _ e=>e) (λ_ _ _ e=>e) (λb ps e=>⟨#[],by rw[e];simp⟩) (λm hm=>?_) (λb u e=>?_) I.bare
 .have e:b=it:=by simpa using hb
  subst e;exact⟨h1,hL,h2,h3⟩
 .obtain⟨o,es,ep,ho,r⟩:=hm;exact⟨o,es,ep,k _ o (Ne.symm hL) ho,r⟩
 .refine(I.hok b u e).stay (λc v hc q=>k c v ?_ q) (λ_ q=>q) λ_ _ q=>q
  rcases hc with z|z
  .rw[z];exact nit b u e
  .exact nit c _ z
theorem Inv.tok(I:Inv X aA Z H s)(t:Nat):Inv X aA Z H {s with toks:=t}:=I.un (h':=s.heap) (t':=t) Un.refl I.hok
theorem Inv.kept(I:Inv X aA Z H s)(k:∀b u,s.heap.get? b=some u->h'.get? b=some u):Inv X aA Z H {s with heap:=h',toks:=t' }:=I.un (Un.kept k) (I.hok.kept k)
theorem Inv.laid(I:Inv X aA Z H s)(k:∀b u,s.heap.get? b=some u->h'.get? b=some u)(hp:s.heap.objs.size<=a)(new:ObjOk X.prog X.w (upd H a o) h' a o) :
  Inv X aA Z (upd H a o) {s with heap:=h',toks:=t' }:=I.un (Un.laid k hp (I.hok.fresh hp)) (I.hok.laid k hp new)
theorem Inv.write(I:Inv X aA Z H s)(mu:Mut (H x))(he:e=x\/H e=some (.own x))(k:∀b u,b≠e->s.heap.get? b=some u->h'.get? b=some u)(heo:∃u,h'.get? e=some u)
  (new:ObjOk X.prog X.w (upd H x o) h' x o):Inv X aA Z (upd H x o) {s with heap:=h',toks:=t' }:=I.un (Un.write mu he k heo) (I.hok.write mu he k heo new)
theorem Inv.weak{Z':List (Option V)}(I:Inv X aA Z H s)(hl:Z'.length=Z.length)(w:∀(i:Nat) v,Z'[i]? = some (some v)->Z[i]? = some (some v)):Inv X aA Z' H s :=
 ⟨I.ok,I.os,I.bare,I.base,let ⟨m,hn,hl'⟩:=I.loc; ⟨m,hn,λi x v e1 e2 e3=>hl' i x v e1 (w i v e2) e3⟩,I.cell,I.free,I.freeC,I.pin,I.hok,hl.trans I.len⟩
theorem Inv.pins_of(I:Inv X aA Z H s)(h:∀p∈pins',s.heap.get? p.1=some p.2/\H p.1=none/\p.1≠X.env.locals/\p.1∉X.fs/\∀v,p.2.data≠.cell v):Inv X pins' Z H s :=
 ⟨I.ok,I.os,I.bare,I.base,I.loc,I.cell,I.free,I.freeC,λp hp=>(List.mem_append.mp hp).elim (λz=>I.pin p (List.mem_append_left _ z)) (h p),I.hok,I.len⟩
theorem abk{N:List Str}(hN:N.Nodup){i j:Nat}(a:N[i]? = some x)(b:N[j]? = some x):i=j:=by
 obtain⟨h1,e1⟩:=List.getElem?_eq_some_iff.mp a;obtain⟨h2,e2⟩:=List.getElem?_eq_some_iff.mp b;exact(List.getElem_inj hN).mp (e1.trans e2.symm)
abbrev Hf(X:Cx)(x:Str):Prop:=X.fn x=true\/X.env.scope.names.lookup x=some .local
theorem a8u{i:Nat}(I:Inv X aA Z H s)(hN:X.N.Nodup)(hi:X.N[i]? = some x)(hx:Loc X.env.scope x)(r:RelV v u)
  (h:∀s',Inv X aA (Z.set i (some v)) H s'->(∃a,Heap.SameBut a s.heap s'.heap/\(a=X.env.locals\/X.env.cells.lookup x=some a))->Q () s') (hf:Hf X x:=by first|exact .inl rfl|exact .inr rfl|assumption):wpAny M A (storeName X.env x u) Q E s:=by
 obtain⟨m,hn,hl⟩:=id I.loc;have hcls:(X.env.scope.kind == .class || (X.env.scope.kind == .module && X.env.locals != X.env.globals))=false:=by rw[I.ok.kind];rfl
 have hiZ:i<Z.length:=by rw[I.len];exact(List.getElem?_eq_some_iff.mp hi).1
 have cne:=I.cne;have tracked:∀{a:Addr} {h':Heap},(∃o,s.heap.get? a=some o/\H a=none)->Heap.SameBut a s.heap h'->HOk X.prog X.w H h':=λ{a h'} ha hs b ob e=>by
  obtain⟨_,_,hfree⟩:=ha;refine(I.hok b ob e).stay (λc w' hc q=>(hs.2 c ?_).trans q) (λ_ q=>q) λ_ _ q=>q
  rintro rfl
  rcases hc with rfl|hc
  .rw[hfree]at e;cases e
  .rw[hfree]at hc;cases hc
 rcases hx with hk|hk
 .refine wpAny_storeName_local hk hn (λh' hn' hs=>?_) hcls;obtain⟨oL,_,_,hoL,_⟩:=id hn;refine h _ ⟨I.ok,I.os,I.bare,⟨λb o e n hb hx=>?_,λb o e n hb hx=>?_,I.base.free,λb o e hx=>?_,I.base.tups,I.base.frzs,I.base.tbls⟩,⟨_,hn',λj y v' e1 e2 e3=>?_⟩,λy c e=>?_,I.free,I.freeC,λp hp=>?_,tracked ⟨oL,hoL,I.free⟩ hs,by simpa using I.len⟩ ⟨_,hs,.inl rfl⟩
  .exact(hs.2 b (Nat.ne_of_lt (Nat.lt_of_lt_of_le (Heap.lt_size e) I.ok.above))).trans (I.base.keep b o e n hb hx)
  .obtain⟨sl,e1⟩:=I.base.slot b o e n hb hx;exact⟨sl,(hs.2 b (Nat.ne_of_lt (Nat.lt_of_lt_of_le (Heap.lt_size e) I.ok.above))).trans e1⟩
  .obtain⟨o',e1⟩:=I.base.there b o e hx;exact⟨o',(hs.2 b (Nat.ne_of_lt (Nat.lt_of_lt_of_le (Heap.lt_size e) I.ok.above))).trans e1⟩
  .by_cases hj:j=i
   .subst hj;rw[hi]at e1;cases e1
    rw[List.getElem?_set_self hiZ]at e2;cases e2
    exact⟨u,r,.inl ⟨hk,by simp⟩⟩
   .rw[List.getElem?_set_ne (Ne.symm hj)]at e2;obtain⟨u',r',q⟩:=hl j y v' e1 e2 e3;refine⟨u',r',?_⟩
    rcases q with⟨k,e⟩|⟨k,c,e,z⟩
    .refine .inl ⟨k,?_⟩;have:y≠x:=λe=>hj (abk hN e1 (e ▸ hi));simp[this,e]
    .exact .inr ⟨k,c,e,z.sameBut hs (cne y c e)⟩
  .obtain⟨w',z⟩:=I.cell y c e;exact⟨w',z.sameBut hs (cne y c e)⟩
  .obtain⟨e,n,ne,nf,d⟩:=I.pin p hp;exact⟨(hs.2 p.1 ne).trans e,n,ne,nf,d⟩
 .have hfn:X.fn x=true:=by
   rcases hf with z|z
   .exact z
   .rw[z]at hk;cases hk
  obtain⟨c,hc⟩:=I.ok.has x (.inl hk);obtain⟨w',z⟩:=I.cell x c hc;refine wpAny_storeName_cell I.ok.kind hk hc z (λh' hc' hs=>?_);obtain⟨oc,hoc,hocd⟩:=id z;refine h {s with heap:=h' } ⟨I.ok,I.os,I.bare,⟨λb o e n hb hx=>?_,λb o e n hb hx=>?_,I.base.free,λb o e hx=>?_,I.base.tups,I.base.frzs,I.base.tbls⟩,⟨m,hn.sameBut hs (Ne.symm (cne x c hc)),λj y v' e1 e2 e3=>?_⟩,λy c' e=>?_,I.free,I.freeC,λp hp=>?_,tracked ⟨oc,hoc,I.freeC x c hc⟩ hs,by simpa using I.len⟩ ⟨c,hs,.inr hc⟩
  .exact(hs.2 b (Nat.ne_of_lt (Nat.lt_of_lt_of_le (Heap.lt_size e) (I.ok.cab x c hfn hc)))).trans (I.base.keep b o e n hb hx)
  .obtain⟨sl,e1⟩:=I.base.slot b o e n hb hx;exact⟨sl,(hs.2 b (Nat.ne_of_lt (Nat.lt_of_lt_of_le (Heap.lt_size e) (I.ok.cab x c hfn hc)))).trans e1⟩
  .obtain⟨o',e1⟩:=I.base.there b o e hx;exact⟨o',(hs.2 b (Nat.ne_of_lt (Nat.lt_of_lt_of_le (Heap.lt_size e) (I.ok.cab x c hfn hc)))).trans e1⟩
  .by_cases hj:j=i
   .subst hj;rw[hi]at e1;cases e1
    rw[List.getElem?_set_self hiZ]at e2;cases e2
    exact⟨u,r,.inr ⟨.inl hk,c,hc,hc'⟩⟩
   .rw[List.getElem?_set_ne (Ne.symm hj)]at e2;obtain⟨u',r',q⟩:=hl j y v' e1 e2 e3;refine⟨u',r',?_⟩
    rcases q with q|⟨k,c',e,z'⟩
    .exact .inl q
    .refine .inr ⟨k,c',e,z'.sameBut hs ?_⟩
     rintro rfl
     exact hj (abk hN e1 (I.ok.inj _ _ _ e hc ▸ hi))
  .by_cases hcc:c'=c
   .subst hcc;exact⟨_,hc'⟩
   .obtain⟨w2,z2⟩:=I.cell y c' e;exact⟨w2,z2.sameBut hs hcc⟩
  .obtain⟨e,n,ne,nf,d⟩:=I.pin p hp;refine⟨(hs.2 p.1 ?_).trans e,n,ne,nf,d⟩
   intro q
   rw[q,hoc]at e;have q':oc=p.2:=Option.some.inj e;exact d w' (by rw[<-q'];exact hocd)
theorem a7f(I:Inv X aA Z H s)(hN:X.N.Nodup)(hi:X.N[i]? = some x)(hx:Loc X.env.scope x)(r:RelV v u)
  (h:∀s',Inv X aA (Z.set i (some v)) H s'->Q () s') (hf:Hf X x:=by first|exact .inl rfl|exact .inr rfl|assumption):wpAny M A (storeName X.env x u) Q E s :=
 a8u I hN hi hx r (λs' I' _=>h s' I') hf
end
abbrev XK:=Value->Option Addr->Hp->Prop
abbrev St:=List (Option V)
abbrev VK:=V->Hp->Prop
abbrev TE:=St->Hp->VK->Prop
abbrev TT:=St->Hp->(Bool->Hp->Prop)->Prop
abbrev TA:=St->Hp->(List V->Hp->Prop)->Prop
structure Ends where
 nx:St->Hp->Prop
 rt:VK
 bk:St->Hp->Prop:=λ_ _=>False
 ct:St->Hp->Prop:=λ_ _=>False
abbrev TS:=Ends->St->Hp->Prop
def EP(X:Cx)(aA:List (Addr×Obj))(Z:St)(Q:VK)(u:Value)(s':Shared):Prop:=∃v H',Inv X aA Z H' s'/\RelV v u/\Q v H'
def TP(X:Cx)(aA:List (Addr×Obj))(Z:St)(Q:Bool->Hp->Prop)(b:Bool)(s':Shared):Prop:=∃H',Inv X aA Z H' s'/\Q b H'
def AP(X:Cx)(aA:List (Addr×Obj))(Z:St)(Q:List V->Hp->Prop)(us:List Value)(s':Shared):Prop:=∃vs H',Inv X aA Z H' s'/\Vals vs us/\Q vs H'
def SP(X:Cx)(aA:List (Addr×Obj))(D:Ends)(f:Flow)(s':Shared):Prop :=
 match f with
 |.next=>∃Z' H',Inv X aA Z' H' s'/\D.nx Z' H'
 |.brk=>∃Z' H',Inv X aA Z' H' s'/\D.bk Z' H'
 |.cont=>∃Z' H',Inv X aA Z' H' s'/\D.ct Z' H'
 |.ret u=>∃v Z' H',Inv X aA Z' H' s'/\RelV v u/\D.rt v H'
def PE(X:Cx)(e:Expr)(t:TE):Prop :=
 ∀(aA:List (Addr×Obj)) (s:Shared) (Z:St) (H:Hp) (Q:VK),Inv X aA Z H s->t Z H Q->wpAny (model X.prog X.w) X.A (eval e X.env) (EP X aA Z Q) X.xe s
def PT(X:Cx)(e:Expr)(t:TT):Prop :=
 ∀(aA:List (Addr×Obj)) (s:Shared) (Z:St) (H:Hp) (Q:Bool->Hp->Prop),Inv X aA Z H s->t Z H Q->wpAny (model X.prog X.w) X.A (isTrue e X.env (eval e X.env)) (TP X aA Z Q) X.xe s
def PW(X:Cx)(e:Expr)(t:TT):Prop :=
 ∀(whole:Sem Value) (aA:List (Addr×Obj)) (s:Shared) (Z:St) (H:Hp) (Q:Bool->Hp->Prop),Inv X aA Z H s->t Z H Q->wpAny (model X.prog X.w) X.A (isTrue e X.env whole) (TP X aA Z Q) X.xe s
theorem PW.pt(h:PW X e t):PT X e t:=h _
def PA(X:Cx)(es:List Expr)(t:TA):Prop :=
 ∀(pos:Pos) (aA:List (Addr×Obj)) (s:Shared) (Z:St) (H:Hp) (Q:List V->Hp->Prop),Inv X aA Z H s->t Z H Q->wpAny (model X.prog X.w) X.A (spliced (backTo pos (starEach es X.env))) (AP X aA Z Q) X.xe s
def PS(X:Cx)(st:Stmt)(t:TS):Prop :=
 ∀(aA:List (Addr×Obj)) (s:Shared) (Z:St) (H:Hp) (D:Ends),Inv X aA Z H s->t D Z H->wpAny (model X.prog X.w) X.A (exec st X.env) (SP X aA D) X.xe s
def PSs(X:Cx)(st:List Stmt)(t:TS):Prop :=
 ∀(aA:List (Addr×Obj)) (s:Shared) (Z:St) (H:Hp) (D:Ends),Inv X aA Z H s->t D Z H->wpAny (model X.prog X.w) X.A (execs st X.env) (SP X aA D) X.xe s
theorem thn{α:Type}{t:Sem α}{Q Q':α->Shared->Prop}{M:Model}{A:Around}{E:Value->Shared->Prop}{s:Shared}(h:wpAny M A t Q E s)(hQ:∀a s,Q a s->Q' a s):wpAny M A t Q' E s:=wpAny_mono h hQ λ_ _ x=>x
section
variable{X:Cx}
noncomputable def b1p(i:Nat):TE:=λZ H Q=>∃v,Z[i]? = some (some v)/\Q v H
noncomputable def tC(v:V):TE:=λ_ H Q=>Q v H
theorem arv(hN:X.N[i]? = some x)(hv:Vis X.env.scope x)(hd:(x == ("__debug__" : Str))=false:=by decide)(hcd:(x == ("__classdict__" : Str))=false:=by decide):PE X (.Name x pos) (b1p i):=by
 intro aA s Z H Q I h
 obtain⟨v,e,h⟩:=h;obtain⟨m,hn,hl⟩:=I.loc;obtain⟨u,r,l⟩:=hl i x v hN e hv;have fin:EP X aA Z Q u s:=⟨v,H,I,r,h⟩
 rcases l with⟨hk,hm⟩|⟨hk,c,hc,hcell⟩
 .exact wpAny_Name (wpAny_loadName_local I.ok.kind hk hn hm fin) hd
 .rcases hk with hk|hk
  .exact wpAny_Name (wpAny_loadName_cell I.ok.kind hk hc hcell fin) hd
  .exact wpAny_Name (wpAny_loadName_free I.ok.kind hk hc hcell fin hcd) hd
theorem arw{i j pos}:PE X (.Constant (.int i) j pos) (tC (.int i)):=λ_ _ _ H _ I h=>wpAny_Constant_int ⟨.int i,H,I.tok _,⟨_,rfl⟩,h⟩
theorem ayd{b j pos}:PE X (.Constant (.bool b) j pos) (tC (.bl b)):=λ_ _ _ H _ I h=>Constant_bool ⟨.bl b,H,I,rfl,h⟩
theorem arx{j pos}:PE X (.Constant .none j pos) (tC .non):=λ_ _ _ H _ I h=>Constant_none ⟨.non,H,I,rfl,h⟩
theorem arz{x j pos}:PE X (.Constant (.str x) j pos) (tC (.str x)):=λ_ _ _ H _ I h=>Calls.Constant_str ⟨.str x,H,I.tok _,⟨_,rfl⟩,h⟩
def Gl(X:Cx)(x:Str):Prop:=X.env.kindOf x=some .globalImplicit
theorem aek(I:Inv X aA Z H s)(hg:Gl X x)(hm:X.mg x=some u)(h:Q u s)
  (hd:(x == ("__debug__" : Str))=false:=by decide):wpAny (model X.prog X.w) X.A (eval (.Name x pos) X.env) Q E s :=
 Calls.Name_function_global I.ok.kind hg (Calls.loadGlobal_global (by rw[I.ok.glob];exact I.mod.glob.keeps I.bk) hm h) hd
theorem a2u(I:Inv X aA Z H s)(hg:Gl X x)(hm:X.mg x=none)(hv:bootBuiltins x=some u)(h:Q u s)
  (hn:x ≠ "__name__":=by decide) (hd:(x == ("__debug__" : Str))=false:=by decide):wpAny (model X.prog X.w) X.A (eval (.Name x pos) X.env) Q E s:=by
 obtain⟨mb,h1,h2⟩:=I.mod.blt;exact Calls.Name_function_global I.ok.kind hg (Calls.loadGlobal_builtin (by rw[I.ok.glob];exact I.mod.glob.keeps I.bk) hm (by rw[I.ok.blt];exact h1.keeps I.bk) ((h2 x hn).trans hv) h) hd
theorem anc(hg:Gl X x)(hm:X.mg x=none)(hv:bootBuiltins x=some u)(r:RelV v u)(hn:x ≠ "__name__":=by decide)(hd:(x == ("__debug__" : Str))=false:=by decide):PE X (.Name x pos) (tC v) :=
 λ_ _ _ H _ I h=>a2u I hg hm hv ⟨v,H,I,r,h⟩ hn hd
variable{a b:Expr}{ta tb:TE}{pos:Pos}
variable{tA tB':TT}{aG:List Expr}
noncomputable def b1q(t u:TT):TT:=λZ H Q=>t Z H λc H1=>if c=true then u Z H1 Q else Q false H1
noncomputable def tOr(t u:TT):TT:=λZ H Q=>t Z H λc H1=>if c=true then Q true H1 else u Z H1 Q
noncomputable def b1r(t:TT):TT:=λZ H Q=>t Z H λc H1=>Q (!c) H1
theorem ane(ha:PT X a tA):PW X (.BoolOp .And [a] pos) tA:=by
 intro wh aA s Z H Q I h
 refine isTrue_and (thn (ha aA s Z H Q I h) λc s1 e=>?_)
 cases c with
 |true=>exact isTrue_and_nil e
 |false=>exact e
theorem as3(ha:PT X a tA):PW X (.BoolOp .Or [a] pos) tA:=by
 intro wh aA s Z H Q I h
 refine isTrue_or (thn (ha aA s Z H Q I h) λc s1 e=>?_)
 cases c with
 |false=>exact isTrue_or_nil e
 |true=>exact e
theorem as4(ha:PT X a tA)(hb:PW X (.BoolOp .And (b::aG) pos) tB'):PW X (.BoolOp .And (a::b::aG) pos) (b1q tA tB'):=by
 intro wh aA s Z H Q I h
 refine isTrue_and (thn (ha aA s Z H _ I h) λc s1 ⟨H1,I1,q1⟩=>?_)
 cases c with
 |true=>exact hb wh aA s1 Z H1 Q I1 q1
 |false=>exact⟨H1,I1,q1⟩
theorem aye(ha:PT X a tA)(hb:PW X (.BoolOp .Or (b::aG) pos) tB'):PW X (.BoolOp .Or (a::b::aG) pos) (tOr tA tB'):=by
 intro wh aA s Z H Q I h
 refine isTrue_or (thn (ha aA s Z H _ I h) λc s1 ⟨H1,I1,q1⟩=>?_)
 cases c with
 |true=>exact⟨H1,I1,q1⟩
 |false=>exact hb wh aA s1 Z H1 Q I1 q1
theorem as5(ha:PT X a tA):PT X (.UnaryOp .Not a pos) (b1r tA):=by
 intro aA s Z H Q I h
 exact isTrue_not (ha aA s Z H (λc H1=>Q (!c) H1) I h)
noncomputable def ayf(ta tb:TE):TE:=λZ H Q=>ta Z H λx H1=>∃c,x=.bl c/\if c=true then tb Z H1 Q else Q (.bl false) H1
noncomputable def ayg(ta:TE):TE:=λZ H Q=>ta Z H λx H1=>∃c,x=.bl c/\Q (.bl (!c)) H1
theorem as6{op}(h:PE X a t):PE X (.BoolOp op [a] pos) t:=λaA s Z H Q I hw=>BoolOp_one (h aA s Z H Q I hw)
theorem as7(ha:PE X a ta)(hb:PE X (.BoolOp .And (b::aG) pos) tb):PE X (.BoolOp .And (a::b::aG) pos) (ayf ta tb):=by
 intro aA s Z H Q I h
 refine BoolOp_and (thn (ha aA s Z H _ I h) λv s1 ⟨x,H1,I1,r1,q1⟩=>?_);obtain⟨c,rfl,q1⟩:=q1;cases r1
 refine wpAny_truthy_bool ?_
 cases c with
 |true=>exact hb aA s1 Z H1 Q I1 q1
 |false=>exact⟨.bl false,H1,I1,rfl,q1⟩
theorem as8(ha:PE X a ta):PE X (.UnaryOp .Not a pos) (ayg ta):=by
 intro aA s Z H Q I h
 refine UnaryOp_ (thn (ha aA s Z H _ I h) λv s1 ⟨x,H1,I1,r1,q1⟩=>?_);obtain⟨c,rfl,q1⟩:=q1;cases r1
 exact not_of (wpAny_truthy_bool ⟨.bl (!c),H1,I1,rfl,q1⟩)
end
def SqL(K:Fg)(H:Hp)(a:Addr)(xs:List V):Prop :=
 Rd H a (.lst xs) \/
  ∃(o:Obj) (its:Array Value) (n:Nat),K.lookup a=some o/\o.cls=.type "list"/\o.dict=none/\o.data=.seq its n/\its.size<=sizeLine/\Vals xs its.toList
def SqT(K:Fg)(H:Hp)(a:Addr)(xs:List V):Prop :=
 Rd H a (.tup xs) \/
  ∃(o:Obj) (its:Array Value) (n:Nat),K.lookup a=some o/\o.cls=.type "tuple"/\o.data=.seq its n/\its.size<=sizeLine/\Vals xs its.toList
noncomputable def b1s:Value->Option V
 |.none=>some .non
 |.bool b=>some (.bl b)
 |.int i _=>some (.int i)
 |.str x _=>some (.str x)
 |.bytes b _=>some (.byt b)
 |.float b _=>some (.flt b)
 |.ref a=>some (.ref a)
 |.type n=>some (.ty n)
 |_=>none
theorem RelV.abs(r:RelV x u):b1s u=some x:=by
 cases x with
 |non=>cases r;rfl
 |bl _=>cases r;rfl
 |int _=>obtain⟨t,rfl⟩:=r;rfl
 |str _=>obtain⟨t,rfl⟩:=r;rfl
 |byt _=>obtain⟨t,rfl⟩:=r;rfl
 |flt _=>obtain⟨t,rfl⟩:=r;rfl
 |ref _=>cases r;rfl
 |ty _=>cases r;rfl
theorem RelV.inj(r:RelV x u)(q:RelV y u):x=y:=Option.some.inj (r.abs.symm.trans q.abs)
theorem Vals.inj:∀{xs ys:List V} {us:List Value},Vals xs us->Vals ys us->xs=ys
 |_,_,_,.nil,.nil=>rfl
 |_,_,_,.cons r t,.cons r' t'=>by rw[r.inj r',Vals.inj t t']
section
variable{X:Cx}{aA:List (Addr×Obj)}{Z:St}{H:Hp}{s:Shared}{a:Addr}{xs ys:List V}
theorem SqL.of{K:Fg}(h:H a=some (.lst xs)):SqL K H a xs:=.inl (.inl h)
theorem SqT.of{K:Fg}(h:H a=some (.tup xs)):SqT K H a xs:=.inl (.inl h)
theorem Inv.list(I:Inv X aA Z H s)(h:SqL X.K H a xs):∃its:List Value,Vals xs its/\PlainL s.heap a its.toArray/\xs.length<=sizeLine:=by
 rcases h with h|⟨o,its,n,hk,hc,hd,hs,hz,r⟩
 .obtain⟨z,its,n,r,e⟩:=h.ok I.hok;exact⟨its,r,⟨_,n,e,rfl,rfl,rfl⟩,z⟩
 .refine⟨its.toList,r,⟨o,n,I.kIn a o hk,hc,hd,by simpa using hs⟩,?_⟩
  have e:=r.length;simp only[Array.length_toList]at e;omega
theorem Inv.tuple(I:Inv X aA Z H s)(h:SqT X.K H a xs):∃its:List Value,Vals xs its/\IsTup s.heap a its.toArray/\xs.length<=sizeLine:=by
 rcases h with h|⟨o,its,n,hk,hc,hs,hz,r⟩
 .obtain⟨z,its,r,p⟩:=h.ok I.hok;exact⟨its,r,p,z⟩
 .refine⟨its.toList,r,⟨o,I.kIn a o hk,hc,n,by simpa using hs⟩,?_⟩
  have e:=r.length;simp only[Array.length_toList]at e;omega
theorem Inv.list_inj(I:Inv X aA Z H s)(h:SqL X.K H a xs)(h':SqL X.K H a ys):xs=ys:=by
 obtain⟨its,r,⟨o,n,e,_,_,d⟩,_⟩:=I.list h;obtain⟨its',r',⟨o',n',e',_,_,d'⟩,_⟩:=I.list h';rw[e]at e';cases e'
 rw[d]at d'
 injection d' with d1 _
 have:its=its':=by simpa using congrArg Array.toList d1
 subst this;exact r.inj r'
theorem Inv.tuple_inj(I:Inv X aA Z H s)(h:SqT X.K H a xs)(h':SqT X.K H a ys):xs=ys:=by
 obtain⟨its,r,⟨o,e,_,n,d⟩,_⟩:=I.tuple h;obtain⟨its',r',⟨o',e',_,n',d'⟩,_⟩:=I.tuple h';rw[e]at e';cases e'
 rw[d]at d'
 injection d' with d1 _
 have:its=its':=by simpa using congrArg Array.toList d1
 subst this;exact r.inj r'
end
abbrev Cx.wish(X:Cx)(E:Value->Shared->Prop):Cx:={X with xe:=E}
abbrev Cx.nox(X:Cx):Cx:=X.wish λ_ _=>False
theorem Cx.Ok.wish{X:Cx}(ok:X.Ok)(E:Value->Shared->Prop):(X.wish E).Ok :=
 ⟨ok.mod,ok.kind,ok.glob,ok.blt,ok.above,ok.inj,ok.has,ok.cab,ok.hd,ok.frames,ok.stk,ok.exf,ok.bs,ok.bsz,ok.noex,ok.exfs,ok.funs,ok.frf⟩
theorem Cx.Ok.unwish{X:Cx}(ok:(X.wish E).Ok):X.Ok :=
 ⟨ok.mod,ok.kind,ok.glob,ok.blt,ok.above,ok.inj,ok.has,ok.cab,ok.hd,ok.frames,ok.stk,ok.exf,ok.bs,ok.bsz,ok.noex,ok.exfs,ok.funs,ok.frf⟩
section
variable{X:Cx}{aA:List (Addr×Obj)}{Z:St}{H:Hp}{s:Shared}{E:Value->Shared->Prop}
theorem Inv.wish(I:Inv X aA Z H s)(E:Value->Shared->Prop):Inv (X.wish E) aA Z H s:=⟨I.ok.wish E,I.os,I.bare,I.base,I.loc,I.cell,I.free,I.freeC,I.pin,I.hok,I.len⟩
theorem Inv.unwish(I:Inv (X.wish E) aA Z H s):Inv X aA Z H s:=⟨I.ok.unwish,I.os,I.bare,I.base,I.loc,I.cell,I.free,I.freeC,I.pin,I.hok,I.len⟩
theorem SP.unwish(h:SP (X.wish E) aA D f s'):SP X aA D f s':=by
 cases f with
 |next=>obtain⟨Z',H',I,q⟩:=h;exact⟨Z',H',I.unwish,q⟩
 |brk=>obtain⟨Z',H',I,q⟩:=h;exact⟨Z',H',I.unwish,q⟩
 |cont=>obtain⟨Z',H',I,q⟩:=h;exact⟨Z',H',I.unwish,q⟩
 |ret u=>obtain⟨v,Z',H',I,r,q⟩:=h;exact⟨v,Z',H',I.unwish,r,q⟩
theorem PSs.nox{st:List Stmt}{t:TS}(h:PSs X.nox st t):PSs X st t:=λaA s Z H D I hw =>
 wpAny_mono (h aA s Z H D (I.wish _) hw) (λ_ _ q=>q.unwish) λ_ _ z=>False.elim z
end
section
variable{X:Cx}{st:Stmt}{aG:List Stmt}{t u:TS}{e:Expr}{te:TE}{pos:Pos}
noncomputable def ayh:TS:=λD Z H=>D.nx Z H
noncomputable def b1t(t u:TS):TS:=λD Z H=>t {D with nx:=u D} Z H
theorem anf:PSs X [] ayh:=λ_ _ Z H _ I h=>wpAny_execs_nil ⟨Z,H,I,h⟩
theorem aio(h1:PS X st t)(h2:PSs X aG u):PSs X (st::aG) (b1t t u):=by
 intro aA s Z H D I h
 refine wpAny_execs_cons (thn (h1 aA s Z H {D with nx:=u D} I h) λf s1 q=>?_)
 cases f with
 |next =>
  obtain⟨Z',H',I',q⟩:=q;exact h2 aA s1 Z' H' D I' q
 |ret v=>exact q
 |brk=>exact q
 |cont=>exact q
theorem ang(h1:PS X st t):PSs X [st] t:=by
 intro aA s Z H D I h
 refine wpAny_execs_cons (thn (h1 aA s Z H D I h) λf s1 q=>?_)
 cases f with
 |next=>exact wpAny_execs_nil q
 |ret v=>exact q
 |brk=>exact q
 |cont=>exact q
noncomputable def as9:TS:=λD Z H=>D.bk Z H
theorem aip:PS X (.Break pos) as9:=λ_ _ Z H _ I h=>wpAny_Break ⟨Z,H,I,h⟩
theorem Inv.quiet(I:Inv X aA Z H s):interactive X.env=false:=by simp[interactive,I.ok.kind]
noncomputable def ayi(te:TE):TS:=λD Z H=>te Z H λ_ H1=>D.nx Z H1
theorem anh(he:PE X e te)(hs:swapsWith e none pos.line X.env=pure false:=by rfl):PS X (.Expr e pos) (ayi te):=by
 intro aA s Z H D I h
 exact wpAny_Expr_any (thn (he aA s Z H _ I h) λv s1 ⟨x,H1,I1,r1,q1⟩=>⟨Z,H1,I1,q1⟩) I.quiet hs
noncomputable def b1u(te:TE):TS:=λD Z H=>te Z H D.rt
theorem asa(he:PE X e te):PS X (.Return (some e) pos) (b1u te):=by
 intro aA s Z H D I h
 exact wpAny_Return_some (thn (he aA s Z H _ I h) λv s1 ⟨x,H1,I1,r1,q1⟩=>⟨x,Z,H1,I1,r1,q1⟩)
noncomputable def b1v(c:TT)(t u:TS):TS:=λD Z H=>c Z H λb H1=>if b=true then t D Z H1 else u D Z H1
theorem ayj{c:Expr}{a b:List Stmt}{tc:TT}(hc:PT X c tc)(ha:PSs X a t)(hb:PSs X b u):PS X (.If c a b pos) (b1v tc t u):=by
 intro aA s Z H D I h
 refine wpAny_If (thn (hc aA s Z H _ I h) λd s1 ⟨H1,I1,q1⟩=>?_)
 cases d with
 |true=>exact ha aA s1 Z H1 D I1 q1
 |false=>exact hb aA s1 Z H1 D I1 q1
end
abbrev TG:=V->St->Hp->(St->Hp->Prop)->Prop
abbrev TGs:=List V->St->Hp->(St->Hp->Prop)->Prop
def PG(X:Cx)(target:Expr)(t:TG):Prop :=
 ∀(aA:List (Addr×Obj)) (s:Shared) (Z:St) (H:Hp) (v:V) (u:Value) (Q:St->Hp->Prop),Inv X aA Z H s->RelV v u->t v Z H Q->
  wpAny (model X.prog X.w) X.A (assign target X.env u) (λ_ s'=>∃Z' H',Inv X aA Z' H' s'/\Q Z' H') X.xe s
def PGs(X:Cx)(ts:List Expr)(t:TGs):Prop :=
 ∀(aA:List (Addr×Obj)) (s:Shared) (Z:St) (H:Hp) (vs:List V) (us:List Value) (Q:St->Hp->Prop),Inv X aA Z H s->Vals vs us->t vs Z H Q->
  wpAny (model X.prog X.w) X.A (assignInOrder ((assignEach ts X.env).map (·.2)) us) (λ_ s'=>∃Z' H',Inv X aA Z' H' s'/\Q Z' H') X.xe s
abbrev asb:=V->V->V->Hp->(Hp->Prop)->Prop
def ayk(X:Cx)(t:asb):Prop :=
 ∀(aA:List (Addr×Obj)) (s:Shared) (Z:St) (H:Hp) (o i v:V) (ov iv u:Value) (Q:Hp->Prop),Inv X aA Z H s->RelV o ov->RelV i iv->RelV v u->t o i v H Q->
  wpAny (model X.prog X.w) X.A (setItem ov iv u) (λ_ s'=>∃H',Inv X aA Z H' s'/\Q H') X.xe s
abbrev TIp:=V->V->Hp->VK->Prop
def PIp(X:Cx)(op:Operator)(t:TIp):Prop :=
 ∀(aA:List (Addr×Obj)) (s:Shared) (Z:St) (H:Hp) (x y:V) (v u:Value) (Q:VK),Inv X aA Z H s->RelV x v->RelV y u->t x y H Q->
  wpAny (model X.prog X.w) X.A (inplaceOp op v u) (EP X aA Z Q) X.xe s
section
variable{X:Cx}{pos:Pos}
noncomputable def a1w(i:Nat):TG:=λv Z H Q=>Q (Z.set i (some v)) H
theorem aai(hN:X.N.Nodup)(hi:X.N[i]? = some x)(hx:Loc X.env.scope x)(hf:Hf X x:=by first|exact .inl rfl|exact .inr rfl|assumption):PG X (.Name x pos) (a1w i):=by
 intro aA s Z H v u Q I r h
 exact wpAny_assign_Name (a7f I hN hi hx r (λs' I'=>⟨_,H,I',h⟩) hf)
noncomputable def b0f:TGs:=λvs Z H Q=>vs=[]/\Q Z H
noncomputable def aiq(t:TG)(u:TGs):TGs:=λvs Z H Q=>∃v r,vs=v::r/\t v Z H λZ' H'=>u r Z' H' Q
theorem aaj:PGs X [] b0f:=by
 intro aA s Z H vs us Q I r h
 obtain⟨e,h⟩:=h;subst e;cases r
 exact assignInOrder_nil ⟨Z,H,I,h⟩
theorem a3i{e:Expr}{es:List Expr}{t:TG}{u:TGs}(h1:PG X e t)(h2:PGs X es u)
  (hs:(assignEach (e::es) X.env).map (·.2)=assign e X.env::(assignEach es X.env).map (·.2):=by rfl):PGs X (e::es) (aiq t u):=by
 intro aA s Z H vs us Q I r h
 obtain⟨v,vr,e1,h⟩:=h;subst e1
 cases r with
 |cons r rr =>
  rw[hs];refine assignInOrder_cons (thn (h1 aA s Z H _ _ _ I r h) λ_ s1 ⟨Z1,H1,I1,q1⟩=>?_);exact h2 aA s1 Z1 H1 _ _ Q I1 rr q1
noncomputable def uc(K:Fg)(n:Nat)(t:TGs):TG:=λv Z H Q=>∃a xs,v=.ref a/\SqT K H a xs/\xs.length=n/\t xs Z H Q
theorem ael(hc:X.calm=true)(h:PGs X es t)
  (hn:(assignEach es X.env).length=n:=by rfl) (hst:(assignEach es X.env).findIdx? (·.1)=none:=by rfl):PG X (.Tuple es k pos) (uc X.K n t):=by
 intro aA s Z H v u Q I r hw
 obtain⟨a,xs,e1,hq,hl,hw⟩:=hw;subst e1;cases r
 obtain⟨its,rv,ht,hz⟩:=I.tuple hq;refine assign_Tuple_tuple (I.ok.hd hc) ht (by simp[hn,<-hl,rv.length]) hst λh' hx=>?_
 have I1:Inv X aA Z H {s with heap:=h' }:=I.kept (t':=s.toks) λb o e=>hx b o (Nat.ne_of_lt (Heap.lt_size e)) e
 exact h aA _ Z H xs _ Q I1 (by simpa using rv) hw
noncomputable def a6u(to ti:TE)(t:asb):TG:=λv Z H Q=>to Z H λo H1=>ti Z H1 λi H2=>t o i v H2 λH3=>Q Z H3
theorem asd{o i:Expr}{to ti:TE}{t:asb}(ho:PE X o to)(hi:PE X i ti)(hs:ayk X t)
  (ha:∀v,assign (.Subscript o i pos) X.env v=(do
   let ov <-holding [v] (eval o X.env)
   let iv <-holding [v,ov] (eval i X.env)
   standAt pos
   holding [v,ov,iv] (setItem ov iv v)
   release [v,ov,iv] []):=by intro _;rfl):PG X (.Subscript o i pos) (a6u to ti t):=by
 intro aA s Z H v u Q I r h
 rw[ha];refine wpAny_bind (wpAny_holding (thn (ho aA s Z H _ I h) λov s1 ⟨x,H1,I1,r1,q1⟩=>?_));refine wpAny_bind (wpAny_holding (thn (hi aA s1 Z H1 _ I1 q1) λiv s2 ⟨y,H2,I2,r2,q2⟩=>?_));refine wpAny_bind (wpAny_standAt (wpAny_bind (wpAny_holding (thn (hs aA s2 Z H2 x y v ov iv u _ I2 r1 r2 r q2) λ_ s3 ⟨H3,I3,q3⟩=>?_))));exact wpAny_release ⟨Z,H3,I3,q3⟩
noncomputable def axt(te:TE)(g:TG):TS:=λD Z H=>te Z H λx H1=>g x Z H1 D.nx
theorem alk{tg e:Expr}{te:TE}{g:TG}(he:PE X e te)(hg:PG X tg g)(hs:swapsWithSole [tg] e pos.line X.env=pure false:=by rfl)(hw:swappedStores [tg] e X.env=pure none:=by rfl)
  (h1:(assignEach [tg] X.env).map (·.2)=[assign tg X.env]:=by rfl):PS X (.Assign [tg] e pos) (axt te g):=by
 intro aA s Z H D I h
 refine wpAny_Assign_stores (thn (he aA s Z H _ I h) λv s1 ⟨x,H1,I1,r1,q1⟩=>?_) hs hw;rw[h1];exact thn (hg aA s1 Z H1 x v _ I1 r1 q1) λ_ s2 q=>q
theorem ase{i:Nat}{x:Str}{e:Expr}{te:TE}{pos':Pos}(hN:X.N.Nodup)(hi:X.N[i]? = some x)(hx:Loc X.env.scope x)(he:PE X e te)(hs:swapsWith e (some (.Name x pos')) pos.line X.env=pure false:=by rfl)(hf:Hf X x:=by first|exact .inl rfl|exact .inr rfl|assumption) :
  PS X (.Assign [.Name x pos'] e pos) (axt te (a1w i)):=by
 intro aA s Z H D I h
 refine wpAny_Assign_Name (thn (he aA s Z H _ I h) λv s1 ⟨y,H1,I1,r1,q1⟩=>?_) hs;exact a7f I1 hN hi hx r1 (λs2 I2=>⟨_,H1,I2,q1⟩) hf
noncomputable def b1w(i:Nat)(te:TE)(ti:TIp):TS:=λD Z H=>∃x,Z[i]? = some (some x)/\te Z H λy H1=>ti x y H1 λz H2=>D.nx (Z.set i (some z)) H2
theorem asf{i:Nat}{x:Str}{e:Expr}{te:TE}{op:Operator}{ti:TIp}{pos':Pos}(hN:X.N.Nodup)(hi:X.N[i]? = some x)(hx:Loc X.env.scope x)(he:PE X e te)(ho:PIp X op ti)(hf:Hf X x:=by first|exact .inl rfl|exact .inr rfl|assumption) :
  PS X (.AugAssign (.Name x pos') op e pos) (b1w i te ti):=by
 intro aA s Z H D I h
 obtain⟨v,e1,h⟩:=h;obtain⟨m,hn,hl⟩:=I.loc;have vis:Vis X.env.scope x:=by rcases hx with k|k;exact .inl k;exact .inr (.inl k)
 obtain⟨u,r,l⟩:=hl i x v hi e1 vis;refine wpAny_AugAssign_Name ?_;have go:wpAny (model X.prog X.w) X.A (eval e X.env) (λw s₂=>wpAny (model X.prog X.w) X.A (inplaceOp op u w) (λr s₃=>wpAny (model X.prog X.w) X.A (storeName X.env x r) (λ_=>SP X aA D .next) X.xe s₃) X.xe s₂) X.xe s:=by
  refine thn (he aA s Z H _ I h) ?_
  rintro w s1 ⟨y,H1,I1,r1,q1⟩
  refine thn (ho aA s1 Z H1 v y u w _ I1 r r1 q1) ?_
  rintro z s2 ⟨zv,H2,I2,r2,q2⟩
  exact a7f I2 hN hi hx r2 (λs3 I3=>⟨_,H2,I3,q2⟩) hf
 rcases l with⟨hk,hm⟩|⟨hk,c,hc,hcell⟩
 .exact wpAny_loadName_local I.ok.kind hk hn hm go
 .rcases hk with hk|hk
  .exact wpAny_loadName_cell I.ok.kind hk hc hcell go
  .rcases hx with k|k
   .have:X.env.scope.names.lookup x=some .free:=hk
    rw[k]at this;cases this
   .have:X.env.scope.names.lookup x=some .free:=hk
    rw[k]at this;cases this
def ayl(to ti te:TE)(tget:V->V->Hp->VK->Prop)(tip:TIp)(tset:asb):TS:=λD Z H=>to Z H λo H1=>ti Z H1 λi H2=>tget o i H2 λx H3=>te Z H3 λy H4=>tip x y H4 λz H5=>tset o i z H5 λH6=>D.nx Z H6
def b0g(X:Cx)(t:V->V->Hp->VK->Prop):Prop :=
 ∀(aA:List (Addr×Obj)) (s:Shared) (Z:St) (H:Hp) (o i:V) (ov iv:Value) (Q:VK),Inv X aA Z H s->RelV o ov->RelV i iv->t o i H Q->
  wpAny (model X.prog X.w) X.A (getItem ov iv) (EP X aA Z Q) X.xe s
theorem ani{o i e:Expr}{to ti te:TE}{tget:V->V->Hp->VK->Prop}{tip:TIp}{tset:asb}{op:Operator}{tpos:Pos}(ho:PE X o to)(hi:PE X i ti)(hg:b0g X tget)(he:PE X e te)(hp:PIp X op tip)(hs:ayk X tset)
  (ha:∀ov iv new,augStore i ov iv new=(do holding [new,ov,iv] (setItem ov iv new);release [new,ov,iv] [];pure .next):=by intros;rfl):PS X (.AugAssign (.Subscript o i tpos) op e pos) (ayl to ti te tget tip tset):=by
 intro aA s Z H D I h
 refine wpAny_AugAssign_SubscriptAny (thn (ho aA s Z H _ I h) λov s1 ⟨x1,H1,I1,r1,q1⟩=>?_) ha;refine thn (hi aA s1 Z H1 _ I1 q1) ?_
 rintro iv s2 ⟨x2,H2,I2,r2,q2⟩
 refine thn (hg aA s2 Z H2 x1 x2 ov iv _ I2 r1 r2 q2) ?_
 rintro old s3 ⟨x3,H3,I3,r3,q3⟩
 refine thn (he aA s3 Z H3 _ I3 q3) ?_
 rintro v s4 ⟨x4,H4,I4,r4,q4⟩
 refine thn (hp aA s4 Z H4 x3 x4 old v _ I4 r3 r4 q4) ?_
 rintro new s5 ⟨x5,H5,I5,r5,q5⟩
 exact thn (hs aA s5 Z H5 x1 x2 x5 ov iv new _ I5 r1 r2 r5 q5) λ_ s6 ⟨H6,I6,q6⟩=>⟨Z,H6,I6,q6⟩
end
section
variable{X:Cx}{pos:Pos}
def ash(c:TT)(tb:TS):TS:=λD Z H=>∃W:Nat->St->Hp->Prop,(∃m,W m Z H)/\∀m Z H,W m Z H->
 c Z H λb H1=>if b=true then ∃N:St->Hp->Prop,(∀Z' H',N Z' H'->∃m',m'<m/\W m' Z' H')/\tb {D with nx:=N,ct:=N,bk:=D.nx} Z H1 else D.nx Z H1
theorem air{c:Expr}{body:List Stmt}{tc:TT}{tb:TS}(hp:PassesOwn (model X.prog X.w) X.A X.env X.xe)(hc:PT X c tc)(hb:PSs X body tb):PS X (.While c body [] pos) (ash tc tb):=by
 intro aA s Z H D I h
 obtain⟨W,⟨m0,w0⟩,turn⟩:=h;refine wpAny_While (codeAny_whileLoop (λn s'=>∃Z' H',Inv X aA Z' H' s'/\W n Z' H') ?_ m0 ⟨Z,H,I,w0⟩)
 rintro n s1 ⟨Z1,H1,I1,w1⟩
 refine wpAny_passesOwn hp (thn (hc aA s1 Z1 H1 _ I1 (turn n Z1 H1 w1)) λb s2 ⟨H2,I2,q2⟩=>?_)
 cases b with
 |true =>
  obtain⟨N,hN,q2⟩:=q2;rw[if_pos rfl];refine wpAny_passesOwn hp (thn (hb aA s2 Z1 H2 _ I2 q2) λf s3 q3=>?_)
  cases f with
  |next =>
   obtain⟨Z3,H3,I3,n3⟩:=q3;obtain⟨m',hm,w3⟩:=hN Z3 H3 n3;exact⟨m',hm,Z3,H3,I3,w3⟩
  |cont =>
   obtain⟨Z3,H3,I3,n3⟩:=q3;obtain⟨m',hm,w3⟩:=hN Z3 H3 n3;exact⟨m',hm,Z3,H3,I3,w3⟩
  |brk=>exact q3
  |ret v=>exact q3
 |false =>
  rw[if_neg Bool.false_ne_true];exact wpAny_execs_nil ⟨Z1,H2,I2,q2⟩
end
structure It where
 go:Nat->Hp->Prop
 yld:Nat->Hp->V->Hp->Prop
 stop:Nat->Hp->Prop
def FpOk(X:Cx)(aA:List (Addr×Obj))(H:Hp)(b:Addr):Prop :=
 H b=none/\b≠X.env.locals/\b∉X.fs/\(b∈X.ex\/X.s₀.heap.objs.size<=b)/\(∀x c,X.env.cells.lookup x=some c->c≠b)/\∀p∈X.pn++aA,p.1≠b
theorem Inv.fpOk(I:Inv X aA Z H s)(hb:s.heap.objs.size<=b)(hn:H' b=none):FpOk X aA H' b:=by
 refine⟨hn,Nat.ne_of_gt (Nat.lt_of_lt_of_le I.lt hb),I.nofs hb,.inr (Nat.le_trans I.sz hb),λx c e z=>?_,λp hp z=>?_⟩
 .obtain⟨v,q⟩:=I.cell x c e;exact absurd (Nat.lt_of_lt_of_le q.lt (by rw[z];exact hb)) (Nat.lt_irrefl _)
 .exact absurd (Nat.lt_of_lt_of_le (Heap.lt_size (I.pin p hp).1) (by rw[z];exact hb)) (Nat.lt_irrefl _)
structure Turn (P:Program) (w:World) (K:Fg) (tg:Expr) (J:It) (fp:List Addr) (it:Addr) (tn:Nat->Heap->Prop):Prop where
 mem:it∈fp
 obj:∀i h,tn i h->∀b∈fp,∃o,h.get? b=some o/\∀v,o.data≠.cell v
 keep:∀i h h',tn i h->(∀b∈fp,∀o,h.get? b=some o->h'.get? b=some o)->tn i h'
 item:∀(X:Cx),X.prog=P->X.w=w->X.K=K->X.calm=true->∀(i:Nat) (aA:List (Addr×Obj)) (s:Shared) (Z:St) (H:Hp) (E:Value->Shared->Prop),Inv X aA Z H s->(∀b∈fp,FpOk X aA H b)->tn i s.heap->J.go i H->
  wpAny (model P w) X.A (pyNext (.ref it)) (λr s1=>∃u,r=some u /\
   wpAny (model P w) X.A (letOwnedTupleGo tg (.ref it) u) (λ_ s2=>∃x H',Inv X aA Z H' s2/\RelV x u/\J.yld i H x H'/\tn (i+1) s2.heap/\∀b∈fp,H' b=none) E s1) E s
 done:∀(X:Cx),X.prog=P->X.w=w->X.K=K->X.calm=true->∀(i:Nat) (aA:List (Addr×Obj)) (s:Shared) (Z:St) (H:Hp) (E:Value->Shared->Prop),Inv X aA Z H s->(∀b∈fp,FpOk X aA H b)->tn i s.heap->J.stop i H->
  wpAny (model P w) X.A (pyNext (.ref it)) (λr s1=>r=none/\Inv X aA Z H s1) E s
 self:∀(A:Around) (i:Nat) (s:Shared) (Q:Value->Shared->Prop) (E:Value->Shared->Prop),tn i s.heap->Q (.ref it) s->wpAny (model P w) A (pyIter (.ref it)) Q E s
abbrev TI:=St->Hp->(It->Hp->Prop)->Prop
def PIE(X:Cx)(aA:List (Addr×Obj))(Z:St)(tg:Expr)(R:It->Hp->Prop)(itv:Value)(s2:Shared):Prop :=
 ∃(it:Addr) (fp:List Addr) (tn:Nat->Heap->Prop) (J:It) (H':Hp),itv=.ref it/\Inv X aA Z H' s2/\Turn X.prog X.w X.K tg J fp it tn/\tn 0 s2.heap/\(∀b∈fp,FpOk X aA H' b)/\R J H'
def PI(X:Cx)(tg aF:Expr)(wi:TI):Prop :=
 ∀(aA:List (Addr×Obj)) (s:Shared) (Z:St) (H:Hp) (R:It->Hp->Prop),Inv X aA Z H s->wi Z H R->
  wpAny (model X.prog X.w) X.A (eval aF X.env) (λv s1=>wpAny (model X.prog X.w) X.A (pyIter v) (PIE X aA Z tg R) X.xe s1) X.xe s
theorem aem{s:Shared}(ho:s.heap.get? it=some o)(hc:o.cls=.type n)(hd:o.data=.fields vs)
  (hn:["enumerate","zip","dict_itemiterator","dict_reverseitemiterator","odict_iterator","itertools.zip_longest","itertools.pairwise"].contains n=false) (hQ:Q () s):wpAny M A (letOwnedTupleGo tg (.ref it) u) Q E s:=by
 unfold letOwnedTupleGo
 cases tg<;>first
  |exact wpAny_pure hQ
  | (cases u<;>first
    |exact wpAny_pure hQ
    | (refine wpAny_bind (wpAny_load ho ?_)
       rw[hc,hd];show wpAny M A (if (["enumerate","zip","dict_itemiterator","dict_reverseitemiterator","odict_iterator","itertools.zip_longest","itertools.pairwise"].contains n && vs[0]? == some (rawInt _))=true then _ else _) Q E s
       rw[if_neg (by intro h;rw[hn,Bool.false_and]at h;cases h)]
       exact wpAny_pure hQ))
noncomputable def Itl(K:Fg)(a:Addr):It :=
 ⟨λi H=>∃xs x,SqL K H a xs/\xs[i]? = some x,λi H x H'=>H'=H/\∀xs,SqL K H a xs->xs[i]? = some x,λi H=>∃xs,SqL K H a xs/\xs.length<=i⟩
noncomputable def Itt(K:Fg)(a:Addr):It :=
 ⟨λi H=>∃xs x,SqT K H a xs/\xs[i]? = some x,λi H x H'=>H'=H/\∀xs,SqT K H a xs->xs[i]? = some x,λi H=>∃xs,SqT K H a xs/\xs.length<=i⟩
noncomputable def Itr(lo:Int)(n:Nat):It:=⟨λi _=>i<n,λi H x H'=>H'=H/\x=.int (lo+i),λi _=>n<=i⟩
theorem aen{P:Program}{w:World}{K:Fg}{tg:Expr}(a it:Addr):Turn P w K tg (Itl K a) [it] it (λi h=>h.IsListIter it a i) where
 mem:=by simp
 obj:=λi h st b hb=>by
  have e:b=it:=by simpa using hb
  subst e;obtain⟨o,e,c,d⟩:=st;exact⟨o,e,λv z=>by rw[d]at z;cases z⟩
 keep:=λi h h' st k=>st.at λo e=>k it (by simp) o e
 item:=by
  intro X hP hw hK hc i aA s Z H E I hf st hg
  subst hP hw hK;obtain⟨xs,x,hq,hx⟩:=hg;obtain⟨its,rv,p,hz⟩:=I.list hq;obtain⟨u,hu,ru⟩:=rv.get hx;obtain⟨f0,f1,f2,f3,f4,f5⟩:=hf it (by simp)
  refine wpAny_pyNext_list_item st p.isList (x:=u) (by simpa using hu) λh' st' sb=>?_
  have I1:Inv X aA Z H {s with heap:=h' }:=I.turned (t':=s.toks) (λb o hb e=>(sb.2 b hb).trans e) f0 f1 f3 f4 f5
  obtain⟨o,e,c,d⟩:=id st';exact⟨u,rfl,aem (s:={s with heap:=h' }) e c d (by decide) ⟨x,H,I1,ru,⟨rfl,λys hy=>by rw[I.list_inj hy hq];exact hx⟩,st',λb hb=>(hf b hb).1⟩⟩
 done:=by
  intro X hP hw hK hc i aA s Z H E I hf st hg
  subst hP hw hK;obtain⟨xs,hq,hx⟩:=hg;obtain⟨its,rv,p,hz⟩:=I.list hq;obtain⟨f0,f1,f2,f3,f4,f5⟩:=hf it (by simp)
  have hl:=rv.length;exact wpAny_pyNext_list_end (I.ok.hd hc) st p.isList (by simp;omega) λh' eb=>⟨rfl,I.turned (t':=s.toks) (λb o hb e=>eb b o hb e) f0 f1 f3 f4 f5⟩
 self:=λ_ _ _ _ _ st h=>wpAny_pyIter_listiter st h
theorem ad8{P:Program}{w:World}{K:Fg}{tg:Expr}(a it:Addr):Turn P w K tg (Itt K a) [it] it (λi h=>h.IsTupleIter it a i) where
 mem:=by simp
 obj:=λi h st b hb=>by
  have e:b=it:=by simpa using hb
  subst e;obtain⟨o,e,c,d⟩:=st;exact⟨o,e,λv z=>by rw[d]at z;cases z⟩
 keep:=λi h h' st k=>st.at λo e=>k it (by simp) o e
 item:=by
  intro X hP hw hK hc i aA s Z H E I hf st hg
  subst hP hw hK;obtain⟨xs,x,hq,hx⟩:=hg;obtain⟨its,rv,p,hz⟩:=I.tuple hq;obtain⟨u,hu,ru⟩:=rv.get hx;obtain⟨f0,f1,f2,f3,f4,f5⟩:=hf it (by simp)
  refine wpAny_pyNext_tuple_item st (show s.heap.IsTuple a its.toArray from p) (x:=u) (by simpa using hu) λh' st' sb=>?_
  have I1:Inv X aA Z H {s with heap:=h' }:=I.turned (t':=s.toks) (λb o hb e=>(sb.2 b hb).trans e) f0 f1 f3 f4 f5
  obtain⟨o,e,c,d⟩:=id st';exact⟨u,rfl,aem (s:={s with heap:=h' }) e c d (by decide) ⟨x,H,I1,ru,⟨rfl,λys hy=>by rw[I.tuple_inj hy hq];exact hx⟩,st',λb hb=>(hf b hb).1⟩⟩
 done:=by
  intro X hP hw hK hc i aA s Z H E I hf st hg
  subst hP hw hK;obtain⟨xs,hq,hx⟩:=hg;obtain⟨its,rv,p,hz⟩:=I.tuple hq;obtain⟨f0,f1,f2,f3,f4,f5⟩:=hf it (by simp)
  have hl:=rv.length;exact wpAny_pyNext_tuple_end (I.ok.hd hc) st (show s.heap.IsTuple a its.toArray from p) (by simp;omega) λh' eb=>⟨rfl,I.turned (t':=s.toks) (λb o hb e=>eb b o hb e) f0 f1 f3 f4 f5⟩
 self:=λ_ _ _ _ _ st h=>wpAny_pyIter_tupleiter st h
theorem ad9{P:Program}{w:World}{K:Fg}{tg:Expr}(it:Addr)(lo:Int)(n:Nat):Turn P w K tg (Itr lo n) [it] it (λi h=>IsRangeIter h it (lo+(i:Nat)*1) ((n:Int)-(i:Nat)) 1) where
 mem:=by simp
 obj:=λi h st b hb=>by
  have e:b=it:=by simpa using hb
  subst e;exact⟨_,st,λv z=>by
   have z':Data.fields _=Data.cell v:=z
   cases z'⟩
 keep:=λi h h' st k=>k it (by simp) _ st
 item:=by
  intro X hP hw hK hc i aA s Z H E I hf st hg
  subst hP hw hK;obtain⟨f0,f1,f2,f3,f4,f5⟩:=hf it (by simp)
  have W:=Walks.range (prog:=X.prog) (w:=X.w) (I.ok.hd hc) it lo 1 n;refine W.item i s _ _ hg st λv h' tk hv st' kk=>?_;obtain⟨t,rfl⟩:=hv;have I1:Inv X aA Z H {s with heap:=h',toks:=tk}:=I.turned (λb o hb e=>kk b o (by simpa using hb) e) f0 f1 f3 f4 f5
  refine⟨_,rfl,aem (s:={s with heap:=h',toks:=tk}) (n := "range_iterator") st' rfl rfl (by decide) ⟨.int (lo+i),H,I1,⟨t,?_⟩,⟨rfl,rfl⟩,st',λb hb=>(hf b hb).1⟩⟩
  rw[Int.mul_one]
 done:=by
  intro X hP hw hK hc i aA s Z H E I hf st hg
  subst hP hw hK;obtain⟨f0,f1,f2,f3,f4,f5⟩:=hf it (by simp)
  exact wpAny_pyNext_range_end (I.ok.hd hc) st (by have:n<=i:=hg;omega) λh' eb=>⟨rfl,I.turned (t':=s.toks) (λb o hb e=>eb b o hb e) f0 f1 f3 f4 f5⟩
 self:=λ_ _ _ _ _ st h=>wpAny_pyIter_rangeiter st h
section
variable{X:Cx}{tg:Expr}
noncomputable def aym(K:Fg)(tl:TE):TI:=λZ H R=>tl Z H λx H1=>∃a,x=.ref a/\(∃xs,SqL K H1 a xs)/\R (Itl K a) H1
noncomputable def b1x(K:Fg)(tl:TE):TI:=λZ H R=>tl Z H λx H1=>∃a,x=.ref a/\(∃xs,SqT K H1 a xs)/\R (Itt K a) H1
theorem aeo{l:Expr}{tl:TE}(hl:PE X l tl):PI X tg l (aym X.K tl):=by
 intro aA s Z H R I h
 refine thn (hl aA s Z H _ I h) ?_
 rintro v s1 ⟨x,H1,I1,r1,q1⟩
 obtain⟨a,e,⟨xs,hq⟩,q⟩:=q1;subst e;cases r1
 obtain⟨its,rv,p,hz⟩:=I1.list hq;refine wpAny_pyIter_list p.isList ?_;refine⟨s1.heap.objs.size,[s1.heap.objs.size],_,_,H1,rfl,I1.kept (t':=s1.toks) λb o e=>Heap.get?_push_of_some _ e,aen a _,⟨_,Heap.get?_push_size _ rfl,rfl,rfl⟩,λb hb=>?_,q⟩;have e:b=s1.heap.objs.size:=by simpa using hb
 subst e;exact I1.fpOk (Nat.le_refl _) (I1.hok.fresh (Nat.le_refl _))
theorem asi{l:Expr}{tl:TE}(hl:PE X l tl):PI X tg l (b1x X.K tl):=by
 intro aA s Z H R I h
 refine thn (hl aA s Z H _ I h) ?_
 rintro v s1 ⟨x,H1,I1,r1,q1⟩
 obtain⟨a,e,⟨xs,hq⟩,q⟩:=q1;subst e;cases r1
 obtain⟨its,rv,p,hz⟩:=I1.tuple hq;refine wpAny_pyIter_tuple (show s1.heap.IsTuple a its.toArray from p) ?_
 refine⟨s1.heap.objs.size,[s1.heap.objs.size],_,_,H1,rfl,I1.kept (t':=s1.toks) λb o e=>Heap.get?_push_of_some _ e,ad8 a _,⟨_,Heap.get?_push_size _ rfl,rfl,rfl⟩,λb hb=>?_,q⟩;have e:b=s1.heap.objs.size:=by simpa using hb
 subst e;exact I1.fpOk (Nat.le_refl _) (I1.hok.fresh (Nat.le_refl _))
theorem abl{s:Shared}{lo hi:Int}{tk:Nat}(I:Inv X aA Z H s)(h1 : -(2^62)<=lo)(h2:lo<2^62)(h3 : -(2^62)<=hi)(h4:hi<2^62)
  (q:R (Itr lo (hi-lo).toNat) H):wpAny (model X.prog X.w) X.A (pyIter (.ref s.heap.objs.size)) (PIE X aA Z tg R) E {s with heap:=s.heap.push {cls:=.type "range",data:=.fields #[.int lo t,.int hi u,.int 1 v]},toks:=tk}:=by
 refine wpAny_pyIter_range (IsRange.new ..) (small_one h1 h2 h3 h4) ?_;have I1:Inv X aA Z H {s with heap:=s.heap.push {cls:=.type "range",data:=.fields #[.int lo t,.int hi u,.int 1 v]},toks:=tk}:=I.kept λb o e=>Heap.get?_push_of_some _ e
 refine⟨(s.heap.push {cls:=.type "range",data:=.fields #[.int lo t,.int hi u,.int 1 v]}).objs.size,[(s.heap.push {cls:=.type "range",data:=.fields #[.int lo t,.int hi u,.int 1 v]}).objs.size],_,_,H,rfl,
  I1.kept (t':=tk) λb o e=>Heap.get?_push_of_some _ e,ad9 _ lo (hi-lo).toNat,?_,λb hb=>?_,q⟩
 .have e1:lo+((0:Nat):Int)*1=lo:=by simp
  have e2:(((hi-lo).toNat:Nat):Int)-((0:Nat):Int)=Builtin.Range.rangeSize lo hi 1:=by rw[rangeSize_one];split<;>omega
  show IsRangeIter _ _ (lo+((0:Nat):Int)*1) ((((hi-lo).toNat:Nat):Int)-((0:Nat):Int)) 1;rw[e1,e2];exact Heap.get?_push_size _ rfl
 .have e:b=(s.heap.push {cls:=.type "range",data:=.fields #[.int lo t,.int hi u,.int 1 v]}).objs.size:=by simpa using hb
  subst e;exact I1.fpOk (Nat.le_refl _) (I1.hok.fresh (Nat.le_refl _))
noncomputable def ayn(ta:TA):TI:=λZ H R=>ta Z H λvs H1=>∃j:Int,vs=[.int j] /\ -(2^62)<=j/\j<2^62/\R (Itr 0 j.toNat) H1
noncomputable def ayo(ta:TA):TI:=λZ H R=>ta Z H λvs H1=>∃i j:Int,vs=[.int i,.int j]/\(-(2^62)<=i/\i<2^62 /\ -(2^62)<=j/\j<2^62)/\R (Itr i (j-i).toNat) H1
theorem aep{a:Expr}{ta:TA}{p pos:Pos}(hg:Gl X "range")(hm:X.mg "range" = none)(ha:PA X [a] ta)(hs:starEach [a] X.env=[(false,eval a X.env)]:=by rfl):PI X tg (.Call (.Name "range" p) [a] [] pos) (ayn ta):=by
 intro aA s Z H R I h
 refine Call_ (a2u I hg hm boot_range (PyProof.Rows.callWith_type1 (thn (ha pos aA s Z H _ I h) λus s1 ⟨vs,H1,I1,r1,q1⟩=>?_) hs rfl));obtain⟨j,e,q1,q2,q⟩:=q1;subst e
 cases r1 with
 |cons r rr =>
  cases rr
  obtain⟨t,rfl⟩:=r;exact call_range_1 (abl I1 (by omega) (by omega) q1 q2 (by simpa using q))
theorem aeq{a b:Expr}{ta:TA}{p pos:Pos}(hg:Gl X "range")(hm:X.mg "range" = none)(ha:PA X [a,b] ta)(hs:starEach [a,b] X.env=[(false,eval a X.env),(false,eval b X.env)]:=by rfl)(hs2:starEach [b] X.env=[(false,eval b X.env)]:=by rfl) :
  PI X tg (.Call (.Name "range" p) [a,b] [] pos) (ayo ta):=by
 intro aA s Z H R I h
 refine Call_ (a2u I hg hm boot_range (PyProof.Rows.callWith_type1 (thn (ha pos aA s Z H _ I h) λus s1 ⟨vs,H1,I1,r1,q1⟩=>?_) (by rw[hs,hs2]) (by rw[hs2];rfl)))
 obtain⟨i,j,e,⟨q1,q2,q3,q4⟩,q⟩:=q1;subst e
 cases r1 with
 |cons r rr =>
  cases rr with
  |cons r' rr =>
   cases rr
   obtain⟨t,rfl⟩:=r;obtain⟨t',rfl⟩:=r';exact call_range_2 (abl I1 q1 q2 q3 q4 q)
def b1y(wi:TI)(g:TG)(tb:TS):TS:=λD Z H=>wi Z H λJ H1=>∃W:Nat->Nat->St->Hp->Prop,(∃m,W 0 m Z H1)/\∀i m Z H,W i m Z H->
 (J.stop i H/\D.nx Z H)\/(J.go i H/\∃N:St->Hp->Prop,(∀Z' H',N Z' H'->∃m',m'<m/\W (i+1) m' Z' H')/\∀x H',J.yld i H x H'->g x Z H' λZ2 H2=>tb {D with nx:=N,ct:=N,bk:=D.nx} Z2 H2)
noncomputable def xj(fp:List Addr)(h:Heap):List (Addr×Obj):=fp.filterMap λb=>(h.get? b).map λo=>(b,o)
theorem jw{h:Heap}(hb:b∈fp)(e:h.get? b=some o):(b,o)∈xj fp h:=List.mem_filterMap.mpr ⟨b,hb,by rw[e];rfl⟩
theorem a8v(hp:p∈xj fp h):p.1∈fp/\h.get? p.1=some p.2:=by
 obtain⟨b,hb,e⟩:=List.mem_filterMap.mp hp
 cases q:h.get? b with
 |none=>rw[q]at e;cases e
 |some o =>
  rw[q]at e;have e':(b,o)=p:=Option.some.inj e;subst e';exact⟨hb,q⟩
theorem Inv.pinned(I:Inv X aA Z H s)(hf:∀b∈fp,FpOk X aA H b)(ho:∀b∈fp,∃o,s.heap.get? b=some o/\∀v,o.data≠.cell v):Inv X (aA++xj fp s.heap) Z H s :=
 I.pins_of λp hp=>(List.mem_append.mp hp).elim (λz=>I.pin p (List.mem_append_right _ z)) λz=>by
  obtain⟨hb,e⟩:=a8v z;obtain⟨f0,f1,f2,_⟩:=hf p.1 hb;obtain⟨o,e',d⟩:=ho p.1 hb;rw[e]at e';cases e'
  exact⟨e,f0,f1,f2,d⟩
theorem Inv.unpinned(I:Inv X (aA++pl) Z H s):Inv X aA Z H s:=I.pins_of λp hp=>I.pin p (List.mem_append_right _ (List.mem_append_left _ hp))
theorem asj{aF:Expr}{body:List Stmt}{wi:TI}{g:TG}{tb:TS}{pos:Pos}(hp:PassesOwn (model X.prog X.w) X.A X.env X.xe)(hc:X.calm=true)(hi:PI X tg aF wi)(hg:PG X tg g)(hb:PSs X body tb)
  (hs:∀x,foldedSetIterable aF X.env x=pure x:=by intro _;rfl):PS X (.For tg aF body [] pos) (b1y wi g tb):=by
 intro aA s Z H D I h
 refine wpAny_For (thn (hi aA s Z H _ I h) λv s1 h1=>thn h1 λitv s2 h2=>?_) hs;obtain⟨it,fp,tn,J,H2,e,I2,T,st2,f2,W,⟨m0,w0⟩,turn⟩:=h2;subst e;have stat:∀{H':Hp},(∀b∈fp,H' b=none)->∀b∈fp,FpOk X aA H' b:=λhn b hb=>⟨hn b hb,(f2 b hb).2⟩;refine codeAny_forLoop_any (λn s'=>∃i Z' H',Inv X aA Z' H' s'/\tn i s'.heap/\(∀b∈fp,H' b=none)/\W i n Z' H') ?_ m0 ⟨0,Z,H2,I2,st2,λb hb=>(f2 b hb).1,w0⟩
 rintro n s3 ⟨i,Z3,H3,I3,st3,fr3,w3⟩
 rcases turn i n Z3 H3 w3 with⟨stop,qn⟩|⟨go,N,hN,step⟩
 .refine wpAny_passesOwn hp (thn (T.done X rfl rfl rfl hc i aA s3 Z3 H3 X.xe I3 (stat fr3) st3 stop) λr s4 ⟨hr,I4⟩=>?_);subst hr;exact wpAny_execs_nil ⟨Z3,H3,I4,qn⟩
 .refine wpAny_passesOwn hp (thn (T.item X rfl rfl rfl hc i aA s3 Z3 H3 X.xe I3 (stat fr3) st3 go) λr s4 ⟨u,hr,h4⟩=>?_);subst hr;refine wpAny_passesOwn hp (thn h4 λ_ s5 ⟨x,H5,I5,r5,y5,st5,fr5⟩=>?_);have I5':=I5.pinned (stat fr5) (T.obj _ _ st5);refine wpAny_passesOwn hp (thn (hg _ s5 Z3 H5 x u _ I5' r5 (step x H5 y5)) λ_ s6 ⟨Z6,H6,I6,q6⟩=>?_);refine wpAny_passesOwn hp (thn (hb _ s6 Z6 H6 _ I6 q6) λf s7 q7=>?_);have again:∀{Z7:St} {H7:Hp},Inv X (aA++xj fp s5.heap) Z7 H7 s7->N Z7 H7->∃m,m<n/\∃i Z' H',Inv X aA Z' H' s7/\tn i s7.heap/\(∀b∈fp,H' b=none)/\W i m Z' H':=λ{Z7 H7} I7 n7=>by
   obtain⟨m',hm,w7⟩:=hN Z7 H7 n7;refine⟨m',hm,i+1,Z7,H7,I7.unpinned,T.keep _ _ _ st5 λb hb o e=>(I7.pin (b,o) (List.mem_append_right _ (List.mem_append_right _ (jw hb e)))).1,λb hb=>?_,w7⟩;obtain⟨o,e,d⟩:=T.obj _ _ st5 b hb;exact(I7.pin (b,o) (List.mem_append_right _ (List.mem_append_right _ (jw hb e)))).2.1
  cases f with
  |next=>obtain⟨Z7,H7,I7,n7⟩:=q7;exact again I7 n7
  |cont=>obtain⟨Z7,H7,I7,n7⟩:=q7;exact again I7 n7
  |brk=>obtain⟨Z7,H7,I7,q7⟩:=q7;exact⟨Z7,H7,I7.unpinned,q7⟩
  |ret v=>obtain⟨x7,Z7,H7,I7,r7,q7⟩:=q7;exact⟨x7,Z7,H7,I7.unpinned,r7,q7⟩
end
abbrev R2:=V->V->Hp->VK->Prop
def OpR(X:Cx)(f:Value->Value->Sem Value)(r:R2):Prop :=
 ∀(aA:List (Addr×Obj)) (s:Shared) (Z:St) (H:Hp) (x y:V) (v u:Value) (Q:VK),Inv X aA Z H s->RelV x v->RelV y u->r x y H Q->
  wpAny (model X.prog X.w) X.A (f v u) (EP X aA Z Q) X.xe s
def UnR(X:Cx)(f:Value->Sem Value)(r:V->Hp->VK->Prop):Prop :=
 ∀(aA:List (Addr×Obj)) (s:Shared) (Z:St) (H:Hp) (x:V) (v:Value) (Q:VK),Inv X aA Z H s->RelV x v->r x H Q->
  wpAny (model X.prog X.w) X.A (f v) (EP X aA Z Q) X.xe s
def CallR(X:Cx)(f:Value)(r:List V->Hp->VK->Prop):Prop :=
 ∀(aA:List (Addr×Obj)) (s:Shared) (Z:St) (H:Hp) (xs:List V) (us:List Value) (Q:VK),Inv X aA Z H s->Vals xs us->r xs H Q->
  wpAny (model X.prog X.w) X.A (call f us) (EP X aA Z Q) X.xe s
def b1z(X:Cx)(r:V->Hp->(Bool->Hp->Prop)->Prop):Prop :=
 ∀(aA:List (Addr×Obj)) (s:Shared) (Z:St) (H:Hp) (x:V) (v:Value) (Q:Bool->Hp->Prop),Inv X aA Z H s->RelV x v->r x H Q->
  wpAny (model X.prog X.w) X.A (truthy v) (TP X aA Z Q) X.xe s
noncomputable def tOp(r:R2)(ta tb:TE):TE:=λZ H Q=>ta Z H λx H1=>tb Z H1 λy H2=>r x y H2 Q
def tUn(r:V->Hp->VK->Prop)(ta:TE):TE:=λZ H Q=>ta Z H λx H1=>r x H1 Q
def rI(C:Int->Int->Prop)(g:Int->Int->V):R2:=λx y H Q=>∃i j,x=.int i/\y=.int j/\C i j/\Q (g i j) H
noncomputable def rI0(g:Int->Int->V):R2:=λx y H Q=>∃i j,x=.int i/\y=.int j/\Q (g i j) H
def rU(g:Int->V):V->Hp->VK->Prop:=λx H Q=>∃i,x=.int i/\Q (g i) H
section
variable{X:Cx}{a b c:Expr}{ta tb tc:TE}{pos:Pos}
theorem ayp(ha:PE X a ta)(hb:PE X b tb){aA:List (Addr×Obj)}{s:Shared}{Z:St}{H:Hp}{R:V->V->Hp->Prop}(I:Inv X aA Z H s)
  (h:ta Z H λx H1=>tb Z H1 λy H2=>R x y H2) {Q:Value->Shared->Prop} {f:Value->Value->Sem Value}
  (hf:∀v u s2 x y H2,Inv X aA Z H2 s2->RelV x v->RelV y u->R x y H2->wpAny (model X.prog X.w) X.A (f v u) Q X.xe s2) :
  wpAny (model X.prog X.w) X.A (eval a X.env) (λv s₁=>wpAny (model X.prog X.w) X.A (eval b X.env) (λu s₂=>wpAny (model X.prog X.w) X.A (f v u) Q X.xe s₂) X.xe s₁) X.xe s:=by
 refine thn (ha aA s Z H _ I h) ?_
 rintro v s1 ⟨x,H1,I1,r1,q1⟩
 refine thn (hb aA s1 Z H1 _ I1 q1) ?_
 rintro u s2 ⟨y,H2,I2,r2,q2⟩
 exact hf v u s2 x y H2 I2 r1 r2 q2
theorem ayq{op:Operator}{r:R2}(ho:OpR X (binaryOp op) r)(ha:PE X a ta)(hb:PE X b tb):PE X (.BinOp a op b pos) (tOp r ta tb):=by
 intro aA s Z H Q I h
 exact wpAny_BinOp (ayp ha hb I h λv u s2 x y H2 I2 rx ry q=>ho aA s2 Z H2 x y v u Q I2 rx ry q)
theorem ayr{op:UnaryOp}{r:V->Hp->VK->Prop}(ho:UnR X (unaryOp op) r)(ha:PE X a ta):PE X (.UnaryOp op a pos) (tUn r ta):=by
 intro aA s Z H Q I h
 exact UnaryOp_ (thn (ha aA s Z H _ I h) λv s1 ⟨x,H1,I1,r1,q1⟩=>ho aA s1 Z H1 x v Q I1 r1 q1)
theorem opI{f:Value->Value->Sem Value}{C:Int->Int->Prop}{g:Int->Int->Int}
  (rule:∀(i j:Int) (t u:Tok) (s:Shared) (Q:Value->Shared->Prop) (E:Value->Shared->Prop),C i j->Q (.int (g i j) s.toks) {s with toks:=s.toks+1}->wpAny (model X.prog X.w) X.A (f (.int i t) (.int j u)) Q E s) :
  OpR X f (rI C λi j=>.int (g i j)):=by
 intro aA s Z H x y v u Q I rx ry h
 obtain⟨i,j,rfl,rfl,hc,q⟩:=h;obtain⟨t,rfl⟩:=rx;obtain⟨t',rfl⟩:=ry;exact rule i j t t' s _ _ hc ⟨.int (g i j),H,I.tok _,⟨_,rfl⟩,q⟩
theorem ays{f:Value->Value->Sem Value}{g:Int->Int->Int}
  (rule:∀(i j:Int) (t u:Tok) (s:Shared) (Q:Value->Shared->Prop) (E:Value->Shared->Prop),Q (.int (g i j) s.toks) {s with toks:=s.toks+1}->wpAny (model X.prog X.w) X.A (f (.int i t) (.int j u)) Q E s) :
  OpR X f (rI0 λi j=>.int (g i j)):=by
 intro aA s Z H x y v u Q I rx ry h
 obtain⟨i,j,rfl,rfl,q⟩:=h;obtain⟨t,rfl⟩:=rx;obtain⟨t',rfl⟩:=ry;exact rule i j t t' s _ _ ⟨.int (g i j),H,I.tok _,⟨_,rfl⟩,q⟩
theorem axu{f:Value->Value->Sem Value}{g:Int->Int->Bool}
  (rule:∀(i j:Int) (t u:Tok) (s:Shared) (Q:Value->Shared->Prop) (E:Value->Shared->Prop),Q (.bool (g i j)) s->wpAny (model X.prog X.w) X.A (f (.int i t) (.int j u)) Q E s) :
  OpR X f (rI0 λi j=>.bl (g i j)):=by
 intro aA s Z H x y v u Q I rx ry h
 obtain⟨i,j,rfl,rfl,q⟩:=h;obtain⟨t,rfl⟩:=rx;obtain⟨t',rfl⟩:=ry;exact rule i j t t' s _ _ ⟨.bl (g i j),H,I,rfl,q⟩
def b0h(i j:Int):Prop:=0<j/\j<1073741824
def b0i(i j:Int):Prop:=0<=j/\j<=1000000/\i.natAbs<2^64
def CMul(i j:Int):Prop:=(-(2^64)<i/\i<2^64)\/(-(2^64)<j/\j<2^64)
theorem CMul.ok(h:CMul i j):IntMulOk i j:=by
 rcases h with⟨h1,h2⟩|⟨h1,h2⟩
 .exact .of_left (intBits_le_64 h1 h2)
 .exact .of_right (intBits_le_64 h1 h2)
theorem asl:OpR X (binaryOp .Add) (rI0 λi j=>.int (i+j)):=ays λ_ _ _ _ _ _ _ q=>add_int q
theorem asm:OpR X (binaryOp .Sub) (rI0 λi j=>.int (i-j)):=ays λ_ _ _ _ _ _ _ q=>sub_int q
theorem asn:OpR X (binaryOp .Mult) (rI CMul λi j=>.int (i*j)):=opI λ_ _ _ _ _ _ _ hc q=>mul_int q hc.ok
theorem anj:OpR X (binaryOp .FloorDiv) (rI b0h λi j=>.int (i / j)):=opI λi j _ _ _ _ _ hc q=>by
 have h1:(0:Int)<j:=hc.1;have h2:j<1073741824:=hc.2;exact floordiv_int (by omega) (by rw[Int.fdiv_eq_ediv_of_nonneg i (by omega)];exact q) (.inl (PyProof.noPylong_small (by omega)))
theorem aso:OpR X (binaryOp .Mod) (rI (λ_ j=>0<j) λi j=>.int (i%j)):=opI λi j _ _ _ _ _ hc q=>by
 have h1:(0:Int)<j:=hc;exact mod_int' (by omega) (by rw[Int.fmod_eq_emod_of_nonneg i (by omega)];exact q)
theorem asp:OpR X (binaryOp .Pow) (rI b0i λi j=>.int (i^j.toNat)):=opI λ_ _ _ _ _ _ _ hc q=>pow_int_small hc.1 hc.2.1 hc.2.2 q
theorem aer:OpR X (inplaceOp .Add) (rI0 λi j=>.int (i+j)):=ays λ_ _ _ _ _ _ _ q=>iadd_int q
theorem unI{f:Value->Sem Value}{g:Int->Int}
  (rule:∀(i:Int) (t:Tok) (s:Shared) (Q:Value->Shared->Prop) (E:Value->Shared->Prop),Q (.int (g i) s.toks) {s with toks:=s.toks+1}->wpAny (model X.prog X.w) X.A (f (.int i t)) Q E s) :
  UnR X f (rU λi=>.int (g i)):=by
 intro aA s Z H x v Q I rx h
 obtain⟨i,rfl,q⟩:=h;obtain⟨t,rfl⟩:=rx;exact rule i t s _ _ ⟨.int (g i),H,I.tok _,⟨_,rfl⟩,q⟩
theorem asq:UnR X (unaryOp .USub) (rU λi=>.int (-i)):=unI λ_ _ _ _ _ q=>neg_int q
end
section
variable{X:Cx}{a b c:Expr}{ta tb tc:TE}{pos:Pos}
theorem a5t(I:Inv X aA Z H s)(q:Q (.bl k) H)(e:k=k'):EP X aA Z Q (.bool k') s:=by
 subst e;exact⟨.bl k,H,I,rfl,q⟩
theorem ayt:OpR X (compareOp .Lt) (rI0 λi j=>.bl (decide (i<j))):=axu λ_ _ _ _ _ _ _ q=>lt_int q
theorem ank:OpR X (compareOp .LtE) (rI0 λi j=>.bl (decide (i<=j))):=axu λ_ _ _ _ _ _ _ q=>le_int q
theorem ayu:OpR X (compareOp .Gt) (rI0 λi j=>.bl (decide (j<i))):=axu λ_ _ _ _ _ _ _ q=>gt_int q
theorem ayv:OpR X (compareOp .GtE) (rI0 λi j=>.bl (decide (j<=i))):=axu λ_ _ _ _ _ _ _ q=>ge_int q
theorem aes:OpR X (compareOp .Lt) (λx y H Q=>∃i j,x=.str i/\y=.str j/\Q (.bl (decide (i.cps.toList<j.cps.toList))) H):=by
 intro aA s Z H x y v u Q I rx ry h
 obtain⟨i,j,rfl,rfl,q⟩:=h;obtain⟨t,rfl⟩:=rx;obtain⟨t',rfl⟩:=ry;exact lt_str (a5t I q rfl)
theorem aet:OpR X (compareOp .In) (λx y H Q=>∃i j,x=.str i/\y=.str j/\Q (.bl (!(Builtin.Str.occurrences j i 0 j.length 1).isEmpty)) H):=by
 intro aA s Z H x y v u Q I rx ry h
 obtain⟨i,j,rfl,rfl,q⟩:=h;obtain⟨t,rfl⟩:=rx;obtain⟨t',rfl⟩:=ry;exact in_str (a5t I q rfl)
theorem asr:OpR X (compareOp .Is) (λx y H Q=>y=.non/\Q (.bl (decide (x=.non))) H):=by
 intro aA s Z H x y v u Q I rx ry h
 obtain⟨rfl,q⟩:=h;cases ry
 refine is_none_gen (a5t I q ?_)
 cases x<;>first
  |(cases rx;rfl)
  |(obtain⟨t,rfl⟩:=rx;rfl)
theorem anl:OpR X (compareOp .IsNot) (λx y H Q=>y=.non/\Q (.bl (!decide (x=.non))) H):=by
 intro aA s Z H x y v u Q I rx ry h
 obtain⟨rfl,q⟩:=h;cases ry
 refine isnot_none_gen (a5t I q ?_)
 cases x<;>first
  |(cases rx;rfl)
  |(obtain⟨t,rfl⟩:=rx;rfl)
theorem OpR.or(h:OpR X f r)(h':OpR X f r'):OpR X f (λx y H Q=>r x y H Q\/r' x y H Q):=by
 intro aA s Z H x y v u Q I rx ry q
 rcases q with q|q
 .exact h aA s Z H x y v u Q I rx ry q
 .exact h' aA s Z H x y v u Q I rx ry q
theorem abm(b:Expr)(h:op≠.In:=by decide)(h2:op≠.NotIn:=by decide):behindInMarks op b=false:=by
 have e1:(op == CmpOp.In)=false:=by cases op<;>first|rfl|exact absurd rfl h
 have e2:(op == CmpOp.NotIn)=false:=by cases op<;>first|rfl|exact absurd rfl h2
 cases b<;>simp[behindInMarks,e1,e2]
theorem anm(ho:OpR X (compareOp op) r)(ha:PE X a ta)(hb:PE X b tb)(hm:behindInMarks op b=false):PE X (.Compare a [op] [b] pos) (tOp r ta tb):=by
 intro aA s Z H Q I h
 exact wpAny_Compare1 (ayp ha hb I h λv u s2 x y H2 I2 rx ry q=>ho aA s2 Z H2 x y v u Q I2 rx ry q) hm
noncomputable def ass(t:TE):TT:=λZ H Q=>t Z H λx H'=>∃k,x=.bl k/\Q k H'
theorem ano{op:CmpOp}{r:R2}(ho:OpR X (compareOp op) r)(ha:PE X a ta)(hb:PE X b tb)(hm:behindInMarks op b=false):PT X (.Compare a [op] [b] pos) (ass (tOp r ta tb)):=by
 intro aA s Z H Q I h
 refine wpAny_isTrue_Compare1 (thn (ha aA s Z H _ I h) λv s1 ⟨x,H1,I1,r1,q1⟩=>thn (hb aA s1 Z H1 _ I1 q1) λu s2 ⟨y,H2,I2,r2,q2⟩ =>
  thn (ho aA s2 Z H2 x y v u _ I2 r1 r2 q2) λc s3 ⟨z,H3,I3,r3,k,e,q3⟩=>?_) hm
 subst e;cases r3
 exact wpAny_truthy_bool ⟨H3,I3,q3⟩
noncomputable def alm(r r':R2)(ta tb tc:TE):TE:=λZ H Q=>ta Z H λx H1=>tb Z H1 λy H2=>r x y H2 λz H3=>∃k,z=.bl k /\
 (if k=true then tc Z H3 λw' H4=>r' y w' H4 Q else Q (.bl false) H3)
theorem ais{op op':CmpOp}{r r':R2}(ho:OpR X (compareOp op) r)(ho':OpR X (compareOp op') r')(ha:PE X a ta)(hb:PE X b tb)(hc:PE X c tc)
  (hm:lastMarks [op,op'] [b,c]=false:=by with_unfolding_all rfl):PE X (.Compare a [op,op'] [b,c] pos) (alm r r' ta tb tc):=by
 intro aA s Z H Q I h
 refine Compare_chain (thn (ha aA s Z H _ I h) λv s1 ⟨x,H1,I1,r1,q1⟩=>chain_link (thn (hb aA s1 Z H1 _ I1 q1) λu s2 ⟨y,H2,I2,r2,q2⟩ =>
  thn (ho aA s2 Z H2 x y v u _ I2 r1 r2 q2) λd s3 ⟨z,H3,I3,r3,k,e,q3⟩=>?_)) hm
 subst e;cases r3
 refine wpAny_truthy_bool ?_
 cases k with
 |false=>exact ite_ff ⟨.bl false,H3,I3,rfl,q3⟩
 |true=>exact ite_tt (chain_last (thn (hc aA s3 Z H3 _ I3 q3) λw' s4 ⟨z',H4,I4,r4,q4⟩=>ho' aA s4 Z H4 y z' u w' Q I4 r2 r4 q4))
def ayw(K:Fg)(x:V)(H:Hp)(k:Bool):Prop :=
 match x with
 |.non=>k=false
 |.bl b=>k=b
 |.int i=>k=(i != 0)
 |.str y=>y.length<=sizeLine/\k=((y.length:Int) != 0)
 |.byt y=>y.size<=sizeLine/\k=((y.size:Int) != 0)
 |.ref p=>(∃xs,SqL K H p xs/\k = !xs.isEmpty)\/(∃xs,SqT K H p xs/\k = !xs.isEmpty)\/∃kvs,H p=some (.dK kvs)/\k = !kvs.isEmpty
 |_=>False
theorem ada{κ:Type}{kvs:List (κ×V)}{vs:List (κ×Value)}(r:KV kvs vs):(!vs.isEmpty) = !kvs.isEmpty:=by
 cases r<;>rfl
theorem a6v(r:Vals xs its):(!its.toArray.isEmpty) = !xs.isEmpty:=by
 cases r<;>simp
theorem a3j:(sizeLine:Nat)<2^63:=by rw[sizeLine_eq];decide
theorem asu:b1z X (λx H Q=>∃k,ayw X.K x H k/\Q k H):=by
 intro aA s Z H x v Q I rx h
 obtain⟨k,e,q⟩:=h;have hl:=a3j;have hs:sizeLine=16777216:=sizeLine_eq
 cases x with
 |non =>
  cases rx
  have e':k=false:=e;subst e';exact truthy_none ⟨H,I,q⟩
 |bl b =>
  cases rx
  have e':k=b:=e;subst e';exact wpAny_truthy_bool ⟨H,I,q⟩
 |int i =>
  obtain⟨t,rfl⟩:=rx;have e':k=(i != 0):=e;subst e';exact PySem.P.truthy_int ⟨H,I,q⟩
 |str y =>
  obtain⟨t,rfl⟩:=rx;obtain⟨hy,e'⟩:y.length<=sizeLine/\k=((y.length:Int) != 0):=e;subst e';exact PySem.P.truthy_str (by omega) ⟨H,I.tok _,q⟩
 |byt y =>
  obtain⟨t,rfl⟩:=rx;obtain⟨hy,e'⟩:y.size<=sizeLine/\k=((y.size:Int) != 0):=e;subst e';exact PySem.W.truthy_bytes (by omega) ⟨H,I.tok _,q⟩
 |ref p =>
  cases rx
  have e':(∃xs,SqL X.K H p xs/\k = !xs.isEmpty)\/(∃xs,SqT X.K H p xs/\k = !xs.isEmpty)\/∃kvs,H p=some (.dK kvs)/\k = !kvs.isEmpty:=e
  rcases e' with⟨xs,hx,e'⟩|⟨xs,hx,e'⟩|⟨kvs,hx,e'⟩
  .subst e';obtain⟨its,r,pl,hz⟩:=I.list hx;have aH:=r.length;exact wpAny_truthy_list pl.isList (by simp only[List.size_toArray];omega) ⟨H,I.tok _,by rw[a6v r];exact q⟩
  .subst e';obtain⟨its,r,pl,hz⟩:=I.tuple hx;have aH:=r.length;exact truthy_tuple pl (by simp only[List.size_toArray];omega) ⟨H,I.tok _,by rw[a6v r];exact q⟩
  .subst e';obtain⟨hz,hS,vs,r,m⟩:kvs.length<=sizeLine/\(p == sysModules)=false/\∃vs,KV kvs vs/\s.heap.DictOf (mz X.prog X.w) p vs:=I.hok p _ hx;have aH:kvs.length=vs.length:=Paired.length r;exact wpAny_truthy_dict hS m (by omega) ⟨H,I.tok _,by rw[ada r];exact q⟩
 |_=>exact(show False from e).elim
theorem ait(ha:PE X a ta)(he:∀whole,isTrue a X.env whole=(do let v <-whole;standAt a.pos;holding [v] (truthy v))) :
  PT X a (λZ H Q=>ta Z H λx H'=>∃k,ayw X.K x H' k/\Q k H'):=by
 intro aA s Z H Q I h
 exact isTrue_plain (thn (ha aA s Z H _ I h) λv s1 ⟨x,H1,I1,r1,q1⟩=>asu aA s1 Z H1 x v Q I1 r1 q1) (he _)
theorem adb:OpR X (binaryOp .Add) (λx y H Q=>∃i j,x=.str i/\y=.str j/\i.length+j.length<=sizeLine/\Q (.str (i++j)) H):=by
 intro aA s Z H x y v u Q I rx ry h
 obtain⟨i,j,rfl,rfl,hz,q⟩:=h;obtain⟨t,rfl⟩:=rx;obtain⟨t',rfl⟩:=ry;exact add_str (λt' tk=>⟨.str (i++j),H,I.tok _,⟨_,rfl⟩,q⟩) hz
theorem a5u:OpR X (inplaceOp .Add) (λx y H Q=>∃i j,x=.str i/\y=.str j/\i.length+j.length<=sizeLine/\Q (.str (i++j)) H):=by
 intro aA s Z H x y v u Q I rx ry h
 obtain⟨i,j,rfl,rfl,hz,q⟩:=h;obtain⟨t,rfl⟩:=rx;obtain⟨t',rfl⟩:=ry;exact iadd_str (λt' tk=>⟨.str (i++j),H,I.tok _,⟨_,rfl⟩,q⟩) hz
theorem vals1(r:Vals [x] us):∃u,us=[u]/\RelV x u:=by
 cases r with
 |cons r1 r2=>cases r2;exact⟨_,rfl,r1⟩
theorem vals2(r:Vals [x,y] us):∃u w',us=[u,w']/\RelV x u/\RelV y w':=by
 cases r with
 |cons r1 r2 =>
  cases r2 with
  |cons r3 r4=>cases r4;exact⟨_,_,rfl,r1,r3⟩
theorem aiu:CallR X (.builtin "abs") (λxs H Q=>∃i,xs=[.int i]/\Q (.int (if i<0 then -i else i)) H):=by
 intro aA s Z H xs us Q I r h
 obtain⟨i,rfl,q⟩:=h;obtain⟨u,rfl,t,rfl⟩:=vals1 r;exact call_abs_int λu tk=>⟨.int (if i<0 then -i else i),H,I.tok _,⟨_,rfl⟩,q⟩
theorem aeu(hc:X.calm=true):CallR X (.builtin "max") (λxs H Q=>∃i j,xs=[.int i,.int j]/\Q (.int (if j > i then j else i)) H):=by
 intro aA s Z H xs us Q I r h
 obtain⟨i,j,rfl,q⟩:=h;obtain⟨u,w',rfl,⟨t,rfl⟩,⟨t',rfl⟩⟩:=vals2 r;refine max_two_ints (I.ok.hd hc) λh' tk k=>⟨_,H,I.kept k,?_,q⟩
 by_cases hj:j > i
 .rw[if_pos hj,if_pos hj];exact⟨_,rfl⟩
 .rw[if_neg hj,if_neg hj];exact⟨_,rfl⟩
theorem aev(hc:X.calm=true):CallR X (.builtin "min") (λxs H Q=>∃i j,xs=[.int i,.int j]/\Q (.int (if j<i then j else i)) H):=by
 intro aA s Z H xs us Q I r h
 obtain⟨i,j,rfl,q⟩:=h;obtain⟨u,w',rfl,⟨t,rfl⟩,⟨t',rfl⟩⟩:=vals2 r;refine min_two_ints (I.ok.hd hc) λh' tk k=>⟨_,H,I.kept k,?_,q⟩
 by_cases hj:j<i
 .rw[if_pos hj,if_pos hj];exact⟨_,rfl⟩
 .rw[if_neg hj,if_neg hj];exact⟨_,rfl⟩
end
structure ObjM (h:Heap) (x dx C:Addr) (mA:Str->Option Value):Prop where
 obj:h.get? x=some (PySem.W.instObj C dx)
 ns:h.Ns1 dx mA
 ne:dx≠x
theorem aew{h:Heap}(n:h.Ns1 dx mA):∃od,h.get? dx=some od/\∀name,PySem.W.lookIn name od=some (mA name):=by
 obtain⟨o,es,ep,ho,hd,hk,_,hm⟩:=n;refine⟨o,ho,λname=>?_⟩;have e:=hm name;unfold nsFind findBy at e;rw[<-Array.find?_toList]at e;unfold PySem.W.lookIn;rw[hd];dsimp only
 split
 .rename_i y q;rw[q]at e;exact congrArg some e
 .rename_i q;rw[q]at e;have a:es.toList.any (·.refKey)=false:=by
   rw[List.any_eq_false]
   intro y hy
   obtain⟨z,t,hkey⟩:=hk y (Array.mem_toList_iff.mp hy);simp[DictEntry.refKey,hkey]
  have a':¬ es.toList.any (·.refKey)=true:=by rw[a];exact Bool.false_ne_true
  rw[if_neg a'];exact congrArg some e
theorem ObjM.look(I:ObjM h x dx C mA):∃od,PySem.W.InstAt h x (PySem.W.instObj C dx) C (some od)/\∀name,PySem.W.lookIn name od=some (mA name) :=
 let ⟨od,ho,hl⟩:=aew I.ns
 ⟨od,⟨I.obj,rfl,rfl,ho⟩,hl⟩
theorem RelO.some_of(r:RelO (some v) o):∃u,o=some u/\RelV v u:=by
 cases o with
 |none=>exact(show False from r).elim
 |some u=>exact⟨u,rfl,r⟩
section
variable{P:Program}{w:World}{H H':Hp}{h h':Heap}{a C dx:Addr}{fs fs':List (Str×V)}
theorem anp(hok:HOk P w H h)(e:H a=some (.ins C dx fs)):∃mA,ObjM h a dx C mA/\(∀f,RelO (fs.lookup f) (mA f))/\PySem.Within mA (fs.map (·.1))/\fs.length<=1000/\H dx=some (.own a):=by
 obtain⟨d,z,ne,ob,mA,n,r,q⟩:=(show ObjOk P w H h a (.ins C dx fs) from hok a _ e)
 exact⟨mA,⟨ob,n,ne⟩,r,q,z,d⟩
end
structure Cls (K:Fg) (C:Addr):Prop where
 pg:PySem.W.plainGet K C Str.empty=true
 hd:PySem.W.hasDictIn K C=true
 po:PySem.W.plainOver K C=true
 sa:PySem.W.findIn K (.ref C) "__setattr__" = some (some (.builtin "object.__setattr__"))
theorem Cls.get{K:Fg}{C:Addr}(c:Cls K C)(f:Str):PySem.W.plainGet K C f=true:=c.pg
section
variable{X:Cx}{aA:List (Addr×Obj)}{Z:St}{H:Hp}{s:Shared}{A:Around}{E:Value->Shared->Prop}{Q:Value->Shared->Prop}{c:Value}{b:Bool}
inductive TyOf (K:Fg) (H:Hp):V->Value->Prop where
 |non:TyOf K H .non (.type "NoneType")
 |bl (x:Bool):TyOf K H (.bl x) (.type "bool")
 |int (i:Int):TyOf K H (.int i) (.type "int")
 |str (x:Str):TyOf K H (.str x) (.type "str")
 |flt (x:UInt64):TyOf K H (.flt x) (.type "float")
 |lst {a:Addr} {xs:List V} (e:H a=some (.lst xs)):TyOf K H (.ref a) (.type "list")
 |frz {a:Addr} {o:Obj} {xs:List V} (e:H a=some (.frz o (.lst xs))):TyOf K H (.ref a) (.type "list")
 |tup {a:Addr} {xs:List V} (e:H a=some (.tup xs)):TyOf K H (.ref a) (.type "tuple")
 |dK {a:Addr} {kvs:List (Key×V)} (e:H a=some (.dK kvs)):TyOf K H (.ref a) (.type "dict")
 |dT {a:Addr} {kvs:List (List Key×V)} (e:H a=some (.dT kvs)):TyOf K H (.ref a) (.type "dict")
 | ins {a C dx:Addr} {fs:List (Str×V)} (e:H a=some (.ins C dx fs)) (cl:Cls K C) (ha:PySem.W.findIn K (.ref C) "__class__" = some (some (.builtin "object.__class__")))
   (hn:PySem.W.specialIn K (.builtin "object.__class__") "__get__" = some (some (.builtin "getset_descriptor.__get__"))) (htk:PySem.W.takesIn K (.builtin "object.__class__")=some true)
   (hm:PySem.W.mroIn K C (.type "object")=some true):TyOf K H (.ref a) (.ref C)
theorem aex(I:Inv X aA Z H s)(rx:RelV x u)(ty:TyOf X.K H x t)(e:PySem.W.kitOne X.K t c=some b)(h:∀tk,Q (.bool b) {s with toks:=tk}) :
  wpAny (model X.prog X.w) A (call (.builtin "isinstance") [u,c]) Q E s:=by
 cases ty with
 |non=>cases (show u=Value.none from rx);exact PySem.W.kia_one PySem.W.kitx_none I.kIn True.intro e (λz=>nomatch z) h
 |bl y=>cases (show u=Value.bool y from rx);exact PySem.W.kia_one PySem.W.kitx_bool I.kIn True.intro e (λz=>nomatch z) h
 |int i=>obtain⟨t,q⟩:=(show ∃t,u=Value.int i t from rx);cases q;exact PySem.W.kia_one PySem.W.kitx_int I.kIn True.intro e (λz=>nomatch z) h
 |str y=>obtain⟨t,q⟩:=(show ∃t,u=Value.str y t from rx);cases q;exact PySem.W.kia_one PySem.W.kitx_str I.kIn True.intro e (λz=>nomatch z) h
 |flt y=>obtain⟨t,q⟩:=(show ∃t,u=Value.float y t from rx);cases q;exact PySem.W.kia_one PySem.W.kitx_float I.kIn True.intro e (λz=>nomatch z) h
 |@lst a xs ea =>
  cases (show u=Value.ref a from rx)
  obtain⟨_,_,n,_,h1⟩:=(show ObjOk X.prog X.w H s.heap a (.lst xs) from I.hok a _ ea)
  exact PySem.W.kia_one PySem.W.kitx_list I.kIn ⟨_,h1,rfl⟩ e (λz=>nomatch z) h
 |@frz a ob xs ea =>
  cases (show u=Value.ref a from rx)
  obtain⟨_,_,_,n,_,h1⟩:=(show ObjOk X.prog X.w H s.heap a (.frz ob (.lst xs)) from I.hok a _ ea)
  exact PySem.W.kia_one PySem.W.kitx_list I.kIn ⟨_,h1,rfl⟩ e (λz=>nomatch z) h
 |@tup a xs ea =>
  cases (show u=Value.ref a from rx)
  obtain⟨_,_,_,p⟩:=(show ObjOk X.prog X.w H s.heap a (.tup xs) from I.hok a _ ea)
  obtain⟨o,h1,h2,_⟩:=p;exact PySem.W.kia_one PySem.W.kitx_tuple I.kIn ⟨o,h1,h2⟩ e (λz=>nomatch z) h
 |@dK a kvs ea =>
  cases (show u=Value.ref a from rx)
  obtain⟨_,_,vs,_,p⟩:=(show ObjOk X.prog X.w H s.heap a (.dK kvs) from I.hok a _ ea)
  obtain⟨o,es,ep,h1,h2,_⟩:=p;exact PySem.W.kia_one PySem.W.kitx_dict I.kIn ⟨o,h1,h2.1⟩ e (λz=>nomatch z) h
 |@dT a kvs ea =>
  cases (show u=Value.ref a from rx)
  obtain⟨_,_,xs,_,o,es,ep,h1,h2,_⟩:=(show ObjOk X.prog X.w H s.heap a (.dT kvs) from I.hok a _ ea)
  exact PySem.W.kia_one PySem.W.kitx_dict I.kIn ⟨o,h1,h2.1⟩ e (λz=>nomatch z) h
 |@ins a C dx fs ea cl ha hn htk hm =>
  cases (show u=Value.ref a from rx)
  obtain⟨mA,O,_⟩:=anp I.hok ea;obtain⟨od,J,_⟩:=O.look;exact PySem.W.kia_one (PySem.W.kitx_own (cl.get _) cl.hd ha hn htk hm) I.kIn J e (λz=>nomatch z) h
end
structure Room (k:Nat) (A:Around):Prop where
 hd:A.handled=none
 dp:A.depth+3*k+5<recursionLimit
 un:A.units+16*k+200<cLine
 gd:A.guards=some []
theorem Room.mono(r:Room k A)(h:j<=k):Room j A:=⟨r.hd,by have:=r.dp;omega,by have:=r.un;omega,r.gd⟩
theorem Room.deeper(r:Room (k+1) A)(env:Env):Room k (A.deeper env) :=
 ⟨r.hd,by have:=r.dp;show A.depth+1+3*k+5<_;omega,by have:=r.un;show A.units+3+16*k+200<_;omega,r.gd⟩
theorem Room.depth(r:Room k A):A.depth<recursionLimit:=by have:=r.dp;omega
theorem Room.units(r:Room k A):A.units+64<cLine:=by have:=r.un;omega
noncomputable def b0j:TA:=λ_ H Q=>Q [] H
noncomputable def ayx(ta:TE)(tr:TA):TA:=λZ H Q=>ta Z H λx H1=>tr Z H1 λxs H2=>Q (x::xs) H2
section
variable{X:Cx}{e:Expr}{es:List Expr}{te:TE}{t:TA}{pos:Pos}
theorem a8w:PA X [] b0j:=λ_ _ _ _ H Q I h=>Calls.spliced_nil ⟨[],H,I,.nil,h⟩
theorem a4c(ha:PE X e te)(hr:PA X es t)(hs:starEach (e::es) X.env=(false,eval e X.env)::starEach es X.env:=by rfl):PA X (e::es) (ayx te t):=by
 intro pos aA s Z H Q I h
 rw[hs];show wpAny _ _ (spliced ((false,eval e X.env)::backTo pos (starEach es X.env))) _ _ s;refine Calls.spliced_cons (thn (ha aA s Z H _ I h) λu s1 ⟨x,H1,I1,r1,q1⟩=>?_);exact thn (hr pos aA s1 Z H1 _ I1 q1) λus s2 ⟨xs,H2,I2,r2,q2⟩=>⟨x::xs,H2,I2,.cons r1 r2,q2⟩
noncomputable def b20(t:TA):TE:=λZ H Q=>t Z H λxs H1=>xs.length<=sizeLine/\∀p,H1 p=none->Q (.ref p) (upd H1 p (.tup xs))
noncomputable def b21(t:TA):TE:=λZ H Q=>t Z H λxs H1=>xs.length<=sizeLine/\∀p,H1 p=none->Q (.ref p) (upd H1 p (.lst xs))
theorem asv{x1}(h:PA X es t):PE X (.Tuple es x1 pos) (b20 t):=by
 intro aA s Z H Q I hq
 refine wpAny_Tuple_spliced (thn (h pos aA s Z H _ I hq) λus s1 ⟨xs,H1,I1,r,z,q⟩=>⟨by rw[<-r.length];exact z,?_⟩)
 have hf:H1 s1.heap.objs.size=none:=I1.hok.fresh (Nat.le_refl _);refine⟨.ref s1.heap.objs.size,upd H1 s1.heap.objs.size (.tup xs),I1.laid (t':=s1.toks) (λb u e=>Heap.get?_push_of_some _ e) (Nat.le_refl _) ?_,rfl,q _ hf⟩;exact⟨z,us,r,⟨_,Heap.get?_push_size _ rfl,rfl,_,rfl⟩⟩
theorem asw(h:PA X es t):PE X (.List es pos) (b21 t):=by
 intro aA s Z H Q I hq
 refine wpAny_List_spliced (thn (h pos aA s Z H _ I hq) λus s1 ⟨xs,H1,I1,r,z,q⟩=>⟨by rw[<-r.length];exact z,?_⟩)
 have hf:H1 s1.heap.objs.size=none:=I1.hok.fresh (Nat.le_refl _);refine⟨.ref s1.heap.objs.size,upd H1 s1.heap.objs.size (.lst xs),I1.laid (t':=s1.toks) (λb u e=>Heap.get?_push_of_some _ e) (Nat.le_refl _) ?_,rfl,q _ hf⟩;exact⟨z,us,0,r,Heap.get?_push_size _ rfl⟩
end
abbrev Sp:=List V->Hp->VK->XK->Prop
abbrev CXT:=List Env->Hp->Shared->XK->Value->Shared->Prop
structure Env0 (P:Program) (w:World) (K:Fg) (mg:Str->Option Value) (base:Heap) (A:Around) (outer:List Env) (s:Shared) (H:Hp):Prop where
 frames:A.frames=some outer
 mod:Mod K mg base
 bs:∀b o,base.get? b=some o->s.heap.get? b=some o/\H b=none
 bsz:base.objs.size<=s.heap.objs.size
 funs:s.heap.FunFrames base outer
 frf:∀b∈frs outer,H b=none
 hok:HOk P w H s.heap
 bare:AllBare s.gens
def CE(outer:List Env)(P:Program)(w:World)(H:Hp)(s:Shared)(Q:VK)(u:Value)(s':Shared):Prop :=
 ∃v H',s'.os=s.os/\AllBare s'.gens/\Un (frs outer) [] H H' s.heap s'.heap/\HOk P w H' s'.heap/\RelV v u/\Q v H'
def CR(CX:CXT)(outer:List Env)(P:Program)(w:World)(H:Hp)(s:Shared)(Q:VK)(E:XK)(r:Result)(s':Shared):Prop :=
 match r with
 |.ok (.ret u)=>CE outer P w H s Q u s'
 |.ok _=>False
 |.error e=>CX outer H s E e s'
structure FnOk (P:Program) (w:World) (K:Fg) (mg:Str->Option Value) (base:Heap) (CX:CXT) (k:Nat) (f:Addr) (fd:FuncData) (ps:List Str) (sp:Sp):Prop where
 len:∀vs H Q E,sp vs H Q E->vs.length=ps.length
 run:∀(A:Around) (outer:List Env) (s:Shared) (H:Hp) (args:Args) (us:List Value) (vs:List V) (Q:VK) (E:XK),Room k A->Env0 P w K mg base A outer s H->BindsTo s fd args (ps.zip us)->Vals vs us->sp vs H Q E->
  codeAny (model P w) A (.call (.ref f) args) (CR CX outer P w H s Q E) s
theorem FnOk.imp{P:Program}{w:World}{K:Fg}{mg:Str->Option Value}{base:Heap}{CX:CXT}{k:Nat}{f:Addr}{fd:FuncData}{ps:List Str}{sp sp':Sp}(F:FnOk P w K mg base CX k f fd ps sp)
  (h:∀vs H Q E,sp' vs H Q E->sp vs H Q E):FnOk P w K mg base CX k f fd ps sp' :=
 ⟨λvs H Q E q=>F.len vs H Q E (h _ _ _ _ q),λA outer s H args us vs Q E hr he hb hv hs=>F.run A outer s H args us vs Q E hr he hb hv (h _ _ _ _ hs)⟩
section
variable{X:Cx}{aA:List (Addr×Obj)}{Z:St}{H:Hp}{s s':Shared}
theorem Inv.env0(I:Inv X aA Z H s):Env0 X.prog X.w X.K X.mg X.base X.A X.stack s H :=
 ⟨I.ok.frames,I.ok.mod,I.bs,Nat.le_trans I.ok.bsz I.sz,I.stack,I.stkFree,I.hok,I.bare⟩
theorem Inv.after(I:Inv X aA Z H s)(h:CE X.stack X.prog X.w H s Q u s'):EP X aA Z Q u s':=by
 obtain⟨v,H',os,bare,un,hok,r,q⟩:=h;obtain⟨hh,g,d,t,os'⟩:=s';obtain rfl:os'=s.os:=os;exact⟨v,H',I.call (h':=hh) (g':=g) (d':=d) (t':=t) (ch:=[]) un hok bare (λb z=>absurd z (by simp)),r,q⟩
end
noncomputable def asx(sp:Sp)(dvs:List V)(E:XK)(t:TA):TE:=λZ H Q=>t Z H λvs H1=>sp (vs++dvs) H1 Q E
def Binds(K:Fg)(fd:FuncData)(ps:List Str)(ds:List Value):Prop :=
 ∀(s:Shared) (us:List Value),K.In s.heap->(us++ds).length=ps.length->BindsTo s fd ⟨us,[]⟩ (ps.zip (us++ds))
theorem Binds.all{K:Fg}{fd:FuncData}{ps:List Str}(h:∀us:List Value,us.length=ps.length->bindArgs fd ⟨us,[]⟩=pure (ps.zip us)):Binds K fd ps []:=λs us _ hl=>by
 rw[List.append_nil]at hl ⊢;exact .of_eq (h us hl)
def abn(CX:CXT)(X:Cx)(E:XK):Prop:=∀(aA:List (Addr×Obj)) (Z:St) (H:Hp) (s:Shared) (e:Value) (s':Shared),Inv X aA Z H s->CX X.stack H s E e s'->X.xe e s'
section
variable{X:Cx}{CX:CXT}{k:Nat}{f C:Addr}{fd:FuncData}{ps:List Str}{sp:Sp}{dvs:List V}{ds:List Value}{E:XK}{x m:Str}{p pos apos:Pos}{e o:Expr}{es:List Expr}{ta:TE}{t:TA}
theorem aln(F:FnOk X.prog X.w X.K X.mg X.base CX k f fd ps sp)(hr:Room k X.A)(hb:Binds X.K fd ps ds)(hd:Vals dvs ds)(hx:abn CX X E)
  (I:Inv X aA Z H s) (r:Vals vs us) (h:sp (vs++dvs) H Q E):wpAny (model X.prog X.w) X.A (call (.ref f) us) (EP X aA Z Q) X.xe s:=by
 have r2:Vals (vs++dvs) (us++ds):=r.append hd;have hl:(us++ds).length=ps.length:=by rw[<-r2.length];exact F.len _ _ _ _ h
 refine wpAny_call (codeAny_mono (F.run X.A X.stack s H ⟨us,[]⟩ (us++ds) (vs++dvs) Q E hr I.env0 (hb s us I.kIn hl) r2 h) λr s' hq=>?_)
 cases r with
 |error e=>exact hx aA Z H s e s' I hq
 |ok fl =>
  cases fl with
  |ret u=>exact I.after hq
  |next=>exact False.elim hq
  |brk=>exact False.elim hq
  |cont=>exact False.elim hq
theorem anq(F:FnOk X.prog X.w X.K X.mg X.base CX k f fd ps sp)(hr:Room k X.A)(hg:Gl X x)(hm:X.mg x=some (.ref f))(hk:PySem.W.keepIn X.K (.ref f)=true)(hb:Binds X.K fd ps ds)(hd:Vals dvs ds)(hx:abn CX X E)
  (ha:PA X (e::es) t) (hdb:(x == ("__debug__" : Str))=false:=by decide) (he:starEach (e::es) X.env=(false,eval e X.env)::starEach es X.env:=by rfl) (hpl:(backTo pos (starEach es X.env)).any (·.1)=false:=by rfl) :
  PE X (.Call (.Name x p) (e::es) [] pos) (asx sp dvs E t):=by
 intro aA s Z H Q I h
 refine wpAny_Call_Name_kw (aek I hg hm ?_ hdb);refine PySem.W.callWith_K (h₀:=X.base) I.ok.mod.kin hk (thn (ha pos aA s Z H _ I h) λus s1 ⟨vs,H1,I1,r,q⟩=>⟨I1.kIn,?_⟩) he hpl;exact aln F hr hb hd hx I1 r q
theorem aiv(F:FnOk X.prog X.w X.K X.mg X.base CX k f fd ps sp)(hr:Room k X.A)(hg:Gl X x)(hm:X.mg x=some (.ref f))(hk:PySem.W.keepIn X.K (.ref f)=true)(hb:Binds X.K fd ps ds)(hd:Vals dvs ds)(hx:abn CX X E)
  (hdb:(x == ("__debug__" : Str))=false:=by decide):PE X (.Call (.Name x p) [] [] pos) (asx sp dvs E b0j):=by
 intro aA s Z H Q I h
 refine wpAny_Call_Name_kw (aek I hg hm ?_ hdb);exact PySem.W.callWith_K0 I.kIn hk (aln (us:=[]) F hr hb hd hx I .nil h)
end
structure FnScope (N P:List Str) (sc:Scope):Prop where
 kind:sc.kind=.function
 co:sc.isCoroutine=false
 gen:sc.isGenerator=false
 nd:N.Nodup
 pre:N.take P.length=P
 par:∀x∈P,sc.names.lookup x=some .local\/sc.names.lookup x=some .cell
 nofree:∀y∈sc.names,y.2≠.free
theorem a8x{kindOf:Str->Option NameKind}{x:Str}:∀{binds:List (Str×Value)} {m:Str->Option Value},(∀v,(x,v)∉binds)->bindL kindOf binds m x=m x
 |[],_,_=>rfl
 |(n,v)::r,m,h=>by
  unfold bindL;rw[a8x λw hw=>h w (List.mem_cons_of_mem _ hw)]
  split
  .have:x≠n:=by rintro rfl;exact h v List.mem_cons_self
   simp[this]
  .rfl
theorem a8y{kindOf:Str->Option NameKind}{x:Str}:∀{binds:List (Str×Value)} {m:Str->Option Value},(∀v,(x,v)∉binds)->bindC kindOf binds m x=m x
 |[],_,_=>rfl
 |(n,v)::r,m,h=>by
  unfold bindC;rw[a8y λw hw=>h w (List.mem_cons_of_mem _ hw)]
  split
  .rfl
  .have:x≠n:=by rintro rfl;exact h v List.mem_cons_self
   simp[this]
theorem a8z{kindOf:Str->Option NameKind}{x:Str}{v:Value}:∀{P:List Str} {vs:List Value} {i:Nat} {m:Str->Option Value},P.Nodup->P[i]? = some x->vs[i]? = some v->kindOf x=some .local->
  bindL kindOf (P.zip vs) m x=some v
 |[],_,_,_,_,h,_,_=>by simp at h
 |_::_,[],_,_,_,_,h,_=>by simp at h
 |p::P,w::vs,0,m,nd,h1,h2,hk=>by
  simp at h1 h2;subst h1;subst h2
  show bindL kindOf ((p,w)::P.zip vs) m p=_;unfold bindL;rw[a8x λv hv=>(List.nodup_cons.mp nd).1 (List.of_mem_zip hv).1,if_pos hk];simp
 |p::P,w::vs,i+1,m,nd,h1,h2,hk=>by
  show bindL kindOf ((p,w)::P.zip vs) m x=_;unfold bindL;exact a8z (i:=i) (List.nodup_cons.mp nd).2 (by simpa using h1) (by simpa using h2) hk
theorem a90{kindOf:Str->Option NameKind}{x:Str}{v:Value}:∀{P:List Str} {vs:List Value} {i:Nat} {m:Str->Option Value},P.Nodup->P[i]? = some x->vs[i]? = some v->kindOf x≠some .local->
  bindC kindOf (P.zip vs) m x=some v
 |[],_,_,_,_,h,_,_=>by simp at h
 |_::_,[],_,_,_,_,h,_=>by simp at h
 |p::P,w::vs,0,m,nd,h1,h2,hk=>by
  simp at h1 h2;subst h1;subst h2
  show bindC kindOf ((p,w)::P.zip vs) m p=_;unfold bindC;rw[a8y λv hv=>(List.nodup_cons.mp nd).1 (List.of_mem_zip hv).1,if_neg hk];simp
 |p::P,w::vs,i+1,m,nd,h1,h2,hk=>by
  show bindC kindOf ((p,w)::P.zip vs) m x=_;unfold bindC;exact a90 (i:=i) (List.nodup_cons.mp nd).2 (by simpa using h1) (by simpa using h2) hk
noncomputable def start(N:List Str)(vs:List V):St:=vs.map some++List.replicate (N.length-vs.length) none
noncomputable def aif(CX:CXT)(P:Program)(w:World)(K:Fg)(mg:Str->Option Value)(base:Heap)(N:List Str)(qual:Str)(aB:Scope)(f:Addr)(cd:Value)(A:Around)(outer:List Env)(s:Shared)(H:Hp)(E:XK):Cx where
 prog:=P
 w:=w
 K:=K
 mg:=mg
 base:=base
 A:=A.deeper (envOfC qual aB s.heap.objs.size f cd)
 N:=N
 s₀:=s
 H₀:=H
 env:=envOfC qual aB s.heap.objs.size f cd
 outer:=outer
 stack:=envOfC qual aB s.heap.objs.size f cd::outer
 ex:=[]
 calm:=true
 fn:=λ_=>true
 pn:=[]
 xe:=λe s'=>wpAny (model P w) (A.deeper (envOfC qual aB s.heap.objs.size f cd)) (leaving (envOfC qual aB s.heap.objs.size f cd) e) (λ_ s''=>CX outer H s E e s'') (λe' s''=>CX outer H s E e' s'') s'
theorem abo{sc:Scope}(h:sc.names.lookup x=some .cell):∃c,(cellsFrom n sc.names []).lookup x=some c:=by
 have q:=PySem.W.cellsFrom_some sc.names n [] (.inl h);exact Option.isSome_iff_exists.mp q
theorem aey{CX:CXT}{P:Program}{w:World}{K:Fg}{mg:Str->Option Value}{base:Heap}{N ps:List Str}{qual:Str}{aB:Scope}{f:Addr}{cd:Value}{A:Around}{outer:List Env}{s s1:Shared}{H:Hp}{E:XK}{us:List Value}{vs:List V}
  (S:FnScope N ps aB) (hd:A.handled=none) (e0:Env0 P w K mg base A outer s H) (hl:vs.length=ps.length) (r:Vals vs us)
  (x:InCallC s s.heap.objs.size (bindL (envOfC qual aB s.heap.objs.size f cd).kindOf (ps.zip us) λ_=>none) (cellsFrom (s.heap.objs.size+1) aB.names []) (bindC (envOfC qual aB s.heap.objs.size f cd).kindOf (ps.zip us) λ_=>none) s1) :
  Inv (aif CX P w K mg base N qual aB f cd A outer s H E) [] (start N vs) H s1:=by
 have hpl:ps.length<=N.length:=by have:=congrArg List.length S.pre;rw[List.length_take]at this;omega
 obtain⟨h1,tk,rfl,hk⟩:=x.done;have noA:∀b:Addr,b∉(aif CX P w K mg base N qual aB f cd A outer s H E).ex:=λb z=>absurd (show b∈([]:List Addr) from z) (by simp)
 refine⟨⟨e0.mod,S.kind,rfl,rfl,Nat.le_refl _,λy z c h1 h2=>?_,λy hy=>?_,λy c _ h=>?_,λ_=>hd,Around.frames_deeper e0.frames,.inr ⟨rfl,rfl⟩,λb z=>absurd z (noA b),e0.bs,e0.bsz,λb _ _=>noA b,λb z=>absurd z (noA b),e0.funs,e0.frf⟩,
  rfl,e0.bare,Un.kept hk,⟨_,x.toInCall.ns,λi y v h1 h2 h3=>?_⟩,λy c h=>⟨_,x.cell y c h⟩,e0.hok.fresh (Nat.le_refl _),λy c h=>?_,λp hp=>absurd (show p∈([]:List (Addr×Obj)) from hp) (by simp),e0.hok.kept hk,?_⟩
 .exact name_of_addr x.apart (PySem.mem_of_lookup h1) (PySem.mem_of_lookup h2)
 .have hy:aB.names.lookup y=some .cell\/aB.names.lookup y=some .free:=hy
  rcases hy with hy|hy
  .exact abo hy
  .exact absurd rfl (S.nofree _ (PySem.mem_of_lookup hy))
 .exact Nat.le_of_lt (x.above y c (PySem.mem_of_lookup h))
 .have hi:i<vs.length:=by
   unfold start at h2
   by_cases hi:i<vs.length
   .exact hi
   .rw[List.getElem?_append_right (by simpa using hi)]at h2
    rw[List.getElem?_replicate]at h2
    split at h2<;>cases h2
  have ha:vs[i]? = some v:=by
   unfold start at h2;rw[List.getElem?_append_left (by simpa using hi),List.getElem?_map]at h2
   cases e:vs[i]? with
   |none=>rw[e]at h2;cases h2
   |some a=>rw[e]at h2;cases h2;rfl
  obtain⟨u,hu,rv⟩:=r.get ha;have hp:ps[i]? = some y:=by
   rw[<-S.pre,List.getElem?_take_of_lt (by omega)];exact h1
  have ndP:ps.Nodup:=by rw[<-S.pre];exact S.nd.sublist (List.take_sublist _ _)
  refine⟨u,rv,?_⟩
  rcases S.par y (List.mem_of_getElem? hp) with k|k
  .exact .inl ⟨k,a8z ndP hp hu k⟩
  .obtain⟨c,e⟩:=abo (n:=s.heap.objs.size+1) k;refine .inr ⟨.inl k,c,e,?_⟩;have q:=x.cell y c e;rw[a90 ndP hp hu (by show aB.names.lookup y≠_;rw[k];decide)]at q
   exact q
 .exact e0.hok.fresh (Nat.le_of_lt (x.above y c (PySem.mem_of_lookup h)))
 .unfold start;show _=N.length;rw[List.length_append,List.length_map,List.length_replicate];omega
theorem ayy{CX:CXT}{P:Program}{w:World}{K:Fg}{mg:Str->Option Value}{base:Heap}{k:Nat}{f:Addr}{name qual:Str}{params:Arguments}{body:List Stmt}{aB:Scope}{dV kV doc pm cdv ct oc:Value}{an od:Option Addr}
  {osl:Array (Option Value)} {N ps:List Str} {sp:Sp} (lk:K.lookup f=some ⟨oc,od,.func (PySem.W.fnOf name qual params body aB dV kV doc pm an cdv ct),osl⟩) (hcd:PySem.W.codeIn K cdv qual=true) (S:FnScope N ps aB)
  (len:∀vs H Q E,sp vs H Q E->vs.length=ps.length)
  (hbody:∀(A:Around) (outer:List Env) (s:Shared) (H:Hp) (vs:List V) (Q:VK) (E:XK),Room k (A.deeper (envOfC qual aB s.heap.objs.size f cdv))->sp vs H Q E->
   ∃t,PSs (aif CX P w K mg base N qual aB f cdv A outer s H E) body t/\t {nx:=λ_ H'=>Q .non H',rt:=Q} (start N vs) H) :
  FnOk P w K mg base CX (k+1) f (PySem.W.fnOf name qual params body aB dV kV doc pm an cdv ct) ps sp:=by
 refine⟨len,λA outer s H args us vs Q E hr e0 hb r hsp=>?_⟩;have hl:=len _ _ _ _ hsp;have KX:K.In s.heap:=e0.mod.kin.keeps λb o e=>(e0.bs b o e).1;have lim:s.heap.NoLimit:=e0.mod.nolimit.keeps λb o e=>(e0.bs b o e).1;have hkind:∀y∈ps.zip us,aB.names.lookup y.1=some .local\/(aB.names.lookup y.1=some .cell/\((cellsFrom (s.heap.objs.size+1) aB.names []).lookup y.1).isSome=true):=λ⟨n,v⟩ hy=>by
  rcases S.par n (List.of_mem_zip hy).1 with q|q
  .exact .inl q
  .exact .inr ⟨q,PySem.W.cellsFrom_some _ _ _ (.inl q)⟩
 refine codeAny_call_function hr.depth (KX _ _ lk) rfl S.co S.gen rfl (PySem.W.codeRec_of KX hcd) (hb _ _ _ _ ?_);refine wpAny_newFunctionEnv_cells S.kind hkind λenv he s1 x=>?_;subst he;refine⟨lim.keeps x.toInCall.keep,codeAny_func ?_⟩;obtain⟨t,ht,hq⟩:=hbody A outer s H vs Q E (hr.deeper _) hsp;have I:Inv (aif CX P w K mg base N qual aB f cdv A outer s H E) [] (start N vs) H s1:=aey S hr.hd e0 hl r x;refine wpAny_mono (ht [] s1 (start N vs) H _ I hq) (λfl s' hs=>?_) λe s' hs=>hs;have fin:∀{Z':St} {H':Hp} {v:V} {u:Value},Inv (aif CX P w K mg base N qual aB f cdv A outer s H E) [] Z' H' s'->RelV v u->Q v H'->CE outer P w H s Q u s' :=
  λ{Z' H' v u} J rv q=>⟨v,H',J.os,J.bare,J.base,J.hok,rv,q⟩
 cases fl with
 |ret u =>
  obtain⟨v,Z',H',J,rv,q⟩:=hs;exact fin J rv q
 |next =>
  obtain⟨Z',H',J,q⟩:=hs;exact fin (v:=V.non) (u:=Value.none) J rfl q
 |brk =>
  obtain⟨_,_,_,q⟩:=hs;exact False.elim q
 |cont =>
  obtain⟨_,_,_,q⟩:=hs;exact False.elim q
section
variable{X:Cx}{x:Str}{p pos:Pos}{e:Expr}{es:List Expr}{t:TA}{id T:String}{r:List V->Hp->VK->Prop}
def tCB(r:List V->Hp->VK->Prop)(t:TA):TE:=λZ H Q=>t Z H λvs H1=>r vs H1 Q
theorem aiw(hc:CallR X (.builtin id) r)(hg:Gl X x)(hm:X.mg x=none)(hv:bootBuiltins x=some (.builtin id))(ha:PA X (e::es) t)(hn:x ≠ "__name__":=by decide)(hdb:(x == ("__debug__" : Str))=false:=by decide)
  (he:starEach (e::es) X.env=(false,eval e X.env)::starEach es X.env:=by rfl) (hpl:(backTo pos (starEach es X.env)).any (·.1)=false:=by rfl):PE X (.Call (.Name x p) (e::es) [] pos) (tCB r t):=by
 intro aA s Z H Q I h
 refine wpAny_Call_Name_kw (a2u I hg hm hv ?_ hn hdb);exact PyProof.Rows.callWith_builtin1 (thn (ha pos aA s Z H _ I h) λus s1 ⟨vs,H1,I1,r1,q1⟩=>hc aA s1 Z H1 vs us Q I1 r1 q1) he hpl
theorem a5v(hc:CallR X (.type T) r)(hg:Gl X x)(hm:X.mg x=none)(hv:bootBuiltins x=some (.type T))(ha:PA X (e::es) t)(hn:x ≠ "__name__":=by decide)(hdb:(x == ("__debug__" : Str))=false:=by decide)
  (he:starEach (e::es) X.env=(false,eval e X.env)::starEach es X.env:=by rfl) (hpl:(backTo pos (starEach es X.env)).any (·.1)=false:=by rfl):PE X (.Call (.Name x p) (e::es) [] pos) (tCB r t):=by
 intro aA s Z H Q I h
 refine wpAny_Call_Name_kw (a2u I hg hm hv ?_ hn hdb);exact PyProof.Rows.callWith_type1 (thn (ha pos aA s Z H _ I h) λus s1 ⟨vs,H1,I1,r1,q1⟩=>hc aA s1 Z H1 vs us Q I1 r1 q1) he hpl
end
end L2
namespace HT
open PyProof.Rows
section
variable{prog:Program}{w:World}{A:Around}{E:Value->Shared->Prop}{s:Shared}
theorem anr{vs ws:List Value}(ht:IsTup s.heap t vs.toArray)(hb:IsTup s.heap b ws.toArray)(hv:vs≠[])
  (h1:ws=[]->Q (.ref t) s) (h2:ws≠[]->Q (.ref s.heap.objs.size) {s with heap:=s.heap.push {cls:=.type "tuple",data:=.seq (vs++ws).toArray} })
  (hsz:vs.length+ws.length<=sizeLine):wpAny (model prog w) A (binaryOp .Add (.ref t) (.ref b)) Q E s:=by
 obtain⟨⟨cls,dd,data,sl⟩,ho,hc,n,hd⟩:=id ht;obtain⟨⟨cls2,dd2,data2,sl2⟩,ho2,hc2,n2,hd2⟩:=id hb;simp only at hc hd hc2 hd2;subst hc hd hc2 hd2;have e:vs.toArray++ws.toArray=(vs++ws).toArray:=by simp
 by_cases hw:ws=[]
 .exact concat_meets ⟨_,ho,rfl⟩ ⟨_,ho2,rfl⟩ noFill_tuple_add seq_tuple_add PySem.F.slot_tuple_add PySem.F.entry_tuple_add (PySem.F.args_tuple_add_2 _ _)
   (tuple_addW1 t b vs.toArray ws.toArray n n2 dd dd2 sl sl2 (by simpa using hv) (by simp[hw])) ⟨ho,ho2,h1 hw⟩
 .refine concat_meets ⟨_,ho,rfl⟩ ⟨_,ho2,rfl⟩ noFill_tuple_add seq_tuple_add PySem.F.slot_tuple_add PySem.F.entry_tuple_add (PySem.F.args_tuple_add_2 _ _)
   (tuple_addW2 t b vs.toArray ws.toArray n n2 dd dd2 sl sl2 (by simpa using hv) (by simpa using hw) (by rw[List.size_toArray,List.size_toArray];exact hsz)) ⟨ho,ho2,?_⟩
  rw[e];exact h2 hw
noncomputable def sIx(n d:Nat):Option Int->Nat
 |none=>d
 |some v=>if v<0 then (v+(n:Int)).toNat else min v.toNat n
theorem abp(n d:Nat):sIx n d none=d:=rfl
theorem a7g(n d k:Nat):sIx n d (some (k:Int))=min k n:=by
 show(if (k:Int)<0 then ((k:Int)+(n:Int)).toNat else min (k:Int).toNat n)=min k n
 rw[if_neg (by omega),Int.toNat_natCast]
theorem aez(n d:Nat)(hd:d<=n)(o:Option Int):sIx n d o<=n:=by
 cases o with
 |none=>exact hd
 |some v =>
  show(if v<0 then (v+(n:Int)).toNat else min v.toNat n)<=n
  by_cases hv:v<0
  .rw[if_pos hv];omega
  .rw[if_neg hv];exact Nat.min_le_right _ _
theorem af0(v:Int)(n d:Nat):(if v<0 then max (v+(n:Int)) 0 else min v (n:Int))=((sIx n d (some v):Nat):Int):=by
 show(if v<0 then max (v+(n:Int)) 0 else min v (n:Int))=(((if v<0 then (v+(n:Int)).toNat else min v.toNat n):Nat):Int)
 by_cases hv:v<0
 .simp only[if_pos hv];omega
 .simp only[if_neg hv];omega
theorem adc(lo hi:Option Int)(n:Nat):Builtin.Slice.sliceAdjust lo hi 1 (n:Int)=(((sIx n 0 lo:Nat):Int),((sIx n n hi:Nat):Int)):=by
 have h1:¬ ((1:Int)<0):=by omega
 unfold Builtin.Slice.sliceAdjust;simp only[h1,if_false];refine Prod.ext ?_ ?_
 .cases lo with
  |none=>rfl
  |some v=>exact af0 v n 0
 .cases hi with
  |none=>rfl
  |some v=>exact af0 v n n
theorem ade(i j:Nat):Builtin.Slice.slicePlaces (i:Int) (j:Int) 1=j-i:=by
 unfold Builtin.Slice.slicePlaces;have h1:(1:Int) > 0:=by omega
 simp only[h1,if_true,Int.ediv_one]
 split<;>omega
theorem a6w(p:IsPart v o)(h:Q o s):wpAny (model prog w) A (Builtin.Slice.slicePartIndex v) Q E s:=by
 cases p with
 |none=>exact slicePart_none h
 |int i t=>exact slicePart_int h
theorem a1n{sl:Addr}{vl vu:Value}{lo hi:Option Int}{n:Nat}{Q:Int×Int×Nat->Shared->Prop}(hs:s.heap.IsSliceOf sl vl vu .none)(pl:IsPart vl lo)(pu:IsPart vu hi)
  (h:Q (((sIx n 0 lo:Nat):Int),1,sIx n n hi-sIx n 0 lo) s):wpAny (model prog w) A (Builtin.Slice.sliceApplied (.ref sl) (pure (n:Int))) Q E s:=by
 obtain⟨os,hos,hcs,hds⟩:=id hs;unfold Builtin.Slice.sliceApplied Builtin.Slice.sliceFields;refine wpAny_bind (wpAny_bind (wpAny_field hos hds (x:=vl) rfl (wpAny_bind (wpAny_field hos hds (x:=vu) rfl (wpAny_bind (wpAny_field hos hds (x:=.none) rfl (wpAny_pure ?_)))))));refine wpAny_bind (slicePart_none ?_);show wpAny _ _ (if ((1:Int) == 0)=true then _ else _) _ _ s
 rw[if_neg (by decide)]
 refine wpAny_bind (a6w pl (wpAny_bind (a6w pu (wpAny_bind (wpAny_pure ?_)))));show wpAny _ _ (match Builtin.Slice.sliceAdjust lo hi 1 (n:Int) with|(lo,hi)=>pure (lo,(1:Int),Builtin.Slice.slicePlaces lo hi 1)) _ _ s
 rw[adc lo hi n];show wpAny _ _ (pure (((sIx n 0 lo:Nat):Int),(1:Int),Builtin.Slice.slicePlaces ((sIx n 0 lo:Nat):Int) ((sIx n n hi:Nat):Int) 1)) _ _ s;rw[ade];exact wpAny_pure h
theorem aix(xs:Array Value)(i k:Nat):((List.range k).filterMap λ(m:Nat)=>xs[((i:Int)+(m:Int)*1).toNat]?).toArray=((xs.toList.drop i).take k).toArray:=by
 have e:(λ(m:Nat)=>xs[((i:Int)+(m:Int)*1).toNat]?)=λm=>xs[i+m]?:=by
  funext m
  have:((i:Int)+(m:Int)*1).toNat=i+m:=by omega
  rw[this]
 rw[e];have:=pick_run xs i k;rw[List.filterMap_map]at this;have e2:((λx=>xs[x]?) ∘ λx=>i+x)=λm=>xs[i+m]?:=rfl;rw[e2]at this;rw[this]
theorem a4d{t sl:Addr}{aC:Array Value}{vl vu:Value}{lo hi:Option Int}{Q:Value->Shared->Prop}(ht:IsTup s.heap t aC)(hs:s.heap.IsSliceOf sl vl vu .none)(pl:IsPart vl lo)(pu:IsPart vu hi)
  (hw:¬ (sIx aC.size 0 lo=0/\sIx aC.size aC.size hi=aC.size))
  (h:Q (.ref s.heap.objs.size) {s with heap:=s.heap.push {cls:=.type "tuple",data:=.seq ((aC.toList.drop (sIx aC.size 0 lo)).take (sIx aC.size aC.size hi-sIx aC.size 0 lo)).toArray} })
  (hsz:aC.size<=sizeLine):wpAny (model prog w) A (getItem (.ref t) (.ref sl)) Q E s:=by
 have htake:sizeOk (.seq ((aC.toList.drop (sIx aC.size 0 lo)).take (sIx aC.size aC.size hi-sIx aC.size 0 lo)).toArray):=by
  show((aC.toList.drop (sIx aC.size 0 lo)).take (sIx aC.size aC.size hi-sIx aC.size 0 lo)).toArray.size<=sizeLine;rw[List.size_toArray,List.length_take,List.length_drop,Array.length_toList];omega
 have hj:sIx aC.size aC.size hi<=aC.size:=aez _ _ (Nat.le_refl _) hi;obtain⟨os,hos,hcs,hds⟩:=id hs;have hTs:s.TypeIs (.ref sl) "slice":=⟨os,hos,hcs⟩;unfold getItem
 try with_reducible refine wpAny_holding ?_
 first|refine wpAny_bind (wpAny_pure ?_)|skip
 refine wpAny_bind (wpAny_sequenceKey ht.typeIs (by decide) ?_)
 refine wpAny_bind (wpAny_callSpecial?_slot (name:=Str.ofString "__getitem__") ht.typeIs PyProof.Rows.slot_tuple_getitem
  (wpAny_call_entry PyProof.Rows.slot_tuple_getitem ht.typeIs entry_tuple_getitem ?_ (args_tuple_getitem _ _)))
 show wpAny _ _ (Builtin.Tuple.tupleItemsOf (.ref t)>>=_) _ _ s;refine wpAny_bind (tupleItemsOf_ ht ?_);refine wpAny_bind (wpAny_typeOf hTs ?_);rw[if_pos (by decide)]
 refine wpAny_bind (a1n hs pl pu ?_);have hno:¬ ((((sIx aC.size 0 lo:Nat):Int) == 0 && (1:Int) == 1 && (sIx aC.size aC.size hi-sIx aC.size 0 lo) == aC.size)=true):=by
  intro q
  rw[Bool.and_eq_true,Bool.and_eq_true]at q;have q1:((sIx aC.size 0 lo:Nat):Int)=0:=eq_of_beq q.1.1;have q2:sIx aC.size aC.size hi-sIx aC.size 0 lo=aC.size:=eq_of_beq q.2;exact hw ⟨by omega,by omega⟩
 show wpAny _ _ (if (((sIx aC.size 0 lo:Nat):Int) == 0 && (1:Int) == 1 && (sIx aC.size aC.size hi-sIx aC.size 0 lo) == aC.size)=true then _ else _) _ _ s
 rw[if_neg hno,aix]
 first
  |exact wpAny_bind (m:=Builtin.Tuple.tupleExact _) (wpAny_newObj_type (wpAny_pure ⟨_,rfl,wpAny_pure h⟩) htake)
  |exact wpAny_bind (m:=Builtin.Tuple.tupleExact _) (wpAny_newObj_type (wpAny_bind (wpAny_pure (wpAny_pure ⟨_,rfl,wpAny_pure h⟩))) htake)
  |exact wpAny_bind (wpAny_bind (m:=Builtin.Tuple.tupleExact _) (wpAny_newObj_type (wpAny_pure (wpAny_pure ⟨_,rfl,wpAny_pure h⟩)) htake))
  |exact wpAny_bind (wpAny_bind (m:=Builtin.Tuple.tupleExact _) (wpAny_newObj_type (wpAny_pure ⟨_,rfl,wpAny_pure h⟩) htake))
end
end HT
namespace L2
open PyProof.Rows
abbrev TO:=St->Hp->(Option Int->Hp->Prop)->Prop
def PO(X:Cx)(e:Option Expr)(t:TO):Prop :=
 ∀(aA:List (Addr×Obj)) (s:Shared) (Z:St) (H:Hp) (Q:Option Int->Hp->Prop),Inv X aA Z H s->t Z H Q->
  wpAny (model X.prog X.w) X.A (evalPart e X.env) (λu s'=>∃o H',Inv X aA Z H' s'/\IsPart u o/\Q o H') X.xe s
noncomputable def ant:TO:=λ_ H Q=>Q none H
noncomputable def ayz(t:TE):TO:=λZ H Q=>t Z H λx H1=>∃i,x=.int i/\Q (some i) H1
section
variable{X:Cx}{e:Expr}{te:TE}{lo hi:Option Expr}{tl th:TO}{pos p2:Pos}
theorem anu:PO X none ant:=by
 intro aA s Z H Q I h
 rw[evalPart_none];exact wpAny_pure ⟨none,H,I,.none,h⟩
theorem anv(h:PE X e te):PO X (some e) (ayz te):=by
 intro aA s Z H Q I hw
 rw[evalPart_some];refine thn (h aA s Z H _ I hw) ?_
 rintro u s1 ⟨x,H1,I1,r1,q1⟩
 obtain⟨i,rfl,q⟩:=q1;obtain⟨t,rfl⟩:=r1;exact⟨some i,H1,I1,.int i t,q⟩
def SlR(X:Cx)(r:V->Option Int->Option Int->Hp->VK->Prop):Prop :=
 ∀(aA:List (Addr×Obj)) (s:Shared) (Z:St) (H:Hp) (x:V) (v vl vu:Value) (lo hi:Option Int) (sl:Addr) (Q:VK),Inv X aA Z H s->RelV x v->s.heap.IsSliceOf sl vl vu .none->IsPart vl lo->IsPart vu hi->r x lo hi H Q->
  ∃T id,typeLookup (.type T) "__getitem__" = pure (some (.builtin id))/\s.TypeIs v T/\wpAny (model X.prog X.w) X.A (getItem v (.ref sl)) (EP X aA Z Q) X.xe s
theorem SlR.or(h:SlR X r)(h':SlR X r'):SlR X (λx lo hi H Q=>r x lo hi H Q\/r' x lo hi H Q):=by
 intro aA s Z H x v vl vu lo hi sl Q I rx hs pl pu q
 rcases q with q|q
 .exact h aA s Z H x v vl vu lo hi sl Q I rx hs pl pu q
 .exact h' aA s Z H x v vl vu lo hi sl Q I rx hs pl pu q
def tSl(r:V->Option Int->Option Int->Hp->VK->Prop)(te:TE)(tl th:TO):TE:=λZ H Q=>te Z H λx H1=>tl Z H1 λl H2=>th Z H2 λu H3=>r x l u H3 Q
theorem aiy(hr:SlR X r)(he:PE X e te)(hl:PO X lo tl)(hu:PO X hi th):PE X (.Subscript e (.Slice lo hi none p2) pos) (tSl r te tl th):=by
 intro aA s Z H Q I h
 refine Subscript_ (thn (he aA s Z H _ I h) λv s1 ⟨x,H1,I1,r1,q1⟩=>?_);refine wpAny_Slice (thn (hl aA s1 Z H1 _ I1 q1) λvl s2 ⟨l,H2,I2,pl,q2⟩=>thn (hu aA s2 Z H2 _ I2 q2) λvu s3 ⟨u,H3,I3,pu,q3⟩=>?_);rw[evalPart_none];refine wpAny_pure ?_;have I4:Inv X aA Z H3 {s3 with heap:=s3.heap.push {cls:=.type "slice",data:=.fields #[vl,vu,.none]} }:=I3.kept (t':=s3.toks) λb ob q=>Heap.get?_push_of_some _ q
 obtain⟨T,id,hT,ht,hg⟩:=hr aA {s3 with heap:=s3.heap.push {cls:=.type "slice",data:=.fields #[vl,vu,.none]} } Z H3 x v vl vu l u s3.heap.objs.size Q I4 r1 (Heap.IsSliceOf.new ..) pl pu q3
 show wpAny (model X.prog X.w) X.A (subscriptTail e (.Slice lo hi none p2) v (.ref s3.heap.objs.size)) (EP X aA Z Q) X.xe {s3 with heap:=s3.heap.push {cls:=.type "slice",data:=.fields #[vl,vu,.none]} }
 exact tail_any (ops:=[.ref s3.heap.objs.size,v]) ht hT hg (by with_unfolding_all rfl)
noncomputable def alo(xs:List V)(lo hi:Option Int):List V:=(xs.drop (HT.sIx xs.length 0 lo)).take (HT.sIx xs.length xs.length hi-HT.sIx xs.length 0 lo)
theorem a5w(xs:List V)(lo hi:Option Int):(alo xs lo hi).length<=xs.length:=by
 unfold alo;rw[List.length_take,List.length_drop];omega
def az0(K:Fg):V->Option Int->Option Int->Hp->VK->Prop:=λx lo hi H Q=>∃a xs,x=.ref a/\SqT K H a xs /\
 ¬ (HT.sIx xs.length 0 lo=0/\HT.sIx xs.length xs.length hi=xs.length)/\∀p,H p=none->Q (.ref p) (upd H p (.tup (alo xs lo hi)))
theorem asy:SlR X (az0 X.K):=by
 intro aA s Z H x v vl vu lo hi sl Q I rx hs pl pu h
 obtain⟨a,xs,rfl,hx,hw,q⟩:=h;cases rx
 obtain⟨its,r,ht,hz⟩:=I.tuple hx;have aH:its.toArray.size=xs.length:=by rw[List.size_toArray];exact r.length.symm
 refine⟨"tuple",_,PyProof.Rows.slot_tuple_getitem.lookup,ht.typeIs,?_⟩;refine HT.a4d ht hs pl pu (by rw[aH];exact hw) ?_ (by rw[aH];exact hz)
 rw[aH];refine⟨.ref s.heap.objs.size,_,I.laid (t':=s.toks) (o:=.tup (alo xs lo hi)) (λb ob q=>Heap.get?_push_of_some _ q) (Nat.le_refl _) ?_,rfl,q _ (I.hok.fresh (Nat.le_refl _))⟩;exact⟨Nat.le_trans (a5w xs lo hi) hz,_,(r.drop (HT.sIx xs.length 0 lo)).take (HT.sIx xs.length xs.length hi-HT.sIx xs.length 0 lo),IsTup.new _ _⟩
noncomputable def asz(K:Fg):R2:=λx y H Q=>∃a b xs ys,x=.ref a/\y=.ref b/\SqT K H a xs/\SqT K H b ys/\xs≠[]/\xs.length+ys.length<=sizeLine /\
 (ys=[]->Q (.ref a) H)/\(ys≠[]->∀p,H p=none->Q (.ref p) (upd H p (.tup (xs++ys))))
theorem Vals.nil_iff(r:Vals xs us):us=[]↔xs=[]:=by
 cases r with
 |nil=>simp
 |cons _ _=>simp
theorem anw:OpR X (binaryOp .Add) (asz X.K):=by
 intro aA s Z H x y v u Q I rx ry h
 obtain⟨a,b,xs,ys,rfl,rfl,ha,hb,hx,hz,q1,q2⟩:=h;cases rx
 cases ry
 obtain⟨its,r1,p1,_⟩:=I.tuple ha;obtain⟨its2,r2,p2,_⟩:=I.tuple hb;refine HT.anr p1 p2 (λz=>hx (r1.nil_iff.mp z)) (λz=>⟨.ref a,H,I,rfl,q1 (r2.nil_iff.mp z)⟩) (λz=>?_) (by rw[<-r1.length,<-r2.length];exact hz)
 refine⟨.ref s.heap.objs.size,_,I.laid (t':=s.toks) (o:=.tup (xs++ys)) (λb ob q=>Heap.get?_push_of_some _ q) (Nat.le_refl _) ?_,rfl,q2 (λw=>z (r2.nil_iff.mpr w)) _ (I.hok.fresh (Nat.le_refl _))⟩;exact⟨by rw[List.length_append];exact hz,_,r1.append r2,IsTup.new _ _⟩
end
noncomputable def ixN(n:Nat)(i:Int):Option Nat:=if 0<=i then (if i<n then some i.toNat else none) else if -(n:Int)<=i then some (i+n).toNat else none
noncomputable def atI{α:Type}(xs:List α)(i:Int):Option α:=(ixN xs.length i).bind λj=>xs[j]?
theorem aak(h:ixN n i=some j):seqIndex? i n=some j/\j<n /\ -(n:Int)<=i/\i<n:=by
 unfold ixN at h
 by_cases h0:0<=i
 .rw[if_pos h0]at h
  by_cases h1:i<n
  .rw[if_pos h1]at h;have e:i.toNat=j:=Option.some.inj h;exact⟨by rw[seqIndex_of h0 h1,e],by omega,by omega,h1⟩
  .rw[if_neg h1]at h;cases h
 .rw[if_neg h0]at h
  by_cases h1 : -(n:Int)<=i
  .rw[if_pos h1]at h;have e:(i+n).toNat=j:=Option.some.inj h;exact⟨by rw[seqIndex_neg (by omega) h1,e],by omega,h1,by omega⟩
  .rw[if_neg h1]at h;cases h
theorem a7h{α:Type}{xs:List α}{i:Int}{v:α}(h:atI xs i=some v):∃j,seqIndex? i xs.length=some j/\xs[j]? = some v/\j<xs.length /\ -(xs.length:Int)<=i/\i<xs.length:=by
 unfold atI at h
 cases e:ixN xs.length i with
 |none=>rw[e]at h;cases h
 |some j =>
  rw[e]at h;obtain⟨h1,h2,h3,h4⟩:=aak e;exact⟨j,h1,h,h2,h3,h4⟩
theorem vh{α:Type}{xs:List α}{j:Nat}{v:α}(h:xs[j]? = some v):atI xs (j:Int)=some v:=by
 have hj:j<xs.length:=(List.getElem?_eq_some_iff.mp h).1;have e:ixN xs.length (j:Int)=some j:=by
  unfold ixN;rw[if_pos (by omega),if_pos (by omega)];simp
 unfold atI;rw[e];exact h
def a7i(b:Expr):Prop:=∀o i,subscripted b false o i=operate [o,i] (getItem o i)
def IxR(X:Cx)(r:R2):Prop :=
 ∀(value slice:Expr) (aA:List (Addr×Obj)) (s:Shared) (Z:St) (H:Hp) (x y:V) (v u:Value) (Q:VK),Inv X aA Z H s->RelV x v->RelV y u->r x y H Q->
  subscripted slice false v u=operate [v,u] (getItem v u)->wpAny (model X.prog X.w) X.A (subscriptTail value slice v u) (EP X aA Z Q) X.xe s
def MtR(X:Cx)(id:String)(r:V->List V->Hp->VK->Prop):Prop :=
 ∀(aA:List (Addr×Obj)) (s:Shared) (Z:St) (H:Hp) (x:V) (xs:List V) (v:Value) (us:List Value) (Q:VK),Inv X aA Z H s->RelV x v->Vals xs us->r x xs H Q->
  wpAny (model X.prog X.w) X.A (call (.builtin id) (v::us)) (EP X aA Z Q) X.xe s
section
variable{X:Cx}{a b:Expr}{ta tb:TE}{pos:Pos}
theorem IxR.or(h:IxR X r)(h':IxR X r'):IxR X (λx y H Q=>r x y H Q\/r' x y H Q):=by
 intro value slice aA s Z H x y v u Q I rx ry q hs
 rcases q with q|q
 .exact h value slice aA s Z H x y v u Q I rx ry q hs
 .exact h' value slice aA s Z H x y v u Q I rx ry q hs
theorem MtR.or{id:String}{r r':V->List V->Hp->VK->Prop}(h:MtR X id r)(h':MtR X id r'):MtR X id (λx xs H Q=>r x xs H Q\/r' x xs H Q):=by
 intro aA s Z H x xs v us Q I rx rs q
 rcases q with q|q
 .exact h aA s Z H x xs v us Q I rx rs q
 .exact h' aA s Z H x xs v us Q I rx rs q
theorem az1(hr:IxR X r)(ha:PE X a ta)(hb:PE X b tb)(hs:a7i b):PE X (.Subscript a b pos) (tOp r ta tb):=by
 intro aA s Z H Q I h
 exact Subscript_ (ayp ha hb I h λv u s2 x y H2 I2 rx ry q=>hr a b aA s2 Z H2 x y v u Q I2 rx ry q (hs _ _))
noncomputable def axv(K:Fg):R2:=λx y H Q=>∃p xs i v,x=.ref p/\y=.int i/\SqL K H p xs/\atI xs i=some v/\Q v H
noncomputable def b0k(K:Fg):R2:=λx y H Q=>∃p xs i v,x=.ref p/\y=.int i/\SqT K H p xs/\atI xs i=some v/\Q v H
noncomputable def b0l:R2:=λx y H Q=>∃z i c,x=.str z/\y=.int i/\z.length<=sizeLine/\atI z.cps.toList i=some c/\Q (.str ⟨#[c]⟩) H
theorem anx:IxR X (axv X.K):=by
 intro value slice aA s Z H x y v u Q I rx ry h hs
 obtain⟨p,xs,i,z,rfl,rfl,hq,he,q⟩:=h;cases rx
 obtain⟨t,rfl⟩:=ry;obtain⟨its,r,pl,hz⟩:=I.list hq;obtain⟨j,h1,h2,h3,h4,h5⟩:=a7h he;obtain⟨w,ew,rw'⟩:=r.get h2;have hl:=r.length;have hn:=a3j;have fin:EP X aA Z Q w s:=⟨z,H,I,rw',q⟩
 by_cases h0:0<=i
 .have hj:i.toNat=j:=by
   rw[seqIndex_of h0 h5]at h1;exact Option.some.inj h1
  exact item_listR pl.isList h0 (by omega) (by rw[hj];simpa using ew) fin hs
 .have hj:(i+(its.toArray.size:Int)).toNat=j:=by
   rw[seqIndex_neg (by omega) h4]at h1
   rw[List.size_toArray,<-hl];exact Option.some.inj h1
  exact subscriptTail_builtinR (x:=w) pl.isList.typeIs slot_list_getitem.lookup
   (wpAny_getItem_list_neg (Q:=λr s'=>r=w/\EP X aA Z Q r s') pl.isList (by omega) (by rw[List.size_toArray]<;>omega) (by omega) (by rw[hj];simpa using ew) ⟨rfl,fin⟩) hs
theorem a5x:IxR X (b0k X.K):=by
 intro value slice aA s Z H x y v u Q I rx ry h hs
 obtain⟨p,xs,i,z,rfl,rfl,hq,he,q⟩:=h;cases rx
 obtain⟨t,rfl⟩:=ry;obtain⟨its,r,pl,hz⟩:=I.tuple hq;obtain⟨j,h1,h2,h3,h4,h5⟩:=a7h he;obtain⟨w,ew,rw'⟩:=r.get h2;have hl:=r.length;have hn:=a3j;have fin:EP X aA Z Q w s:=⟨z,H,I,rw',q⟩;exact subscriptTail_builtinR (x:=w) pl.typeIs slot_tuple_getitem.lookup
  (getItem_tuple (j:=j) (Q:=λr s'=>r=w/\EP X aA Z Q r s') pl (by omega) (by omega) (by rw[List.size_toArray,<-hl];exact h1) (by simpa using ew) ⟨rfl,fin⟩) hs
theorem at5:IxR X b0l:=by
 intro value slice aA s Z H x y v u Q I rx ry h hs
 obtain⟨z,i,c,rfl,rfl,hz,he,q⟩:=h;obtain⟨t,rfl⟩:=rx;obtain⟨t',rfl⟩:=ry;obtain⟨j,h1,h2,h3,h4,h5⟩:=a7h he;have hl:z.cps.toList.length=z.length:=by simp[Str.length]
 rw[hl]at h1 h4 h5;have hn:=a3j;exact tail_any (typeIs_str s z t) slot_str_getitem.lookup (getItem_str (c:=c) (by
  have e1:decide (i < -(2^63:Int))=false:=decide_eq_false (by omega)
  have e2:decide (i≥2^63)=false:=decide_eq_false (by omega)
  rw[e1,e2,Bool.or_false]) (by rw[h1];simpa using h2) ⟨.str ⟨#[c]⟩,H,I.tok _,⟨_,rfl⟩,q⟩) hs
noncomputable def rIx(K:Fg):R2:=λx y H Q=>axv K x y H Q\/b0k K x y H Q\/b0l x y H Q
theorem at6:IxR X (rIx X.K):=anx.or (a5x.or at5)
theorem adf(its:List Value)(n j:Nat)(u:Value):Obj.mapSeq (·.setIfInBounds j u) {cls:=.type "list",data:=.seq its.toArray n}={cls:=.type "list",data:=.seq (its.set j u).toArray n}:=by
 simp[Obj.mapSeq]
theorem Inv.lst{aA:List (Addr×Obj)}{Z:St}{H:Hp}{s:Shared}{p:Addr}{xs:List V}(I:Inv X aA Z H s)(h:H p=some (.lst xs)) :
  ∃(its:List Value) (n:Nat),Vals xs its/\s.heap.get? p=some {cls:=.type "list",data:=.seq its.toArray n}/\xs.length<=sizeLine:=by
 obtain⟨z,its,n,r,e⟩:=I.hok p _ h;exact⟨its,n,r,e,z⟩
theorem Inv.lstUpd{its its':List Value}(I:Inv X aA Z H s)(h:H p=some (.lst xs))
  (ho:s.heap.get? p=some {cls:=.type "list",data:=.seq its.toArray n}) (hf:f {cls:=.type "list",data:=.seq its.toArray n}={cls:=.type "list",data:=.seq its'.toArray n' }) (r:Vals ys its') (hz:ys.length<=sizeLine) (t:Nat) :
  Inv X aA Z (upd H p (.lst ys)) {s with heap:=s.heap.update p f,toks:=t}:=by
 have e:(s.heap.update p f).get? p=some {cls:=.type "list",data:=.seq its'.toArray n' }:=by
  rw[Heap.get?_update_self f ho (by rw[hf]<;>rfl),hf]
 refine I.write (x:=p) (e:=p) (by rw[h];trivial) (.inl rfl) (λb u hb q=>(Heap.get?_update_other _ _ (Ne.symm hb)).trans q) ⟨_,e⟩ ?_
 exact⟨hz,its',n',r,e⟩
def at7:V->V->V->Hp->(Hp->Prop)->Prop:=λo i v H Q=>∃p xs k j,o=.ref p/\i=.int k/\H p=some (.lst xs)/\ixN xs.length k=some j/\Q (upd H p (.lst (xs.set j v)))
theorem set_list:ayk X at7:=by
 intro aA s Z H o i v ov iv u Q I ro ri rv h
 obtain⟨p,xs,k,j,rfl,rfl,hp,hj,q⟩:=h;cases ro
 obtain⟨t,rfl⟩:=ri;obtain⟨its,n,r,ho,hz⟩:=I.lst hp;obtain⟨h1,h2,h3,h4⟩:=aak hj;have hl:=r.length;have hn:=a3j;have I':Inv X aA Z (upd H p (.lst (xs.set j v))) {s with heap:=s.heap.update p (Obj.mapSeq (·.setIfInBounds j u))} :=
  I.lstUpd hp ho (adf its n j u) (r.set rv j) (by rw[List.length_set];exact hz) s.toks
 by_cases h0:0<=k
 .have hk:k.toNat=j:=by
   rw[seqIndex_of h0 h4]at h1;exact Option.some.inj h1
  exact PySem.W.ki_setAt ho h0 (by omega) (by rw[List.size_toArray,<-hl];exact h4) (by rw[hk];exact⟨_,I',q⟩)
 .have hk:(k+(its.toArray.size:Int)).toNat=j:=by
   rw[seqIndex_neg (by omega) h3]at h1
   rw[List.size_toArray,<-hl];exact Option.some.inj h1
  exact PySem.W.ki_setBack ho (by omega) (by rw[List.size_toArray,<-hl];exact h3) (by omega) (by rw[hk];exact⟨_,I',q⟩)
theorem a91(lo hi:Option Int)(n:Nat):(sliceBounds lo hi none n).1=((HT.sIx n 0 lo:Nat):Int)/\(sliceBounds lo hi none n).2.1=((HT.sIx n n hi:Nat):Int)/\(sliceBounds lo hi none n).2.2=1:=by
 refine⟨?_,?_,rfl⟩
 .cases lo with
  |none=>simp[sliceBounds,HT.sIx]
  |some i =>
   simp only[sliceBounds,HT.sIx,Option.getD_none,show(1:Int) > 0 by decide,if_true]
   by_cases h:i<0
   .simp only[h,if_true]<;>omega
   .simp only[h,if_false]<;>omega
 .cases hi with
  |none=>simp[sliceBounds,HT.sIx]
  |some i =>
   simp only[sliceBounds,HT.sIx,Option.getD_none,show(1:Int) > 0 by decide,if_true]
   by_cases h:i<0
   .simp only[h,if_true]<;>omega
   .simp only[h,if_false]<;>omega
theorem a7j(its:List Value)(lo hi:Option Int):slicePick its.toArray lo hi none=((its.drop (HT.sIx its.length 0 lo)).take (HT.sIx its.length its.length hi-HT.sIx its.length 0 lo)).toArray:=by
 obtain⟨h1,h2,h3⟩:=a91 lo hi its.toArray.size;unfold slicePick;rw[h1,h2,h3];simp only[sliceRange_one,pick_run,List.size_toArray]<;>rfl
def az2(K:Fg):V->Option Int->Option Int->Hp->VK->Prop:=λx lo hi H Q=>∃a xs,x=.ref a/\SqL K H a xs/\∀p,H p=none->Q (.ref p) (upd H p (.lst (alo xs lo hi)))
theorem anz:SlR X (az2 X.K):=by
 intro aA s Z H x v vl vu lo hi sl Q I rx hs pl pu h
 obtain⟨a,xs,rfl,hx,q⟩:=h;cases rx
 obtain⟨its,r,ht,hz⟩:=I.list hx;have aH:=r.length;refine⟨"list",_,slot_list_getitem.lookup,ht.isList.typeIs,?_⟩;refine wpAny_getItem_list_slice ht.isList hs pl pu .none (by simp) ?_ (by rw[List.size_toArray]<;>omega)
 rw[a7j,<-aH];refine⟨.ref s.heap.objs.size,_,I.laid (t':=s.toks) (o:=.lst (alo xs lo hi)) (λb ob q=>Heap.get?_push_of_some _ q) (Nat.le_refl _) ?_,rfl,q _ (I.hok.fresh (Nat.le_refl _))⟩;exact⟨Nat.le_trans (a5w xs lo hi) hz,_,0,(r.drop (HT.sIx xs.length 0 lo)).take (HT.sIx xs.length xs.length hi-HT.sIx xs.length 0 lo),Heap.get?_push_size _ rfl⟩
noncomputable def a2z:V->Bool
 |.non=>true
 |.bl _=>true
 |.int _=>true
 |.str _=>true
 |_=>false
noncomputable def eqV:V->V->Bool
 |.non,.non=>true
 |.bl a,.bl b=>a == b
 |.bl a,.int b=>(if a then 1 else 0) == b
 |.int a,.bl b=>a == (if b then 1 else 0)
 |.int a,.int b=>a == b
 |.str a,.str b=>a == b
 |_,_=>false
theorem af1(ry:RelV y u)(rx:RelV x v)(fy:a2z y=true)(fx:a2z x=true):SeqAt.EqAt A s u v (eqV y x):=by
 cases y with
 |non =>
  cases ry
  cases x with
  |non=>cases rx;exact SeqAt.EqAt.same _
  |bl b=>cases rx;exact SeqAt.EqAt.none_bool b
  |int b=>obtain⟨t,rfl⟩:=rx;exact SeqAt.EqAt.none_int b t
  |str b=>obtain⟨t,rfl⟩:=rx;exact SeqAt.EqAt.none_str b t
  |_=>exact absurd (show false=true from fx) Bool.false_ne_true
 |bl a =>
  cases ry
  cases x with
  |non=>cases rx;exact SeqAt.EqAt.bool_none a
  |bl b=>cases rx;exact SeqAt.EqAt.bool_bool a b
  |int b=>obtain⟨t,rfl⟩:=rx;exact SeqAt.EqAt.bool_int a b t
  |str b=>obtain⟨t,rfl⟩:=rx;exact SeqAt.EqAt.bool_str a b t
  |_=>exact absurd (show false=true from fx) Bool.false_ne_true
 |int a =>
  obtain⟨t',rfl⟩:=ry
  cases x with
  |non=>cases rx;exact SeqAt.EqAt.int_none a t'
  |bl b=>cases rx;exact SeqAt.EqAt.int_bool a t' b
  |int b=>obtain⟨t,rfl⟩:=rx;exact SeqAt.EqAt.int_int a t' b t
  |str b=>obtain⟨t,rfl⟩:=rx;exact SeqAt.EqAt.int_str a t' b t
  |_=>exact absurd (show false=true from fx) Bool.false_ne_true
 |str a =>
  obtain⟨t',rfl⟩:=ry
  cases x with
  |non=>cases rx;exact SeqAt.EqAt.str_none a t'
  |bl b=>cases rx;exact SeqAt.EqAt.str_bool a t' b
  |int b=>obtain⟨t,rfl⟩:=rx;exact SeqAt.EqAt.str_int a t' b t
  |str b=>obtain⟨t,rfl⟩:=rx;exact SeqAt.EqAt.str_str a t' b t
  |_=>exact absurd (show false=true from fx) Bool.false_ne_true
 |_=>exact absurd (show false=true from fy) Bool.false_ne_true
noncomputable def eqU(x:V)(u:Value):Bool:=match u with
 |.none=>eqV .non x
 |.bool b=>eqV (.bl b) x
 |.int i _=>eqV (.int i) x
 |.str z _=>eqV (.str z) x
 |_=>false
theorem alp(r:RelV y u)(f:a2z y=true):eqU x u=eqV y x:=by
 cases y with
 |non=>cases r;rfl
 |bl b=>cases r;rfl
 |int i=>obtain⟨t,rfl⟩:=r;rfl
 |str z=>obtain⟨t,rfl⟩:=r;rfl
 |_=>exact absurd (show false=true from f) Bool.false_ne_true
theorem aal:∀{xs:List V} {us:List Value},Vals xs us->xs.all a2z=true->us.any (eqU x)=xs.any λy=>eqV y x
 |_,_,.nil,_=>rfl
 |y::xs,u::us,.cons r t,f=>by
  rw[List.all_cons,Bool.and_eq_true]at f;rw[List.any_cons,List.any_cons,alp r f.1,aal t f.2]
theorem a7k(rx:RelV x v)(fx:a2z x=true):∀{xs:List V} {us:List Value},Vals xs us->xs.all a2z=true->∀u∈us,SeqAt.EqAt A s u v (eqU x u)
 |_,_,.nil,_=>λu hu=>by cases hu
 |y::xs,u::us,.cons r t,f=>λu' hu=>by
  rw[List.all_cons,Bool.and_eq_true]at f
  rcases List.mem_cons.mp hu with rfl|hu
  .rw[alp r f.1];exact af1 r rx f.1 fx
  .exact a7k rx fx t f.2 u' hu
noncomputable def inV(x:V)(xs:List V):Bool:=xs.any λy=>eqV y x
noncomputable def rIn(K:Fg)(neg:Bool):R2:=λx y H Q=>∃p xs,y=.ref p/\(SqL K H p xs\/SqT K H p xs)/\a2z x=true/\xs.all a2z=true/\Q (.bl (if neg then !inV x xs else inV x xs)) H
theorem af2:OpR X (compareOp .In) (rIn X.K false):=by
 intro aA s Z H x y v u Q I rx ry h
 obtain⟨p,xs,rfl,hq,fx,fs,q⟩:=h;cases ry
 rcases hq with hq|hq
 .obtain⟨its,r,pl,hz⟩:=I.list hq;refine SeqAt.in_listAt (eqU x) pl.isList (λw hw=>a7k rx fx r fs w (by simpa using hw)) ⟨.bl _,H,I,rfl,?_⟩
  rw[show its.toArray.any (eqU x)=its.any (eqU x) by simp,aal r fs]
  exact q
 .obtain⟨its,r,pl,hz⟩:=I.tuple hq;refine SeqAt.in_tupleAt (eqU x) pl (λw hw=>a7k rx fx r fs w (by simpa using hw)) ⟨.bl _,H,I,rfl,?_⟩
  rw[show its.toArray.any (eqU x)=its.any (eqU x) by simp,aal r fs]
  exact q
theorem a92:CallR X (.builtin "len") (λxs H Q=>∃p ys,xs=[.ref p]/\(SqL X.K H p ys\/SqT X.K H p ys)/\Q (.int ys.length) H):=by
 intro aA s Z H xs us Q I r h
 obtain⟨p,ys,rfl,hq,q⟩:=h;obtain⟨u,rfl,rx⟩:=vals1 r;cases rx
 have hn:=a3j
 rcases hq with hq|hq
 .obtain⟨its,r',pl,hz⟩:=I.list hq;have aH:=r'.length;exact Calls.call_len_list pl.isList (by simp only[List.size_toArray]<;>omega) ⟨.int ys.length,H,I.tok _,⟨s.toks+1,by rw[List.size_toArray,aH]⟩,q⟩
 .obtain⟨its,r',pl,hz⟩:=I.tuple hq;have aH:=r'.length;exact len_tuple pl (by simp only[List.size_toArray]<;>omega) ⟨.int ys.length,H,I.tok _,⟨s.toks+1,by rw[List.size_toArray,aH]⟩,q⟩
theorem a93:CallR X (.builtin "len") (λxs H Q=>∃z,xs=[.str z]/\z.length<=sizeLine/\Q (.int z.length) H):=by
 intro aA s Z H xs us Q I r h
 obtain⟨z,rfl,hz,q⟩:=h;obtain⟨u,rfl,t,rfl⟩:=vals1 r;have hn:=a3j;exact len_str (by omega) ⟨.int z.length,H,I.tok _,⟨_,rfl⟩,q⟩
theorem CallR.or(h:CallR X f r)(h':CallR X f r'):CallR X f (λxs H Q=>r xs H Q\/r' xs H Q):=by
 intro aA s Z H xs us Q I rs q
 rcases q with q|q
 .exact h aA s Z H xs us Q I rs q
 .exact h' aA s Z H xs us Q I rs q
theorem a94:CallR X (.type "list") (λxs H Q=>∃p ys,xs=[.ref p]/\(SqL X.K H p ys\/SqT X.K H p ys)/\∀l,H l=none->Q (.ref l) (upd H l (.lst ys))):=by
 intro aA s Z H xs us Q I r h
 obtain⟨p,ys,rfl,hq,q⟩:=h;obtain⟨u,rfl,rx⟩:=vals1 r;cases rx
 have fin:∀(its:List Value),Vals ys its->ys.length<=sizeLine->∀(h':Heap) (c':Nat),(∀b o',s.heap.get? b=some o'->h'.get? b=some o')->
   h'.get? s.heap.objs.size=some {cls:=.type "list",dict:=none,data:=.seq its.toArray c',slots := #[]}->EP X aA Z Q (.ref s.heap.objs.size) {s with heap:=h' }:=λits r' hz h' c' kp e =>
  ⟨.ref s.heap.objs.size,_,I.laid (t':=s.toks) kp (Nat.le_refl _) (show ObjOk X.prog X.w _ h' _ (.lst ys) from ⟨hz,its,c',r',e⟩),rfl,q _ (I.hok.fresh (Nat.le_refl _))⟩
 rcases hq with hq|hq
 .obtain⟨its,r',pl,hz⟩:=I.list hq;have aH:=r'.length;obtain⟨o,ho,hc,n,hd⟩:=pl.isList;exact call_list_seq p (.inl rfl) ho hc hd (λh' c' kp e=>fin its r' hz h' c' kp e) (by simp only[List.size_toArray]<;>omega)
 .obtain⟨its,r',pl,hz⟩:=I.tuple hq;have aH:=r'.length;obtain⟨o,ho,hc,n,hd⟩:=pl;exact call_list_seq p (.inr rfl) ho hc hd (λh' c' kp e=>fin its r' hz h' c' kp e) (by simp only[List.size_toArray]<;>omega)
theorem a7l:CallR X (.type "tuple") (λxs H Q=>∃p ys,xs=[.ref p]/\((SqL X.K H p ys/\∀l,H l=none->Q (.ref l) (upd H l (.tup ys)))\/(SqT X.K H p ys/\Q (.ref p) H))):=by
 intro aA s Z H xs us Q I r h
 obtain⟨p,ys,rfl,h⟩:=h;obtain⟨u,rfl,rx⟩:=vals1 r;cases rx
 rcases h with⟨hq,q⟩|⟨hq,q⟩
 .obtain⟨its,r',pl,hz⟩:=I.list hq;have aH:=r'.length;refine call_tuple_list pl.isList (λh' kp=>?_) (by simp only[List.size_toArray]<;>omega)
  have I1:Inv X aA Z H {s with heap:=h' }:=I.kept (t':=s.toks) kp
  have I2:Inv X aA Z (upd H h'.objs.size (.tup ys)) {s with heap:=h'.push {cls:=.type "tuple",data:=.seq its.toArray} } :=
   I1.laid (t':=s.toks) (λb o e=>Heap.get?_push_of_some _ e) (Nat.le_refl _) (show ObjOk X.prog X.w _ _ _ (.tup ys) from ⟨hz,its,r',IsTup.new _ _⟩)
  exact⟨.ref h'.objs.size,_,I2,rfl,q _ (I1.hok.fresh (Nat.le_refl _))⟩
 .obtain⟨its,r',pl,hz⟩:=I.tuple hq;exact call_tuple_same pl ⟨.ref p,H,I,rfl,q⟩
def tyV(K:Fg)(T:String)(x:V)(H:Hp):Prop:=match x with
 |.str _=>T = "str"
 |.int _=>T = "int"
 | .ref p=>(T = "list"/\∃xs,SqL K H p xs)\/(T = "tuple"/\∃o,K.lookup p=some o/\o.cls=.type "tuple"/\o.dict=none) \/
   (T = "dict"/\((∃kvs,H p=some (.dK kvs))\/∃kvs,H p=some (.dT kvs)))\/(T = "set"/\∃S n,H p=some (.set S n))
 |_=>False
theorem alq(I:Inv X aA Z H s)(r:RelV x v)(ty:tyV X.K T x H) :
  s.TypeIs v T/\∀a,v=.ref a->∃ob,s.heap.get? a=some ob/\ob.dict=none:=by
 cases x with
 |str z =>
  obtain⟨t,rfl⟩:=r
  cases (show T = "str" from ty)
  exact⟨typeIs_str s z t,λ_ e=>nomatch e⟩
 |int i =>
  obtain⟨t,rfl⟩:=r
  cases (show T = "int" from ty)
  exact⟨typeIs_int s i t,λ_ e=>nomatch e⟩
 |ref p =>
  cases r
  rcases ty with⟨rfl,xs,hq⟩|⟨rfl,o,hk,hc,hd⟩|⟨rfl,hk⟩|⟨rfl,S,n,hk⟩
  .obtain⟨its,_,pl,_⟩:=I.list hq;refine⟨pl.isList.typeIs,λa e=>?_⟩;cases e
   obtain⟨o,n,e,c,hd,_⟩:=pl;exact⟨o,e,hd⟩
  .refine⟨⟨o,I.kIn p o hk,hc⟩,λa e=>?_⟩;cases e
   exact⟨o,I.kIn _ o hk,hd⟩
  .have z:∃o,s.heap.get? p=some o/\o.ExactDict:=by
    rcases hk with⟨kvs,hk⟩|⟨kvs,hk⟩
    .obtain⟨_,_,_,_,o,_,_,e,ex,_⟩:=I.hok p _ hk;exact⟨o,e,ex⟩
    .obtain⟨_,_,_,_,o,_,_,e,ex,_⟩:=I.hok p _ hk;exact⟨o,e,ex⟩
   obtain⟨o,e,ex⟩:=z;refine⟨⟨o,e,ex.1⟩,λa e2=>?_⟩;cases e2
   exact⟨o,e,ex.2.1⟩
  .obtain⟨o,_,_,_,e,ex,_⟩:=I.hok p _ hk;refine⟨⟨o,e,ex.1⟩,λa e2=>?_⟩;cases e2
   exact⟨o,e,ex.2.1⟩
 |_=>exact False.elim ty
def tBM(K:Fg)(T:String)(r:V->List V->Hp->VK->Prop)(to:TE)(t:TA):TE:=λZ H Q=>to Z H λx H1=>tyV K T x H1/\t Z H1 λxs H2=>r x xs H2 Q
variable{o e:Expr}{es:List Expr}{to:TE}{t:TA}{name:Str}{apos cpos:Pos}{T id:String}{r:V->List V->Hp->VK->Prop}
theorem az3(pa:PlainAttrs T)(slot:Slot T name id)(hty:typeOf (.builtin id)=pure (.type "method_descriptor"))(hm:MtR X id r)(ho:PE X o to)(ha:PA X (e::es) t)
  (hbase:attributeBase o name X.env (eval o X.env)=eval o X.env:=by rfl)
  (hfew:((backTo cpos (starEach (e::es) X.env)).all (λx => !x.1) && (backToKw cpos (keywordEach [] X.env)).all (λx=>x.1.isSome)
   && decide ((e::es).length+([]:List Keyword).length+(if ([]:List Keyword).isEmpty then 0 else 1)<30))=true:=by rfl)
  (hline:(apos.endLine == cpos.line)=true:=by rfl) (hs:starEach (e::es) X.env=(false,eval e X.env)::starEach es X.env:=by rfl) (hplain:(backTo cpos (starEach es X.env)).any (·.1)=false:=by rfl) :
  PE X (.Call (.Attribute o name apos) (e::es) [] cpos) (tBM X.K T r to t):=by
 intro aA s Z H Q I h
 refine wpAny_Call_method_late hbase hfew hline rfl (thn (ho aA s Z H _ I h) λv s1 ⟨x,H1,I1,r1,ty,q1⟩=>?_);obtain⟨h1,h2⟩:=alq I1 r1 ty;refine⟨T,id,pa,slot,hty,h1,h2,?_⟩;have hA:=ha cpos aA s1 Z H1 _ I1 q1;rw[hs]at hA ⊢;refine Calls.callWith_builtin (by show(false || (backTo cpos (starEach es X.env)).any (·.1))=false;rw[hplain]<;>rfl) (Calls.evalArgs_plain ?_)
 exact thn hA λus s2 ⟨vs,H2,I2,r2,q2⟩=>hm aA s2 Z H2 x vs v us Q I2 r1 r2 q2
end
def MtM(X:Cx)(id:String)(r:V->List V->Hp->VK->Prop):Prop :=
 ∀(aA:List (Addr×Obj)) (s:Shared) (Z:St) (H:Hp) (x:V) (xs:List V) (v:Value) (us:List Value) (Q:VK),Inv X aA Z H s->RelV x v->Vals xs us->r x xs H Q->
  wpAny (model X.prog X.w) X.A (call (.builtin id) (v::us)) (EP X aA Z Q) X.xe s
theorem Vals.one:∀{x:V} {us:List Value},Vals [x] us->∃u,us=[u]/\RelV x u
 |_,_,.cons r .nil=>⟨_,rfl,r⟩
theorem Vals.eraseIdx:∀{xs:List V} {us:List Value} (i:Nat),Vals xs us->Vals (xs.eraseIdx i) (us.eraseIdx i)
 |_,_,_,.nil=>.nil
 |_,_,0,.cons _ t=>t
 |_,_,i+1,.cons r t=>.cons r (Vals.eraseIdx i t)
theorem Vals.rep(h:Vals xs us):∀k:Nat,Vals (List.replicate k xs).flatten (List.replicate k us).flatten
 |0=>.nil
 |k+1=>by
  rw[List.replicate_succ,List.replicate_succ,List.flatten_cons,List.flatten_cons];exact Vals.append h (Vals.rep h k)
theorem a95{α:Type}:∀(l:List α) (i:Nat),(l.eraseIdx i).length<=l.length
 |[],_=>Nat.le_refl _
 |_::_,0=>Nat.le_succ _
 |_::r,i+1=>Nat.succ_le_succ (a95 r i)
theorem foldl_rep(its:List Value):∀(k:Nat) (acc:List Value),
  List.foldl (λx1 x2=>x1++x2) acc.toArray (List.replicate k its.toArray)=(acc++(List.replicate k its).flatten).toArray
 |0,acc=>by simp
 |k+1,acc=>by
  have e:acc.toArray++its.toArray=(acc++its).toArray:=by simp
  have e2:(acc++its)++(List.replicate k its).flatten=acc++(List.replicate (k+1) its).flatten:=by
   rw[List.replicate_succ,List.flatten_cons,List.append_assoc]
  rw[<-e2,<-foldl_rep its k (acc++its),<-e,List.replicate_succ,List.foldl_cons]
section
variable{X:Cx}{aA:List (Addr×Obj)}{Z:St}{H:Hp}{s:Shared}{l b:Addr}{xs ys zs:List V}
theorem Inv.lset{its its':List Value}(I:Inv X aA Z H s)(hH:H l=some (.lst xs))
  (e:s.heap.get? l=some {cls:=.type "list",data:=.seq its.toArray n}) (hf:f its.toArray=its'.toArray) (hv:Vals ys its') (hz:ys.length<=sizeLine) :
  Inv X aA Z (upd H l (.lst ys)) {s with heap:=s.heap.update l (Obj.mapSeq f),toks:=t' }:=by
 have q:=PySem.IsL.update e f;rw[hf]at q;refine I.write (x:=l) (e:=l) (by rw[hH];exact trivial) (.inl rfl) (λb' u hb hu=>(Heap.get?_update_other s.heap (Obj.mapSeq f) (Ne.symm hb)).trans hu) ⟨_,q⟩ ?_
 exact⟨hz,its',_,hv,q⟩
theorem Inv.lnew(I:Inv X aA Z H s)(hv:Vals ys its)(hz:ys.length<=sizeLine) :
  Inv X aA Z (upd H s.heap.objs.size (.lst ys)) {s with heap:=s.heap.push {cls:=.type "list",data:=.seq its.toArray},toks:=t' } :=
 I.laid (λ_ _ q=>Heap.get?_push_of_some _ q) (Nat.le_refl _) ⟨hz,its,0,hv,Heap.get?_push_size _ rfl⟩
theorem Inv.fresh(I:Inv X aA Z H s):H s.heap.objs.size=none:=I.hok.fresh (Nat.le_refl _)
theorem Inv.lstM(I:Inv X aA Z H s)(hH:H l=some (.lst xs)):xs.length<=sizeLine/\∃(its:List Value) (n:Nat),Vals xs its/\xs.length=its.length/\s.heap.get? l=some {cls:=.type "list",data:=.seq its.toArray n}:=by
 obtain⟨z,its,n,r,e⟩:=I.hok l _ hH;exact⟨z,its,n,r,r.length,e⟩
theorem a7m(h:n<=sizeLine):Builtin.List.listTooLong n=false:=by
 unfold Builtin.List.listTooLong;exact decide_eq_false (by omega)
end
section
variable{X:Cx}
def af3:V->List V->Hp->VK->Prop:=λx vs H Q=>∃l xs y,x=.ref l/\vs=[y]/\H l=some (.lst xs)/\xs.length<sizeLine/\Q .non (upd H l (.lst (xs++[y])))
theorem af4:MtM X "list.append" af3:=by
 intro aA s Z H x vs v us Q I rx rv h
 obtain⟨l,xs,y,rfl,rfl,hH,hz,q⟩:=h;cases rx
 obtain⟨u,rfl,ru⟩:=rv.one;obtain⟨z,its,n,r,hl,e⟩:=I.lstM hH;refine call_meets F.slot_list_append ⟨_,e,rfl⟩ F.entry_list_append (F.args_list_append_2 _ _) (PySem.list_append l its.toArray n u (by rw[List.size_toArray];omega)) ⟨e,?_⟩
 refine⟨.non,_,I.lset (its':=its++[u]) hH e (by simp) (r.append (.cons ru .nil)) ?_,rfl,q⟩
 rw[List.length_append,List.length_singleton];omega
def alr:V->List V->Hp->VK->Prop:=λx vs H Q=>∃l xs i k y,x=.ref l/\vs=[.int i]/\H l=some (.lst xs) /\ -(2^63)<=i/\i<2^63/\seqIndex? i xs.length=some k/\xs[k]? = some y/\Q y (upd H l (.lst (xs.eraseIdx k)))
theorem aiz:MtM X "list.pop" alr:=by
 intro aA s Z H x vs v us Q I rx rv h
 obtain⟨l,xs,i,k,y,rfl,rfl,hH,h1,h2,hk,hy,q⟩:=h;cases rx
 obtain⟨u,rfl,ru⟩:=rv.one;obtain⟨t,rfl⟩:=ru;obtain⟨z,its,n,r,hl,e⟩:=I.lstM hH;obtain⟨w,hw,rw'⟩:=r.get hy;refine call_meets F.slot_list_pop ⟨_,e,rfl⟩ F.entry_list_pop (F.args_list_pop_2 _ _)
  (MeetsSeq.list_pop_at l its.toArray n i t k w (fitsIndex_both h1 h2) (by rw[List.size_toArray,<-hl];exact hk) (by rw[<-Array.getElem?_toList];exact hw) (by rw[List.size_toArray];omega)) ⟨e,?_⟩
 refine⟨y,_,I.lset (its':=its.eraseIdx k) hH e ?_ (r.eraseIdx k) ?_,rw',q⟩
 .show its.toArray.eraseIdxIfInBounds k=(its.eraseIdx k).toArray;rw[List.eraseIdxIfInBounds_toArray]
 .have:=a95 xs k
  omega
theorem len_rep{α:Type}(xs:List α)(k:Nat):(List.replicate k xs).flatten.length=k*xs.length:=by
 induction k with
 |zero=>simp
 |succ k ih=>rw[List.replicate_succ,List.flatten_cons,List.length_append,ih,Nat.succ_mul,Nat.add_comm]
end
end L2
namespace Att
open PySem.W PySem.Calls PyProof.Rows
theorem a5y:∀(ns:List Int) (vs:List Value),WellAll P h vs (ns.map WData.int)->IntsAre vs ns:=by
 intro ns
 induction ns with
 |nil =>
  intro vs w
  rw[List.map_nil]at w;cases w
  exact .nil
 |cons n ns ih =>
  intro vs w
  rw[List.map_cons]at w
  cases w with
  |cons a b =>
   cases a
   exact .cons _ _ (ih _ b)
theorem af5{l:OpenLaw}(hn:l.most=some n)
  (hpre:l.row.toRowW.claim.pre args=true) (hwl:WellAll P h vals args) :
  ∃a vs ns,vals=[Value.ref a]/\args=[WData.list (ns.map WData.int)]/\h.get? a=some {cls:=.type "list",data:=.seq vs.toArray}/\IntsAre vs ns/\ns.length<=n:=by
 have hsh:WShape.hasAll [] args [.list .int]=true:=(pre_splitW hpre).1;have hc:l.pre.holds [] {args:=args}=true:=(pre_splitW hpre).2;obtain⟨d,r,rfl,h1,h2⟩:=hasAllW_cons hsh;obtain rfl:=hasAllW_nil h2;obtain⟨xs,rfl,h3⟩:=hasW_list h1;obtain⟨ns,rfl⟩:=items_int h3;have aH:ns.length<=n:=by
  unfold OpenLaw.pre at hc;have h4:(WTm.not (.lt (.lit (.int (n:Int))) (.len (.arg 0)))).holds [] {args:=[.list (ns.map .int)]}=true:=by
   have h4:=(holds_andW hc).1;rw[hn]at h4;exact h4
  have h5:=condW_of h4 (w_not (w_lt w_lit (w_len_list (w_arg rfl))));rw[List.length_map]at h5;refine Nat.le_of_not_lt λq=>?_;have q':(n:Int)<((ns.length:Nat):Int):=by omega
  first
   |(rw[decide_eq_true q']at h5;exact absurd h5 (by decide))
   |(simp at h5;omega)
 cases hwl with
 |cons w1 w2 =>
  cases w2
  cases w1 with
  |list ho hall=>exact⟨_,_,ns,rfl,rfl,ho,a5y ns _ hall,aH⟩
theorem af6(l:OpenLaw)(args:List WData):l.row.toRowW.claim.post args (.bool true) args=true :=
 postW_of (r:=l.row.toRowW) (X:=(true == true))
  (show WShape.has [] (.bool true) .bool=true by first|rfl|decide|simp[WShape.has,WShape.arms,WShape.armsAll])
  (show(WTm.eq .res (.lit (.bool true))).value [] {args:=args,res:=some (.bool true),after:=args}=some (.bool (true == true)) from w_eq_bool (w_res rfl) w_lit) rfl
theorem aam{l:OpenLaw}{d:DefRec}
  (hn:l.most=some n) (hdf:d.params.defaults=[])
  (call:∀(w:World) (s₀ s₁:Shared) (mg mb:Str->Option Value) (fa:Addr) (o:Obj) (pm cd doc:Value) (a:Addr) (vs:List Value) (ns:List Int),
   Ground q loose [] XP w s₀ mg mb s₁.heap->YP w s₁.heap->
   s₁.heap.get? fa=some o->o.data=.func (docDef d.name d.params d.body d.scope pm cd doc)->s₁.heap.CodeRec cd d.name->mg d.name=some (.ref fa)->
   s₁.heap.get? a=some {cls:=.type "list",data:=.seq vs.toArray}->IntsAre vs ns->ns.length<=n->s₁.gens = #[]->
   codeAny (model l.prog w) callerA (.call (.ref fa) ⟨[.ref a],[]⟩) (λr s'=>r=.ok (.ret (.bool true))/\OldK s₁.heap s'.heap/\s'.os=s₁.os/\AllBare s'.gens) s₁) :
  WalkO q loose XP YP l.row.toRowW d [] (λf vs=>PySem.call f vs):=by
 intro w s₀ s₁ mg mb G Y fa o pm cd doc dV kV ho hd hcd hD hmg hg args vals as hpre hlay hrd hwl hlo
 obtain rfl:dV=.none:=Dflts.none hD hdf
 obtain rfl:kV=.none:=Dflts.noKw hD
 obtain⟨a,vs,ns,rfl,rfl,hobj,hints,aH⟩:=af5 hn hpre hwl;refine enter_call (codeAny_mono (call w s₀ s₁ mg mb fa o pm cd doc a vs ns G Y ho (fd_plain hd) hcd hmg hobj hints aH hg) λr s' hq=>?_);obtain⟨rfl,h2,h3,h4⟩:=hq;exact⟨.inl ⟨.bool true,.bool true,[],rfl,λ_=>rfl,.bool true,af6 l _,λ_=>⟨List.Pairwise.nil,λ_ hm=>(nomatch hm)⟩⟩,h2,h3,h4⟩
end Att
namespace L2
open PyProof.Rows
theorem a96:∀{vs:List Value} {ns:List Int},IntsAre vs ns->Vals (ns.map V.int) vs
 |_,_,.nil=>.nil
 |_,_,.cons n t h=>.cons ⟨t,rfl⟩ (a96 h)
def Only(H:Hp):Prop:=∀b,H b=none\/∃o xs,H b=some (.frz o (.lst xs))
theorem aj0{K:Fg}{s₁:Shared}{vs:List Value}
  (KX:K.In s₁.heap) (hns:s₁.heap.Ns mainGlobals mg) (hb:s₁.heap.Ns builtinsNs mb) (hbb:∀x:Str,x ≠ "__name__"->mb x=bootBuiltins x) (hlim:s₁.heap.NoLimit) (hg:s₁.gens = #[])
  (ha:s₁.heap.get? a=some {cls:=.type "list",data:=.seq vs.toArray}) (hi:IntsAre vs ns) (hl:ns.length<=sizeLine) (hr:Room k callerA)
  (F:∀base:Heap,K.In base->base.Ns mainGlobals mg->FnOk P w K mg base CX k fa fd [x] sp) (hbind:∀(s:Shared) (u:Value),BindsTo s fd ⟨[u],[]⟩ [(x,u)])
  (hsp:∀H:Hp,Only H->SqL K H a (ns.map V.int)->sp [.ref a] H (λv _=>v=.bl true) λ_ _ _=>False)
  (hCX:∀H e s',CX [] H s₁ (λ_ _ _=>False) e s'->False) :
  codeAny (model P w) callerA (.call (.ref fa) ⟨[.ref a],[]⟩) (λr s'=>r=.ok (.ret (.bool true))/\OldK s₁.heap s'.heap/\s'.os=s₁.os/\AllBare s'.gens) s₁:=by
 have rv:=a96 hi;have lenV:=hi.length;have core:∀H:Hp,Only H->SqL K H a (ns.map V.int)->HOk P w H s₁.heap->(∀b,H b≠none->b=a)->(H a≠none->K.lookup a=none)->
   codeAny (model P w) callerA (.call (.ref fa) ⟨[.ref a],[]⟩) (λr s'=>r=.ok (.ret (.bool true))/\OldK s₁.heap s'.heap/\s'.os=s₁.os/\AllBare s'.gens) s₁:=by
  intro H hO hS hok hA hK
  have base_of:∀{b:Addr} {o:Obj},s₁.heap.get? b=some o->H b=none->(aim s₁.heap H).get? b=some o:=λe n=>ain e n;have noA:∀{b:Addr} {o:Obj} {es:Array DictEntry} {ep:Nat},s₁.heap.get? b=some o->o.data=.dict es ep->H b=none:=λ{b o es ep} e d=>by
   cases q:H b with
   |none=>rfl
   |some u =>
    have e':b=a:=hA b (by rw[q];simp)
    subst e';rw[ha]at e;cases e
    have d':Data.seq vs.toArray _=Data.dict es ep:=d
    cases d'
  have nsK:∀{b:Addr} {m:Str->Option Value},s₁.heap.Ns b m->(aim s₁.heap H).Ns b m:=λ{b m} ⟨o,es,ep,e,d,r⟩=>⟨o,es,ep,base_of e (noA e d),d,r⟩;have hKb:K.In (aim s₁.heap H):=λb o e=>base_of (KX b o e) (by
   cases q:H b with
   |none=>rfl
   |some u =>
    have e':b=a:=hA b (by rw[q];simp)
    subst e';rw[hK (by rw[q];simp)]at e;cases e)
  have hM:Mod K mg (aim s₁.heap H):=⟨hKb,nsK hns,⟨mb,nsK hb,hbb⟩,let ⟨mc,h1,h2⟩:=hlim; ⟨mc,nsK h1,h2⟩⟩;have e0:Env0 P w K mg (aim s₁.heap H) callerA [] s₁ H:=⟨rfl,hM,λb o e=>ana e,Nat.le_of_eq (aej _ _),trivial,λb hb=>absurd (show b∈([]:List Addr) from hb) (by simp),hok,.of_eq hg⟩
  refine codeAny_mono ((F _ hKb (nsK hns)).run callerA [] s₁ H ⟨[.ref a],[]⟩ [.ref a] [.ref a] _ _ hr e0 (hbind s₁ (.ref a)) (.cons rfl .nil) (hsp H hO hS)) λr s' h=>?_
  cases r with
  |error e=>exact(hCX H e s' h).elim
  |ok fl =>
   cases fl with
   |next=>exact False.elim h
   |brk=>exact False.elim h
   |cont=>exact False.elim h
   |ret u =>
    obtain⟨v,H',os,bare,un,hok',r',q⟩:=h;have q':v=.bl true:=q;subst q';obtain rfl:u=Value.bool true:=r';refine⟨rfl,OldK.of_keep λb o e=>?_,os,bare⟩
    cases q:H b with
    |none=>exact un.keep b o e q (by intro z;exact absurd (show b∈([]:List Addr) from z) (by simp)) (by simp)
    |some u =>
     rcases hO b with z|⟨ob,xs,z⟩
     .rw[q]at z;cases z
     .have z2:=un.frzs b ob _ z;obtain⟨e1,_⟩:=hok b _ z;obtain⟨e2,_⟩:=hok' b _ z2;rw[e]at e1;cases e1
      exact e2
 cases hk:K.lookup a with
 |some o =>
  have e:=KX a o hk;rw[ha]at e;cases e
  refine core (λ_=>none) (λ_=>.inl rfl) (.inr ⟨_,vs.toArray,_,hk,rfl,rfl,rfl,by rw[List.size_toArray,lenV];exact hl,by simpa using rv⟩) (λb u z=>by have z':(none:Option HO)=some u:=z;cases z') (λb z=>absurd rfl z) λz=>absurd rfl z
 |none =>
  refine core (λb=>if b=a then some (.frz {cls:=.type "list",data:=.seq vs.toArray} (.lst (ns.map V.int))) else none) (λb=>?_) (.inl (.inr ⟨{cls:=.type "list",data:=.seq vs.toArray},if_pos rfl⟩)) (λb u z=>?_) (λb z=>?_) λ_=>hk
  .by_cases hb:b=a
   .exact .inr ⟨_,_,if_pos hb⟩
   .exact .inl (if_neg hb)
  .by_cases hb:b=a
   .have z':=(if_pos hb).symm.trans z
    cases z'
    subst hb;exact⟨ha,by rw[List.length_map];exact hl,vs,_,rv,ha⟩
   .have z':=(if_neg hb).symm.trans z
    cases z'
  .by_cases hb:b=a
   .exact hb
   .exact absurd (if_neg hb) z
theorem ao0{l:PySem.W.OpenLaw}{n k:Nat}{q:Program}{loose:List Str}{XP:(Str->Option Value)->Heap->Prop}{YP:World->Heap->Prop}{d:DefRec}{K:Params->Fg}{CX:World->CXT}{sp:World->Sp}{x:Str}
  (hn:l.most=some n) (hn2:n<=sizeLine) (hdf:d.params.defaults=[]) (hr:Room k callerA)
  (hY:∀(w:World) (h:Heap),YP w h->(K w.params).In h)
  (F:∀(w:World) (mg:Str->Option Value) (fa:Addr) (h:Heap),(K w.params).In h->h.Ns mainGlobals mg->mg d.name=some (.ref fa)->
   ∃fd:FuncData,(∀(s:Shared) (u:Value),BindsTo s fd ⟨[u],[]⟩ [(x,u)]) /\
    ∀base:Heap,(K w.params).In base->base.Ns mainGlobals mg->FnOk l.prog w (K w.params) mg base (CX w) k fa fd [x] (sp w))
  (hsp:∀(w:World) (H:Hp) (a:Addr) (ns:List Int),ns.length<=n->Only H->SqL (K w.params) H a (ns.map V.int)->sp w [.ref a] H (λv _=>v=.bl true) λ_ _ _=>False)
  (hCX:∀(w:World) (H:Hp) (s:Shared) (e:Value) (s':Shared),CX w [] H s (λ_ _ _=>False) e s'->False) :
  PySem.W.WalkO q loose XP YP l.row.toRowW d [] (λf vs=>PySem.call f vs):=by
 refine Att.aam hn hdf λw s₀ s₁ mg mb fa o pm cd doc a vs ns G Y ho hd hcd hmg hobj hints aH hg=>?_;have KX:=hY w _ Y;obtain⟨fd,hb,hF⟩:=F w mg fa _ KX G.T.g hmg;exact aj0 KX G.T.g G.T.b G.T.builtins G.T.nolimit hg hobj hints (Nat.le_trans aH hn2) hr hF hb (λH hO hS=>hsp w H a ns aH hO hS) λH e s'=>hCX w H s₁ e s'
noncomputable def a3a(s:Stmt):Arguments:=match s with
 |.FunctionDef _ a _ _ _ _ _ _ _ _=>a
 |_=>{posonlyargs:=[],args:=[],vararg:=none,kwonlyargs:=[],kw_defaults:=[],kwarg:=none,defaults:=[]}
noncomputable def ym(s:Stmt):List Stmt:=match s with
 |.FunctionDef _ _ b _ _ _ _ _ _ _=>b
 |_=>[]
noncomputable def bj(s:Stmt):Scope:=match s with
 |.FunctionDef _ _ _ _ _ _ sc _ _ _=>sc
 |_=>{kind:=.function,names:=[],isGenerator:=false,isCoroutine:=false}
abbrev CX0:CXT:=λ_ _ _ _ _ _=>False
abbrev E0:XK:=λ_ _ _=>False
theorem at8:abn CX0 X E0:=λ_ _ _ _ _ _ _ h=>h.elim
structure Fun (K:Fg) (x qual:Str) (st:Stmt) (f:Addr) (fd:FuncData):Prop where
 ex:∃(oc:Value) (od:Option Addr) (kV doc pm:Value) (an:Option Addr) (cdv ct:Value) (osl:Array (Option Value)),
  fd=PySem.W.fnOf x qual (a3a st) (ym st) (bj st) .none kV doc pm an cdv ct/\K.lookup f=some ⟨oc,od,.func fd,osl⟩/\PySem.W.codeIn K cdv qual=true
 kp:PySem.W.keepIn K (.ref f)=true
section
variable{P:Program}{w:World}{K:Fg}{mg:Str->Option Value}{base:Heap}
theorem Fun.ok{x qual:Str}{st:Stmt}{f:Addr}{fd:FuncData}{N ps:List Str}{k:Nat}{sp:Sp}(F:Fun K x qual st f fd)(S:FnScope N ps (bj st))(len:∀vs H Q E,sp vs H Q E->vs.length=ps.length)
  (hbody:∀(cdv:Value) (A:Around) (outer:List Env) (s:Shared) (H:Hp) (vs:List V) (Q:VK) (E:XK),Room k (A.deeper (envOfC qual (bj st) s.heap.objs.size f cdv))->sp vs H Q E->
   ∃t,PSs (aif CX0 P w K mg base N qual (bj st) f cdv A outer s H E).nox (ym st) t/\t {nx:=λ_ H'=>Q .non H',rt:=Q} (start N vs) H):FnOk P w K mg base CX0 (k+1) f fd ps sp:=by
 obtain⟨oc,od,kV,doc,pm,an,cdv,ct,osl,rfl,lk,hcd⟩:=F.ex;refine ayy lk hcd S len λA outer s H vs Q E hr hsp=>?_;obtain⟨t,h,q⟩:=hbody cdv A outer s H vs Q E hr hsp;exact⟨t,h.nox,q⟩
theorem Fun.binds{x qual:Str}{st:Stmt}{f:Addr}{fd:FuncData}{ps:List Str}(F:Fun K x qual st f fd)
  (h:∀(kV doc pm:Value) (an:Option Addr) (cdv ct:Value) (us:List Value),us.length=ps.length->bindArgs (PySem.W.fnOf x qual (a3a st) (ym st) (bj st) .none kV doc pm an cdv ct) ⟨us,[]⟩=pure (ps.zip us)):Binds K fd ps []:=by
 obtain⟨oc,od,kV,doc,pm,an,cdv,ct,osl,rfl,lk,hcd⟩:=F.ex;exact .all (h kV doc pm an cdv ct)
theorem at9{x qual:Str}{st:Stmt}{f:Addr}{oc:Value}{od an:Option Addr}{osl:Array (Option Value)}{kV doc pm cdv ct:Value}(l:K.lookup f=some ⟨oc,od,.func (PySem.W.fnOf x qual (a3a st) (ym st) (bj st) .none kV doc pm an cdv ct),osl⟩)
  (c:PySem.W.codeIn K cdv qual=true) (k:PySem.W.keepIn K (.ref f)=true):Fun K x qual st f (PySem.W.fnOf x qual (a3a st) (ym st) (bj st) .none kV doc pm an cdv ct):=⟨⟨oc,od,kV,doc,pm,an,cdv,ct,osl,rfl,l,c⟩,k⟩
end
section
variable{κ:Type}[DecidableEq κ]
noncomputable def abq(kvs:List (κ×V))(k:κ):Option V:=(kvs.find? λkv=>decide (kv.1=k)).map (·.2)
noncomputable def putK(kvs:List (κ×V))(k:κ)(v:V):List (κ×V) :=
 if (kvs.any λkv=>decide (kv.1=k))=true then kvs.map (λkv=>if kv.1=k then (kv.1,v) else kv) else kvs++[(k,v)]
theorem a7n{p:κ×V}{r:List (κ×V)}{k:κ}(e:p.1=k):abq (p::r) k=some p.2:=by simp[abq,List.find?_cons,e]
theorem a7o{p:κ×V}{r:List (κ×V)}{k:κ}(e:¬ p.1=k):abq (p::r) k=abq r k:=by simp[abq,List.find?_cons,e]
theorem abr(k:κ):∀kvs:List (κ×V),(kvs.any λkv=>decide (kv.1=k))=(abq kvs k).isSome
 |[]=>rfl
 |p::r=>by
  rw[List.any_cons]
  by_cases e:p.1=k
  .simp only[a7n e,decide_eq_true e,Bool.true_or,Option.isSome_some]
  .rw[a7o e,decide_eq_false e,Bool.false_or];exact abr k r
theorem a3b(kvs:List (κ×V))(k:κ)(v:V):(putK kvs k v).length<=kvs.length+1:=by
 unfold putK
 split
 .rw[List.length_map];omega
 .rw[List.length_append,List.length_cons,List.length_nil];omega
theorem RelO.isSome_eq{o:Option V}{u:Option Value}(r:RelO o u):o.isSome=u.isSome:=by
 cases o with
 |none=>cases u with
  |none=>rfl
  |some _=>exact(show False from r).elim
 |some _=>cases u with
  |none=>exact(show False from r).elim
  |some _=>rfl
theorem RelO.getD{o:Option V}{u:Option Value}{d:V}{d':Value}(r:RelO o u)(rd:RelV d d'):RelV (o.getD d) (u.getD d'):=by
 cases o with
 |none=>cases u with
  |none=>exact rd
  |some _=>exact(show False from r).elim
 |some _=>cases u with
  |none=>exact(show False from r).elim
  |some _=>exact r
theorem KV.val{kvs:List (κ×V)}{vs:List (κ×Value)}(r:KV kvs vs)(k:κ):RelO (abq kvs k) (valueAt vs k):=by
 unfold KV at r
 induction r with
 |nil=>exact True.intro
 |@cons p q ps qs h t ih =>
  obtain⟨h1,h2⟩:=h
  by_cases e:p.1=k
  .have e':q.1=k:=h1.symm.trans e;have b:valueAt (q::qs) k=some q.2:=by simp[valueAt,List.find?_cons,e']
   rw[a7n e,b];exact h2
  .have e':¬ q.1=k:=λz=>e (h1.trans z);have b:valueAt (q::qs) k=valueAt qs k:=by simp[valueAt,List.find?_cons,e']
   rw[a7o e,b];exact ih
theorem KV.any{kvs:List (κ×V)}{vs:List (κ×Value)}(r:KV kvs vs)(k:κ):(kvs.any λkv=>decide (kv.1=k))=vs.any λkv=>decide (kv.1=k):=by
 unfold KV at r
 induction r with
 |nil=>rfl
 |cons h t ih=>rw[List.any_cons,List.any_cons,ih,h.1]
theorem KV.repl{kvs:List (κ×V)}{vs:List (κ×Value)}(r:KV kvs vs)(k:κ){y:V}{u:Value}(ry:RelV y u) :
  KV (kvs.map λkv=>if kv.1=k then (kv.1,y) else kv) (vs.map λkv=>if kv.1=k then (kv.1,u) else kv):=by
 unfold KV at r ⊢
 induction r with
 |nil=>exact .nil
 |@cons p q ps qs h t ih =>
  rw[List.map_cons,List.map_cons];refine .cons ?_ ih;obtain⟨h1,h2⟩:=h
  by_cases e:p.1=k
  .rw[if_pos e,if_pos (h1.symm.trans e)];exact⟨h1,ry⟩
  .rw[if_neg e,if_neg (λz=>e (h1.trans z))];exact⟨h1,h2⟩
theorem KV.put{kvs:List (κ×V)}{vs:List (κ×Value)}(r:KV kvs vs)(k:κ){y:V}{u:Value}(ry:RelV y u):KV (putK kvs k y) (stored vs k u):=by
 unfold putK stored;rw[r.any k]
 by_cases e:(vs.any λkv=>decide (kv.1=k))=true
 .rw[if_pos e,if_pos e];exact r.repl k ry
 .rw[if_neg e,if_neg e];exact Paired.snoc r ⟨rfl,ry⟩
theorem KV.length{kvs:List (κ×V)}{vs:List (κ×Value)}(r:KV kvs vs):kvs.length=vs.length:=Paired.length r
end
theorem aan{P:Program}{w:World}{k:Key}{u:Value}(r:RelV (kV k) u):(mz P w).is k u=true:=by
 cases k with
 |inl i=>obtain⟨t,e⟩:=(show ∃t,u=Value.int i t from r);subst e;exact aag P w i t
 |inr x=>obtain⟨t,e⟩:=(show ∃t,u=Value.str x t from r);subst e;exact aah P w x t
theorem a97{P:Program}{w:World}:∀{ks:List Key} {us:List Value},Vals (ks.map kV) us->ItemsAre (mz P w) ks us
 |[],_,r=>by rw[List.map_nil]at r;cases r;exact .nil
 |k::ks,_,r=>by
  rw[List.map_cons]at r
  cases r with
  |cons h t=>exact .cons (aan h) (a97 t)
abbrev KT(H:Hp):List (List Key×V)->List (List Key×Addr×Value)->Prop:=Paired λp q=>p.1=q.1/\H q.2.1=some (.tup (p.1.map kV))/\RelV p.2 q.2.2
theorem KT.val{H:Hp}{kvs:List (List Key×V)}{xs:List (List Key×Addr×Value)}(r:KT H kvs xs)(k:List Key):RelO (abq kvs k) ((atKey xs k).map (·.2)):=by
 induction r with
 |nil=>exact True.intro
 |@cons p q ps qs h t ih =>
  obtain⟨h1,_,h2⟩:=h
  by_cases e:p.1=k
  .have e':q.1=k:=h1.symm.trans e;have b:atKey (q::qs) k=some q.2:=by simp[atKey,List.find?_cons,e']
   rw[a7n e,b];exact h2
  .have e':¬ q.1=k:=λz=>e (h1.trans z);have b:atKey (q::qs) k=atKey qs k:=by simp[atKey,List.find?_cons,e']
   rw[a7o e,b];exact ih
theorem KT.repl{H:Hp}{kvs:List (List Key×V)}{xs:List (List Key×Addr×Value)}(r:KT H kvs xs)(k:List Key){y:V}{u:Value}(ry:RelV y u) :
  KT H (kvs.map λkv=>if kv.1=k then (kv.1,y) else kv) (xs.map (putAt k u)):=by
 induction r with
 |nil=>exact .nil
 |@cons p q ps qs h t ih =>
  rw[List.map_cons,List.map_cons];refine .cons ?_ ih;obtain⟨h1,h2,h3⟩:=h;unfold putAt
  by_cases e:p.1=k
  .rw[if_pos e,if_pos (h1.symm.trans e)];exact⟨h1,h2,ry⟩
  .rw[if_neg e,if_neg (λz=>e (h1.trans z))];exact⟨h1,h2,h3⟩
theorem KT.put{H:Hp}{kvs:List (List Key×V)}{xs:List (List Key×Addr×Value)}(r:KT H kvs xs)(k:List Key){b:Addr}{y:V}{u:Value}(hb:H b=some (.tup (k.map kV)))(ry:RelV y u) :
  KT H (putK kvs k y) (storedH xs k b u):=by
 have e:(kvs.any λkv=>decide (kv.1=k))=(atKey xs k).isSome:=by
  rw[abr,(r.val k).isSome_eq,Option.isSome_map]
 unfold putK storedH;rw[e]
 by_cases q:(atKey xs k).isSome=true
 .rw[if_pos q,if_pos q];exact r.repl k ry
 .rw[if_neg q,if_neg q];exact Paired.snoc r ⟨rfl,hb,ry⟩
theorem KT.keeps{H H':Hp}{kvs:List (List Key×V)}{xs:List (List Key×Addr×Value)}(r:KT H kvs xs)(ht:∀b ys,H b=some (.tup ys)->H' b=some (.tup ys)):KT H' kvs xs :=
 Paired.mapP r λ_ _ z=>⟨z.1,ht _ _ z.2.1,z.2.2⟩
section
variable{P:Program}{w:World}{H:Hp}{h:Heap}{a:Addr}
theorem ata{u:HO}(ok:HOk P w H h)(e:Rd H a u):ObjOk P w H h a u:=e.ok ok
theorem a98{kvs:List (Key×V)}(ok:HOk P w H h)(e:Rd H a (.dK kvs)):kvs.length<=sizeLine/\(a == sysModules)=false/\∃vs,KV kvs vs/\h.DictOf (mz P w) a vs :=
 show ObjOk P w H h a (.dK kvs) from ata ok e
theorem atb{kvs:List (Key×V)}(ok:HOk P w H h)(e:H a=some (.dK kvs)):kvs.length<=sizeLine/\(a == sysModules)=false/\∃vs,KV kvs vs/\h.DictOf (mz P w) a vs:=a98 ok (.inl e)
theorem a6x{ks:List Key}(ok:HOk P w H h)(e:H a=some (.tup (ks.map kV))):(tupleKind (mz P w)).is h ks a:=by
 obtain⟨_,its,r,o,h1,h2,n,h3⟩:=(show ObjOk P w H h a (.tup (ks.map kV)) from ok a _ e)
 exact⟨o,its.toArray,n,h1,h2,h3,by simpa using a97 r⟩
theorem a99{kvs:List (List Key×V)}(ok:HOk P w H h)(e:Rd H a (.dT kvs)):kvs.length<=sizeLine/\(a == sysModules)=false /\
  ∃xs,KT H kvs xs/\h.DictOfH (tupleKind (mz P w)) a xs:=by
 obtain⟨z,y,xs,r,o,es,ep,h1,h2,h3,h4,h5⟩:=(show ObjOk P w H h a (.dT kvs) from ata ok e)
 refine⟨z,y,xs,r,o,es,ep,h1,h2,h3,h4,λx hx=>?_,h5⟩;have all:∀{l:List (List Key×V)} {m:List (List Key×Addr×Value)},KT H l m->∀x∈m,(tupleKind (mz P w)).is h x.1 x.2.1:=by
  intro l m q
  induction q with
  |nil=>intro x hx;exact nomatch hx
  |@cons p q ps qs hq t ih =>
   intro x hx
   rcases List.mem_cons.mp hx with e|hx
   .subst e;exact a6x ok (by rw[<-hq.1];exact hq.2.1)
   .exact ih x hx
 exact all r x hx
theorem az4{kvs:List (List Key×V)}(ok:HOk P w H h)(e:H a=some (.dT kvs)):kvs.length<=sizeLine/\(a == sysModules)=false /\
  ∃xs,KT H kvs xs/\h.DictOfH (tupleKind (mz P w)) a xs:=a99 ok (.inl e)
end
def aeb(H:Hp)(a:Addr)(y:V)(r:Option V):Prop :=
 (∃kvs k,Rd H a (.dK kvs)/\y=kV k/\r=abq kvs k)\/∃kvs k b,Rd H a (.dT kvs)/\y=.ref b/\H b=some (.tup (k.map kV))/\r=abq kvs k
def az5(H:Hp)(a:Addr)(y v:V)(H':Hp):Prop :=
 (∃kvs k,H a=some (.dK kvs)/\y=kV k/\kvs.length<sizeLine/\H'=upd H a (.dK (putK kvs k v))) \/
 ∃kvs k b,H a=some (.dT kvs)/\y=.ref b/\H b=some (.tup (k.map kV))/\kvs.length<sizeLine/\H'=upd H a (.dT (putK kvs k v))
section
variable{X:Cx}{aA:List (Addr×Obj)}{Z:St}{H:Hp}{s:Shared}{a:Addr}{y v:V}{u r:Value}{o:Option V}{A:Around}{E:Value->Shared->Prop}
theorem Inv.big(I:Inv X aA Z H s):sysModules<s.heap.objs.size:=by
 have h:mainGlobals<s.heap.objs.size:=(I.mod.glob.keeps I.bk).lt;exact Nat.lt_trans (by decide) h
theorem af7{Q:Value->Shared->Prop}(hu:A.units+1<cLine)(I:Inv X aA Z H s)(g:aeb H a y (some v))(ry:RelV y u)(h:∀w' s',Inv X aA Z H s'->RelV v w'->Q w' s') :
  wpAny (model X.prog X.w) A (getItem (.ref a) u) Q E s:=by
 rcases g with⟨kvs,k,e,ey,l⟩|⟨kvs,k,b,e,ey,eb,l⟩
 .subst ey;obtain⟨z,hd,vs,rel,dd⟩:=a98 I.hok e;obtain⟨w',hw,rw'⟩:=RelO.some_of (v:=v) (o:=valueAt vs k) (by rw[l];exact rel.val k)
  exact wpAny_getItem_of (aan ry) dd.mapOf hw (h w' _ (I.tok _) rw')
 .subst ey
  cases (show u=Value.ref b from ry)
  obtain⟨z,hd,xs,rel,dd⟩:=a99 I.hok e;obtain⟨w',hw,rw'⟩:=RelO.some_of (v:=v) (o:=(atKey xs k).map (·.2)) (by rw[l];exact rel.val k)
  obtain⟨p,hp,hp2⟩:=Option.map_eq_some_iff.mp hw;refine wpAny_getItem_heap (tupleKind_room_in1 hu) (a6x I.hok eb) dd hp ?_;rw[hp2];exact h w' _ (I.tok _) rw'
theorem b22{Q:Value->Shared->Prop}(hu:A.units+1<cLine)(I:Inv X aA Z H s)(g:aeb H a y o)(ry:RelV y u)(h:∀s',Inv X aA Z H s'->Q (.bool o.isSome) s') :
  wpAny (model X.prog X.w) A (compareOp .In u (.ref a)) Q E s:=by
 rcases g with⟨kvs,k,e,ey,l⟩|⟨kvs,k,b,e,ey,eb,l⟩
 .subst ey;obtain⟨z,hd,vs,rel,dd⟩:=a98 I.hok e;refine wpAny_in_of (aan ry) hd dd.mapOf ?_;rw[<-(rel.val k).isSome_eq,<-l];exact h _ (I.tok _)
 .subst ey
  cases (show u=Value.ref b from ry)
  obtain⟨z,hd,xs,rel,dd⟩:=a99 I.hok e;refine wpAny_in_heap (tupleKind_room_in1 hu) (a6x I.hok eb) hd dd ?_;have q:=(rel.val k).isSome_eq;rw[Option.isSome_map]at q;rw[<-q,<-l];exact h _ (I.tok _)
theorem ao1{Q:Value->Shared->Prop}(hu:A.units+1<cLine)(I:Inv X aA Z H s)(g:aeb H a y o)(ry:RelV y u)(h:∀s',Inv X aA Z H s'->Q (.bool (!o.isSome)) s') :
  wpAny (model X.prog X.w) A (compareOp .NotIn u (.ref a)) Q E s:=by
 rcases g with⟨kvs,k,e,ey,l⟩|⟨kvs,k,b,e,ey,eb,l⟩
 .subst ey;obtain⟨z,hd,vs,rel,dd⟩:=a98 I.hok e;refine wpAny_notIn_of (aan ry) hd dd.mapOf ?_;rw[<-(rel.val k).isSome_eq,<-l];exact h _ (I.tok _)
 .subst ey
  cases (show u=Value.ref b from ry)
  obtain⟨z,hd,xs,rel,dd⟩:=a99 I.hok e;refine wpAny_notIn_heap (tupleKind_room_in1 hu) (a6x I.hok eb) hd dd ?_;have q:=(rel.val k).isSome_eq;rw[Option.isSome_map]at q;rw[<-q,<-l];exact h _ (I.tok _)
theorem aao{h':Heap}{t':Nat}{ob:HO}(I:Inv X aA Z H s)(mu:Mut (H a))(hs:Heap.SameBut a s.heap h')(he:∃q,h'.get? a=some q)(new:ObjOk X.prog X.w (upd H a ob) h' a ob) :
  Inv X aA Z (upd H a ob) {s with heap:=h',toks:=t' } :=
 I.write (x:=a) (e:=a) mu (.inl rfl) (λb q hb z=>(hs.2 b hb).trans z) he new
theorem als{P:Program}{w:World}{H':Hp}{h':Heap}{kvs:List (Key×V)}{vs:List (Key×Value)}(z:kvs.length<=sizeLine)(hd:(a == sysModules)=false)(rel:KV kvs vs)(dd:h'.DictOf (mz P w) a vs) :
  ObjOk P w H' h' a (.dK kvs):=⟨z,hd,vs,rel,dd⟩
theorem af8{H':Hp}{Q:Unit->Shared->Prop}(hu:A.units+1<cLine)(I:Inv X aA Z H s)(g:az5 H a y v H')(ry:RelV y u)(rv:RelV v r)(h:∀s',Inv X aA Z H' s'->Q () s') :
  wpAny (model X.prog X.w) A (setItem (.ref a) u r) Q E s:=by
 rcases g with⟨kvs,k,e,ey,l,eH⟩|⟨kvs,k,b,e,ey,eb,l,eH⟩
 .subst ey eH;obtain⟨z,hd,vs,rel,dd⟩:=atb I.hok e;have hz:vs.length<=sizeLine:=by rw[<-rel.length];exact z
  have hl:(putK kvs k v).length<=sizeLine:=by have:=a3b kvs k v;omega
  refine wpAny_setItem_pairs (hsz:=hz) (aan ry) dd λh' dd' hs=>h _ ?_;have he:∃q,h'.get? a=some q:=let ⟨q,_,_,hq,_⟩:=dd'; ⟨q,hq⟩;exact aao I (by rw[e];exact True.intro) hs he (als hl hd (rel.put k rv) dd')
 .subst ey eH
  cases (show u=Value.ref b from ry)
  obtain⟨z,hd,xs,rel,dd⟩:=az4 I.hok e;have hz:xs.length<=sizeLine:=by rw[<-Paired.length rel];exact z
  have hl:(putK kvs k v).length<=sizeLine:=by have:=a3b kvs k v;omega
  refine wpAny_setItem_heap (hsz:=hz) (tupleKind_room_in1 hu) (a6x I.hok eb) dd λh' dd' hs=>h _ ?_;obtain⟨q,es,ep,hq,h2,h3,h4,_,h5⟩:=dd';refine aao I (by rw[e];exact True.intro) hs ⟨q,hq⟩ ⟨hl,hd,_,(rel.put k eb rv).keeps λc ys ec=>?_,q,es,ep,hq,h2,h3,h4,h5⟩
  rw[gf (ayc ec e (λz=>nomatch z))];exact ec
end
section
variable{X:Cx}{aA:List (Addr×Obj)}{Z:St}{H:Hp}{s:Shared}{a:Addr}{kvs:List (Key×V)}{k:Key}{u:Value}{A:Around}{E:Value->Shared->Prop}
theorem az6{Q:Value->Shared->Prop}(I:Inv X aA Z H s)(e:Rd H a (.dK kvs))(h:∀t s',Inv X aA Z H s'->Q (.int kvs.length t) s'):wpAny (model X.prog X.w) A (call (.builtin "len") [.ref a]) Q E s:=by
 obtain⟨z,hd,vs,rel,dd⟩:=a98 I.hok e;refine call_len_dict hd dd (by rw[<-rel.length];rw[sizeLine_eq]at z;omega) ?_
 rw[<-rel.length];exact h _ _ (I.tok _)
end
def az7(i:Expr):Prop:=∀ov iv,subscripted i false ov iv=operate [ov,iv] (getItem ov iv)
theorem ao2{prog:Program}{w:World}{A:Around}{E:Value->Shared->Prop}{s:Shared}{env:Env}{value slice:Expr}{pos:Pos}{T id:String}{Q:Value->Shared->Prop}
  (hl:typeLookup (.type T) "__getitem__" = pure (some (.builtin id))) (hs:az7 slice)
  (h:wpAny (model prog w) A (eval value env) (λo s₁=>wpAny (model prog w) A (eval slice env) (λi s₂=>s₂.TypeIs o T/\wpAny (model prog w) A (getItem o i) Q E s₂) E s₁) E s) :
  wpAny (model prog w) A (eval (.Subscript value slice pos) env) Q E s:=by
 refine Subscript_ (wpAny_mono h (λo s₁ h₁=>wpAny_mono h₁ (λi s₂ h₂=>?_) λ_ _ x=>x) λ_ _ x=>x);obtain⟨hT,h₂⟩:=h₂;unfold subscriptTail;refine wpAny_bind ?_;rw[getitemInPython_of_ne hT.not_modules];refine wpAny_bind (wpAny_specialOf hT hl ?_);have fin:wpAny (model prog w) A (subscripted slice false o i) (λr s₃=>wpAny (model prog w) A (letTemporaryGo value o r>>=λ_=>pure r) Q E s₃) E s₂:=by
  rw[hs o i];exact wpAny_operating (wpAny_mono h₂ (λr s₃ h₃=>wpAny_bind (wpAny_letTemporaryGo (wpAny_pure h₃))) λ_ _ x=>x)
 first
  |exact wpAny_pure (wpAny_bind fin)
  |exact wpAny_bind (wpAny_pure (wpAny_bind fin))
  |exact wpAny_bind fin
theorem aap{X:Cx}{aA:List (Addr×Obj)}{Z:St}{H:Hp}{s:Shared}{a:Addr}{y:V}{o:Option V}(I:Inv X aA Z H s)(g:aeb H a y o):s.TypeIs (.ref a) "dict":=by
 rcases g with⟨kvs,k,e,_,_⟩|⟨kvs,k,b,e,_,_,_⟩
 .obtain⟨_,_,vs,_,dd⟩:=a98 I.hok e;exact dd.typeIs
 .obtain⟨_,_,xs,_,dd⟩:=a99 I.hok e;exact dd.typeIs
noncomputable def az8(td ty:TE):TE:=λZ H Q=>td Z H λx H1=>ty Z H1 λy H2=>∃a v,x=.ref a/\aeb H2 a y (some v)/\Q v H2
noncomputable def az9(td ty tv:TE):TS:=λD Z H=>tv Z H λv H1=>td Z H1 λx H2=>ty Z H2 λy H3=>∃a H4,x=.ref a/\az5 H3 a y v H4/\D.nx Z H4
section
variable{X:Cx}{o i e value:Expr}{pos pos' tpos:Pos}{td ty tv:TE}
theorem ao3(hu:X.A.units+1<cLine)(ho:PE X o td)(hi:PE X i ty)(hs:az7 i):PE X (.Subscript o i pos) (az8 td ty):=by
 intro aA s Z H Q I h
 refine ao2 PySem.F.slot_dict_getitem.lookup hs (thn (ho aA s Z H _ I h) λu s1 ⟨x,H1,I1,rx,q1⟩=>thn (hi aA s1 Z H1 _ I1 q1) λiv s2 ⟨y,H2,I2,ry,a,v,ex,g,q2⟩=>?_);subst ex;obtain rfl:u=Value.ref a:=rx;exact⟨aap I2 g,af7 hu I2 g ry λw' s3 I3 rw'=>⟨v,H2,I3,rw',q2⟩⟩
theorem ao4(hu:X.A.units+1<cLine)(ho:PE X o td)(hi:PE X i ty)(hv:PE X value tv)(hs:swapsWith value (some (.Subscript o i pos')) pos.line X.env=pure false) :
  PS X (.Assign [.Subscript o i pos'] value pos) (az9 td ty tv):=by
 intro aA s Z H D I h
 refine wpAny_Assign_Subscript (thn (hv aA s Z H _ I h) λr s1 ⟨v,H1,I1,rv,q1⟩=>thn (ho aA s1 Z H1 _ I1 q1) λu s2 ⟨x,H2,I2,rx,q2⟩=>thn (hi aA s2 Z H2 _ I2 q2) λiv s3 ⟨y,H3,I3,ry,a,H4,ex,g,q3⟩=>?_) hs;subst ex;obtain rfl:u=Value.ref a:=rx;exact af8 hu I3 g ry rv λs4 I4=>⟨Z,H4,I4,q3⟩
end
theorem abt{P:Program}{w:World}{H:Hp}(h:Heap)(hb:sysModules<h.objs.size):ObjOk P w H (h.push {cls:=.type "dict",data:=.dict #[]}) h.objs.size (.dK []) :=
 ⟨Nat.zero_le _,beq_eq_false_iff_ne.mpr (Ne.symm (Nat.ne_of_lt hb)),[],.nil,Heap.DictOf.new h⟩
theorem aj1{P:Program}{w:World}{H:Hp}(h:Heap)(hb:sysModules<h.objs.size):ObjOk P w H (h.push {cls:=.type "dict",data:=.dict #[]}) h.objs.size (.dT []) :=
 ⟨Nat.zero_le _,beq_eq_false_iff_ne.mpr (Ne.symm (Nat.ne_of_lt hb)),[],.nil,_, #[],0,Heap.get?_push_size _ rfl,⟨rfl,rfl,rfl⟩,rfl,rfl,List.nodup_nil⟩
noncomputable def atc:TE:=λ_ H Q=>∀p,H p=none->Q (.ref p) (upd H p (.dK []))
noncomputable def atd:TE:=λ_ H Q=>∀p,H p=none->Q (.ref p) (upd H p (.dT []))
section
variable{X:Cx}{pos:Pos}
theorem aj2:PE X (.Dict [] [] pos) atc:=λaA s Z H Q I h =>
 wpAny_Dict_empty ⟨.ref s.heap.objs.size,_,I.laid (a:=s.heap.objs.size) (o:=.dK []) (t':=s.toks) (λ_ _ q=>Heap.get?_push_of_some _ q) (Nat.le_refl _) (abt s.heap I.big),rfl,h _ (I.hok.fresh (Nat.le_refl _))⟩
theorem aj3:PE X (.Dict [] [] pos) atd:=λaA s Z H Q I h =>
 wpAny_Dict_empty ⟨.ref s.heap.objs.size,_,I.laid (a:=s.heap.objs.size) (o:=.dT []) (t':=s.toks) (λ_ _ q=>Heap.get?_push_of_some _ q) (Nat.le_refl _) (aj1 s.heap I.big),rfl,h _ (I.hok.fresh (Nat.le_refl _))⟩
end
def af9:List (TE×TE)->St->Hp->(List (V×V)->Hp->Prop)->Prop
 |[],_,H,Q=>Q [] H
 |(tk,tv)::r,Z,H,Q=>tk Z H λx H1=>tv Z H1 λy H2=>af9 r Z H2 λps H3=>Q ((x,y)::ps) H3
abbrev VV:List (V×V)->List (Value×Value)->Prop:=Paired λp q=>RelV p.1 q.1/\RelV p.2 q.2
def PPs(X:Cx)(pos:Pos)(keys:List (Option Expr))(values:List Expr)(trs:List (TE×TE)):Prop :=
 ∀(aA:List (Addr×Obj)) (s:Shared) (Z:St) (H:Hp) (Q:List (V×V)->Hp->Prop),Inv X aA Z H s->af9 trs Z H Q->
  wpAny (model X.prog X.w) X.A (evalPairs (pairTrees keys values X.env pos)) (λvs s'=>∃ps H',Inv X aA Z H' s'/\VV ps vs/\Q ps H') X.xe s
theorem ao5{X:Cx}{pos:Pos}:PPs X pos [] [] []:=λaA s Z H Q I h=>pairTrees_nil_walk ⟨[],H,I,.nil,h⟩
theorem aj4{X:Cx}{pos:Pos}{k v:Expr}{ks:List (Option Expr)}{vs:List Expr}{tk tv:TE}{trs:List (TE×TE)}(hk:PE X k tk)(hv:PE X v tv)(hr:PPs X pos ks vs trs) :
  PPs X pos (some k::ks) (v::vs) ((tk,tv)::trs):=λaA s Z H Q I h =>
 pairTrees_cons_walk (thn (hk aA s Z H _ I h) λu s1 ⟨x,H1,I1,rx,q1⟩=>thn (hv aA s1 Z H1 _ I1 q1) λw2 s2 ⟨y,H2,I2,ry,q2⟩ =>
  thn (hr aA s2 Z H2 _ I2 q2) λws s3 ⟨ps,H3,I3,rel,q3⟩=>⟨(x,y)::ps,H3,I3,.cons ⟨rx,ry⟩ rel,q3⟩)
noncomputable def a9a(kvs more:List (Key×V)):List (Key×V):=more.foldl (λacc kv=>putK acc kv.1 kv.2) kvs
theorem KV.merge:∀{more:List (Key×V)} {rs:List (Key×Value)} {kvs:List (Key×V)} {vs:List (Key×Value)},KV more rs->KV kvs vs->KV (a9a kvs more) (merged vs rs):=by
 intro more rs kvs vs r
 unfold KV at r
 induction r generalizing kvs vs with
 |nil=>intro q;exact q
 |@cons p q ps qs h t ih =>
  intro r0
  have e:KV (putK kvs p.1 p.2) (stored vs q.1 q.2):=by
   have:=r0.put p.1 h.2
   rw[<-h.1];exact this
  exact ih e
theorem a3k:∀(more kvs:List (Key×V)),(a9a kvs more).length<=kvs.length+more.length
 |[],kvs=>by show kvs.length<=kvs.length+0;omega
 |p::r,kvs=>by
  have h1:=a3k r (putK kvs p.1 p.2);have h2:=a3b kvs p.1 p.2;show(a9a (putK kvs p.1 p.2) r).length<=_;rw[List.length_cons];omega
theorem a6y{P:Program}{w:World}:∀{kvs:List (Key×V)} {ws:List (Value×Value)},VV (kvs.map λkv=>(kV kv.1,kv.2)) ws->∃rs,Carries (mz P w) ws rs/\KV kvs rs
 |[],_,r=>by rw[List.map_nil]at r;cases r;exact⟨[],True.intro,.nil⟩
 |p::kvs,_,r=>by
  rw[List.map_cons]at r
  cases r with
  |@cons a b as bs h t =>
   obtain⟨rs,c,q⟩:=a6y (P:=P) (w:=w) t;obtain⟨b1,b2⟩:=b;exact⟨(p.1,b2)::rs,⟨aan h.1,rfl,c⟩,.cons ⟨rfl,h.2⟩ q⟩
noncomputable def aza(trs:List (TE×TE)):TE:=λZ H Q=>∀p,H p=none->af9 trs Z (upd H p (.dK [])) λps H2=>H2 p=some (.dK [])/\∃kvs:List (Key×V),ps=kvs.map (λkv=>(kV kv.1,kv.2))/\kvs.length<=15/\Q (.ref p) (upd H2 p (.dK (a9a [] kvs)))
theorem ao6{X:Cx}{pos:Pos}{keys:List (Option Expr)}{values:List Expr}{trs:List (TE×TE)}(h:PPs X pos keys values trs)(hall:keys.all (·.isSome)=true)(hl:keys.length=values.length)(h0:keys≠[])
  (h15:keys.length<=15):PE X (.Dict keys values pos) (aza trs):=by
 intro aA s Z H Q I q
 have hn:=I.hok.fresh (Nat.le_refl s.heap.objs.size);have I1:=I.laid (a:=s.heap.objs.size) (o:=.dK []) (h':=s.heap.push {cls:=.type "dict",data:=.dict #[]}) (t':=s.toks) (λ_ _ q=>Heap.get?_push_of_some _ q) (Nat.le_refl _) (abt s.heap I.big);refine wpAny_Dict_walk (knd:=mz X.prog X.w) hall hl h0 h15 (thn (h aA _ Z _ _ I1 (q _ hn)) λws s2 ⟨ps,H2,I2,rel,e,kvs,ep,lk,q2⟩=>?_);subst ep;obtain⟨rs,c,rk⟩:=a6y (P:=X.prog) (w:=X.w) rel;obtain⟨z,hd,vs0,r0,dd⟩:=atb I2.hok e;cases r0
 refine⟨rs,c,dd,λh' dd' hs=>⟨.ref s.heap.objs.size,_,?_,rfl,q2⟩⟩;have hz:(a9a [] kvs).length<=sizeLine:=by
  have h1:=a3k kvs [];rw[List.length_nil]at h1;rw[sizeLine_eq];omega
 have he:∃q,h'.get? s.heap.objs.size=some q:=let ⟨q,_,_,hq,_⟩:=dd'; ⟨q,hq⟩;exact aao I2 (by rw[e];exact True.intro) hs he (als hz hd (rk.merge .nil) dd')
structure M1 (X:Cx) (o:Expr) (m:Str) (apos:Pos) (e:Expr) (cpos:Pos):Prop where
 base:attributeBase o m X.env (eval o X.env)=eval o X.env
 few:((backTo cpos (starEach [e] X.env)).all (λx => !x.1) && (backToKw cpos (keywordEach [] X.env)).all (λx=>x.1.isSome)
  && decide (([e]:List Expr).length+([]:List Keyword).length+(if ([]:List Keyword).isEmpty then 0 else 1)<30))=true
 line:(apos.endLine == cpos.line)=true
 trees:backTo cpos (starEach [e] X.env)=[(false,eval e X.env)]
def IsD(H:Hp)(a:Addr):Prop:=(∃kvs,Rd H a (.dK kvs))\/∃kvs,Rd H a (.dT kvs)
theorem ate{X:Cx}{aA:List (Addr×Obj)}{Z:St}{H:Hp}{s:Shared}{a:Addr}(I:Inv X aA Z H s)(d:IsD H a) :
  s.TypeIs (.ref a) "dict"/\(∀b,Value.ref a=.ref b->∃ob,s.heap.get? b=some ob/\ob.dict=none)/\(a == sysModules)=false:=by
 rcases d with⟨kvs,e⟩|⟨kvs,e⟩
 .obtain⟨_,hd,vs,_,dd⟩:=a98 I.hok e;refine⟨dd.typeIs,λb q=>?_,hd⟩;cases q
  obtain⟨ob,_,_,h1,h2,_⟩:=dd;exact⟨ob,h1,h2.2.1⟩
 .obtain⟨_,hd,xs,_,dd⟩:=a99 I.hok e;refine⟨dd.typeIs,λb q=>?_,hd⟩;cases q
  obtain⟨ob,_,_,h1,h2,_⟩:=dd;exact⟨ob,h1,h2.2.1⟩
section
variable{X:Cx}{aA:List (Addr×Obj)}{Z:St}{H:Hp}{s:Shared}{a:Addr}{y d:V}{u r:Value}{o:Option V}{A:Around}{E:Value->Shared->Prop}
theorem atf{Q:Value->Shared->Prop}(hu:A.units+1<cLine)(I:Inv X aA Z H s)(g:aeb H a y o)(ry:RelV y u)(h:∀w' s',Inv X aA Z H s'->RelV (o.getD .non) w'->Q w' s') :
  wpAny (model X.prog X.w) A (call (.builtin "dict.get") [.ref a,u]) Q E s:=by
 rcases g with⟨kvs,k,e,ey,l⟩|⟨kvs,k,b,e,ey,eb,l⟩
 .subst ey;obtain⟨z,hd,vs,rel,dd⟩:=a98 I.hok e;refine call_meetsIn PySem.F.slot_dict_get dd.typeIs PySem.F.entry_dict_get (PySem.F.args_dict_get_2 _ _) (meets_dict_get (mz X.prog X.w) a (aan ry) hd) ⟨_,dd.mapOf,h _ _ (I.tok _) ?_⟩;rw[l];exact(rel.val k).getD rfl
 .subst ey
  cases (show u=Value.ref b from ry)
  obtain⟨z,hd,xs,rel,dd⟩:=a99 I.hok e;refine call_meetsIn PySem.F.slot_dict_get dd.typeIs PySem.F.entry_dict_get (PySem.F.args_dict_get_2 _ _) (meetsH_dict_get (tupleKind (mz X.prog X.w)) a b hd) ⟨tupleKind_room_in1 hu,k,xs,a6x I.hok eb,dd,h _ _ (I.tok _) ?_⟩;rw[l];exact(rel.val k).getD rfl
end
noncomputable def atg(td ty:TE):TE:=λZ H Q=>td Z H λx H1=>∃a,x=.ref a/\IsD H1 a/\ty Z H1 λy H2=>∃o,aeb H2 a y o/\Q (o.getD .non) H2
section
variable{X:Cx}{o e f:Expr}{apos cpos:Pos}{td ty tx:TE}
theorem aj5(hu:X.A.units+1<cLine)(ho:PE X o td)(he:PE X e ty)(m:M1 X o "get" apos e cpos):PE X (.Call (.Attribute o "get" apos) [e] [] cpos) (atg td ty):=by
 intro aA s Z H Q I h
 refine wpAny_Call_method m.base m.few m.line PySem.F.plainAttrs_dict PySem.F.slot_dict_get PySem.F.type_dict_get (thn (ho aA s Z H _ I h) λu s1 ⟨x,H1,I1,rx,a,ex,d,q1⟩=>?_);subst ex;obtain rfl:u=Value.ref a:=rx;obtain⟨t1,t2,_⟩:=ate I1 d;refine⟨t1,t2,?_⟩;rw[m.trees];refine Calls.callWith_builtin rfl (Calls.evalArgs_plain (Calls.spliced_cons (thn (he aA s1 Z H1 _ I1 q1) λiv s2 ⟨y,H2,I2,ry,ov,g,q2⟩=>Calls.spliced_nil ?_)));exact atf hu I2 g ry λw' s3 I3 rw'=>⟨_,H2,I3,rw',q2⟩
end
section
variable{X:Cx}
theorem aj6:OpR X (compareOp .Is) (λx y H Q=>∃i j,x=.bl i/\y=.bl j/\Q (.bl (i == j)) H):=by
 intro aA s Z H x y v u Q I rx ry h
 obtain⟨i,j,rfl,rfl,q⟩:=h;cases rx
 cases ry
 exact is_bool (a5t I q rfl)
theorem aaq:OpR X (compareOp .IsNot) (λx y H Q=>∃i j,x=.bl i/\y=.bl j/\Q (.bl (i != j)) H):=by
 intro aA s Z H x y v u Q I rx ry h
 obtain⟨i,j,rfl,rfl,q⟩:=h;cases rx
 cases ry
 exact isnot_bool (a5t I q rfl)
theorem a5z:OpR X (compareOp .LtE) (λx y H Q=>∃i j,x=.str i/\y=.str j/\Q (.bl (!decide (j.cps.toList<i.cps.toList))) H):=by
 intro aA s Z H x y v u Q I rx ry h
 obtain⟨i,j,rfl,rfl,q⟩:=h;obtain⟨t,rfl⟩:=rx;obtain⟨t',rfl⟩:=ry;exact PySem.P.le_str (a5t I q rfl)
noncomputable def a4z{α:Type}(xs:List α)(lo hi:Option Int):List α:=(xs.drop (HT.sIx xs.length 0 lo)).take (HT.sIx xs.length xs.length hi-HT.sIx xs.length 0 lo)
def azb:V->Option Int->Option Int->Hp->VK->Prop:=λx lo hi H Q=>∃z,x=.str z/\z.length<=sizeLine/\Q (.str ⟨(a4z z.cps.toList lo hi).toArray⟩) H
theorem ath(lo hi:Option Int)(n:Nat):Builtin.Str.strSliceIndices lo hi 1 n=(List.range (HT.sIx n n hi-HT.sIx n 0 lo)).map λk=>HT.sIx n 0 lo+k:=by
 have e1:Builtin.Str.strSliceIndices lo hi 1 n=sliceRange ((HT.sIx n 0 lo:Nat):Int) ((HT.sIx n n hi:Nat):Int) 1:=by
  unfold Builtin.Str.strSliceIndices;dsimp only
  congr 1
  .cases lo with
   |none=>simp[HT.sIx]
   |some i=>simp only[HT.sIx,show(1:Int) > 0 by decide,if_true];split<;>omega
  .cases hi with
   |none=>simp[HT.sIx]
   |some i=>simp only[HT.sIx,show(1:Int) > 0 by decide,if_true];split<;>omega
 rw[e1];exact sliceRange_one _ _
theorem ati{α:Type}(xs:List α)(a:Nat):∀k,a+k<=xs.length->((List.range k).map λj=>a+j).filterMap (xs[·]?)=(xs.drop a).take k
 |0,_=>by simp
 |k+1,h=>by
  rw[List.range_succ,List.map_append,List.filterMap_append,ati xs a k (by omega)]
  have hk:a+k<xs.length:=by omega
  rw[List.take_succ]
  congr 1
  simp[List.getElem?_drop,hk]
theorem atj:SlR X azb:=by
 intro aA s Z H x v vl vu lo hi sl Q I rx hs pl pu h
 obtain⟨z,rfl,hz,q⟩:=h;obtain⟨t,rfl⟩:=rx;refine⟨"str",_,PyProof.Rows.slot_str_getitem.lookup,typeIs_str s z t,?_⟩;have hl:z.cps.toList.length=z.length:=by simp[Str.length]
 have fin:∀(l u:Option (Int×Tok)),vl=partValue l->vu=partValue u->l.map (·.1)=lo->u.map (·.1)=hi->wpAny (model X.prog X.w) X.A (getItem (.str z t) (.ref sl)) (EP X aA Z Q) X.xe s:=by
  intro l u e1 e2 e3 e4
  subst e1 e2;refine wpAny_getItem_str_slice (l:=l) (u:=u) (st:=none) hs rfl ?_;have hp:slicePicked z l u none=(List.range (HT.sIx z.length z.length hi-HT.sIx z.length 0 lo)).map λk=>HT.sIx z.length 0 lo+k:=by
   unfold slicePicked;rw[e3,e4];exact ath lo hi z.length
  have hb1:HT.sIx z.length z.length hi<=z.length:=HT.aez _ _ (Nat.le_refl _) _;have hb2:HT.sIx z.length 0 lo<=z.length:=HT.aez _ _ (Nat.zero_le _) _;unfold sliceMade
  split
  .rename_i c;simp only[Bool.and_eq_true,beq_iff_eq]at c;obtain⟨_,c⟩:=c;rw[hp,List.length_map,List.length_range]at c;have e:(⟨(a4z z.cps.toList lo hi).toArray⟩:Str)=z:=by
    unfold a4z;rw[hl];have z1:HT.sIx z.length 0 lo=0:=by omega
    have z2:HT.sIx z.length z.length hi=z.length:=by omega
    rw[z1,z2,List.drop_zero,Nat.sub_zero,List.take_of_length_le (by omega)]
   rw[e]at q;exact⟨.str z,H,I,⟨_,rfl⟩,q⟩
  .have e:(⟨(a4z z.cps.toList lo hi).toArray⟩:Str)=⟨((slicePicked z l u none).filterMap (z.cps[·]?)).toArray⟩:=by
    rw[hp];unfold a4z;rw[hl]
    by_cases hc:HT.sIx z.length 0 lo<=HT.sIx z.length z.length hi
    .rw[<-ati z.cps.toList _ _ (by omega)]
     simp only[Array.getElem?_toList]
    .rw[show HT.sIx z.length z.length hi-HT.sIx z.length 0 lo=0 by omega]
     simp
   rw[e]at q;refine⟨?_,.str _,H,I.tok _,⟨_,rfl⟩,q⟩;rw[<-e];show(a4z z.cps.toList lo hi).toArray.size<=sizeLine;rw[List.size_toArray];unfold a4z;rw[List.length_take,List.length_drop,hl];omega
 cases pl with
 |none=>cases pu with
  |none=>exact fin none none rfl rfl rfl rfl
  |int j t'=>exact fin none (some (j,t')) rfl rfl rfl rfl
 |int i t'=>cases pu with
  |none=>exact fin (some (i,t')) none rfl rfl rfl rfl
  |int j t''=>exact fin (some (i,t')) (some (j,t'')) rfl rfl rfl rfl
theorem aar:CallR X (.builtin "isinstance") (λxs H Q=>∃x T t b,xs=[x,.ty T]/\TyOf X.K H x t/\PySem.W.kitOne X.K t (.type T)=some b/\Q (.bl b) H):=by
 intro aA s Z H xs us Q I r h
 obtain⟨x,T,t,b,rfl,ty,e,q⟩:=h;obtain⟨u,w',rfl,rx,rt⟩:=vals2 r;cases rt
 exact aex I rx ty e λtk=>⟨.bl b,H,I.tok tk,rfl,q⟩
theorem a9b(bs:List Bool):((List.range bs.length).all λi=>(bs[i]?).getD true)=bs.all id:=by
 have e:(List.range bs.length).map (λi=>(bs[i]?).getD true)=bs:=by
  apply List.ext_getElem (by simp)
  intro i h1 h2
  simp[h2]
 have f:((List.range bs.length).map λi=>(bs[i]?).getD true).all id=bs.all id:=by rw[e]
 rw[<-f,List.all_map];rfl
theorem aas(hc:X.calm=true):CallR X (.builtin "all") (λxs H Q=>∃(p:Addr) (bs:List Bool),xs=[.ref p]/\SqL X.K H p (bs.map V.bl)/\Q (.bl (bs.all id)) H):=by
 intro aA s Z H xs us Q I r h
 obtain⟨p,bs,rfl,hq,q⟩:=h;obtain⟨u,rfl,rx⟩:=vals1 r;cases rx
 obtain⟨its,r',pl,hz⟩:=I.list hq;have hl:=r'.length;rw[List.length_map]at hl;have hlt:p<s.heap.objs.size:=by obtain⟨_,e,_⟩:=pl.isList;exact Heap.lt_size e
 refine call_all_walk (wpAny_pyIter_list pl.isList ?_);refine⟨s.heap.objs.size,[s.heap.objs.size,p],[s.heap.objs.size],its.toArray.size,_,_,λi=>(bs[i]?).getD true,rfl,Walks.list (A:=X.A.in1) (I.ok.hd hc) _ p (Nat.ne_of_lt hlt) its.toArray,
  ⟨⟨_,Heap.get?_push_size _ rfl,rfl,rfl⟩,pl.isList.push _⟩,λi v s' Q' E' hP hQ=>?_,λh' tk hk=>?_⟩
 .have hP':its[i]? = some v:=by simpa using hP
  have hi:i<bs.length:=by
   have:=(List.getElem?_eq_some_iff.mp hP').1
   omega
  obtain⟨u,e,ru⟩:=r'.get (i:=i) (x:=.bl bs[i]) (by simp[hi])
  rw[hP']at e;cases e
  cases ru
  simp only[List.getElem?_eq_getElem hi,Option.getD_some]at hQ;exact wpAny_truthy_bool hQ
 .have e:((List.range its.toArray.size).all λi=>(bs[i]?).getD true)=bs.all id:=by
   rw[List.size_toArray,<-hl];exact a9b bs
  rw[e];exact⟨.bl _,H,I.kept λb x e=>hk b x (λhm=>by rw[List.mem_singleton.mp hm]at e;exact Nat.lt_irrefl _ (Heap.lt_size e)) (Heap.get?_push_of_some _ e),rfl,q⟩
noncomputable def yu(x:Str):List V:=x.cps.toList.map λc=>V.str ⟨#[c]⟩
theorem a6z(h:ItemsOf (SignAt x) acc x.cps.size):Vals (yu x) acc.toList:=by
 obtain⟨hs,ha⟩:=h;have key:∀(cs:List Nat) (us:List Value),us.length=cs.length->(∀(j:Nat) (v:Value),us[j]? = some v->∃c u,cs[j]? = some c/\v=.str ⟨#[c]⟩ u)->Vals (cs.map λc=>V.str ⟨#[c]⟩) us:=by
  intro cs
  induction cs with
  |nil=>intro us hl _;cases us with|nil=>exact .nil|cons _ _=>simp at hl
  |cons c cs ih =>
   intro us hl hp
   cases us with
   |nil=>simp at hl
   |cons u us =>
    refine .cons ?_ (ih us (by simpa using hl) λj v e=>hp (j+1) v (by simpa using e))
    obtain⟨c',t,e1,e2⟩:=hp 0 u rfl;simp at e1;subst e1;exact⟨t,e2⟩
 refine key _ _ (by simp[hs]) λj v e=>?_
 obtain⟨c,u,e1,e2⟩:=ha j v (by simpa using e)
 exact⟨c,u,by simpa using e1,e2⟩
theorem aat(hc:X.calm=true):CallR X (.type "list") (λxs H Q=>∃z,xs=[.str z]/\z.length<=sizeLine/\∀l,H l=none->Q (.ref l) (upd H l (.lst (yu z)))):=by
 intro aA s Z H xs us Q I r h
 obtain⟨z,rfl,hz,q⟩:=h;obtain⟨u,rfl,t,rfl⟩:=vals1 r;refine PySem.call_list_str (I.ok.hd hc) z t (λh' tk acc c kp e hi=>?_) (by simpa[Str.length] using hz)
 refine⟨.ref s.heap.objs.size,_,I.laid (t':=tk) kp (Nat.le_refl _) (show ObjOk X.prog X.w _ h' _ (.lst (yu z)) from ⟨by simpa[yu,Str.length] using hz,acc.toList,c,a6z hi,by simpa using e⟩),rfl,q _ (I.hok.fresh (Nat.le_refl _))⟩
theorem a9c(hc:X.calm=true):CallR X (.type "tuple") (λxs H Q=>∃z,xs=[.str z]/\z.length<=sizeLine/\∀l,H l=none->Q (.ref l) (upd H l (.tup (yu z)))):=by
 intro aA s Z H xs us Q I r h
 obtain⟨z,rfl,hz,q⟩:=h;obtain⟨u,rfl,t,rfl⟩:=vals1 r;refine PySem.call_tuple_str (I.ok.hd hc) z t (λh' tk acc kp hi=>?_) (by simpa[Str.length] using hz)
 have I1:Inv X aA Z H {s with heap:=h',toks:=tk}:=I.kept kp
 have I2:Inv X aA Z (upd H h'.objs.size (.tup (yu z))) {s with heap:=h'.push {cls:=.type "tuple",data:=.seq acc},toks:=tk} :=
  I1.laid (t':=tk) (λb o e=>Heap.get?_push_of_some _ e) (Nat.le_refl _) (show ObjOk X.prog X.w _ _ _ (.tup (yu z)) from ⟨by simpa[yu,Str.length] using hz,acc.toList,a6z hi,by simpa using IsTup.new h' acc⟩)
 exact⟨.ref h'.objs.size,_,I2,rfl,q _ (I1.hok.fresh (Nat.le_refl _))⟩
end
noncomputable def Its(x:Str):It:=⟨λi _=>i<x.cps.size,λi H v H'=>H'=H/\∃c,x.cps.toList[i]? = some c/\v=.str ⟨#[c]⟩,λi _=>i=x.cps.size⟩
theorem abu{P:Program}{w:World}{K:Fg}{tg:Expr}(it:Addr)(x:Str)(t:Tok)(ty:String)
  (hty:["enumerate","zip","dict_itemiterator","dict_reverseitemiterator","odict_iterator","itertools.zip_longest","itertools.pairwise"].contains ty=false)
  (W:∀A':Around,A'.handled=none->Walks P w A' it [it] [it] x.cps.size (SignAt x) (λi h=>h.IsStrIter it ty x t i))
  (slf:∀(A:Around) (i:Nat) (s:Shared) (Q:Value->Shared->Prop) (E:Value->Shared->Prop),s.heap.IsStrIter it ty x t i->Q (.ref it) s->wpAny (model P w) A (pyIter (.ref it)) Q E s) :
  Turn P w K tg (Its x) [it] it (λi h=>h.IsStrIter it ty x t i) where
 mem:=by simp
 obj:=λi h st b hb=>by
  have e:b=it:=by simpa using hb
  subst e;obtain⟨o,e,c,d⟩:=st;exact⟨o,e,λv z=>by rw[d]at z;cases z⟩
 keep:=λi h h' st k=>by
  obtain⟨o,e,c,d⟩:=st;exact⟨o,k it (by simp) o e,c,d⟩
 item:=by
  intro X hP hw hK hc i aA s Z H E I hf st hg
  subst hP hw hK;obtain⟨f0,f1,f2,f3,f4,f5⟩:=hf it (by simp)
  refine(W X.A (I.ok.hd hc)).item i s _ _ hg st λv h' tk hv st' kk=>?_;obtain⟨c,u,hx,rfl⟩:=hv;have I1:Inv X aA Z H {s with heap:=h',toks:=tk}:=I.turned (λb o hb e=>kk b o (by simpa using hb) e) f0 f1 f3 f4 f5
  obtain⟨o,e,oc,d⟩:=id st';exact⟨_,rfl,aem (s:={s with heap:=h',toks:=tk}) e oc d hty ⟨.str ⟨#[c]⟩,H,I1,⟨_,rfl⟩,⟨rfl,c,by simpa using hx,rfl⟩,st',λb hb=>(hf b hb).1⟩⟩
 done:=by
  intro X hP hw hK hc i aA s Z H E I hf st hg
  subst hP hw hK;obtain⟨f0,f1,f2,f3,f4,f5⟩:=hf it (by simp)
  have hg':i=x.cps.size:=hg;subst hg';exact(W X.A (I.ok.hd hc)).done s _ _ st λh' tk eb=>⟨rfl,I.turned (λb o hb e=>eb b o (by simpa using hb) e) f0 f1 f3 f4 f5⟩
 self:=slf
section
variable{X:Cx}{tg:Expr}
noncomputable def b23(tl:TE):TI:=λZ H R=>tl Z H λx H1=>∃z,x=.str z/\R (Its z) H1
theorem alu{l:Expr}{tl:TE}(hl:PE X l tl):PI X tg l (b23 tl):=by
 intro aA s Z H R I h
 refine thn (hl aA s Z H _ I h) ?_
 rintro v s1 ⟨x,H1,I1,r1,q1⟩
 obtain⟨z,e,q⟩:=q1;subst e;obtain⟨t,rfl⟩:=r1;have fp:∀b∈[s1.heap.objs.size],FpOk X aA H1 b:=λb hb=>by
  have e:b=s1.heap.objs.size:=by simpa using hb
  subst e;exact I1.fpOk (Nat.le_refl _) (I1.hok.fresh (Nat.le_refl _))
 cases ha:z.cps.all (· < 128)
 .exact wpAny_pyIter_wide ha ⟨s1.heap.objs.size,[s1.heap.objs.size],_,_,H1,rfl,I1.kept (t':=s1.toks) λb o e=>Heap.get?_push_of_some _ e,
   abu _ z t "str_iterator" (by decide) (λA' hA=>Walks.strWide hA _ z t) (λ_ _ _ _ _ st h=>wpAny_pyIter_striter_wide st h),⟨_,Heap.get?_push_size _ rfl,rfl,rfl⟩,fp,q⟩
 .exact wpAny_pyIter_ascii ha ⟨s1.heap.objs.size,[s1.heap.objs.size],_,_,H1,rfl,I1.kept (t':=s1.toks) λb o e=>Heap.get?_push_of_some _ e,
   abu _ z t "str_ascii_iterator" (by decide) (λA' hA=>Walks.strAscii hA _ z t) (λ_ _ _ _ _ st h=>wpAny_pyIter_striter_ascii st h),⟨_,Heap.get?_push_size _ rfl,rfl,rfl⟩,fp,q⟩
end
noncomputable def alv(tt:Option Str)(a:Addr)(cl:List (Str×Addr)):List (Str×Addr):=match tt with
 |none=>cl
 |some t=>(t,a)::cl
noncomputable def b0m(tt:Option Str)(h:Heap):Heap:=match tt with
 |none=>h
 |some _=>h.push {cls:=.type "cell",data:=.cell none}
noncomputable def cxG(X:Cx)(N:List Str)(aB:Scope)(cl:List (Str×Addr))(tt:Option Str)(C:Addr)(fp:List Addr)(s:Shared)(H:Hp):Cx where
 prog:=X.prog
 w:=X.w
 K:=X.K
 mg:=X.mg
 base:=X.base
 A:=X.A
 N:=N
 s₀:=s
 H₀:=H
 env:=compEnvC aB (alv tt (C+1) cl) C X.env
 outer:=X.stack
 stack:=X.stack
 ex:=fp
 fn:=λx=>tt == some x
 calm:=X.calm
 pn:=[]
 xe:=λ_ _=>False
abbrev cxC(X:Cx)(N:List Str)(aB:Scope)(cl:List (Str×Addr))(C:Addr)(fp:List Addr)(s:Shared)(H:Hp):Cx:=cxG X N aB cl none C fp s H
structure CSg (X:Cx) (aB:Scope) (cl:List (Str×Addr)) (tt:Option Str) (ts fr:List Str) (ix:List Nat):Prop where
 clos:closureFor aB X.env=pure cl
 kind:aB.kind=.function
 own:∀a,cellsFrom a aB.names cl=alv tt a cl
 push:∀h,pushCells h aB.names=b0m tt h
 names:∀y∈aB.names,y.2=.local->aB.names.lookup y.1=some .local
 sub:∀y c,cl.lookup y=some c->X.env.cells.lookup y=some c
 has:∀y,((relabel aB X.env).names.lookup y=some .cell\/(relabel aB X.env).names.lookup y=some .free)->tt=some y\/∃c,cl.lookup y=some c
 len:ix.length=fr.length
 vis:∀(j:Nat) (y:Str),fr[j]? = some y->tt≠some y/\∃i:Nat,ix[j]? = some i/\X.N[i]? = some y/\(X.env.kindOf y=some .cell\/X.env.kindOf y=some .free)/\((relabel aB X.env).names.lookup y=some .cell\/(relabel aB X.env).names.lookup y=some .free)
abbrev CSc(X:Cx)(aB:Scope)(cl:List (Str×Addr))(ts fr:List Str)(ix:List Nat):Prop:=CSg X aB cl none ts fr ix
theorem a7p:∀{names:List (Str×NameKind)} {a:Nat} {cl:List (Str×Addr)},(∀y∈names,y.2≠.cell)->cellsFrom a names cl=cl
 |[],_,_,_=>rfl
 |(x,k)::r,a,cl,h=>by
  unfold cellsFrom;rw[if_neg (by have:=h _ List.mem_cons_self;simpa using this)]
  exact a7p λy hy=>h y (List.mem_cons_of_mem _ hy)
theorem aau:∀{names:List (Str×NameKind)} {h:Heap},(∀y∈names,y.2≠.cell)->pushCells h names=h
 |[],_,_=>rfl
 |(x,k)::r,a,h=>by
  unfold pushCells;rw[if_neg (by have:=h _ List.mem_cons_self;simpa using this)]
  exact aau λy hy=>h y (List.mem_cons_of_mem _ hy)
theorem look{tt:Option Str}{cl:List (Str×Addr)}(e:(alv tt a cl).lookup y=some c):(tt=some y/\c=a)\/(tt≠some y/\cl.lookup y=some c):=by
 cases tt with
 |none=>exact .inr ⟨nofun,e⟩
 |some t =>
  have e:((t,a)::cl).lookup y=some c:=e;rw[List.lookup_cons]at e
  cases hb:y == t with
  |true=>rw[hb]at e;cases e;exact .inl ⟨congrArg some (beq_iff_eq.mp hb).symm,rfl⟩
  |false=>rw[hb]at e;exact .inr ⟨λz=>by cases z;simp at hb,e⟩
theorem afa{tt:Option Str}{cl:List (Str×Addr)}(ne:tt≠some y)(e:cl.lookup y=some c):(alv tt a cl).lookup y=some c:=by
 cases tt with
 |none=>exact e
 |some t =>
  show((t,a)::cl).lookup y=some c;rw[List.lookup_cons];have hb:(y == t)=false:=by rw[beq_eq_false_iff_ne];exact λz=>ne (congrArg some z.symm)
  rw[hb];exact e
theorem atk{t:Str}{a:Addr}{cl:List (Str×Addr)}:(alv (some t) a cl).lookup t=some a:=by
 show((t,a)::cl).lookup t=_;rw[List.lookup_cons];simp
theorem no1(h:C+1<n)(h':n<=C):False:=by omega
theorem no2(h:b<n)(h':n<=C):C+1≠b:=by omega
theorem no3(h:C+1=n)(h':n<=C):False:=by omega
theorem afb{M:Model}{A:Around}{E:Value->Shared->Prop}{s:Shared}{aB:Scope}{globals:Addr}{cl:List (Str×Addr)}{tt:Option Str}{qual:Str}{func:Option Addr}{code:Value}{outer:Env}{builtins:Addr}{Q:Env->Shared->Prop}
  (own:∀a,cellsFrom a aB.names cl=alv tt a cl) (push:∀h,pushCells h aB.names=b0m tt h) (hk:aB.kind=.function)
  (hQ:∀h':Heap,h'.Ns s.heap.objs.size (λ_=>none)->(∀t,tt=some t->h'.IsCell (s.heap.objs.size+1) none)->(∀b o,s.heap.get? b=some o->h'.get? b=some o)->Q (newEnv aB s.heap.objs.size globals (alv tt (s.heap.objs.size+1) cl) qual func code (some outer) builtins) {s with heap:=h' }) :
  wpAny M A (newFunctionEnv aB globals cl [] qual func code (some outer) builtins) Q E s:=by
 simp only[newFunctionEnv,Option.isSome_some,if_true];refine wpAny_bind (wpAny_alloc ?_);refine wpAny_bind (wpAny_layCells _ (λname kind cells=>by cases hkc:kind == NameKind.cell<;>simp[hkc]) _ _ _ _ ?_)
 rw[own,push];simp only[List.forIn_nil];refine wpAny_bind (wpAny_pure (wpAny_pure ?_));have sz:({s with heap:=s.heap.push {cls:=.type "dict",data:=.dict #[]} }:Shared).heap.objs.size=s.heap.objs.size+1:=Heap.size_push ..
 rw[sz]
 cases tt with
 |none=>exact hQ _ (Heap.Ns.new s.heap (.type "dict")) (λ_ z=>nomatch z) λb o e=>Heap.get?_push_of_some _ e
 |some t =>
  refine hQ _ ((Heap.Ns.new s.heap (.type "dict")).keeps λb o e=>Heap.get?_push_of_some _ e) (λ_ _=>⟨{cls:=.type "cell",data:=.cell none},?_,rfl⟩) λb o e=>Heap.get?_push_of_some _ (Heap.get?_push_of_some _ e);rw[<-sz];exact Heap.get?_push_size _ rfl
def Ext(a b:St):Prop:=b.length=a.length/\∀(i:Nat) v,a[i]? = some (some v)->b[i]? = some (some v)
noncomputable def qi(nt:Nat)(ix:List Nat)(Z:St):St:=List.replicate nt none++ix.map λi=>(Z[i]?).join
def ao7(J:It)(s0:St)(g:TG)(te:TE)(Q:VK)(H1:Hp):Prop:=∃W:Nat->Nat->List V->Hp->Prop,(∃m,W 0 m [] H1)/\∀i m ys H,W i m ys H->
 (J.stop i H/\∀p,H p=none->Q (.ref p) (upd H p (.lst ys))) \/
 (J.go i H/\ys.length<sizeLine/\∀x H',J.yld i H x H'->g x s0 H' λZ2 H2=>Ext s0 Z2/\te Z2 H2 λy H3=>∃m',m'<m/\W (i+1) m' (ys++[y]) H3)
noncomputable def afc(wi:TI)(s0:St->St)(g:TG)(te:TE):TE:=λZ H Q=>wi Z H λJ H1=>ao7 J (s0 Z) g te Q H1
def aav(J:It)(s0:St)(g:TG)(tc:TT)(te:TE)(Q:VK)(H1:Hp):Prop:=∃W:Nat->Nat->List V->Hp->Prop,(∃m,W 0 m [] H1)/\∀i m ys H,W i m ys H->
 (J.stop i H/\∀p,H p=none->Q (.ref p) (upd H p (.lst ys))) \/
 (J.go i H/\ys.length<sizeLine/\∀x H',J.yld i H x H'->g x s0 H' λZ2 H2=>Ext s0 Z2/\tc Z2 H2 λok H2'=>if ok=true then te Z2 H2' (λy H3=>∃m',m'<m/\W (i+1) m' (ys++[y]) H3) else ∃m',m'<m/\W (i+1) m' ys H2')
noncomputable def a65(wi:TI)(s0:St->St)(g:TG)(tc:TT)(te:TE):TE:=λZ H Q=>wi Z H λJ H1=>aav J (s0 Z) g tc te Q H1
theorem a66(aD target aF cnd:Expr)(aB:Scope)(pos:Pos)(it acc:Value)(env:Env) :
  compTurn (.ListComp aD [⟨target,aF,[cnd],0⟩] aB pos) 0 it acc env=(standAt aF.pos>>=λ_=>pyNext it>>=λr=>match r with
   |none=>pure (.done .next)
   |some v=>letOwnedTupleGo target it v>>=λ_=>assign target env v>>=λ_=>isTrue cnd env (eval cnd env)>>=λok =>
    (if ok=true then (eval aD env>>=λx=>call (.builtin "list.append") [acc,x]>>=λ_=>pure ()) else pure ())>>=λ_ =>
     again (.compLoop (.ListComp aD [⟨target,aF,[cnd],0⟩] aB pos) 0 it acc env)):=by
 first
  |rfl
  |(unfold compTurn;simp only[List.getElem?_cons_zero];rfl)
  | (show(standAt aF.pos>>=λ_=>pyNext it>>=λr=>_)=_
     congr 1;funext _;congr 1;funext r
     cases r with
     |none=>rfl
     |some v =>
      show(letOwnedTupleGo target it v>>=λ_=>assign target env v>>=λ_=>_)=(letOwnedTupleGo target it v>>=λ_=>assign target env v>>=λ_=>_)
      congr 1;funext _;congr 1;funext _
      simp
      congr 1;funext ok
      cases ok with
      |false=>rw[if_neg Bool.false_ne_true,if_neg Bool.false_ne_true,pure_bind]
      |true =>
       rw[if_pos rfl,if_pos rfl,bind_assoc]
       congr 1;funext x
       rw[map_eq_pure_bind,bind_assoc]
       congr 1)
noncomputable def runC(cnd:Option Expr)(env:Env):Sem Bool:=match cnd with
 |none=>pure true
 |some c=>isTrue c env (eval c env)
def PTO(X:Cx)(cnd:Option Expr)(t:TT):Prop :=
 ∀(aA:List (Addr×Obj)) (s:Shared) (Z:St) (H:Hp) (Q:Bool->Hp->Prop),Inv X aA Z H s->t Z H Q->wpAny (model X.prog X.w) X.A (runC cnd X.env) (TP X aA Z Q) X.xe s
theorem a6q(aD target aF:Expr)(cnd:Option Expr)(aB:Scope)(pos:Pos)(it acc:Value)(env:Env) :
  compTurn (.ListComp aD [⟨target,aF,cnd.toList,0⟩] aB pos) 0 it acc env=(standAt aF.pos>>=λ_=>pyNext it>>=λr=>match r with
   |none=>pure (.done .next)
   |some v=>letOwnedTupleGo target it v>>=λ_=>assign target env v>>=λ_=>runC cnd env>>=λok =>
    (if ok=true then (eval aD env>>=λx=>call (.builtin "list.append") [acc,x]>>=λ_=>pure ()) else pure ())>>=λ_ =>
     again (.compLoop (.ListComp aD [⟨target,aF,cnd.toList,0⟩] aB pos) 0 it acc env)):=by
 cases cnd with
 |some c=>exact a66 ..
 |none =>
  rw[show(none:Option Expr).toList=[] from rfl,compTurn_list1]
  congr 1
theorem afd{cnd:Option Expr}{E:Value->Shared->Prop}(no:∀v s,E v s->False)(J:Nat->Shared->Prop)
  (step:∀m z,J m z->wpAny (model prog w) A (pyNext it) (λgot z1=>match got with
   |none=>R (.ok .next) z1
   |some v=>wpAny (model prog w) A (letOwnedTupleGo target it v) (λ_ z2=>wpAny (model prog w) A (assign target env v) (λ_ z3=>wpAny (model prog w) A (runC cnd env) (λok z3'=>if ok=true then wpAny (model prog w) A (eval aD env) (λx z4 =>
     wpAny (model prog w) A (call (.builtin "list.append") [acc,x]) (λ_ z5=>∃m',m'<m/\J m' z5) E z4)
     E z3' else ∃m',m'<m/\J m' z3') E z3) E z2) E z1) E z)
  (m:Nat) (j0:J m s):codeAny (model prog w) A (.compLoop (.ListComp aD [⟨target,aF,cnd.toList,0⟩] aB pos) 0 it acc env) R s:=by
 refine codeAny_loop rfl J (λm z hj=>(wpAny_noted ?_:wpAny _ _ ((compTurn (.ListComp aD [⟨target,aF,cnd.toList,0⟩] aB pos) 0 it acc env).onRaise _) _ _ z)) m j0;rw[a6q];refine wpAny_bind (wpAny_standAt (wpAny_bind (wpAny_mono (step m z hj) (λgot z1 h1=>?_) λ_ _ e=>(no _ _ e).elim)))
 match got,h1 with
 |none,h1=>exact wpAny_pure h1
 |some v,h1 =>
  refine wpAny_bind (wpAny_mono h1 (λ_ z2 h2=>wpAny_bind (wpAny_mono h2 (λ_ z3 h3=>wpAny_bind (wpAny_mono h3 (λok z3' h3'=>?_) λ_ _ e=>(no _ _ e).elim)) λ_ _ e=>(no _ _ e).elim)) λ_ _ e=>(no _ _ e).elim)
  match ok,h3' with
  |true,h3' =>
   rw[if_pos rfl]at h3';refine wpAny_bind (wpAny_bind (wpAny_mono h3' (λx z4 h4=>?_) λ_ _ e=>(no _ _ e).elim));exact wpAny_bind (wpAny_mono h4 (λ_ z5 h5=>wpAny_pure (wpAny_pure ⟨rfl,h5⟩)) λ_ _ e=>(no _ _ e).elim)
  |false,h3' =>
   rw[if_neg Bool.false_ne_true]at h3';exact wpAny_bind (wpAny_pure (wpAny_pure ⟨rfl,h3'⟩))
section
variable{X:Cx}
theorem a9d{aA:List (Addr×Obj)}{Z:St}{H:Hp}{s:Shared}{aB:Scope}{cl:List (Str×Addr)}{tt:Option Str}{ts fr:List Str}{ix:List Nat}{C:Addr}{fp:List Addr}(S:CSg X aB cl tt ts fr ix)(I:Inv X aA Z H s)
  (hf:∀b∈fp,FpOk X aA H b) (hb:∀b∈fp,b<s.heap.objs.size) (hC:s.heap.objs.size<=C):(cxG X (ts++fr) aB cl tt C fp s H).Ok where
 mod:=I.ok.mod
 kind:=S.kind
 glob:=I.ok.glob
 blt:=I.ok.blt
 above:=hC
 inj:=λx y c h1 h2=>by
  have small:∀z c,cl.lookup z=some c->c<s.heap.objs.size:=λz c e=>let ⟨_,q⟩:=I.cell z c (S.sub z c e);q.lt
  rcases look h1 with⟨e1,rfl⟩|⟨_,e1⟩<;>rcases look h2 with⟨e2,e3⟩|⟨_,e2⟩
  .exact Option.some.inj (e1.symm.trans e2)
  .exact(no1 (small y _ e2) hC).elim
  .rw[e3]at e1;exact(no1 (small x _ e1) hC).elim
  .exact I.ok.inj x y c (S.sub x c e1) (S.sub y c e2)
 has:=λy z=>by
  by_cases h:tt=some y
  .subst h;exact⟨_,atk⟩
  .exact(S.has y z).elim (λz=>absurd z h) λ⟨c,e⟩=>⟨c,afa h e⟩
 cab:=λx c h e=>by
  rcases look e with⟨_,rfl⟩|⟨ne,_⟩
  .show s.heap.objs.size<=C+1;omega
  .exact absurd (beq_iff_eq.mp h) ne
 hd:=I.ok.hd
 frames:=I.ok.frames
 stk:=.inl rfl
 exf:=λb hb'=>⟨Nat.ne_of_lt (Nat.lt_of_lt_of_le (hb b hb') hC),λx c e=>by
  rcases look e with⟨_,rfl⟩|⟨_,e⟩
  .exact no2 (hb b hb') hC
  .exact(hf b hb').2.2.2.2.1 x c (S.sub x c e)⟩
 bs:=λb o e=>I.bs b o e
 bsz:=Nat.le_trans I.ok.bsz I.sz
 noex:=λb o e hb'=>by
  rcases(hf b hb').2.2.2.1 with z|z
  .exact I.ok.noex b o e z
  .exact absurd (Nat.lt_of_lt_of_le (Heap.lt_size e) (Nat.le_trans I.ok.bsz z)) (Nat.lt_irrefl _)
 exfs:=λb hb' z=>by
  rcases List.mem_cons.mp (I.stkSub b z) with e|e
  .exact(hf b hb').2.1 e
  .exact(hf b hb').2.2.1 e
 funs:=I.stack
 frf:=λb hb'=>I.stkFree b hb'
theorem adg:(qi nt ix Z).length=nt+ix.length:=by
 unfold qi;rw[List.length_append,List.length_replicate,List.length_map]
theorem afe{s s4:Shared}{ts:List Str}(S:CSg X aB cl tt ts fr ix)(I:Inv X aA Z H s)
  (hf:∀b∈fp,FpOk X aA H b) (hb:∀b∈fp,b<s.heap.objs.size) (hC:s.heap.objs.size<=C)
  (k:∀b o,s.heap.get? b=some o->s4.heap.get? b=some o) (hn:s4.heap.Ns C m) (hcl:∀t,tt=some t->s4.heap.IsCell (C+1) none) (ho:s4.os=s.os) (hg:s4.gens=s.gens) :
  Inv (cxG X (ts++fr) aB cl tt C fp s H) [] (qi ts.length ix Z) H s4 where
 ok:=a9d S I hf hb hC
 os:=ho
 bare:=by rw[hg];exact I.bare
 base:=Un.kept k
 loc:=by
  refine⟨m,hn,λi x v e1 e2 e3=>?_⟩;have e1:(ts++fr)[i]? = some x:=e1
  by_cases hi:i<ts.length
  .unfold qi at e2;rw[List.getElem?_append_left (by simpa using hi),List.getElem?_replicate,if_pos hi]at e2
   cases e2
  .rw[List.getElem?_append_right (by omega)]at e1
   unfold qi at e2;rw[List.getElem?_append_right (by simpa using hi),List.length_replicate,List.getElem?_map]at e2
   obtain⟨nt,j,h1,h2,h3,h4⟩:=S.vis _ x e1;rw[h1]at e2;have e2':(Z[j]?).join=some v:=Option.some.inj e2;have e5:Z[j]? = some (some v):=by
    cases q:Z[j]? with
    |none=>rw[q]at e2';cases e2'
    |some o=>rw[q]at e2';simp at e2';rw[e2']
   obtain⟨m0,_,hl⟩:=I.loc;have vis:Vis X.env.scope x:=h3.elim (λz=>.inr (.inl z)) λz=>.inr (.inr z);obtain⟨u,ru,l⟩:=hl j x v h2 e5 vis;refine⟨u,ru,?_⟩
   rcases l with⟨z,_⟩|⟨_,c,hc,hcell⟩
   .rcases h3 with h3|h3<;>rw[h3]at z<;>cases z
   .rcases S.has x h4 with z|⟨c',hc'⟩
    .exact absurd z nt
    .have e6:c'=c:=Option.some.inj ((S.sub x c' hc').symm.trans hc);subst e6;obtain⟨o,ho,hd⟩:=hcell;exact .inr ⟨h4,c',afa nt hc',o,k _ _ ho,hd⟩
 cell:=λx c e=>by
  rcases look e with⟨z,rfl⟩|⟨_,e⟩
  .exact⟨_,hcl _ z⟩
  .obtain⟨v,o,ho,hd⟩:=I.cell x c (S.sub x c e);exact⟨v,o,k _ _ ho,hd⟩
 free:=I.hok.fresh hC
 freeC:=λx c e=>by
  rcases look e with⟨_,rfl⟩|⟨_,e⟩
  .exact I.hok.fresh (by omega)
  .exact I.freeC x c (S.sub x c e)
 pin:=λp hp=>absurd (show p∈([]:List (Addr×Obj)) from hp) (by simp)
 hok:=I.hok.kept k
 len:=by
  rw[adg];show _=(ts++fr).length;rw[List.length_append,S.len]
theorem Inv.unpinned'(I:Inv X aA Z H s):Inv X [] Z H s:=I.pins_of λ_ hp=>nomatch hp
theorem a70{Y:Cx}(I:Inv X aA Z H s)
  (hf:∀b∈fp,FpOk X aA H b) (hC:s.heap.objs.size<=C) (hacc:s.heap.objs.size<=acc)
  (q:Y.prog=X.prog/\Y.w=X.w/\Y.fs=frs X.stack/\Y.ex=fp/\Y.env.locals=C/\Y.s₀=s/\Y.H₀=H) (J:Inv Y [] Z' H' s') (hn:H' acc=none) (hob:ObjOk X.prog X.w (upd H' acc ho) h' acc ho) (sb:Heap.SameBut C s'.heap h') :
  Inv X aA Z (upd H' acc ho) {s' with heap:=h' }:=by
 have k:∀b o,b≠C->s'.heap.get? b=some o->h'.get? b=some o:=λb o hb e=>sb.extBut b o hb e;have old:∀b o,s.heap.get? b=some o->b≠C/\b≠acc:=λb o e=>⟨Nat.ne_of_lt (Nat.lt_of_lt_of_le (Heap.lt_size e) hC),Nat.ne_of_lt (Nat.lt_of_lt_of_le (Heap.lt_size e) hacc)⟩;obtain⟨q1,q2,q3,q4,q5,q6,q7⟩:=q;have u0:=J.base;rw[q3,q4,q6,q7]at u0;have fC:=J.free;rw[q5]at fC;have jh:=J.hok;rw[q1,q2]at jh;have u:Un (frs X.stack) fp H (upd H' acc ho) s.heap h':=by
  refine⟨λb o e n' hb hx=>k b o (old b o e).1 (u0.keep b o e n' hb hx),λb o e n' hb hx=>?_,λb o e n' hx=>?_,λb o e hx=>?_,λb xs e=>?_,λb o v e=>?_,λb ps e=>?_⟩
  .obtain⟨sl,e1⟩:=u0.slot b o e n' hb hx;exact⟨sl,k b _ (old b o e).1 e1⟩
  .rw[gf (old b o e).2];exact u0.free b o e n' hx
  .obtain⟨o',e1⟩:=u0.there b o e hx;exact⟨o',k b _ (old b o e).1 e1⟩
  .rw[gf (iu (u0.tups b xs e) hn)];exact u0.tups b xs e
  .rw[gf (iu (u0.frzs b o v e) hn)];exact u0.frzs b o v e
  .obtain⟨more,e1⟩:=u0.tbls b ps e;exact⟨more,by rw[gf (iu e1 hn)];exact e1⟩
 have hok:HOk X.prog X.w (upd H' acc ho) h':=λb o e=>by
  by_cases hb:b=acc
  .subst hb;rw[lw]at e;cases e
   exact hob
  .rw[gf hb]at e;refine(jh b o e).stay (λc v hc q=>k c v ?_ q) (λc q=>by rw[gf (iu q hn)];exact q) λc xs q=>by rw[gf (iu q hn)];exact q
   rcases hc with z|z
   .rw[z];exact iu e fC
   .exact iu z fC
 have J':=I.call (g':=s'.gens) (t':=s'.toks) (d':=s'.drawn) (ch:=fp) u hok J.bare λb hb=>⟨(hf b hb).2.2.2.1,(hf b hb).2.1,(hf b hb).2.2.2.2.1,(hf b hb).2.2.2.2.2⟩;have eo:=J.os;rw[q6]at eo;obtain⟨hp,g,d,t,o⟩:=s';have eo':o=s.os:=eo;subst eo';exact J'
theorem comp_back{its:List Value}(I:Inv X aA Z H s)
  (hf:∀b∈fp,FpOk X aA H b) (hC:s.heap.objs.size<=C) (hacc:s.heap.objs.size<=acc) (hCa:C≠acc)
  (J:Inv (cxC X N aB cl C fp s H) [] Z' H' s') (hn:H' acc=none) (ha:s'.heap.get? acc=some {cls:=.type "list",data:=.seq its.toArray n}) (rv:Vals ys its) (hz:ys.length<=sizeLine) (sb:Heap.SameBut C s'.heap h') :
  Inv X aA Z (upd H' acc (.lst ys)) {s' with heap:=h' } :=
 a70 (Y:=cxC X N aB cl C fp s H) I hf hC hacc ⟨rfl,rfl,rfl,rfl,rfl,rfl,rfl⟩ J hn ⟨hz,its,n,rv,sb.extBut _ _ (Ne.symm hCa) ha⟩ sb
theorem atl{Y:Cx}(ok:Y.Ok)(hp:Y.pn=[])(hn:H' b=none)(hb:b∈Y.ex):FpOk Y [] H' b :=
 ⟨hn,(ok.exf b hb).1,ok.exfs b hb,.inl hb,(ok.exf b hb).2,λp h=>by rw[hp]at h;exact absurd h (by simp)⟩
theorem alw{Y:Cx}(ok:Y.Ok)(hp:Y.pn=[])(hn:H' b=none)(hb:b=Y.s₀.heap.objs.size)(hl:b≠Y.env.locals)(hc:∀x c,Y.env.cells.lookup x=some c->c≠b):FpOk Y [] H' b :=
 ⟨hn,hl,λz=>by
  obtain⟨_,o,ho,_⟩:=ok.funs.mem z;exact Nat.lt_irrefl _ (Nat.lt_of_lt_of_le (Heap.lt_size ho) (Nat.le_of_eq hb.symm)),.inr (Nat.le_of_eq hb.symm),hc,λp h=>by rw[hp]at h;exact absurd h (by simp)⟩
theorem afg(I:Inv X aA Z H s)(e:X.env.cells.lookup x=some c):c≠s.heap.objs.size:=λz=>by
 obtain⟨v,o,ho,_⟩:=I.cell x c e;rw[z]at ho;exact Nat.lt_irrefl _ (Heap.lt_size ho)
def a4e(X:Cx)(aA:List (Addr×Obj))(Z:St)(use:Option (Value->Sem Unit))(Q:VK)(Qf:Value->Shared->Prop):Prop :=
 ∀(acc C:Addr) (s6:Shared) (H6:Hp) (m6:Str->Option Value),s6.heap.Ns C m6->FpOk X aA H6 C->(∀h',Heap.SameBut C s6.heap h'->Inv X aA Z H6 {s6 with heap:=h' })->Q (.ref acc) H6->
  compPost (model X.prog X.w) X.A X.xe use Qf (.ref acc) C (.ok .next) s6
theorem abv:a4e X aA Z none Q (EP X aA Z Q):=λacc C s6 H6 m6 hn _ k q=>⟨m6,hn,λh' sb=>⟨.ref acc,H6,k h' sb,rfl,q⟩⟩
theorem abw{D:Ends}(hN:X.N.Nodup)(hi:X.N[i]? = some x)(hx:Loc X.env.scope x)(hf:X.fn x=true\/X.env.scope.names.lookup x=some .local) :
  a4e X aA Z (some (assign (.Name x pos') X.env)) (λv H1=>a1w i v Z H1 D.nx) (λ_ s'=>SP X aA D .next s'):=by
 intro acc C s6 H6 m6 hn fp k q
 obtain⟨f1,f2,f3,f4,f5,f6⟩:=fp;have I6:Inv X aA Z H6 s6:=k s6.heap (Heap.SameBut.refl _ _);refine wpAny_assign_Name (a8u (v:=.ref acc) I6 hN hi hx rfl (λs' I' ⟨a,sb,ha⟩=>⟨m6,hn.sameBut sb ?_,λh' sb'=>⟨_,H6,I'.turned (t':=s'.toks) (it:=C) (λb o hb e=>sb'.extBut b o hb e) f1 f2 f4 f5 f6,q⟩⟩) hf)
 rcases ha with ha|ha
 .rw[ha];exact f2
 .exact λz=>f5 x a ha z.symm
theorem afh{Y:Cx}{cnd:Option Expr}{N it:Addr}{fp:List Addr}{tn:Nat->Heap->Prop}{J:It}{Z0:St}{H2:Hp}{s4:Shared}{W:Nat->Nat->List V->Hp->Prop}{Q:VK}(hc:Y.calm=true)(no:∀v s,Y.xe v s->False)(hp0:Y.pn=[])(T:Turn Y.prog Y.w Y.K tg J fp it tn)
  (stat:∀{H':Hp},(∀b∈fp,H' b=none)->∀b∈fp,FpOk Y [] H' b) (statA:∀{H':Hp},H' N=none->FpOk Y [] H' N) (accF:N∉fp) (hg:PG Y tg g) (he:PE Y aD te) (ht:PTO Y cnd tc)
  (turn:∀i m ys H,W i m ys H->(J.stop i H/\∀p,H p=none->Q (.ref p) (upd H p (.lst ys)))\/(J.go i H/\ys.length<sizeLine/\∀x H',J.yld i H x H'->g x Z0 H' λZ2 H2=>Ext Z0 Z2/\tc Z2 H2 λok H2'=>if ok=true then te Z2 H2' (λy H3=>∃m',m'<m/\W (i+1) m' (ys++[y]) H3) else ∃m',m'<m/\W (i+1) m' ys H2'))
  (w0:W 0 m0 [] H2) (K0:Inv Y [] Z0 H2 s4) (st4:tn 0 s4.heap) (f0:∀b∈fp,H2 b=none) (fa:H2 N=none) (hacc:s4.heap.get? N=some {cls:=.type "list",data:=.seq ([]:List Value).toArray 0})
  (fin:∀s6 H6 ys its k,Inv Y [(N,{cls:=.type "list",data:=.seq its.toArray k})] Z0 H6 s6->H6 N=none->Vals ys its->ys.length<=sizeLine->(∀p,H6 p=none->Q (.ref p) (upd H6 p (.lst ys)))->R (.ok .next) s6) :
  codeAny (model Y.prog Y.w) Y.A (.compLoop (.ListComp aD [⟨tg,aF,cnd.toList,0⟩] aB pos) 0 (.ref it) (.ref N) Y.env) R s4:=by
 refine afd no (λn s'=>∃i Z' H' ys its k,Inv Y [] Z' H' s'/\Ext Z0 Z'/\tn i s'.heap/\(∀b∈fp,H' b=none)/\H' N=none /\
  s'.heap.get? N=some {cls:=.type "list",data:=.seq its.toArray k}/\Vals ys its/\ys.length<=sizeLine/\W i n ys H') ?_ m0
  ⟨0,_,H2,[],[],0,K0,⟨rfl,λ_ _ z=>z⟩,st4,f0,fa,hacc,.nil,Nat.zero_le _,w0⟩
 rintro n s5 ⟨i,Z5,H5,ys,its,k5,I5,x5,st5,fr5,fa5,ac5,rv5,hz5,w5⟩
 have I5':Inv Y [] Z0 H5 s5:=I5.weak x5.1.symm x5.2;obtain⟨ob,hob⟩:∃ob:Obj,ob={cls:=.type "list",data:=.seq its.toArray k5}:=⟨_,rfl⟩;rw[<-hob]at ac5;have IP:Inv Y [(N,ob)] Z0 H5 s5:=I5'.pins_of λp hp=>by
  rw[List.mem_singleton.mp hp];obtain⟨a0,a1,a2,_⟩:=statA fa5;exact⟨ac5,a0,a1,a2,λv z=>by rw[hob]at z;cases z⟩
 have FB:∀b∈fp,FpOk Y [(N,ob)] H5 b:=λb hb=>by
  obtain⟨b0,b1,b2,b3,b4,b5⟩:=stat fr5 b hb;refine⟨b0,b1,b2,b3,b4,λp hp=>?_⟩;rw[hp0]at hp;rw[List.mem_singleton.mp hp];exact λz=>accF (by have z':N=b:=z;rw[z'];exact hb)
 rcases turn i n ys H5 w5 with⟨stop,qn⟩|⟨go,hlt,step⟩
 .refine thn (T.done Y rfl rfl rfl hc i [(N,ob)] s5 _ H5 _ IP FB st5 stop) ?_
  rintro r s6 ⟨hr,I6⟩
  subst hr;rw[hob]at I6;exact fin s6 H5 ys its k5 I6 fa5 rv5 hz5 qn
 .refine thn (T.item Y rfl rfl rfl hc i [(N,ob)] s5 _ H5 _ IP FB st5 go) ?_
  rintro r s6 ⟨u,hr,h6⟩
  subst hr;refine thn h6 ?_
  rintro _ s7 ⟨x,H7,I7,r7,y7,st7,fr7⟩
  obtain⟨ac7,fa7,_⟩:=I7.pin (N,ob) (by simp)
  have I7':Inv Y (xj (N::fp) s7.heap) Z0 H7 s7:=by
   show Inv Y ([]++xj (N::fp) s7.heap) _ _ _;refine Inv.pinned I7.unpinned' (λb hb=>?_) λb hb=>?_
   .rcases List.mem_cons.mp hb with e|e
    .subst e;exact statA fa7
    .exact stat fr7 b e
   .rcases List.mem_cons.mp hb with e|e
    .subst e;exact⟨_,ac7,λv z=>by rw[hob]at z;cases z⟩
    .exact T.obj _ _ st7 b e
  have keep:∀{Z':St} {H9:Hp} {s9:Shared} {ps:List (Addr×Obj)},Inv Y (xj (N::fp) s7.heap) Z' H9 s9->(s9.heap.get? N=some ob/\H9 N=none)/\∀b∈fp,(∀o,s7.heap.get? b=some o->s9.heap.get? b=some o)/\H9 b=none:=λI9=>by
   refine⟨?_,λb hb=>?_⟩
   .obtain⟨z1,z2,_⟩:=I9.pin (N,ob) (List.mem_append_right _ (jw List.mem_cons_self ac7));exact⟨z1,z2⟩
   .obtain⟨o,e,_⟩:=T.obj _ _ st7 b hb;obtain⟨z1,z2,_⟩:=I9.pin (b,o) (List.mem_append_right _ (jw (List.mem_cons_of_mem _ hb) e));exact⟨λo' e'=>by rw[e]at e';cases e';exact z1,z2⟩
  refine thn (hg _ s7 _ H7 x u _ I7' r7 (step x H7 y7)) ?_
  rintro _ s8 ⟨Z8,H8,I8,x8,q8⟩
  refine thn (ht _ s8 _ H8 _ I8 q8) ?_
  rintro ok s8' ⟨H8',I8',q8'⟩
  cases ok with
  |false =>
   rw[if_neg Bool.false_ne_true]at q8' ⊢;obtain⟨m',hm',w9⟩:=q8';obtain⟨⟨ac9,fa9⟩,k9⟩:=keep (ps:=[]) I8';exact⟨m',hm',i+1,Z8,H8',ys,its,k5,I8'.unpinned',x8,T.keep _ _ _ st7 λb hb o e=>(k9 b hb).1 o e,λb hb=>(k9 b hb).2,fa9,by rw[ac9,hob],rv5,hz5,w9⟩
  |true =>
   rw[if_pos rfl]at q8' ⊢;refine thn (he _ s8' _ H8' _ I8' q8') ?_
   rintro yv s9 ⟨y,H9,I9,r9,m',hm',w9⟩
   obtain⟨⟨ac9,fa9⟩,k9⟩:=keep (ps:=[]) I9;rw[hob]at ac9;have hl:=rv5.length;refine call_meets F.slot_list_append ⟨_,ac9,rfl⟩ F.entry_list_append (F.args_list_append_2 _ _) (PySem.list_append N its.toArray k5 yv (by rw[List.size_toArray];omega)) ⟨ac9,?_⟩
   have q:=PySem.IsL.update ac9 (λa=>a.push yv);have qo:∀b o,b≠N->s9.heap.get? b=some o->(s9.heap.update N (Obj.mapSeq (λa=>a.push yv))).get? b=some o:=λb o hb e=>(Heap.get?_update_other s9.heap _ (Ne.symm hb)).trans e;have q':∃k,(s9.heap.update N (Obj.mapSeq (λa=>a.push yv))).get? N=some {cls:=.type "list",data:=.seq (its++[yv]).toArray k}:=⟨_,by rw[q];simp;rfl⟩
   obtain⟨k9',q9⟩:=q';obtain⟨a0,a1,a2,a3,a4,a5⟩:=statA fa9;refine⟨m',hm',i+1,Z8,H9,ys++[y],its++[yv],k9',(I9.unpinned').turned qo a0 a1 a3 a4 a5,x8,T.keep _ _ _ st7 λb hb o e=>qo b o (λz=>accF (z ▸ hb)) ((k9 b hb).1 o e),λb hb=>(k9 b hb).2,fa9,q9,rv5.append (.cons r9 .nil),?_,w9⟩;rw[List.length_append,List.length_singleton];omega
theorem a71{aD tg aF:Expr}{cnd:Option Expr}{aB:Scope}{pos ppos:Pos}{cl:List (Str×Addr)}{tt:Option Str}{ts fr:List Str}{ix:List Nat}{wi:TI}{g:TG}{tc:TT}{te:TE}(hc:X.calm=true)(S:CSg X aB cl tt ts fr ix)(hi:PI X tg aF wi)
  (hg:∀C fp s H,PG (cxG X (ts++fr) aB cl tt C fp s H) tg g) (he:∀C fp s H,PE (cxG X (ts++fr) aB cl tt C fp s H) aD te) (ht:∀C fp s H,PTO (cxG X (ts++fr) aB cl tt C fp s H) cnd tc) (hs:∀x,foldedSetIterable aF X.env x=pure x)
  (use:Option (Value->Sem Unit)) {aA:List (Addr×Obj)} {s:Shared} {Z:St} {H:Hp} {Q:VK} {Qf:Value->Shared->Prop} (I:Inv X aA Z H s) (h:a65 wi (qi ts.length ix) g tc te Z H Q) (fin:a4e X aA Z use Q Qf) :
  wpAny (model X.prog X.w) X.A (comprehension (.ListComp aD [⟨tg,aF,cnd.toList,0⟩] aB pos) aB X.env ppos (newList []) false (eval aF X.env) use) Qf X.xe s:=by
 refine wpAny_comprehension_free (use:=use) rfl hs S.clos S.kind S.names (thn (hi aA s Z H _ I h) λv s1 h1=>thn h1 λitv s2 h2=>?_);obtain⟨it,fp,tn,J,H2,e,I2,T,st2,f2,W,⟨m0,w0⟩,turn⟩:=h2;subst e;have hob:∀b∈fp,b<s2.heap.objs.size:=λb hb=>let ⟨o,e,_⟩:=T.obj _ _ st2 b hb;Heap.lt_size e;refine wpAny_newObj_type (afb S.own S.push S.kind λh4 hns4 hc4 hsb4=>?_);dsimp only at hns4 hc4 hsb4 ⊢
 generalize hH2:s2.heap.push {cls:=.type "list",dict:=none,data:=.seq ([]:List Value).toArray}=G at hns4 hc4 hsb4 ⊢
 have hCs:G.objs.size=s2.heap.objs.size+1:=by rw[<-hH2,Heap.size_push]
 have hCle:s2.heap.objs.size<=G.objs.size:=by omega
 have hne:G.objs.size≠s2.heap.objs.size:=by omega
 have old:∀b o,s2.heap.get? b=some o->h4.get? b=some o:=λb o e=>by
  have hlt:=Heap.lt_size e;exact hsb4 b o (hH2 ▸ Heap.get?_push_of_some _ e)
 have hacc:h4.get? s2.heap.objs.size=some {cls:=.type "list",data:=.seq ([]:List Value).toArray 0} :=
  hsb4 _ _ (hH2 ▸ Heap.get?_push_size _ rfl)
 have K0:Inv (cxG X (ts++fr) aB cl tt G.objs.size fp s2 H2) [] (qi ts.length ix Z) H2 {s2 with heap:=h4} :=
  afe S I2 f2 hob hCle old hns4 hc4 rfl rfl
 have st4:tn 0 h4:=T.keep _ _ _ st2 λb _ o e=>old b o e;have accF:s2.heap.objs.size∉fp:=λz=>Nat.lt_irrefl _ (hob _ z);have stat:∀{H':Hp},(∀b∈fp,H' b=none)->∀b∈fp,FpOk (cxG X (ts++fr) aB cl tt G.objs.size fp s2 H2) [] H' b:=λhn b hb =>
  atl (a9d S I2 f2 hob hCle) rfl (hn b hb) hb
 have statA:∀{H':Hp},H' s2.heap.objs.size=none->FpOk (cxG X (ts++fr) aB cl tt G.objs.size fp s2 H2) [] H' s2.heap.objs.size:=λhn =>
  alw (a9d S I2 f2 hob hCle) rfl hn rfl (Ne.symm hne) λx c e=>by
   rcases look e with⟨_,rfl⟩|⟨_,e⟩
   .exact λz=>no3 z hCle
   .exact afg I2 (S.sub x c e)
 have loop:codeAny (model X.prog X.w) X.A (.compLoop (.ListComp aD [⟨tg,aF,cnd.toList,0⟩] aB pos) 0 (.ref it) (.ref s2.heap.objs.size) (compEnvC aB (alv tt (G.objs.size+1) cl) G.objs.size X.env))
   (compPost (model X.prog X.w) X.A X.xe use Qf (.ref s2.heap.objs.size) G.objs.size) {s2 with heap:=h4} :=
  afh (Y:=cxG X (ts++fr) aB cl tt G.objs.size fp s2 H2) hc (λ_ _ h=>h) rfl T stat statA accF (hg _ _ _ _) (he _ _ _ _) (ht _ _ _ _) turn w0 K0 st4 (λb hb=>(f2 b hb).1) (I2.hok.fresh (Nat.le_refl _)) hacc λs6 H6 ys its k I6 fa rv hz qn=>by
   have e6:=(I6.pin (s2.heap.objs.size,{cls:=.type "list",data:=.seq its.toArray k}) (by show _∈[]++[_];simp)).1
   obtain⟨m6,hn6,_⟩:=I6.loc;exact fin _ _ s6 _ m6 hn6 (I2.fpOk hCle (by rw[gf hne];exact I6.free)) (λh' sb=>a70 (Y:=cxG X (ts++fr) aB cl tt G.objs.size fp s2 H2) (ho:=.lst ys) I2 f2 hCle (Nat.le_refl _) ⟨rfl,rfl,rfl,rfl,rfl,rfl,rfl⟩ I6.unpinned' fa ⟨hz,its,k,rv,sb.extBut _ _ (Ne.symm hne) e6⟩ sb) (qn _ fa)
 exact codeAny_compStart_list loop (T.self _ 0 _ _ _ st4 loop)
theorem a9e(hc:X.calm=true)(S:CSc X aB cl ts fr ix)(hi:PI X tg aF wi)
  (hg:∀C fp s H,PG (cxC X (ts++fr) aB cl C fp s H) tg g) (he:∀C fp s H,PE (cxC X (ts++fr) aB cl C fp s H) aD te) (hs:∀x,foldedSetIterable aF X.env x=pure x)
  (use:Option (Value->Sem Unit)) (I:Inv X aA Z H s) (h:afc wi (qi ts.length ix) g te Z H Q) (fin:a4e X aA Z use Q Qf) :
  wpAny (model X.prog X.w) X.A (comprehension (.ListComp aD [⟨tg,aF,[],0⟩] aB pos) aB X.env ppos (newList []) false (eval aF X.env) use) Qf X.xe s:=by
 refine a71 (cnd:=none) (tc:=λZ H Q=>Q true H) hc S hi hg he (λ_ _ _ _ aA s Z H Q I h=>wpAny_pure ⟨H,I,h⟩) hs use I ?_ fin;unfold a65 aav;unfold afc ao7 at h;simpa only[if_true] using h
theorem aj7(hc:X.calm=true)(S:CSc X aB cl ts fr ix)(hi:PI X tg aF wi)
  (hg:∀C fp s H,PG (cxC X (ts++fr) aB cl C fp s H) tg g) (he:∀C fp s H,PE (cxC X (ts++fr) aB cl C fp s H) aD te)
  (hs:∀x,foldedSetIterable aF X.env x=pure x:=by intro _;rfl) :
  PE X (.ListComp aD [⟨tg,aF,[],0⟩] aB pos) (afc wi (qi ts.length ix) g te):=by
 intro aA s Z H Q I h
 rw[eval_ListComp];exact a9e hc S hi hg he hs none I h abv
theorem aj8{spos:Pos}(hN:X.N.Nodup)(hi':X.N[i]? = some x)(hx:Loc X.env.scope x)(hc:X.calm=true)(S:CSc X aB cl ts fr ix)(hi:PI X tg aF wi)
  (hg:∀C fp s H,PG (cxC X (ts++fr) aB cl C fp s H) tg g) (he:∀C fp s H,PE (cxC X (ts++fr) aB cl C fp s H) aD te)
  (hs:∀x,foldedSetIterable aF X.env x=pure x:=by intro _;rfl) (hsw:swapsWith (.ListComp aD [⟨tg,aF,[],0⟩] aB pos) (some (.Name x pos')) spos.line X.env=pure true:=by rfl) (hf:Hf X x:=by first|exact .inl rfl|exact .inr rfl|assumption) :
  PS X (.Assign [.Name x pos'] (.ListComp aD [⟨tg,aF,[],0⟩] aB pos) spos) (axt (afc wi (qi ts.length ix) g te) (a1w i)):=by
 intro aA s Z H D I h
 rw[exec_Assign_Name_used _ _ _ _ hsw];refine wpAny_bind (wpAny_standAt (wpAny_bind ?_));refine wpAny_bind (wpAny_mono (a9e hc S hi hg he hs (some (assign (.Name x pos') X.env)) I h (abw hN hi' hx hf)) (λ_ s' hq=>wpAny_pure (wpAny_pure hq)) λ_ _ e=>e)
end
end L2
namespace L2
theorem alx:bootBuiltins "len" = some (.builtin "len"):=PySem.boot_len
theorem a7q:bootBuiltins "isinstance" = some (.builtin "isinstance"):=by first|exact PySem.boot_isinstance|exact PyProof.Rows.boot_isinstance
theorem atn:bootBuiltins "str" = some (.type "str"):=by first|exact PySem.boot_str|exact PyProof.Rows.boot_str
theorem ato:bootBuiltins "all" = some (.builtin "all"):=by first|exact PySem.boot_all|exact PyProof.Rows.boot_all
theorem atp:bootBuiltins "abs" = some (.builtin "abs"):=by first|exact PySem.boot_abs|exact PyProof.Rows.boot_abs
theorem atq:bootBuiltins "int" = some (.type "int"):=by first|exact PySem.boot_int|exact PyProof.Rows.boot_int
theorem aaw:bootBuiltins "list" = some (.type "list"):=by first|exact PySem.boot_list|exact PyProof.Rows.boot_list
theorem abx:bootBuiltins "tuple" = some (.type "tuple"):=by first|exact PySem.boot_tuple|exact PyProof.Rows.boot_tuple
structure Dn (P:Program) (w:World) (K:Fg) (mg:Str->Option Value) (base:Heap) (k:Nat) (x:Str) (ps:List Str) (sp:Sp) (f:Addr) (fd:FuncData):Prop where
 ok:FnOk P w K mg base CX0 k f fd ps sp
 m:mg x=some (.ref f)
 kp:PySem.W.keepIn K (.ref f)=true
 b:Binds K fd ps []
theorem ao8:sizeLine=16777216:=sizeLine_eq
theorem ao9(h:n<=16777216):n<=sizeLine:=by rw[sizeLine_eq];exact h
theorem CSc.noFree{aB:Scope}(kind:aB.kind=.function)(h:∀y∈aB.names,y.2≠.cell/\y.2≠.free)(names:∀y∈aB.names,y.2=.local->aB.names.lookup y.1=some .local)
  (ht:∀y∈ts,aB.names.lookup y=some .local):CSc X aB [] ts [] []:=by
 have e:(relabel aB X.env).names=aB.names:=by
  show aB.names.map _=_;refine map_eq_self λy hy=>?_;obtain⟨n,k⟩:=y;have:(k == NameKind.free)=false:=by simpa using (h _ hy).2
  simp[this]
 refine⟨closureFor_none λy hy=>(h y hy).2,kind,λ_=>a7p λy hy=>(h y hy).1,λ_=>aau λy hy=>(h y hy).1,names,(λ_ _ z=>nomatch z),λy z=>?_,rfl,(λ_ _ z=>by simp at z)⟩
 rw[e]at z
 rcases z with z|z
 .exact absurd rfl (h _ (PySem.mem_of_lookup z)).1
 .exact absurd rfl (h _ (PySem.mem_of_lookup z)).2
theorem azc(x y:Str):(x++y).cps.toList=x.cps.toList++y.cps.toList:=by
 show(x.cps++y.cps).toList=_;simp
theorem a7r{α:Type}(xs:List α)(k:Nat):a4z xs none (some (k:Int))=xs.take k:=by
 unfold a4z;rw[HT.abp,HT.a7g,List.drop_zero,Nat.sub_zero]
 by_cases h:k<=xs.length
 .rw[Nat.min_eq_left h]
 .rw[Nat.min_eq_right (by omega),List.take_of_length_le (Nat.le_refl _),List.take_of_length_le (by omega)]
theorem a67{α:Type}(xs:List α)(k:Nat):a4z xs (some (k:Int)) none=xs.drop k:=by
 unfold a4z;rw[HT.abp,HT.a7g]
 by_cases h:k<=xs.length
 .rw[Nat.min_eq_left h,List.take_of_length_le (by rw[List.length_drop];omega)]
 .rw[Nat.min_eq_right (by omega),List.drop_eq_nil_of_le (Nat.le_refl _),List.drop_eq_nil_of_le (by omega),List.take_nil]
theorem aoa{α:Type}(xs:List α)(j k:Nat):a4z xs (some (j:Int)) (some (k:Int))=(xs.drop j).take (k-j):=by
 unfold a4z;rw[HT.a7g,HT.a7g]
 by_cases h:j<=xs.length
 .rw[Nat.min_eq_left h]
  by_cases h2:k<=xs.length
  .rw[Nat.min_eq_left h2]
  .rw[Nat.min_eq_right (by omega),List.take_of_length_le (by rw[List.length_drop];omega),List.take_of_length_le (by rw[List.length_drop];omega)]
 .rw[Nat.min_eq_right (show xs.length<=j by omega),List.drop_eq_nil_of_le (Nat.le_refl _),List.drop_eq_nil_of_le (by omega),List.take_nil,List.take_nil]
end L2
namespace L2
open PyProof.Rows
section
variable{X:Cx}
theorem aax(hc:X.calm=true)(S:CSc X aB cl ts fr ix)(hi:PI X tg aF wi)
  (hg:∀C fp s H,PG (cxC X (ts++fr) aB cl C fp s H) tg g) (he:∀C fp s H,PE (cxC X (ts++fr) aB cl C fp s H) aD te) (ht:∀C fp s H,PT (cxC X (ts++fr) aB cl C fp s H) cnd tc) (hs:∀x,foldedSetIterable aF X.env x=pure x)
  (use:Option (Value->Sem Unit)) (I:Inv X aA Z H s) (h:a65 wi (qi ts.length ix) g tc te Z H Q) (fin:a4e X aA Z use Q Qf) :
  wpAny (model X.prog X.w) X.A (comprehension (.ListComp aD [⟨tg,aF,[cnd],0⟩] aB pos) aB X.env ppos (newList []) false (eval aF X.env) use) Qf X.xe s :=
 a71 (cnd:=some cnd) hc S hi hg he ht hs use I h fin
theorem a72{spos:Pos}(hN:X.N.Nodup)(hi':X.N[i]? = some x)(hx:Loc X.env.scope x)(hc:X.calm=true)(S:CSc X aB cl ts fr ix)(hi:PI X tg aF wi)
  (hg:∀C fp s H,PG (cxC X (ts++fr) aB cl C fp s H) tg g) (he:∀C fp s H,PE (cxC X (ts++fr) aB cl C fp s H) aD te) (ht:∀C fp s H,PT (cxC X (ts++fr) aB cl C fp s H) cnd tc)
  (hs:∀x,foldedSetIterable aF X.env x=pure x:=by intro _;rfl) (hsw:swapsWith (.ListComp aD [⟨tg,aF,[cnd],0⟩] aB pos) (some (.Name x pos')) spos.line X.env=pure true:=by rfl) (hf:Hf X x:=by first|exact .inl rfl|exact .inr rfl|assumption) :
  PS X (.Assign [.Name x pos'] (.ListComp aD [⟨tg,aF,[cnd],0⟩] aB pos) spos) (axt (a65 wi (qi ts.length ix) g tc te) (a1w i)):=by
 intro aA s Z H D I h
 rw[exec_Assign_Name_used _ _ _ _ hsw];refine wpAny_bind (wpAny_standAt (wpAny_bind ?_));refine wpAny_bind (wpAny_mono (aax hc S hi hg he ht hs (some (assign (.Name x pos') X.env)) I h (abw hN hi' hx hf)) (λ_ s' hq=>wpAny_pure (wpAny_pure hq)) λ_ _ e=>e)
end
section
variable{X:Cx}
noncomputable def a3l(T:Str)(c:Nat):Int:=Txt.find T ⟨#[c]⟩
theorem aay(s sub:Str)(hi limit:Nat):∀(l:List Nat) (st:Array Nat×Nat) (k:Nat),k∈(forIn l st (StrLaws.occBody s sub hi limit)).run.fst.toList->k∈st.fst.toList\/(k+sub.length<=hi/\Builtin.Str.subAt s sub k=true)
 |[],st,k,h=>.inl h
 |a::l,st,k,h=>by
  rw[List.forIn_cons]at h;unfold StrLaws.occBody at h
  split at h
  .rename_i c
   rcases aay s sub hi limit l _ k h with z|z
   .simp at z
    rcases z with z|z
    .exact .inl (by simpa using z)
    .subst z;exact .inr ⟨c.1.2,c.2⟩
   .exact .inr z
  .rcases aay s sub hi limit l _ k h with z|z
   .exact .inl z
   .exact .inr z
theorem a7s{T:Str}(h:c∈T.cps.toList):∃i:Nat,a3l T c=(i:Int)/\T.cps.toList[i]? = some c/\∃aG,Builtin.Str.occurrences T ⟨#[c]⟩ 0 T.length 1=i::aG:=by
 have h1:=StrLaws.found_one T c;rw[decide_eq_true h]at h1
 cases ho:Builtin.Str.occurrences T ⟨#[c]⟩ 0 T.length 1 with
 |nil=>rw[ho]at h1;cases h1
 |cons i aG =>
  refine⟨i,by simp[a3l,Txt.find,ho],?_,aG,rfl⟩
  rw[StrLaws.occ_eq]at ho;have hm:=aay T ⟨#[c]⟩ T.length 1 (List.range' 0 (T.length+1-0)) (#[],0) i (by rw[ho];exact List.mem_cons_self)
  rcases hm with z|z
  .simp at z
  .exact(StrLaws.subAt_one T c i).mp z
theorem aob:OpR X (compareOp .In) (λx y H Q=>∃c T,x=.str ⟨#[c]⟩/\y=.str T/\Q (.bl (decide (c∈T.cps.toList))) H):=by
 intro aA s Z H x y v u Q I rx ry h
 obtain⟨c,T,rfl,rfl,q⟩:=h;exact aet aA s Z H _ _ v u Q I rx ry ⟨_,_,rfl,rfl,by rw[StrLaws.found_one];exact q⟩
theorem aoc:MtR X "str.find" (λx xs H Q=>∃T c,x=.str T/\xs=[.str ⟨#[c]⟩]/\Q (.int (a3l T c)) H):=by
 intro aA s Z H x xs v us Q I rx rs h
 obtain⟨T,c,rfl,rfl,q⟩:=h;obtain⟨t,rfl⟩:=rx;obtain⟨u,rfl,t',rfl⟩:=vals1 rs;exact call_meets F.slot_str_find (typeIs_str _ _ _) F.entry_str_find (F.args_str_find_2 _ _) (gives_str_find _ _ _ _).meets ⟨.int (a3l T c),H,I.tok _,⟨_,rfl⟩,q⟩
theorem aj9:MtR X "str.index" (λx xs H Q=>∃T c,x=.str T/\xs=[.str ⟨#[c]⟩]/\c∈T.cps.toList/\Q (.int (a3l T c)) H):=by
 intro aA s Z H x xs v us Q I rx rs h
 obtain⟨T,c,rfl,rfl,hc,q⟩:=h;obtain⟨t,rfl⟩:=rx;obtain⟨u,rfl,t',rfl⟩:=vals1 rs;obtain⟨i,e1,e2,aG,ho⟩:=a7s hc;refine call_meets F.slot_str_index (typeIs_str _ _ _) F.entry_str_index (F.args_str_index_2 _ _) (gives_str_index _ _ _ _ i aG ho).meets ⟨.int (a3l T c),H,I.tok _,⟨_,by rw[e1]⟩,q⟩
end
theorem CSc.of{X:Cx}{ts fr:List Str}{ix:List Nat}(clos:closureFor aB X.env=pure cl)(kind:aB.kind=.function)
  (nocell:(aB.names.all λp=>p.2 != .cell)=true) (names:(aB.names.all λp=>p.2 != .local || aB.names.lookup p.1 == some .local)=true) (sub:∀p∈cl,X.env.cells.lookup p.1=some p.2)
  (has:((relabel aB X.env).names.all λp => !(p.2 == .cell || p.2 == .free) || (cl.lookup p.1).isSome)=true) (nofn:(ts.all λy=>(relabel aB X.env).names.lookup y == some .local)=true)
  (len:ix.length=fr.length) (vis:((fr.zip ix).all λp=>X.N[p.2]? == some p.1 && (X.env.kindOf p.1 == some .cell || X.env.kindOf p.1 == some .free) && ((relabel aB X.env).names.lookup p.1 == some .cell || (relabel aB X.env).names.lookup p.1 == some .free))=true) :
  CSc X aB cl ts fr ix:=by
 have nc:∀y∈aB.names,y.2≠.cell:=λy hy=>by
  have:=List.all_eq_true.mp nocell y hy
  simpa using this
 refine⟨clos,kind,λ_=>a7p nc,λ_=>aau nc,λy hy e=>?_,λy c e=>sub _ (PySem.mem_of_lookup e),λy z=>.inr ?_,len,λj y e=>⟨nofun,?_⟩⟩
 .have:=List.all_eq_true.mp names y hy
  rw[e]at this;simpa using this
 .have key:∀k,(relabel aB X.env).names.lookup y=some k->(k == .cell || k == .free)=true->∃c,cl.lookup y=some c:=λk e hk=>by
   have:=List.all_eq_true.mp has _ (PySem.mem_of_lookup e)
   rw[hk]at this;exact Option.isSome_iff_exists.mp (by simpa using this)
  rcases z with z|z
  .exact key _ z rfl
  .exact key _ z rfl
 .obtain⟨hj,_⟩:=List.getElem?_eq_some_iff.mp e;have hj2:j<ix.length:=by omega
  have hm:(y,ix[j])∈fr.zip ix:=by
   rw[List.mem_iff_getElem?];exact⟨j,by rw[List.getElem?_zip_eq_some];exact⟨e,List.getElem?_eq_getElem hj2⟩⟩
  have:=List.all_eq_true.mp vis _ hm
  simp only[Bool.and_eq_true,Bool.or_eq_true,beq_iff_eq]at this;exact⟨ix[j],List.getElem?_eq_getElem hj2,this.1.1,this.1.2,this.2⟩
def tSM(r:V->List V->Hp->VK->Prop)(to:TE)(t:TA):TE:=λZ H Q=>to Z H λx H1=>(∃z,x=.str z)/\t Z H1 λxs H2=>r x xs H2 Q
theorem azd{X:Cx}{o e:Expr}{es:List Expr}{to:TE}{t:TA}{name:Str}{apos cpos:Pos}{id:String}{r:V->List V->Hp->VK->Prop}(slot:Slot "str" name id)(hty:typeOf (.builtin id)=pure (.type "method_descriptor"))(hm:MtR X id r)(ho:PE X o to)(ha:PA X (e::es) t)
  (hbase:attributeBase o name X.env (eval o X.env)=eval o X.env:=by rfl)
  (hfew:((backTo cpos (starEach (e::es) X.env)).all (λx => !x.1) && (backToKw cpos (keywordEach [] X.env)).all (λx=>x.1.isSome)
   && decide ((e::es).length+([]:List Keyword).length+(if ([]:List Keyword).isEmpty then 0 else 1)<30))=true:=by rfl)
  (hline:(apos.endLine == cpos.line)=true:=by rfl) (hs:starEach (e::es) X.env=(false,eval e X.env)::starEach es X.env:=by rfl) (hplain:(backTo cpos (starEach es X.env)).any (·.1)=false:=by rfl) :
  PE X (.Call (.Attribute o name apos) (e::es) [] cpos) (tSM r to t):=by
 intro aA s Z H Q I h
 refine wpAny_Call_method_late hbase hfew hline rfl (thn (ho aA s Z H _ I h) λv s1 ⟨x,H1,I1,r1,⟨z,hz⟩,q1⟩=>?_);subst hz;obtain⟨h1,h2⟩:=alq (T := "str") I1 r1 rfl;refine⟨"str",id,PySem.F.plainAttrs_str,slot,hty,h1,h2,?_⟩;have hA:=ha cpos aA s1 Z H1 _ I1 q1;rw[hs]at hA ⊢;refine Calls.callWith_builtin (by show(false || (backTo cpos (starEach es X.env)).any (·.1))=false;rw[hplain]<;>rfl) (Calls.evalArgs_plain ?_)
 exact thn hA λus s2 ⟨vs,H2,I2,r2,q2⟩=>hm aA s2 Z H2 _ vs v us Q I2 r1 r2 q2
open PySem.AutoSeq1 in
theorem a68(l b:Addr)(xs ys:Array Value)(n m:Nat)(dd:Option Addr)(sl:Array (Option Value))(long:¬(!xs.isEmpty && Builtin.List.listTooLong (xs.size+ys.size))=true)(fit1:xs.size<=sizeLine)(fit2:xs.size+ys.size<=sizeLine+1) :
  Meets (Builtin.«list.extend» ⟨[.ref l,.ref b],[]⟩) (λ_ R s=>(s.heap.get? l=some {cls:=.type "list",dict:=none,data:=.seq xs n,slots := #[]}/\s.heap.get? b=some {cls:=.type "tuple",dict:=dd,data:=.seq ys m,slots:=sl})/\R (.ok (.ret Value.none)) {s with heap:=s.heap.update l (Obj.mapSeq (·++ys))}) :=
 .of_wp λprog w A R ⟨hp,gn,dr,tk,os⟩ ⟨⟨hl,hb⟩,q⟩=>by
  have a1:=idx_int;have a2:=AutoSeq1.sub_tuple_tuple;have a3:=AutoSeq1.sub_list_list;have a4:=AutoSeq1.sub_tuple_list;have a5:=AutoSeq1.sub_list_tuple;have both:(xs++ys).size<=sizeLine+1:=by simpa using fit2
  wp_walk using wpAny_updateSeq hl rfl (hz:=fit1) (_hz':=both),wpAny_loadPart' hl,wpAny_loadPart' hb
  exact⟨_,rfl,q⟩
section
variable{X:Cx}
def aby(K:Fg):V->List V->Hp->VK->Prop:=λx vs H Q=>∃l b xs zs,x=.ref l/\vs=[.ref b]/\H l=some (.lst xs)/\SqT K H b zs/\xs.length+zs.length<=sizeLine/\Q .non (upd H l (.lst (xs++zs)))
theorem adh:MtM X "list.extend" (aby X.K):=by
 intro aA s Z H x vs v us Q I rx rv h
 obtain⟨l,b,xs,zs,rfl,rfl,hH,hB,hz,q⟩:=h;cases rx
 obtain⟨u,rfl,ru⟩:=rv.one;cases ru
 obtain⟨z,its,n,r,hl,e⟩:=I.lstM hH;obtain⟨its2,r2,p2,_⟩:=I.tuple hB;have hl2:=r2.length;obtain⟨⟨cls,dd,data,sl⟩,e2,hc,hrest⟩:=id p2;have hsz:its.toArray.size+its2.toArray.size<=sizeLine:=by rw[List.size_toArray,List.size_toArray];omega
 have hlong:¬ (!its.toArray.isEmpty && Builtin.List.listTooLong (its.toArray.size+its2.toArray.size))=true:=by
  rw[a7m hsz,Bool.and_false];exact Bool.false_ne_true
 obtain⟨n2,hd⟩:=(show ∃n2,data=.seq its2.toArray n2 from by first|exact hrest|exact⟨_,hrest.2⟩|(obtain⟨_,n,hd⟩:=hrest;exact⟨n,hd⟩))
 have hc':cls=.type "tuple":=hc;subst hc' hd;refine call_meets F.slot_list_extend ⟨_,e,rfl⟩ F.entry_list_extend (F.args_list_extend_2 _ _)
  (a68 l b its.toArray its2.toArray n n2 dd sl hlong (by rw[List.size_toArray];omega) (by omega)) ⟨⟨e,e2⟩,?_⟩
 refine⟨.non,_,I.lset (its':=its++its2) hH e (by simp) (r.append r2) ?_,rfl,q⟩
 rw[List.length_append];omega
end
end L2
namespace MI
open L2
inductive D where
 |non|bl (b:Bool)|int (i:Int)|str (x:Str)|ty (n:String)|tup (xs:List D)|rol (xs:List D)|ref (i:Nat)|scr (xs:List D)|rod (ks:List Key) (xs:List D)|rdT (ks:List (List Key)) (xs:List D)|exc (c:Str)|ins (c:Str) (ks:List Str) (xs:List D)
inductive O where
 |lst (xs:List D)|dK (kvs:List (Key×D))|dT (kvs:List (List Key×D))|ins (c:Str) (fs:List (Str×D))
abbrev Hd:=List O
abbrev Sd:=List (Option D)
inductive R (α:Type) where
 |ok (a:α) (h:Hd)|ex (c:Str) (h:Hd)|no
noncomputable def R.bind{α β:Type}:R α->(α->Hd->R β)->R β
 |.ok a h,k=>k a h
 |.ex c h,_=>.ex c h
 |.no,_=>.no
inductive Fl where
 |nx (Z:Sd) (h:Hd)|rt (d:D) (h:Hd)|bk (Z:Sd) (h:Hd)|ct (Z:Sd) (h:Hd)|ex (c:Str) (h:Hd)|no
noncomputable def R.fl{α:Type}:R α->(α->Hd->Fl)->Fl
 |.ok a h,k=>k a h
 |.ex c h,_=>.ex c h
 |.no,_=>.no
abbrev SE:=Sd->Hd->R D
abbrev ST:=Sd->Hd->R Bool
abbrev SA:=Sd->Hd->R (List D)
abbrev SS:=Sd->Hd->Fl
def SqF(K:Fg)(H:Hp)(a:Addr)(vs:List V):Prop:=(∃o,H a=some (.frz o (.lst vs)))\/SqL K (λ_=>none) a vs
theorem SqF.l(h:SqF K H a vs):SqL K H a vs:=by
 rcases h with⟨o,h⟩|h
 .exact .inl (.inr ⟨o,h⟩)
 .rcases h with(h|⟨o,h⟩)|h
  .cases h
  .cases h
  .exact .inr h
def SqZ(H:Hp)(a:Addr)(vs:List V):Prop:=∃o,H a=some (.frz o (.lst vs))
theorem SqZ.l(h:SqZ H a vs):SqL K H a vs:=let ⟨o,e⟩:=h; .inl (.inr ⟨o,e⟩)
noncomputable def exO(a:Addr):HO:=.ext λh=>∃o,h.get? a=some o
mutual
inductive Rep (K:Fg) (U:List Addr) (H:Hp):V->D->Prop
 |non:Rep K U H .non .non
 |bl (b:Bool):Rep K U H (.bl b) (.bl b)
 |int (i:Int):Rep K U H (.int i) (.int i)
 |str (x:Str):Rep K U H (.str x) (.str x)
 |ty (n:String):Rep K U H (.ty n) (.ty n)
 |tup {a:Addr} {vs:List V} {xs:List D} (h:H a=some (.tup vs)) (r:Reps K U H vs xs):Rep K U H (.ref a) (.tup xs)
 |rol {a:Addr} {vs:List V} {xs:List D} (h:SqZ H a vs) (r:Reps K U H vs xs):Rep K U H (.ref a) (.rol xs)
 |scr {a:Addr} {vs:List V} {xs:List D} (h:SqF K H a vs) (r:Reps K U H vs xs):Rep K U H (.ref a) (.scr xs)
 |ref {a:Addr} {i:Nat} (h:U[i]? = some a):Rep K U H (.ref a) (.ref i)
 |rod {a:Addr} {o:Obj} {us:List (Key×V)} {ks:List Key} {xs:List D} (h:H a=some (.frz o (.dK us))) (e:us.map (·.1)=ks) (r:Reps K U H (us.map (·.2)) xs):Rep K U H (.ref a) (.rod ks xs)
 |rdT {a:Addr} {o:Obj} {us:List (List Key×V)} {ks:List (List Key)} {xs:List D} (h:H a=some (.frz o (.dT us))) (e:us.map (·.1)=ks) (r:Reps K U H (us.map (·.2)) xs):Rep K U H (.ref a) (.rdT ks xs)
 |exc {a C:Addr} {o:Obj} {c:Str} (h:H a=some (.frz o (exO a))) (hc:o.cls=.ref C) (hn:PySem.W.nsIn K mainGlobals c=some (some (.ref C))):Rep K U H (.ref a) (.exc c)
 |ins {a C dx:Addr} {o:Obj} {c:Str} {us:List (Str×V)} {ks:List Str} {xs:List D} (h:H a=some (.frz o (.ins C dx us))) (hn:PySem.W.nsIn K mainGlobals c=some (some (.ref C))) (e:us.map (·.1)=ks) (r:Reps K U H (us.map (·.2)) xs):Rep K U H (.ref a) (.ins c ks xs)
inductive Reps (K:Fg) (U:List Addr) (H:Hp):List V->List D->Prop
 |nil:Reps K U H [] []
 |cons {v:V} {d:D} {vs:List V} {ds:List D} (r:Rep K U H v d) (rs:Reps K U H vs ds):Reps K U H (v::vs) (d::ds)
end
structure Gw (U:List Addr) (H:Hp) (U':List Addr) (H':Hp):Prop where
 pre:∃m,U'=U++m
 tup:∀a vs,H a=some (.tup vs)->H' a=some (.tup vs)
 frz:∀a o u,H a=some (.frz o u)->H' a=some (.frz o u)
structure Gr (U:List Addr) (H:Hp) (U':List Addr) (H':Hp):Prop where
 pre:∃m,U'=U++m/\∀a∈m,H a=none
 tup:∀a vs,H a=some (.tup vs)->H' a=some (.tup vs)
 frz:∀a o u,H a=some (.frz o u)->H' a=some (.frz o u)
 oth:∀a u,H a=some u->a∉U->H' a=some u
 kp:∀a u,H a=some u->∃u',H' a=some u'
theorem Gr.w(g:Gr U H U' H'):Gw U H U' H':=⟨let ⟨m,e,_⟩:=g.pre; ⟨m,e⟩,g.tup,g.frz⟩
theorem Gr.refl(U:List Addr)(H:Hp):Gr U H U H:=⟨⟨[],by simp,by simp⟩,λ_ _ h=>h,λ_ _ _ h=>h,λ_ _ h _=>h,λ_ u h=>⟨u,h⟩⟩
theorem Gr.trans(a:Gr U H U1 H1)(b:Gr U1 H1 U2 H2):Gr U H U2 H2:=by
 obtain⟨m,rfl,hm⟩:=a.pre;obtain⟨n,rfl,hn⟩:=b.pre;refine⟨⟨m++n,by simp,λx hx=>?_⟩,λx vs h=>b.tup x vs (a.tup x vs h),λx o u h=>b.frz x o u (a.frz x o u h),λx u h hx=>?_,λx u h=>?_⟩
 .rcases List.mem_append.mp hx with hx|hx
  .exact hm x hx
  .cases e:H x with
   |none=>rfl
   |some u =>
    obtain⟨u',e'⟩:=a.kp x u e;rw[hn x hx]at e';cases e'
 .refine b.oth x u (a.oth x u h hx) λz=>?_
  rcases List.mem_append.mp z with z|z
  .exact hx z
  .rw[hm x z]at h;cases h
 .obtain⟨u',e⟩:=a.kp x u h;exact b.kp x u' e
theorem Gw.at(g:Gw U H U' H'){i:Nat}(h:U[i]? = some a):U'[i]? = some a:=by
 obtain⟨m,rfl⟩:=g.pre;rw[List.getElem?_append_left (List.getElem?_eq_some_iff.mp h).1];exact h
theorem Gr.at(g:Gr U H U' H'){i:Nat}(h:U[i]? = some a):U'[i]? = some a:=g.w.at h
theorem SqF.monoW(g:Gw U H U' H')(h:SqF K H a vs):SqF K H' a vs:=by
 rcases h with⟨o,h⟩|h
 .exact .inl ⟨o,g.frz _ _ _ h⟩
 .exact .inr h
theorem SqZ.monoW(g:Gw U H U' H')(h:SqZ H a vs):SqZ H' a vs:=let ⟨o,e⟩:=h; ⟨o,g.frz _ _ _ e⟩
theorem SqZ.mono(g:Gr U H U' H')(h:SqZ H a vs):SqZ H' a vs:=h.monoW g.w
mutual
theorem Rep.monoW(g:Gw U H U' H'):∀{v:V} {d:D},Rep K U H v d->Rep K U' H' v d
 |_,_,.non=>.non
 |_,_,.bl b=>.bl b
 |_,_,.int i=>.int i
 |_,_,.str x=>.str x
 |_,_,.ty n=>.ty n
 |_,_,.tup h r=>.tup (g.tup _ _ h) (Reps.monoW g r)
 |_,_,.rol h r=>.rol (h.monoW g) (Reps.monoW g r)
 |_,_,.scr h r=>.scr (h.monoW g) (Reps.monoW g r)
 |_,_,.ref h=>.ref (g.at h)
 |_,_,.rod h e r=>.rod (g.frz _ _ _ h) e (Reps.monoW g r)
 |_,_,.rdT h e r=>.rdT (g.frz _ _ _ h) e (Reps.monoW g r)
 |_,_,.exc h hc hn=>.exc (g.frz _ _ _ h) hc hn
 |_,_,.ins h hn e r=>.ins (g.frz _ _ _ h) hn e (Reps.monoW g r)
theorem Reps.monoW(g:Gw U H U' H'):∀{vs:List V} {ds:List D},Reps K U H vs ds->Reps K U' H' vs ds
 |_,_,.nil=>.nil
 |_,_,.cons r rs=>.cons (Rep.monoW g r) (Reps.monoW g rs)
end
theorem Rep.mono(g:Gr U H U' H')(r:Rep K U H v d):Rep K U' H' v d:=r.monoW g.w
theorem Reps.mono(g:Gr U H U' H')(r:Reps K U H vs ds):Reps K U' H' vs ds:=r.monoW g.w
section
variable{K:Fg}{U:List Addr}{H:Hp}
theorem Reps.len:Reps K U H vs ds->vs.length=ds.length
 |.nil=>rfl
 |.cons _ rs=>by rw[List.length_cons,List.length_cons,rs.len]
theorem Reps.get:∀{vs:List V} {ds:List D} {i:Nat} {d:D},Reps K U H vs ds->ds[i]? = some d->∃v,vs[i]? = some v/\Rep K U H v d
 |_,_,_,_,.nil,e=>by simp at e
 |_,_,0,_,.cons r _,e=>by simp at e;subst e;exact⟨_,rfl,r⟩
 |_,_,i+1,d,.cons _ rs,e=>by
  obtain⟨u,h1,h2⟩:=Reps.get (i:=i) (d:=d) rs (by simpa using e)
  exact⟨u,by simpa using h1,h2⟩
theorem Reps.app:∀{vs us:List V} {ds es:List D},Reps K U H vs ds->Reps K U H us es->Reps K U H (vs++us) (ds++es)
 |_,_,_,_,.nil,s=>s
 |_,_,_,_,.cons r rs,s=>.cons r (Reps.app rs s)
theorem Reps.set(q:Rep K U H v d):∀{vs:List V} {ds:List D} (i:Nat),Reps K U H vs ds->Reps K U H (vs.set i v) (ds.set i d)
 |_,_,_,.nil=>.nil
 |_,_,0,.cons _ rs=>.cons q rs
 |_,_,i+1,.cons r rs=>.cons r (Reps.set q i rs)
theorem Reps.take:∀{vs:List V} {ds:List D} (n:Nat),Reps K U H vs ds->Reps K U H (vs.take n) (ds.take n)
 |_,_,0,_=>.nil
 |_,_,_+1,.nil=>.nil
 |_,_,n+1,.cons r rs=>.cons r (Reps.take n rs)
theorem Reps.drop:∀{vs:List V} {ds:List D} (n:Nat),Reps K U H vs ds->Reps K U H (vs.drop n) (ds.drop n)
 |_,_,0,r=>r
 |_,_,_+1,.nil=>.nil
 |_,_,n+1,.cons _ rs=>Reps.drop n rs
theorem Reps.erase:∀{vs:List V} {ds:List D} (n:Nat),Reps K U H vs ds->Reps K U H (vs.eraseIdx n) (ds.eraseIdx n)
 |_,_,_,.nil=>.nil
 |_,_,0,.cons _ rs=>rs
 |_,_,n+1,.cons r rs=>.cons r (Reps.erase n rs)
theorem Reps.snoc(r:Reps K U H vs ds)(q:Rep K U H v d):Reps K U H (vs++[v]) (ds++[d]):=r.app (.cons q .nil)
theorem Reps.flat:∀{vs:List V} {ds:List D} (k:Nat),Reps K U H vs ds->Reps K U H (List.replicate k vs).flatten (List.replicate k ds).flatten
 |_,_,0,_=>.nil
 |vs,ds,k+1,r=>by
  rw[List.replicate_succ,List.replicate_succ,List.flatten_cons,List.flatten_cons];exact r.app (Reps.flat k r)
end
def KRep{κ:Type}(K:Fg)(U:List Addr)(H:Hp)(us:List (κ×V))(kvs:List (κ×D)):Prop:=us.map (·.1)=kvs.map (·.1)/\Reps K U H (us.map (·.2)) (kvs.map (·.2))
def ORep(K:Fg)(U:List Addr)(H:Hp)(a:Addr):O->Prop
 |.lst xs=>∃vs,H a=some (.lst vs)/\Reps K U H vs xs
 |.dK kvs=>∃us,H a=some (.dK us)/\KRep K U H us kvs
 |.dT kvs=>∃us,H a=some (.dT us)/\KRep K U H us kvs
 |.ins c fs=>∃C dx us,H a=some (.ins C dx us)/\PySem.W.nsIn K mainGlobals c=some (some (.ref C))/\KRep K U H us fs
structure HRep (K:Fg) (U:List Addr) (H:Hp) (h:Hd):Prop where
 nd:U.Nodup
 len:U.length=h.length
 obj:∀(i:Nat) (a:Addr) (o:O),U[i]? = some a->h[i]? = some o->ORep K U H a o
section
variable{K:Fg}{U:List Addr}{H:Hp}{h:Hd}
theorem ORep.some(r:ORep K U H a o):∃u,H a=some u/\(∀vs,u≠.tup vs)/\(∀o' u',u≠.frz o' u'):=by
 cases o with
 |lst xs=>obtain⟨vs,e,_⟩:=r;exact⟨_,e,λ_ z=>(by cases z),λ_ _ z=>(by cases z)⟩
 |dK kvs=>obtain⟨us,e,_⟩:=r;exact⟨_,e,λ_ z=>(by cases z),λ_ _ z=>(by cases z)⟩
 |dT kvs=>obtain⟨us,e,_⟩:=r;exact⟨_,e,λ_ z=>(by cases z),λ_ _ z=>(by cases z)⟩
 |ins c fs=>obtain⟨C,dx,us,e,_⟩:=r;exact⟨_,e,λ_ z=>(by cases z),λ_ _ z=>(by cases z)⟩
theorem HRep.at(r:HRep K U H h){i:Nat}(e:U[i]? = some a):∃o,h[i]? = some o/\ORep K U H a o:=by
 have hi:i<h.length:=by rw[<-r.len];exact(List.getElem?_eq_some_iff.mp e).1
 exact⟨h[i],List.getElem?_eq_getElem hi,r.obj i a _ e (List.getElem?_eq_getElem hi)⟩
theorem HRep.addr(r:HRep K U H h){i:Nat}(e:h[i]? = some o):∃a,U[i]? = some a/\ORep K U H a o:=by
 have hi:i<U.length:=by rw[r.len];exact(List.getElem?_eq_some_iff.mp e).1
 exact⟨U[i],List.getElem?_eq_getElem hi,r.obj i _ o (List.getElem?_eq_getElem hi) e⟩
theorem HRep.notin(r:HRep K U H h)(e:H p=none):p∉U:=λz=>by
 obtain⟨i,hi⟩:=List.getElem?_of_mem z;obtain⟨o,_,q⟩:=r.at hi;obtain⟨u,q,_⟩:=q.some;rw[e]at q;cases q
theorem ORep.monoW(g:Gw U H U' H')(e:H' a=H a)(r:ORep K U H a o):ORep K U' H' a o:=by
 cases o with
 |lst xs=>obtain⟨vs,h1,h2⟩:=r;exact⟨vs,by rw[e];exact h1,h2.monoW g⟩
 |dK kvs=>obtain⟨us,h1,h2,h3⟩:=r;exact⟨us,by rw[e];exact h1,h2,h3.monoW g⟩
 |dT kvs=>obtain⟨us,h1,h2,h3⟩:=r;exact⟨us,by rw[e];exact h1,h2,h3.monoW g⟩
 |ins c fs=>obtain⟨C,dx,us,h1,hn,h2,h3⟩:=r;exact⟨C,dx,us,by rw[e];exact h1,hn,h2,h3.monoW g⟩
theorem ORep.mono(g:Gr U H U' H')(e:H' a=H a)(r:ORep K U H a o):ORep K U' H' a o:=r.monoW g.w e
theorem a0d(e:H p=none)(o:HO):Gr U H U (upd H p o) :=
 ⟨⟨[],by simp,by simp⟩,λa vs h=>by rw[gf (iu h e)];exact h,λa o u h=>by rw[gf (iu h e)];exact h,λa u h _=>by rw[gf (iu h e)];exact h,λa u h=>⟨u,by rw[gf (iu h e)];exact h⟩⟩
theorem HRep.aside(r:HRep K U H h)(e:H p=none)(o:HO):HRep K U (upd H p o) h:=by
 refine⟨r.nd,r.len,λi a o' e1 e2=>?_⟩;have q:=r.obj i a o' e1 e2;obtain⟨u,hu,_⟩:=q.some;exact q.mono (a0d e o) (gf (iu hu e))
theorem a9f(e:H p=none)(o:HO):Gr U H (U++[p]) (upd H p o) :=
 ⟨⟨[p],rfl,by simpa using e⟩,(a0d (U:=U) e o).tup,(a0d (U:=U) e o).frz,(a0d (U:=U) e o).oth,(a0d (U:=U) e o).kp⟩
theorem HRep.add(r:HRep K U H h)(e:H p=none)(q:ORep K (U++[p]) (upd H p o) p ob):HRep K (U++[p]) (upd H p o) (h++[ob]):=by
 refine⟨?_,by simp[r.len],λi a o' e1 e2=>?_⟩
 .rw[List.nodup_append];exact⟨r.nd,by simp,λa ha b hb z=>r.notin e (by rw[List.mem_singleton.mp hb]at z;rw[<-z];exact ha)⟩
 .by_cases hi:i<U.length
  .rw[List.getElem?_append_left hi]at e1;rw[List.getElem?_append_left (by rw[<-r.len];exact hi)]at e2
   have q:=r.obj i a o' e1 e2;obtain⟨u,hu,_⟩:=q.some;exact q.mono (a9f e o) (gf (iu hu e))
  .have hi2:i<(U++[p]).length:=(List.getElem?_eq_some_iff.mp e1).1;have:i=U.length:=by simp at hi2;omega
   subst this;rw[List.getElem?_append_right (Nat.le_refl _)]at e1;rw[r.len,List.getElem?_append_right (Nat.le_refl _)]at e2;simp at e1 e2;subst e1 e2;exact q
theorem a2v{i:Nat}(r:HRep K U H h)(e:U[i]? = some a)(o:HO):Gr U H U (upd H a o):=by
 obtain⟨_,_,q⟩:=r.at e;obtain⟨u,hu,n1,n2⟩:=q.some;refine⟨⟨[],by simp,by simp⟩,λb vs hb=>?_,λb o' u' hb=>?_,λb u' hb hn=>?_,λb u' hb=>?_⟩
 .rw[gf (λz=>by subst z;rw[hu]at hb;exact n1 _ (Option.some.inj hb))];exact hb
 .rw[gf (λz=>by subst z;rw[hu]at hb;exact n2 _ _ (Option.some.inj hb))];exact hb
 .rw[gf (λz=>hn (by subst z;exact List.mem_of_getElem? e))];exact hb
 .by_cases z:b=a
  .subst z;exact⟨o,lw⟩
  .exact⟨u',by rw[gf z];exact hb⟩
theorem HRep.put(r:HRep K U H h){i:Nat}(e:U[i]? = some a)(q:ORep K U (upd H a o) a ob):HRep K U (upd H a o) (h.set i ob):=by
 refine⟨r.nd,by rw[List.length_set];exact r.len,λj b o' e1 e2=>?_⟩
 by_cases hj:i=j
 .subst hj;rw[e]at e1;cases e1
  have hi:i<h.length:=by rw[<-r.len];exact(List.getElem?_eq_some_iff.mp e).1
  rw[List.getElem?_set_self hi]at e2;cases e2
  exact q
 .rw[List.getElem?_set_ne hj]at e2;have hne:b≠a:=λz=>by
   subst z;obtain⟨h1,g1⟩:=List.getElem?_eq_some_iff.mp e;obtain⟨h2,g2⟩:=List.getElem?_eq_some_iff.mp e1;have np:=List.pairwise_iff_getElem.mp r.nd
   rcases Nat.lt_or_gt_of_ne hj with l|l
   .exact np i j h1 h2 l (g1.trans g2.symm)
   .exact np j i h2 h1 l (g2.trans g1.symm)
  exact(r.obj j b o' e1 e2).mono (a2v r e o) (gf hne)
end
structure SRep (K:Fg) (U:List Addr) (H:Hp) (Z:St) (τ:Sd):Prop where
 len:Z.length=τ.length
 val:∀(i:Nat) (d:D),τ[i]? = some (some d)->∃v,Z[i]? = some (some v)/\Rep K U H v d
theorem SRep.mono(g:Gr U H U' H')(s:SRep K U H Z τ):SRep K U' H' Z τ :=
 ⟨s.len,λi d e=>let ⟨v,h1,h2⟩:=s.val i d e; ⟨v,h1,h2.mono g⟩⟩
theorem SRep.set(s:SRep K U H Z τ)(r:Rep K U H v d)(i:Nat):SRep K U H (Z.set i (some v)) (τ.set i (some d)):=by
 refine⟨by simp[s.len],λj d' e=>?_⟩
 by_cases hj:i=j
 .subst hj;have hi:i<τ.length:=by
   have:=(List.getElem?_eq_some_iff.mp e).1
   simpa using this
  rw[List.getElem?_set_self hi]at e;cases e
  exact⟨v,by rw[List.getElem?_set_self (by rw[s.len];exact hi)],r⟩
 .rw[List.getElem?_set_ne hj]at e ⊢;exact s.val j d' e
abbrev XD:=Str->List Addr->Hp->Hd->Prop
def out{α β:Type}(K:Fg)(E:XD)(Rp:List Addr->Hp->β->α->Prop)(U:List Addr)(H:Hp)(r:R α)(Q:β->Hp->Prop):Prop :=
 match r with
 |.ok a h=>∀U' H' b,Gr U H U' H'->Rp U' H' b a->HRep K U' H' h->Q b H'
 |.ex c h=>∀U' H',Gr U H U' H'->HRep K U' H' h->E c U' H' h
 |.no=>False
theorem a0e{α β:Type}{K:Fg}{E:XD}{Rp:List Addr->Hp->β->α->Prop}{U U1:List Addr}{H H1:Hp}{r:R α}{Q:β->Hp->Prop}(o:out K E Rp U H r Q)(g:Gr U H U1 H1):out K E Rp U1 H1 r Q:=by
 cases r with
 |ok a h=>exact λU' H' b g'=>o U' H' b (g.trans g')
 |ex c h=>exact λU' H' g'=>o U' H' (g.trans g')
 |no=>exact o
theorem bw{α β γ δ:Type}{K:Fg}{E:XD}{Rp:List Addr->Hp->β->α->Prop}{Sp:List Addr->Hp->δ->γ->Prop}{U:List Addr}{H:Hp}{r:R α}{k:α->Hd->R γ}{Q:δ->Hp->Prop}{P:β->Hp->Prop}
  (o:out K E Sp U H (r.bind k) Q) (hP:∀a h U1 H1 b,Gr U H U1 H1->Rp U1 H1 b a->HRep K U1 H1 h->out K E Sp U1 H1 (k a h) Q->P b H1):out K E Rp U H r P:=by
 cases r with
 |ok a h=>exact λU' H' b g r' hr=>hP a h U' H' b g r' hr (a0e o g)
 |ex c h=>exact o
 |no=>exact o
abbrev xm(K:Fg):List Addr->Hp->V->D->Prop:=λU H v d=>Rep K U H v d
abbrev b24(K:Fg):List Addr->Hp->List V->List D->Prop:=λU H v d=>Reps K U H v d
abbrev aec:List Addr->Hp->Bool->Bool->Prop:=λ_ _ a b=>a=b
abbrev b25:List Addr->Hp->Option Int->Option Int->Prop:=λ_ _ a b=>a=b
def aig(K:Fg)(E:XD)(U:List Addr)(H:Hp)(r:Fl)(N:Ends):Prop :=
 match r with
 |.nx τ h=>∀U' H' Z,Gr U H U' H'->SRep K U' H' Z τ->HRep K U' H' h->N.nx Z H'
 |.bk τ h=>∀U' H' Z,Gr U H U' H'->SRep K U' H' Z τ->HRep K U' H' h->N.bk Z H'
 |.ct τ h=>∀U' H' Z,Gr U H U' H'->SRep K U' H' Z τ->HRep K U' H' h->N.ct Z H'
 |.rt d h=>∀U' H' v,Gr U H U' H'->Rep K U' H' v d->HRep K U' H' h->N.rt v H'
 |.ex c h=>∀U' H',Gr U H U' H'->HRep K U' H' h->E c U' H' h
 |.no=>False
theorem vm(o:aig K E U H r N)(g:Gr U H U1 H1):aig K E U1 H1 r N:=by
 cases r with
 |nx τ h=>exact λU' H' b g'=>o U' H' b (g.trans g')
 |bk τ h=>exact λU' H' b g'=>o U' H' b (g.trans g')
 |ct τ h=>exact λU' H' b g'=>o U' H' b (g.trans g')
 |rt d h=>exact λU' H' b g'=>o U' H' b (g.trans g')
 |ex c h=>exact λU' H' g'=>o U' H' (g.trans g')
 |no=>exact o
theorem uf{α β:Type}{K:Fg}{E:XD}{Rp:List Addr->Hp->β->α->Prop}{U:List Addr}{H:Hp}{r:R α}{k:α->Hd->Fl}{N:Ends}{P:β->Hp->Prop}
  (o:aig K E U H (r.fl k) N) (hP:∀a h U1 H1 b,Gr U H U1 H1->Rp U1 H1 b a->HRep K U1 H1 h->aig K E U1 H1 (k a h) N->P b H1):out K E Rp U H r P:=by
 cases r with
 |ok a h=>exact λU' H' b g r' hr=>hP a h U' H' b g r' hr (vm o g)
 |ex c h=>exact o
 |no=>exact o
def lift{α β:Type}(K:Fg)(E:XD)(Rp:List Addr->Hp->β->α->Prop)(f:Sd->Hd->R α):St->Hp->(β->Hp->Prop)->Prop:=λZ H Q =>
 ∃U τ h,SRep K U H Z τ/\HRep K U H h/\out K E Rp U H (f τ h) Q
noncomputable def a7t(K:Fg)(E:XD)(f:SS):TS:=λN Z H=>∃U τ h,SRep K U H Z τ/\HRep K U H h/\aig K E U H (f τ h) N
abbrev ME(X:Cx)(E:XD)(e:Expr)(f:SE):Prop:=PE X e (lift X.K E (xm X.K) f)
abbrev MT(X:Cx)(E:XD)(e:Expr)(f:ST):Prop:=PT X e (lift X.K E aec f)
abbrev MW(X:Cx)(E:XD)(e:Expr)(f:ST):Prop:=PW X e (lift X.K E aec f)
abbrev MA(X:Cx)(E:XD)(es:List Expr)(f:SA):Prop:=PA X es (lift X.K E (b24 X.K) f)
abbrev MS(X:Cx)(E:XD)(st:Stmt)(f:SS):Prop:=PS X st (a7t X.K E f)
abbrev MSs(X:Cx)(E:XD)(st:List Stmt)(f:SS):Prop:=PSs X st (a7t X.K E f)
theorem PE.weak(h:PE X e t)(i:∀Z H Q,t' Z H Q->t Z H Q):PE X e t':=λaA s Z H Q I q=>h aA s Z H Q I (i _ _ _ q)
theorem PT.weak(h:PT X e t)(i:∀Z H Q,t' Z H Q->t Z H Q):PT X e t':=λaA s Z H Q I q=>h aA s Z H Q I (i _ _ _ q)
theorem PW.weak(h:PW X e t)(i:∀Z H Q,t' Z H Q->t Z H Q):PW X e t':=λwh aA s Z H Q I q=>h wh aA s Z H Q I (i _ _ _ q)
theorem PA.weak(h:PA X e t)(i:∀Z H Q,t' Z H Q->t Z H Q):PA X e t':=λpos aA s Z H Q I q=>h pos aA s Z H Q I (i _ _ _ q)
theorem PS.weak(h:PS X e t)(i:∀N Z H,t' N Z H->t N Z H):PS X e t':=λaA s Z H N I q=>h aA s Z H N I (i _ _ _ q)
theorem PSs.weak(h:PSs X e t)(i:∀N Z H,t' N Z H->t N Z H):PSs X e t':=λaA s Z H N I q=>h aA s Z H N I (i _ _ _ q)
abbrev LINE:Nat:=16777216
theorem ll{n:Nat}(h:n<=LINE):n<=sizeLine:=ao9 h
noncomputable def sV(i:Nat):SE:=λτ h=>match τ[i]? with|some (some d)=>.ok d h|_=>.no
noncomputable def sC(d:D):SE:=λ_ h=>.ok d h
noncomputable abbrev sI(i:Int):SE:=sC (.int i)
section
variable{X:Cx}{E:XD}{a b c e:Expr}{fa fb fc:SE}{pos:Pos}
theorem b26(i:Nat)(hN:X.N[i]? = some x:=by rfl)(hv:Vis X.env.scope x:=by with_unfolding_all first|exact Or.inl rfl|exact Or.inr (Or.inl rfl)|exact Or.inr (Or.inr rfl))(hd:(x == ("__debug__" : Str))=false:=by decide)
  (hcd:(x == ("__classdict__" : Str))=false:=by decide):ME X E (.Name x pos) (sV i):=by
 refine PE.weak (arv hN hv hd hcd) ?_
 rintro Z H Q ⟨U,τ,h,S,Rh,o⟩
 unfold sV at o
 split at o
 .rename_i d e;obtain⟨v,h1,h2⟩:=S.val i d e;exact⟨v,h1,o U H v (.refl _ _) h2 Rh⟩
 .exact o.elim
theorem atr(h:PE X e (tC v))(r:∀U H,Rep X.K U H v d):ME X E e (sC d) :=
 PE.weak h λZ H Q ⟨U,τ,h,S,Rh,o⟩=>o U H v (.refl _ _) (r U H) Rh
theorem atu{i j pos}:ME X E (.Constant (.int i) j pos) (sC (.int i)):=atr arw λ_ _=>.int i
theorem aze{i j pos}:ME X E (.Constant (.bool i) j pos) (sC (.bl i)):=atr ayd λ_ _=>.bl i
theorem atv{i j pos}:ME X E (.Constant (.str i) j pos) (sC (.str i)):=atr arz λ_ _=>.str i
theorem atw{j pos}:ME X E (.Constant .none j pos) (sC .non):=atr arx λ_ _=>.non
theorem aja(hg:Gl X x)(hm:X.mg x=none)(hv:bootBuiltins x=some (.type n))(hn:x ≠ "__name__":=by decide)(hd:(x == ("__debug__" : Str))=false:=by decide):ME X E (.Name x pos) (sC (.ty n)) :=
 atr (anc (v:=.ty n) hg hm hv rfl hn hd) λ_ _=>.ty n
noncomputable def s2(g:D->D->Hd->R D)(fa fb:SE):SE:=λτ h=>(fa τ h).bind λx h1=>(fb τ h1).bind λy h2=>g x y h2
noncomputable def s1(g:D->Hd->R D)(fa:SE):SE:=λτ h=>(fa τ h).bind g
def a2g(K:Fg)(g:D->D->Hd->R D)(r:R2):Prop:=∀(E:XD) U H h x y dx dy Q,Rep K U H x dx->Rep K U H y dy->HRep K U H h->out K E (xm K) U H (g dx dy h) Q->r x y H Q
def b27(K:Fg)(g:D->Hd->R D)(r:V->Hp->VK->Prop):Prop:=∀(E:XD) U H h x dx Q,Rep K U H x dx->HRep K U H h->out K E (xm K) U H (g dx h) Q->r x H Q
def adi(K:Fg)(g:List D->Hd->R D)(r:List V->Hp->VK->Prop):Prop:=∀(E:XD) U H h xs ds Q,Reps K U H xs ds->HRep K U H h->out K E (xm K) U H (g ds h) Q->r xs H Q
theorem axw(hs:a2g K g r)(q:lift K E (xm K) (s2 g fa fb) Z H Q):tOp r (lift K E (xm K) fa) (lift K E (xm K) fb) Z H Q:=by
 obtain⟨U,τ,h,S,Rh,o⟩:=q;refine⟨U,τ,h,S,Rh,bw o λd h1 U1 H1 v g1 r1 hr1 o1=>?_⟩;refine⟨U1,τ,h1,S.mono g1,hr1,bw o1 λd2 h2 U2 H2 u g2 r2 hr2 o2=>?_⟩;exact hs E U2 H2 h2 v u d d2 Q (r1.mono g2) r2 hr2 o2
theorem adk(ho:OpR X (binaryOp op) r)(hs:a2g X.K g r)(ha:ME X E a fa)(hb:ME X E b fb):ME X E (.BinOp a op b pos) (s2 g fa fb) :=
 PE.weak (ayq ho ha hb) λZ H Q q=>axw hs q
theorem aaz(ho:OpR X (compareOp op) r)(hs:a2g X.K g r)(ha:ME X E a fa)(hb:ME X E b fb)(hm:behindInMarks op b=false):ME X E (.Compare a [op] [b] pos) (s2 g fa fb) :=
 PE.weak (anm ho ha hb hm) λZ H Q q=>axw hs q
theorem azf(ho:UnR X (unaryOp op) r)(hs:b27 X.K g r)(ha:ME X E a fa):ME X E (.UnaryOp op a pos) (s1 g fa):=by
 refine PE.weak (ayr ho ha) ?_
 rintro Z H Q ⟨U,τ,h,S,Rh,o⟩
 exact⟨U,τ,h,S,Rh,bw o λd h1 U1 H1 v g1 r1 hr1 o1=>hs E U1 H1 h1 v d Q r1 hr1 o1⟩
theorem azg(ho:IxR X r)(hs:a2g X.K g r)(ha:ME X E a fa)(hb:ME X E b fb)(hp:a7i b):ME X E (.Subscript a b pos) (s2 g fa fb) :=
 PE.weak (az1 ho ha hb hp) λZ H Q q=>axw hs q
noncomputable def asB(d:D)(h:Hd):R Bool:=match d with|.bl b=>.ok b h|_=>.no
noncomputable def sT(f:SE):ST:=λτ h=>(f τ h).bind asB
theorem aod(hi:∀Z H Q,lift K E (xm K) f Z H Q->t Z H Q)(q:lift K E aec (sT f) Z H Q):ass t Z H Q:=by
 refine hi Z H _ ?_;obtain⟨U,τ,h,S,Rh,o⟩:=q;refine⟨U,τ,h,S,Rh,bw o λd h1 U1 H1 v g1 r1 hr1 o1=>?_⟩
 cases r1 with
 |bl b=>exact⟨b,rfl,o1 U1 H1 b (.refl _ _) rfl hr1⟩
 |_=>exact o1.elim
theorem a7u(ho:OpR X (compareOp op) r)(hs:a2g X.K g r)(ha:ME X E a fa)(hb:ME X E b fb)(hm:behindInMarks op b=false):MT X E (.Compare a [op] [b] pos) (sT (s2 g fa fb)) :=
 PT.weak (ano ho ha hb hm) λZ H Q q=>aod (λ_ _ _=>axw hs) q
noncomputable def sCh(g g':D->D->Hd->R D)(fa fb fc:SE):SE:=λτ h=>(fa τ h).bind λx h1=>(fb τ h1).bind λy h2=>(g x y h2).bind λz h3=>match z with
 |.bl true=>(fc τ h3).bind λw h4=>g' y w h4
 |.bl false=>.ok (.bl false) h3
 |_=>.no
theorem atx(hs:a2g K g r)(hs':a2g K g' r')(q:lift K E (xm K) (sCh g g' fa fb fc) Z H Q) :
  alm r r' (lift K E (xm K) fa) (lift K E (xm K) fb) (lift K E (xm K) fc) Z H Q:=by
 obtain⟨U,τ,h,S,Rh,o⟩:=q;refine⟨U,τ,h,S,Rh,bw o λd h1 U1 H1 v g1 r1 hr1 o1=>?_⟩;refine⟨U1,τ,h1,S.mono g1,hr1,bw o1 λd2 h2 U2 H2 u g2 r2 hr2 o2=>?_⟩;refine hs E U2 H2 h2 v u d d2 _ (r1.mono g2) r2 hr2 (bw o2 λd3 h3 U3 H3 z g3 r3 hr3 o3=>?_)
 cases r3 with
 |bl k =>
  refine⟨k,rfl,?_⟩
  cases k with
  |true =>
   rw[if_pos rfl];refine⟨U3,τ,h3,((S.mono g1).mono g2).mono g3,hr3,bw o3 λd4 h4 U4 H4 w g4 r4 hr4 o4=>?_⟩;exact hs' E U4 H4 h4 u w d2 d4 Q ((r2.mono g3).mono g4) r4 hr4 o4
  |false =>
   rw[if_neg Bool.false_ne_true];exact o3 U3 H3 (.bl false) (.refl _ _) (.bl false) hr3
 |_=>exact o3.elim
theorem ajb(ho:OpR X (compareOp op) r)(ho':OpR X (compareOp op') r')(hs:a2g X.K g r)(hs':a2g X.K g' r')(ha:ME X E a fa)(hb:ME X E b fb)(hc:ME X E c fc)
  (hm:lastMarks [op,op'] [b,c]=false:=by with_unfolding_all rfl):ME X E (.Compare a [op,op'] [b,c] pos) (sCh g g' fa fb fc) :=
 PE.weak (ais ho ho' ha hb hc hm) λZ H Q q=>atx hs hs' q
noncomputable def tru(d:D)(h:Hd):R Bool:=match d with
 |.non=>.ok false h
 |.bl b=>.ok b h
 |.int i=>.ok (i != 0) h
 |.str x=>if x.length<=LINE then .ok ((x.length:Int) != 0) h else .no
 |.tup xs=>.ok (!xs.isEmpty) h
 |.rol xs=>.ok (!xs.isEmpty) h
 |.ref i=>match h[i]? with
  |some (.lst xs)=>.ok (!xs.isEmpty) h
  |some (.dK kvs)=>.ok (!kvs.isEmpty) h
  |_=>.no
 |_=>.no
theorem Reps.emp{K:Fg}{U:List Addr}{H:Hp}{vs:List V}{ds:List D}(r:Reps K U H vs ds):vs.isEmpty=ds.isEmpty:=by cases r<;>rfl
theorem KRep.emp{κ:Type}{K:Fg}{U:List Addr}{H:Hp}{us:List (κ×V)}{kvs:List (κ×D)}(r:KRep K U H us kvs):us.isEmpty=kvs.isEmpty:=by
 have:=congrArg List.length r.1
 cases us<;>cases kvs<;>simp at this ⊢
theorem aoe{K:Fg}{U:List Addr}{H:Hp}{h:Hd}{x:V}{d:D}{Q:Bool->Hp->Prop}(r:Rep K U H x d)(hr:HRep K U H h)(o:out K E aec U H (tru d h) Q):∃k,ayw K x H k/\Q k H:=by
 cases r with
 |non=>exact⟨false,rfl,o U H _ (.refl _ _) rfl hr⟩
 |bl b=>exact⟨b,rfl,o U H _ (.refl _ _) rfl hr⟩
 |int i=>exact⟨_,rfl,o U H _ (.refl _ _) rfl hr⟩
 |str x =>
  by_cases hl:x.length<=LINE
  .simp only[tru,if_pos hl]at o;exact⟨_,⟨ll hl,rfl⟩,o U H _ (.refl _ _) rfl hr⟩
  .simp only[tru,if_neg hl]at o;exact o.elim
 |ty n=>exact o.elim
 |rod _ _ _=>exact o.elim
 |scr _ _=>exact o.elim
 |rdT _ _ _=>exact o.elim
 |exc _ _ _=>exact o.elim
 |ins _ _ _ _=>exact o.elim
 |tup e rs=>exact⟨_,.inr (.inl ⟨_,SqT.of e,rfl⟩),by rw[rs.emp];exact o U H _ (.refl _ _) rfl hr⟩
 |rol e rs=>exact⟨_,.inl ⟨_,e.l,rfl⟩,by rw[rs.emp];exact o U H _ (.refl _ _) rfl hr⟩
 |@ref a i e =>
  obtain⟨ob,h1,h2⟩:=hr.at e;simp only[tru,h1]at o
  cases ob with
  |lst xs =>
   obtain⟨vs,h3,h4⟩:=h2;exact⟨_,.inl ⟨_,SqL.of h3,rfl⟩,by rw[h4.emp];exact o U H _ (.refl _ _) rfl hr⟩
  |dK kvs =>
   obtain⟨us,h3,h4⟩:=h2;exact⟨_,.inr (.inr ⟨_,h3,rfl⟩),by rw[h4.emp];exact o U H _ (.refl _ _) rfl hr⟩
  |dT kvs=>exact o.elim
  |ins _ _=>exact o.elim
noncomputable def a2h(f:SE):ST:=λτ h=>(f τ h).bind tru
theorem aty(ha:ME X E a fa)(he:∀whole,isTrue a X.env whole=(do let v <-whole;standAt a.pos;holding [v] (truthy v)):=by intro _;rfl):MT X E a (a2h fa):=by
 refine PT.weak (ait ha he) ?_
 rintro Z H Q ⟨U,τ,h,S,Rh,o⟩
 exact⟨U,τ,h,S,Rh,bw o λd h1 U1 H1 v g1 r1 hr1 o1=>aoe r1 hr1 o1⟩
noncomputable def adl(f g:ST):ST:=λτ h=>(f τ h).bind λb h1=>if b=true then g τ h1 else .ok false h1
noncomputable def sOr(f g:ST):ST:=λτ h=>(f τ h).bind λb h1=>if b=true then .ok true h1 else g τ h1
noncomputable def a3c(f:ST):ST:=λτ h=>(f τ h).bind λb h1=>.ok (!b) h1
variable{ga gb:ST}
theorem aog(ha:MT X E a ga):MW X E (.BoolOp .And [a] pos) ga:=ane ha
theorem atz(ha:MT X E a ga):MW X E (.BoolOp .Or [a] pos) ga:=as3 ha
theorem au0{aG:List Expr}(ha:MT X E a ga)(hb:MW X E (.BoolOp .And (b::aG) pos) gb):MW X E (.BoolOp .And (a::b::aG) pos) (adl ga gb):=by
 refine PW.weak (as4 ha hb) ?_
 rintro Z H Q ⟨U,τ,h,S,Rh,o⟩
 refine⟨U,τ,h,S,Rh,bw o λd h1 U1 H1 v g1 r1 hr1 o1=>?_⟩;cases r1
 cases d with
 |true=>exact⟨U1,τ,h1,S.mono g1,hr1,o1⟩
 |false=>exact o1 U1 H1 false (.refl _ _) rfl hr1
theorem azh{aG:List Expr}(ha:MT X E a ga)(hb:MW X E (.BoolOp .Or (b::aG) pos) gb):MW X E (.BoolOp .Or (a::b::aG) pos) (sOr ga gb):=by
 refine PW.weak (aye ha hb) ?_
 rintro Z H Q ⟨U,τ,h,S,Rh,o⟩
 refine⟨U,τ,h,S,Rh,bw o λd h1 U1 H1 v g1 r1 hr1 o1=>?_⟩;cases r1
 cases d with
 |true=>exact o1 U1 H1 true (.refl _ _) rfl hr1
 |false=>exact⟨U1,τ,h1,S.mono g1,hr1,o1⟩
theorem au1(ha:MT X E a ga):MT X E (.UnaryOp .Not a pos) (a3c ga):=by
 refine PT.weak (as5 ha) ?_
 rintro Z H Q ⟨U,τ,h,S,Rh,o⟩
 refine⟨U,τ,h,S,Rh,bw o λd h1 U1 H1 v g1 r1 hr1 o1=>?_⟩;cases r1
 exact o1 U1 H1 _ (.refl _ _) rfl hr1
noncomputable def a0q(f g:SE):SE:=λτ h=>(f τ h).bind λd h1=>match d with|.bl true=>g τ h1|.bl false=>.ok (.bl false) h1|_=>.no
noncomputable def axx(f g:SE):SE:=λτ h=>(f τ h).bind λd h1=>match d with|.bl true=>.ok (.bl true) h1|.bl false=>g τ h1|_=>.no
noncomputable def a5a(f:SE):SE:=λτ h=>(f τ h).bind λd h1=>match d with|.bl b=>.ok (.bl (!b)) h1|_=>.no
theorem au2{op}(ha:ME X E a fa):ME X E (.BoolOp op [a] pos) fa:=as6 ha
theorem au3{aG:List Expr}(ha:ME X E a fa)(hb:ME X E (.BoolOp .And (b::aG) pos) fb):ME X E (.BoolOp .And (a::b::aG) pos) (a0q fa fb):=by
 refine PE.weak (as7 ha hb) ?_
 rintro Z H Q ⟨U,τ,h,S,Rh,o⟩
 refine⟨U,τ,h,S,Rh,bw o λd h1 U1 H1 v g1 r1 hr1 o1=>?_⟩
 cases r1 with
 |bl k =>
  refine⟨k,rfl,?_⟩
  cases k with
  |true=>exact⟨U1,τ,h1,S.mono g1,hr1,o1⟩
  |false=>exact o1 U1 H1 _ (.refl _ _) (.bl _) hr1
 |_=>exact o1.elim
theorem au4(ha:ME X E a fa):ME X E (.UnaryOp .Not a pos) (a5a fa):=by
 refine PE.weak (as8 ha) ?_
 rintro Z H Q ⟨U,τ,h,S,Rh,o⟩
 refine⟨U,τ,h,S,Rh,bw o λd h1 U1 H1 v g1 r1 hr1 o1=>?_⟩
 cases r1 with
 |bl k=>exact⟨k,rfl,o1 U1 H1 _ (.refl _ _) (.bl _) hr1⟩
 |_=>exact o1.elim
noncomputable def axy(c:ST)(f g:SE):SE:=λτ h=>(c τ h).bind λb h1=>if b=true then f τ h1 else g τ h1
noncomputable def au:SA:=λ_ h=>.ok [] h
noncomputable def aa(f:SE)(g:SA):SA:=λτ h=>(f τ h).bind λd h1=>(g τ h1).bind λds h2=>.ok (d::ds) h2
variable{es:List Expr}{ka:SA}
theorem au5:MA X E [] au:=PA.weak a8w λZ H Q ⟨U,τ,h,S,Rh,o⟩=>o U H [] (.refl _ _) .nil Rh
theorem a0i(ha:ME X E e fa)(hr:MA X E es ka)(hs:starEach (e::es) X.env=(false,eval e X.env)::starEach es X.env:=by rfl):MA X E (e::es) (aa fa ka):=by
 refine PA.weak (a4c ha hr hs) ?_
 rintro Z H Q ⟨U,τ,h,S,Rh,o⟩
 refine⟨U,τ,h,S,Rh,bw o λd h1 U1 H1 v g1 r1 hr1 o1=>?_⟩;refine⟨U1,τ,h1,S.mono g1,hr1,bw o1 λd2 h2 U2 H2 u g2 r2 hr2 o2=>?_⟩;exact o2 U2 H2 _ (.refl _ _) (.cons (r1.mono g2) r2) hr2
noncomputable def uc(ds:List D)(h:Hd):R D:=if ds.length<=LINE then .ok (.tup ds) h else .no
noncomputable def a1o(ds:List D)(h:Hd):R D:=if ds.length<=LINE then .ok (.ref h.length) (h++[.lst ds]) else .no
noncomputable def sA(g:List D->Hd->R D)(k:SA):SE:=λτ h=>(k τ h).bind g
theorem a3d(r:Reps K U H vs ds)(hr:HRep K U H h)(o:out K E (xm K) U H (.ok (.tup ds) h) Q):∀p,H p=none->Q (.ref p) (upd H p (.tup vs)):=λp hp =>
 o U _ _ (a0d hp _) (.tup lw (r.mono (a0d hp _))) (hr.aside hp _)
theorem vo(r:Reps K U H vs ds)(hr:HRep K U H h)(o:out K E (xm K) U H (.ok (.ref h.length) (h++[.lst ds])) Q):∀p,H p=none->Q (.ref p) (upd H p (.lst vs)):=λp hp =>
 o (U++[p]) _ _ (a9f hp _) (.ref (by rw[List.getElem?_append_right (by rw[hr.len];exact Nat.le_refl _),hr.len];simp)) (hr.add hp ⟨_,lw,r.mono (a9f hp _)⟩)
theorem a7v{K:Fg}{U:List Addr}{H:Hp}{h:Hd}{i:Nat}{a:Addr}{vs:List V}{ds:List D}{d:D}{v:V}{Q:VK}(r:Reps K U H vs ds)(hr:HRep K U H h)(hi:U[i]? = some a)(rd:Rep K U H v d)(o:out K E (xm K) U H (.ok d (h.set i (.lst ds))) Q):Q v (upd H a (.lst vs)) :=
 o U _ _ (a2v hr hi _) (rd.mono (a2v hr hi _)) (hr.put hi ⟨_,lw,r.mono (a2v hr hi _)⟩)
theorem au6{x1}(h:MA X E es ka):ME X E (.Tuple es x1 pos) (sA uc ka):=by
 refine PE.weak (asv h) ?_
 rintro Z H Q ⟨U,τ,h,S,Rh,o⟩
 refine⟨U,τ,h,S,Rh,bw o λd h1 U1 H1 v g1 r1 hr1 o1=>?_⟩;unfold uc at o1
 split at o1
 .rename_i hl;exact⟨ll (by rw[r1.len];exact hl),a3d r1 hr1 o1⟩
 .exact o1.elim
theorem au7(h:MA X E es ka):ME X E (.List es pos) (sA a1o ka):=by
 refine PE.weak (asw h) ?_
 rintro Z H Q ⟨U,τ,h,S,Rh,o⟩
 refine⟨U,τ,h,S,Rh,bw o λd h1 U1 H1 v g1 r1 hr1 o1=>?_⟩;unfold a1o at o1
 split at o1
 .rename_i hl;exact⟨ll (by rw[r1.len];exact hl),vo r1 hr1 o1⟩
 .exact o1.elim
theorem a9g{x:Str}{p:Pos}{id:String}{r:List V->Hp->VK->Prop}{g:List D->Hd->R D}(hc:CallR X (.builtin id) r)(hs:adi X.K g r)(hg:Gl X x)(hm:X.mg x=none)(hv:bootBuiltins x=some (.builtin id))(ha:MA X E (e::es) ka)(hn:x ≠ "__name__":=by decide)(hdb:(x == ("__debug__" : Str))=false:=by decide)
  (he:starEach (e::es) X.env=(false,eval e X.env)::starEach es X.env:=by rfl) (hpl:(backTo pos (starEach es X.env)).any (·.1)=false:=by rfl):ME X E (.Call (.Name x p) (e::es) [] pos) (sA g ka):=by
 refine PE.weak (aiw hc hg hm hv ha hn hdb he hpl) ?_
 rintro Z H Q ⟨U,τ,h,S,Rh,o⟩
 exact⟨U,τ,h,S,Rh,bw o λd h1 U1 H1 v g1 r1 hr1 o1=>hs E U1 H1 h1 v d Q r1 hr1 o1⟩
theorem afi{x:Str}{p:Pos}{id:String}{r:List V->Hp->VK->Prop}{g:List D->Hd->R D}(hc:CallR X (.type id) r)(hs:adi X.K g r)(hg:Gl X x)(hm:X.mg x=none)(hv:bootBuiltins x=some (.type id))(ha:MA X E (e::es) ka)(hn:x ≠ "__name__":=by decide)(hdb:(x == ("__debug__" : Str))=false:=by decide)
  (he:starEach (e::es) X.env=(false,eval e X.env)::starEach es X.env:=by rfl) (hpl:(backTo pos (starEach es X.env)).any (·.1)=false:=by rfl):ME X E (.Call (.Name x p) (e::es) [] pos) (sA g ka):=by
 refine PE.weak (a5v hc hg hm hv ha hn hdb he hpl) ?_
 rintro Z H Q ⟨U,τ,h,S,Rh,o⟩
 exact⟨U,τ,h,S,Rh,bw o λd h1 U1 H1 v g1 r1 hr1 o1=>hs E U1 H1 h1 v d Q r1 hr1 o1⟩
end
noncomputable def cj(f g:SS):SS:=λτ h=>match f τ h with|.nx τ1 h1=>g τ1 h1|r=>r
noncomputable def sNx:SS:=λτ h=>.nx τ h
noncomputable def sBk:SS:=λτ h=>.bk τ h
noncomputable def mq(f:SE):SS:=λτ h=>(f τ h).fl λd h1=>.rt d h1
noncomputable def yf(f:SE):SS:=λτ h=>(f τ h).fl λ_ h1=>.nx τ h1
noncomputable def sIf(c:ST)(f g:SS):SS:=λτ h=>(c τ h).fl λb h1=>if b=true then f τ h1 else g τ h1
noncomputable def j7(i:Nat)(f:SE):SS:=λτ h=>(f τ h).fl λd h1=>.nx (τ.set i (some d)) h1
noncomputable def afj(i:Nat)(g:D->D->Hd->R D)(f:SE):SS:=λτ h=>match τ[i]? with
 |some (some x)=>(f τ h).fl λy h1=>(g x y h1).fl λz h2=>.nx (τ.set i (some z)) h2
 |_=>.no
section
variable{X:Cx}{E:XD}{e o:Expr}{es:List Expr}{fa fb fc:SE}{ga:ST}{st:Stmt}{sts a b:List Stmt}{f g:SS}{pos:Pos}
theorem aoh:MSs X E [] sNx:=PSs.weak anf λN Z H ⟨U,τ,h,S,Rh,o⟩=>o U H Z (.refl _ _) S Rh
theorem au8(q:a7t K E (cj f g) N Z H):a7t K E f {N with nx:=a7t K E g N} Z H:=by
 obtain⟨U,τ,h,S,Rh,o⟩:=q;refine⟨U,τ,h,S,Rh,?_⟩;unfold cj at o
 cases hf:f τ h with
 |nx τ1 h1 =>
  rw[hf]at o;exact λU1 H1 Z1 g1 S1 R1=>⟨U1,τ1,h1,S1,R1,vm o g1⟩
 |_=>rw[hf]at o;exact o
theorem abz(h1:MS X E st f)(h2:MSs X E sts g):MSs X E (st::sts) (cj f g):=PSs.weak (aio h1 h2) λN Z H q=>au8 q
theorem afk(h1:MS X E st f):MSs X E [st] f:=ang h1
theorem ajc:MS X E (.Break pos) sBk:=PS.weak aip λN Z H ⟨U,τ,h,S,Rh,o⟩=>o U H Z (.refl _ _) S Rh
theorem au9(he:ME X E e fa):MS X E (.Return (some e) pos) (mq fa):=by
 refine PS.weak (asa he) ?_
 rintro N Z H ⟨U,τ,h,S,Rh,o⟩
 exact⟨U,τ,h,S,Rh,uf o λd h1 U1 H1 v g1 r1 hr1 o1=>o1 U1 H1 v (.refl _ _) r1 hr1⟩
theorem aoi(he:ME X E e fa)(hs:swapsWith e none pos.line X.env=pure false:=by rfl):MS X E (.Expr e pos) (yf fa):=by
 refine PS.weak (anh he hs) ?_
 rintro N Z H ⟨U,τ,h,S,Rh,o⟩
 exact⟨U,τ,h,S,Rh,uf o λd h1 U1 H1 v g1 r1 hr1 o1=>o1 U1 H1 Z (.refl _ _) (S.mono g1) hr1⟩
theorem azi(hc:MT X E c ga)(ha:MSs X E a f)(hb:MSs X E b g):MS X E (.If c a b pos) (sIf ga f g):=by
 refine PS.weak (ayj hc ha hb) ?_
 rintro N Z H ⟨U,τ,h,S,Rh,o⟩
 refine⟨U,τ,h,S,Rh,uf o λd h1 U1 H1 v g1 r1 hr1 o1=>?_⟩;cases r1
 cases d with
 |true=>exact⟨U1,τ,h1,S.mono g1,hr1,o1⟩
 |false=>exact⟨U1,τ,h1,S.mono g1,hr1,o1⟩
theorem aua(hN:X.N.Nodup)(hi:X.N[i]? = some x)(hx:Loc X.env.scope x)(he:ME X E e fa)(hs:swapsWith e (some (.Name x pos')) pos.line X.env=pure false:=by rfl)(hf:Hf X x:=by with_unfolding_all first|exact .inl rfl|exact .inr rfl|assumption) :
  MS X E (.Assign [.Name x pos'] e pos) (j7 i fa):=by
 refine PS.weak (ase hN hi hx he hs hf) ?_
 rintro N Z H ⟨U,τ,h,S,Rh,o⟩
 exact⟨U,τ,h,S,Rh,uf o λd h1 U1 H1 v g1 r1 hr1 o1=>o1 U1 H1 _ (.refl _ _) ((S.mono g1).set r1 i) hr1⟩
theorem aub(hN:X.N.Nodup)(hi:X.N[i]? = some x)(hx:Loc X.env.scope x)(ho:OpR X (inplaceOp op) r)(hs:a2g X.K gg r)(he:ME X E e fa)(hf:Hf X x:=by with_unfolding_all first|exact .inl rfl|exact .inr rfl|assumption) :
  MS X E (.AugAssign (.Name x pos') op e pos) (afj i gg fa):=by
 refine PS.weak (asf hN hi hx he ho hf) ?_
 rintro N Z H ⟨U,τ,h,S,Rh,o⟩
 unfold afj at o
 split at o
 .rename_i d ed;obtain⟨v,h1,h2⟩:=S.val i d ed;refine⟨v,h1,U,τ,h,S,Rh,uf o λd2 h3 U1 H1 u g1 r1 hr1 o1=>?_⟩;refine hs E U1 H1 h3 v u d d2 _ (h2.mono g1) r1 hr1 (uf o1 λd3 h4 U2 H2 z g2 r2 hr2 o2=>?_);exact o2 U2 H2 _ (.refl _ _) (((S.mono g1).mono g2).set r2 i) hr2
 .exact o.elim
noncomputable def put(o k v:D)(h:Hd):Option Hd:=match o,k with
 |.ref i,.int j=>match h[i]? with
  |some (.lst xs)=>match ixN xs.length j with
   |some m=>some (h.set i (.lst (xs.set m v)))
   |none=>none
  |_=>none
 |_,_=>none
theorem afl{K:Fg}{U:List Addr}{H:Hp}{h h':Hd}{o k v:V}{od kd vd:D}{Q:Hp->Prop}(r1:Rep K U H o od)(r2:Rep K U H k kd)(r3:Rep K U H v vd)(hr:HRep K U H h)(e:put od kd vd h=some h')
  (q:∀H',Gr U H U H'->HRep K U H' h'->Q H'):at7 o k v H Q:=by
 cases r1 with
 |@ref a i ha =>
  cases r2 with
  |int j =>
   obtain⟨ob,h1,h2⟩:=hr.at ha
   cases ob with
   |lst xs =>
    obtain⟨vs,h3,h4⟩:=h2;simp only[put,h1]at e
    cases hm:ixN xs.length j with
    |none=>rw[hm]at e;cases e
    |some m =>
     rw[hm]at e;cases e
     exact⟨a,vs,j,m,rfl,rfl,h3,by rw[h4.len];exact hm,q _ (a2v hr ha _) (hr.put ha ⟨_,lw,(h4.set r3 m).mono (a2v hr ha _)⟩)⟩
   |dK _=>simp only[put,h1]at e;cases e
   |dT _=>simp only[put,h1]at e;cases e
   |ins _ _=>simp only[put,h1]at e;cases e
  |_=>cases e
 |_=>cases e
noncomputable def a8q(fe fo fi:SE):SS:=λτ h=>(fe τ h).fl λv h1=>(fo τ h1).fl λo h2=>(fi τ h2).fl λk h3=>match put o k v h3 with|some h4=>.nx τ h4|none=>.no
theorem auc(he:ME X E e fa)(ho:ME X E o fb)(hi:ME X E i fc)
  (hs:swapsWithSole [.Subscript o i pos'] e pos.line X.env=pure false:=by rfl) (hw:swappedStores [.Subscript o i pos'] e X.env=pure none:=by rfl)
  (h1:(assignEach [.Subscript o i pos'] X.env).map (·.2)=[assign (.Subscript o i pos') X.env]:=by rfl)
  (ha:∀v,assign (.Subscript o i pos') X.env v=(do
   let ov <-holding [v] (eval o X.env)
   let iv <-holding [v,ov] (eval i X.env)
   standAt pos'
   holding [v,ov,iv] (setItem ov iv v)
   release [v,ov,iv] []):=by intro _;rfl):MS X E (.Assign [.Subscript o i pos'] e pos) (a8q fa fb fc):=by
 refine PS.weak (alk he (asd ho hi set_list ha) hs hw h1) ?_
 rintro N Z H ⟨U,τ,h,S,Rh,oo⟩
 refine⟨U,τ,h,S,Rh,uf oo λd h1 U1 H1 v g1 r1 hr1 o1=>?_⟩;refine⟨U1,τ,h1,S.mono g1,hr1,uf o1 λd2 h2 U2 H2 u g2 r2 hr2 o2=>?_⟩;refine⟨U2,τ,h2,(S.mono g1).mono g2,hr2,uf o2 λd3 h3 U3 H3 w g3 r3 hr3 o3=>?_⟩
 cases hp:put d2 d3 d h3 with
 |none=>rw[hp]at o3;exact o3.elim
 |some h4 =>
  rw[hp]at o3;exact afl (r2.mono g3) r3 ((r1.mono g2).mono g3) hr3 hp λH' g4 hr4=>o3 U3 H' Z g4 ((((S.mono g1).mono g2).mono g3).mono g4) hr4
noncomputable def sWh(c:ST)(f:SS):Nat->SS
 |0,_,_=>.no
 |n+1,τ,h=>(c τ h).fl λb h1=>if b=true then (match f τ h1 with|.nx τ2 h2=>sWh c f n τ2 h2|.ct τ2 h2=>sWh c f n τ2 h2|.bk τ2 h2=>.nx τ2 h2|r=>r) else .nx τ h1
theorem ajd(n:Nat)(hp:PassesOwn (model X.prog X.w) X.A X.env X.xe)(hc:MT X E c ga)(hb:MSs X E a f):MS X E (.While c a [] pos) (sWh ga f n):=by
 refine PS.weak (air hp hc hb) λN Z H q=>?_;refine⟨λm Z H=>a7t X.K E (sWh ga f m) N Z H,⟨n,q⟩,?_⟩
 rintro m Z1 H1 ⟨U,τ,h,S,Rh,o⟩
 cases m with
 |zero=>exact o.elim
 |succ m =>
  refine⟨U,τ,h,S,Rh,uf o λd h1 U1 H1 v g1 r1 hr1 o1=>?_⟩;cases r1
  cases d with
  |false=>exact o1 U1 H1 _ (.refl _ _) (S.mono g1) hr1
  |true =>
   refine⟨λZ' H'=>a7t X.K E (sWh ga f m) N Z' H',λZ' H' q=>⟨m,Nat.lt_succ_self m,q⟩,U1,τ,h1,S.mono g1,hr1,?_⟩;rw[if_pos rfl]at o1
   cases hf:f τ h1 with
   |nx τ2 h2=>rw[hf]at o1;exact λU2 H2 Z2 g2 S2 R2=>⟨U2,τ2,h2,S2,R2,vm o1 g2⟩
   |ct τ2 h2=>rw[hf]at o1;exact λU2 H2 Z2 g2 S2 R2=>⟨U2,τ2,h2,S2,R2,vm o1 g2⟩
   |bk τ2 h2=>rw[hf]at o1;exact o1
   |rt d h2=>rw[hf]at o1;exact o1
   |ex c h2=>rw[hf]at o1;exact o1
   |no=>rw[hf]at o1;exact o1.elim
end
abbrev SG:=D->Sd->Hd->Fl
noncomputable def aoj(K:Fg)(E:XD)(g:SG):TG:=λv Z H Q=>∃U τ h d,Rep K U H v d/\SRep K U H Z τ/\HRep K U H h/\aig K E U H (g d τ h) {nx:=Q,rt:=λ_ _=>False}
abbrev MG(X:Cx)(E:XD)(tg:Expr)(g:SG):Prop:=PG X tg (aoj X.K E g)
abbrev SGs:=List D->Sd->Hd->Fl
noncomputable def afm(K:Fg)(E:XD)(g:SGs):TGs:=λvs Z H Q=>∃U τ h ds,Reps K U H vs ds/\SRep K U H Z τ/\HRep K U H h/\aig K E U H (g ds τ h) {nx:=Q,rt:=λ_ _=>False}
abbrev MGs(X:Cx)(E:XD)(tg:List Expr)(g:SGs):Prop:=PGs X tg (afm X.K E g)
theorem PG.weak(h:PG X e t)(i:∀v Z H Q,t' v Z H Q->t v Z H Q):PG X e t':=λaA s Z H v u Q I r q=>h aA s Z H v u Q I r (i _ _ _ _ q)
theorem PGs.weak(h:PGs X e t)(i:∀v Z H Q,t' v Z H Q->t v Z H Q):PGs X e t':=λaA s Z H v u Q I r q=>h aA s Z H v u Q I r (i _ _ _ _ q)
noncomputable def kN(i:Nat):SG:=λd τ h=>.nx (τ.set i (some d)) h
noncomputable def a3m:SGs:=λds τ h=>match ds with|[]=>.nx τ h|_=>.no
noncomputable def jb(g:SG)(k:SGs):SGs:=λds τ h=>match ds with|d::r=>(match g d τ h with|.nx τ1 h1=>k r τ1 h1|_=>.no)|[]=>.no
noncomputable def a3h(n:Nat)(k:SGs):SG:=λd τ h=>match d with|.tup ds=>if ds.length=n then k ds τ h else .no|_=>.no
section
variable{X:Cx}{E:XD}{e:Expr}{es:List Expr}{fa:SE}{pos:Pos}{g:SG}{ks:SGs}
theorem afn(hN:X.N.Nodup)(hi:X.N[i]? = some x)(hx:Loc X.env.scope x)(hf:Hf X x:=by with_unfolding_all first|exact .inl rfl|exact .inr rfl|assumption):MG X E (.Name x pos) (kN i) :=
 PG.weak (aai hN hi hx hf) λv Z H Q ⟨U,τ,h,d,r,S,Rh,o⟩=>o U H _ (.refl _ _) (S.set r i) Rh
theorem aok:MGs X E [] a3m:=by
 refine PGs.weak aaj ?_
 rintro vs Z H Q ⟨U,τ,h,ds,r,S,Rh,o⟩
 cases r with
 |nil=>exact⟨rfl,o U H Z (.refl _ _) S Rh⟩
 |cons _ _=>exact o.elim
theorem aje(q:afm K E (jb g ks) vs Z H Q):aiq (aoj K E g) (afm K E ks) vs Z H Q:=by
 obtain⟨U,τ,h,ds,r,S,Rh,o⟩:=q
 cases r with
 |nil=>exact o.elim
 |@cons v d vs ds r rs =>
  refine⟨v,vs,rfl,U,τ,h,d,r,S,Rh,?_⟩;simp only[jb]at o
  cases hg:g d τ h with
  |nx τ1 h1 =>
   rw[hg]at o;exact λU1 H1 Z1 g1 S1 R1=>⟨U1,τ1,h1,ds,rs.mono g1,S1,R1,vm o g1⟩
  |_=>rw[hg]at o;exact o.elim
theorem aud(hc:X.calm=true)(h:MGs X E es ks)(hn:(assignEach es X.env).length=n:=by rfl)(hst:(assignEach es X.env).findIdx? (·.1)=none:=by rfl):MG X E (.Tuple es k pos) (a3h n ks):=by
 refine PG.weak (ael hc h hn hst) ?_
 rintro v Z H Q ⟨U,τ,h,d,r,S,Rh,o⟩
 cases r with
 |@tup a vs xs e rs =>
  simp only[a3h]at o
  by_cases hl:xs.length=n
  .rw[if_pos hl]at o;exact⟨a,vs,rfl,SqT.of e,by rw[rs.len];exact hl,U,τ,h,xs,rs,S,Rh,o⟩
  .rw[if_neg hl]at o;exact o.elim
 |_=>exact o.elim
noncomputable def a8r(f:SE)(g:SG):SS:=λτ h=>(f τ h).fl λd h1=>match g d τ h1 with|.nx τ2 h2=>.nx τ2 h2|_=>.no
theorem aue(he:ME X E e fa)(hg:MG X E tg g)(hs:swapsWithSole [tg] e pos.line X.env=pure false:=by rfl)(hw:swappedStores [tg] e X.env=pure none:=by rfl)
  (h1:(assignEach [tg] X.env).map (·.2)=[assign tg X.env]:=by rfl):MS X E (.Assign [tg] e pos) (a8r fa g):=by
 refine PS.weak (alk he hg hs hw h1) ?_
 rintro N Z H ⟨U,τ,h,S,Rh,o⟩
 refine⟨U,τ,h,S,Rh,uf o λd h1 U1 H1 v g1 r1 hr1 o1=>⟨U1,τ,h1,d,r1,S.mono g1,hr1,?_⟩⟩
 cases hg:g d τ h1 with
 |nx τ1 h1=>rw[hg]at o1;exact o1
 |_=>rw[hg]at o1;exact o1.elim
end
structure Itm where
 xs:List D
 ck:Hd->Prop
def ajf(K:Fg)(U0:List Addr)(H0:Hp)(J:It)(it:Itm):Prop:=∀U H h,Gr U0 H0 U H->HRep K U H h->it.ck h->
 (∀(i:Nat) (d:D),it.xs[i]? = some d->J.go i H/\∀x H',J.yld i H x H'->Gr U H U H'/\Rep K U H' x d/\HRep K U H' h)/\J.stop it.xs.length H
abbrev arf(K:Fg):List Addr->Hp->It->Itm->Prop:=λU H J it=>ajf K U H J it
abbrev SI:=Sd->Hd->R Itm
abbrev MI(X:Cx)(E:XD)(tg aF:Expr)(f:SI):Prop:=PI X tg aF (lift X.K E (arf X.K) f)
noncomputable def a0f(x:Str):List D:=x.cps.toList.map λc=>D.str ⟨#[c]⟩
noncomputable def afo(d:D)(h:Hd):R Itm:=match d with
 |.tup xs=>.ok ⟨xs,λ_=>True⟩ h
 |.rol xs=>.ok ⟨xs,λ_=>True⟩ h
 |.str x=>.ok ⟨a0f x,λ_=>True⟩ h
 |.ref i=>match h[i]? with
  |some (.lst xs)=>.ok ⟨xs,λh=>h[i]? = some (.lst xs)⟩ h
  |_=>.no
 |_=>.no
noncomputable def sIt(f:SE):SI:=λτ h=>(f τ h).bind afo
theorem aly(hl:∀U H h,Gr U0 H0 U H->HRep K U H h->ck h->∃vs,SqL K H a vs/\Reps K U H vs xs):ajf K U0 H0 (Itl K a) ⟨xs,ck⟩:=by
 intro U H h g hr c
 obtain⟨vs,h1,h2⟩:=hl U H h g hr c;refine⟨λi d e=>?_,⟨vs,h1,by rw[h2.len];exact Nat.le_refl _⟩⟩
 obtain⟨v,e1,r⟩:=h2.get e;refine⟨⟨vs,v,h1,e1⟩,λx H' y=>?_⟩;obtain⟨rfl,y⟩:=y;have:=y vs h1;rw[e1]at this;cases this
 exact⟨.refl _ _,r,hr⟩
theorem auf(hl:ME X E l f):MI X E tg l (sIt f):=by
 rintro aA s Z H Rr I ⟨U,τ,h,S,Rh,o⟩
 unfold sIt at o
 cases hf:f τ h with
 |no=>rw[hf]at o;exact o.elim
 |ex c h1 =>
  rw[hf]at o;exact alu hl aA s Z H Rr I ⟨U,τ,h,S,Rh,by rw[hf];exact o⟩
 |ok d h1 =>
  rw[hf]at o
  cases d with
  |tup xs =>
   refine asi hl aA s Z H Rr I ⟨U,τ,h,S,Rh,?_⟩;rw[hf]
   intro U1 H1 v g1 r1 hr1
   cases r1 with
   |@tup a vs _ e rs =>
    refine⟨a,rfl,⟨vs,SqT.of e⟩,o U1 H1 _ g1 ?_ hr1⟩
    intro U2 H2 h2 g2 hr2 _
    have e2:=g2.tup _ _ e;have rs2:=rs.mono g2;refine⟨λi d ed=>?_,⟨vs,SqT.of e2,by rw[rs2.len];exact Nat.le_refl _⟩⟩
    obtain⟨v,e1,r⟩:=rs2.get ed;refine⟨⟨vs,v,SqT.of e2,e1⟩,λx H' y=>?_⟩;obtain⟨rfl,y⟩:=y;have:=y vs (SqT.of e2);rw[e1]at this;cases this
    exact⟨.refl _ _,r,hr2⟩
  |rol xs =>
   refine aeo hl aA s Z H Rr I ⟨U,τ,h,S,Rh,?_⟩;rw[hf]
   intro U1 H1 v g1 r1 hr1
   cases r1 with
   |@rol a vs _ e rs =>
    refine⟨a,rfl,⟨vs,e.l⟩,o U1 H1 _ g1 ?_ hr1⟩;exact aly (λU2 H2 h2 g2 hr2 _=>⟨vs,(e.mono g2).l,rs.mono g2⟩)
  |str x =>
   refine alu hl aA s Z H Rr I ⟨U,τ,h,S,Rh,?_⟩;rw[hf]
   intro U1 H1 v g1 r1 hr1
   cases r1
   refine⟨x,rfl,o U1 H1 _ g1 ?_ hr1⟩
   intro U2 H2 h2 g2 hr2 _
   refine⟨λi d ed=>?_,by show(a0f x).length=_;simp[a0f]⟩
   simp only[a0f,List.getElem?_map,Option.map_eq_some_iff]at ed;obtain⟨c,ec,rfl⟩:=ed;refine⟨by show i<x.cps.size;have:=(List.getElem?_eq_some_iff.mp ec).1;simpa using this,λy H' q=>?_⟩
   obtain⟨rfl,c',ec',rfl⟩:=q;rw[ec]at ec';cases ec'
   exact⟨.refl _ _,.str _,hr2⟩
  |ref i =>
   simp only[R.bind,afo]at o
   cases ho:h1[i]? with
   |none=>rw[ho]at o;exact o.elim
   |some ob =>
    rw[ho]at o
    cases ob with
    |dK _=>exact o.elim
    |dT _=>exact o.elim
    |ins _ _=>exact o.elim
    |lst xs =>
     refine aeo hl aA s Z H Rr I ⟨U,τ,h,S,Rh,?_⟩;rw[hf]
     intro U1 H1 v g1 r1 hr1
     cases r1 with
     |@ref a _ e =>
      obtain⟨vs,e1,rs⟩:=hr1.obj i a _ e ho;refine⟨a,rfl,⟨vs,SqL.of e1⟩,o U1 H1 _ g1 ?_ hr1⟩;refine aly (λU2 H2 h2 g2 hr2 c=>?_);obtain⟨us,e3,rs3⟩:=hr2.obj i a _ (g2.at e) c;exact⟨us,SqL.of e3,rs3⟩
  |_=>exact o.elim
noncomputable def rng(lo:Int)(n:Nat):List D:=(List.range n).map λi=>D.int (lo+(i:Nat))
def B62(j:Int):Prop := -(2^62)<=j/\j<2^62
instance (j:Int):Decidable (B62 j):=by unfold B62;exact inferInstance
noncomputable def a0a(ds:List D)(h:Hd):R Itm:=match ds with
 |[.int j]=>if B62 j then .ok ⟨rng 0 j.toNat,λ_=>True⟩ h else .no
 |_=>.no
noncomputable def a1c(ds:List D)(h:Hd):R Itm:=match ds with
 |[.int i,.int j]=>if B62 i/\B62 j then .ok ⟨rng i (j-i).toNat,λ_=>True⟩ h else .no
 |_=>.no
noncomputable def sRg(g:List D->Hd->R Itm)(k:SA):SI:=λτ h=>(k τ h).bind g
theorem alz(lo:Int)(n:Nat):ajf K U0 H0 (Itr lo n) ⟨rng lo n,λ_=>True⟩:=by
 intro U H h g hr _
 refine⟨λi d ed=>?_,by show n<=(rng lo n).length;simp[rng]⟩
 simp only[rng,List.getElem?_map,Option.map_eq_some_iff]at ed;obtain⟨j,ej,rfl⟩:=ed;obtain⟨hj,e⟩:=List.getElem?_eq_some_iff.mp ej;simp at e hj;subst e;refine⟨hj,λy H' q=>?_⟩;obtain⟨rfl,rfl⟩:=q;exact⟨.refl _ _,.int _,hr⟩
theorem aol(hg:Gl X "range")(hm:X.mg "range" = none)(ha:MA X E [a] k)(hs:starEach [a] X.env=[(false,eval a X.env)]:=by rfl):MI X E tg (.Call (.Name "range" p) [a] [] pos) (sRg a0a k):=by
 rintro aA s Z H Rr I ⟨U,τ,h,S,Rh,o⟩
 refine aep hg hm ha hs aA s Z H Rr I ⟨U,τ,h,S,Rh,bw o λds h1 U1 H1 vs g1 r1 hr1 o1=>?_⟩;unfold a0a at o1
 split at o1
 .rename_i j
  cases r1 with
  |cons r rs =>
   cases r;cases rs
   by_cases hb:B62 j
   .rw[if_pos hb]at o1;exact⟨j,rfl,hb.1,hb.2,o1 U1 H1 _ (.refl _ _) (alz 0 j.toNat) hr1⟩
   .rw[if_neg hb]at o1;exact o1.elim
 .exact o1.elim
theorem aom(hg:Gl X "range")(hm:X.mg "range" = none)(ha:MA X E [a,b] k)(hs:starEach [a,b] X.env=[(false,eval a X.env),(false,eval b X.env)]:=by rfl)(hs2:starEach [b] X.env=[(false,eval b X.env)]:=by rfl):MI X E tg (.Call (.Name "range" p) [a,b] [] pos) (sRg a1c k):=by
 rintro aA s Z H Rr I ⟨U,τ,h,S,Rh,o⟩
 refine aeq hg hm ha hs hs2 aA s Z H Rr I ⟨U,τ,h,S,Rh,bw o λds h1 U1 H1 vs g1 r1 hr1 o1=>?_⟩;unfold a1c at o1
 split at o1
 .rename_i i j
  cases r1 with
  |cons r rs =>
   cases r
   cases rs with
   |cons r rs =>
   cases r;cases rs
   by_cases hb:B62 i/\B62 j
   .rw[if_pos hb]at o1;exact⟨i,j,rfl,⟨hb.1.1,hb.1.2,hb.2.1,hb.2.2⟩,o1 U1 H1 _ (.refl _ _) (alz i _) hr1⟩
   .rw[if_neg hb]at o1;exact o1.elim
 .exact o1.elim
open Classical in
noncomputable def forL(ck:Hd->Prop)(g:SG)(b:SS):List D->Sd->Hd->Fl
 |[],τ,h=>if ck h then .nx τ h else .no
 | x::xs,τ,h=>if ck h then (match g x τ h with
   |.nx τ1 h1=>(match b τ1 h1 with
    |.nx τ2 h2=>forL ck g b xs τ2 h2
    |.ct τ2 h2=>forL ck g b xs τ2 h2
    |.bk τ2 h2=>.nx τ2 h2
    |r=>r)
   |_=>.no) else .no
noncomputable def a2w(f:SI)(g:SG)(b:SS):SS:=λτ h=>(f τ h).fl λit h1=>forL it.ck g b it.xs τ h1
theorem aon(ir:ajf K U0 H0 J it)(S:SRep K U0 H0 Z0 τ0)(Rh:HRep K U0 H0 h0)(o:aig K E U0 H0 (forL it.ck g b it.xs τ0 h0) N) :
  ∃W:Nat->Nat->St->Hp->Prop,(∃m,W 0 m Z0 H0)/\∀i m Z H,W i m Z H->
   (J.stop i H/\N.nx Z H)\/(J.go i H/\∃M:St->Hp->Prop,(∀Z' H',M Z' H'->∃m',m'<m/\W (i+1) m' Z' H')/\∀x H',J.yld i H x H'->aoj K E g x Z H' λZ2 H2=>a7t K E b {N with nx:=M,ct:=M,bk:=N.nx} Z2 H2):=by
 refine⟨λi m Z H=>m=it.xs.length-i/\i<=it.xs.length/\∃U τ h,Gr U0 H0 U H/\SRep K U H Z τ/\HRep K U H h/\aig K E U H (forL it.ck g b (it.xs.drop i) τ h) N,⟨_,rfl,Nat.zero_le _,U0,τ0,h0,.refl _ _,S,Rh,o⟩,?_⟩
 rintro i m Z H ⟨rfl,hi,U,τ,h,g0,S,Rh,o⟩
 by_cases hlt:i<it.xs.length
 .rw[List.drop_eq_getElem_cons hlt,forL]at o
  by_cases hc:it.ck h
  .rw[if_pos hc]at o;obtain⟨go,yl⟩:=(ir U H h g0 Rh hc).1 i _ (List.getElem?_eq_getElem hlt);refine .inr ⟨go,λZ' H'=>it.xs.length-(i+1)<it.xs.length-i/\∃U τ h,Gr U0 H0 U H'/\SRep K U H' Z' τ/\HRep K U H' h/\aig K E U H' (forL it.ck g b (it.xs.drop (i+1)) τ h) N,λZ' H' q=>⟨_,q.1,rfl,hlt,q.2⟩,λx H' y=>?_⟩;obtain⟨g1,r1,hr1⟩:=yl x H' y;refine⟨U,τ,h,_,r1,S.mono g1,hr1,?_⟩;have o':=vm o g1
   cases hg:g it.xs[i] τ h with
   |nx τ1 h1 =>
    rw[hg]at o';dsimp only at o'
    intro U2 H2 Z2 g2 S2 R2
    refine⟨U2,τ1,h1,S2,R2,?_⟩;have o2:=vm o' g2;have gg:=(g0.trans g1).trans g2
    cases hb:b τ1 h1 with
    |nx τ2 h2=>rw[hb]at o2;exact λU3 H3 Z3 g3 S3 R3=>⟨by omega,U3,τ2,h2,gg.trans g3,S3,R3,vm o2 g3⟩
    |ct τ2 h2=>rw[hb]at o2;exact λU3 H3 Z3 g3 S3 R3=>⟨by omega,U3,τ2,h2,gg.trans g3,S3,R3,vm o2 g3⟩
    |bk τ2 h2=>rw[hb]at o2;exact o2
    |rt d h2=>rw[hb]at o2;exact o2
    |ex c h2=>rw[hb]at o2;exact o2
    |no=>rw[hb]at o2;exact o2.elim
   |_=>rw[hg]at o';exact o'.elim
  .rw[if_neg hc]at o;exact o.elim
 .have e:i=it.xs.length:=by omega
  subst e;rw[List.drop_eq_nil_of_le (Nat.le_refl _),forL]at o
  by_cases hc:it.ck h
  .rw[if_pos hc]at o;exact .inl ⟨(ir U H h g0 Rh hc).2,o U H Z (.refl _ _) S Rh⟩
  .rw[if_neg hc]at o;exact o.elim
theorem auh{X:Cx}(hp:PassesOwn (model X.prog X.w) X.A X.env X.xe)(hc:X.calm=true)(hi:MI X E tg aF f)(hg:MG X E tg g)(hb:MSs X E body b)(hs:∀x,foldedSetIterable aF X.env x=pure x:=by intro _;rfl):MS X E (.For tg aF body [] pos) (a2w f g b):=by
 refine PS.weak (asj hp hc hi hg hb hs) ?_
 rintro N Z H ⟨U,τ,h,S,Rh,o⟩
 exact⟨U,τ,h,S,Rh,uf o λit h1 U1 H1 J g1 r1 hr1 o1=>aon r1 (S.mono g1) hr1 o1⟩
end MI
namespace MI
open L2
theorem R.bind_assoc{α β γ:Type}(r:R α)(f:α->Hd->R β)(g:β->Hd->R γ):(r.bind f).bind g=r.bind λa h=>(f a h).bind g:=by cases r<;>rfl
open Classical in
noncomputable def mapR(ck:Hd->Prop)(f:D->Hd->R D):List D->Hd->R (List D)
 |[],h=>if ck h then .ok [] h else .no
 |x::xs,h=>if ck h then (f x h).bind λy h1=>(mapR ck f xs h1).bind λys h2=>.ok (y::ys) h2 else .no
open Classical in
noncomputable def aih(ck:Hd->Prop)(f:D->Hd->R (Option D)):List D->Hd->R (List D)
 |[],h=>if ck h then .ok [] h else .no
 |x::xs,h=>if ck h then (f x h).bind λy h1=>(aih ck f xs h1).bind λys h2=>.ok (y.toList++ys) h2 else .no
noncomputable def frs'(ix:List Nat)(τ:Sd):Sd:=ix.map λi=>(τ[i]?).join
noncomputable def t1(d:D):Option Sd:=some [some d]
noncomputable def tN(n:Nat)(d:D):Option Sd:=match d with|.tup ds=>if ds.length=n then some (ds.map some) else none|_=>none
noncomputable def a7w(t:D->Option Sd)(fe:SE)(aG:Sd)(x:D)(h:Hd):R D:=match t x with|some ts=>fe (ts++aG) h|none=>.no
noncomputable def a9h(t:D->Option Sd)(c:ST)(fe:SE)(aG:Sd)(x:D)(h:Hd):R (Option D):=match t x with
 |some ts=>(c (ts++aG) h).bind λb h1=>if b=true then (fe (ts++aG) h1).bind λy h2=>.ok (some y) h2 else .ok none h1
 |none=>.no
noncomputable def a8s(yd zs:List D)(h:Hd):R D:=.ok (.ref h.length) (h++[.lst (yd++zs)])
theorem aui(r:R D)(m:Hd->R (List D))(yd:List D):(r.bind λy h1=>(m h1).bind λys h2=>.ok (y::ys) h2).bind (a8s yd)=r.bind λy h1=>(m h1).bind (a8s (yd++[y])):=by
 cases r with
 |ok y h1 =>
  show((m h1).bind _).bind _=(m h1).bind _
  cases m h1 with
  |ok ys h2=>simp[R.bind,a8s]
  |_=>rfl
 |_=>rfl
theorem azj(r:R (Option D))(m:Hd->R (List D))(yd:List D):(r.bind λy h1=>(m h1).bind λys h2=>.ok (y.toList++ys) h2).bind (a8s yd)=r.bind λy h1=>(m h1).bind (a8s (yd++y.toList)):=by
 cases r with
 |ok y h1 =>
  show((m h1).bind _).bind _=(m h1).bind _
  cases m h1 with
  |ok ys h2=>simp[R.bind,a8s]
  |_=>rfl
 |_=>rfl
noncomputable def vg(fi:SI)(t:D->Option Sd)(fe:SE)(ix:List Nat):SE:=λτ h=>(fi τ h).bind λit h1=>if it.xs.length<=LINE then (mapR it.ck (a7w t fe (frs' ix τ)) it.xs h1).bind (a8s []) else .no
noncomputable def a1x(fi:SI)(t:D->Option Sd)(c:ST)(fe:SE)(ix:List Nat):SE:=λτ h=>(fi τ h).bind λit h1=>if it.xs.length<=LINE then (aih it.ck (a9h t c fe (frs' ix τ)) it.xs h1).bind (a8s []) else .no
def aii(K:Fg)(n:Nat)(g:TG)(t:D->Option Sd):Prop:=∀U H v d ts (r:St) (Q:St->Hp->Prop),Rep K U H v d->t d=some ts->(∀us:St,us.length=n->SRep K U H us ts->Q (us++r) H)->g v (List.replicate n none++r) H Q
theorem a7x:SRep K U H [] []:=⟨rfl,λi d e=>by simp at e⟩
theorem zp(r:Rep K U H v d)(s:SRep K U H Z τ):SRep K U H (some v::Z) (some d::τ):=by
 refine⟨by simp[s.len],λi d' e=>?_⟩
 cases i with
 |zero=>simp at e;subst e;exact⟨v,rfl,r⟩
 |succ i=>simpa using s.val i d' (by simpa using e)
theorem a5i(s:SRep K U H Z τ)(s':SRep K U H Z' τ'):SRep K U H (Z++Z') (τ++τ'):=by
 refine⟨by simp[s.len,s'.len],λi d e=>?_⟩
 by_cases hi:i<τ.length
 .rw[List.getElem?_append_left hi]at e;rw[List.getElem?_append_left (by rw[s.len];exact hi)]
  exact s.val i d e
 .rw[List.getElem?_append_right (by omega)]at e
  rw[List.getElem?_append_right (by rw[s.len];omega),s.len]
  exact s'.val _ d e
theorem a5j(s:SRep K U H Z τ)(ix:List Nat):SRep K U H (ix.map λi=>(Z[i]?).join) (frs' ix τ):=by
 refine⟨by simp[frs'],λj d e=>?_⟩
 simp only[frs',List.getElem?_map,Option.map_eq_some_iff]at e;obtain⟨i,hi,e⟩:=e;have:τ[i]? = some (some d):=by
  cases q:τ[i]? with
  |none=>rw[q]at e;cases e
  |some o=>rw[q]at e;simp at e;rw[e]
 obtain⟨v,h1,h2⟩:=s.val i d this;exact⟨v,by simp[hi,h1],h2⟩
theorem a1y:aii K 1 (a1w 0) t1:=λU H v d ts r Q hr e q=>by
 cases e
 exact q [some v] rfl (zp hr a7x)
theorem auj{α:Type}{xs:List α}(h:xs.length=n+1):∃x ys,xs=x::ys:=by cases xs with|nil=>cases h|cons x ys=>exact⟨x,ys,rfl⟩
theorem am0{vs:List V}{d:D}{ds:List D}(r:Reps K U H vs (d::ds)):∃v us,vs=v::us/\Rep K U H v d/\Reps K U H us ds:=by cases r with|cons r rs=>exact⟨_,_,rfl,r,rs⟩
theorem am1:aii K 2 (L2.uc K 2 (aiq (a1w 0) (aiq (a1w 1) b0f))) (tN 2):=λU H v d ts r Q hr e q=>by
 unfold tN at e
 cases hr with
 |@tup a vs xs h rs =>
  simp only at e
  split at e
  .rename_i hl;cases e
   obtain⟨x1,xs,rfl⟩:=auj hl;obtain⟨x2,xs,rfl⟩:=auj (Nat.succ.inj hl);obtain rfl:=List.length_eq_zero_iff.mp (Nat.succ.inj (Nat.succ.inj hl));obtain⟨v1,vs,rfl,r1,rs⟩:=am0 rs;obtain⟨v2,vs,rfl,r2,rs⟩:=am0 rs;cases rs
   exact⟨a,_,rfl,SqT.of h,rfl,_,_,rfl,_,_,rfl,rfl,q [some _,some _] rfl (zp r1 (zp r2 a7x))⟩
  .cases e
 |_=>cases e
theorem afp{us:St}(h:us.length=n):L2.Ext (List.replicate n none++r) (us++r):=by
 refine⟨by simp[h],λi v e=>?_⟩
 by_cases hi:i<n
 .rw[List.getElem?_append_left (by simpa using hi),List.getElem?_replicate,if_pos hi]at e
  cases e
 .rw[List.getElem?_append_right (by simpa using hi),List.length_replicate]at e
  rw[List.getElem?_append_right (by omega),h]
  exact e
theorem ac0(ir:ajf K U0 H0 J it)(tg:aii K n g t)(S:SRep K U0 H0 r rd)(Rh:HRep K U0 H0 h0)(hl:it.xs.length<=LINE)
  (o:out K E (xm K) U0 H0 ((mapR it.ck (a7w t fe rd) it.xs h0).bind (a8s [])) Q):ao7 J (List.replicate n none++r) g (lift K E (xm K) fe) Q H0:=by
 refine⟨λi m ys H=>m=it.xs.length-i/\i<=it.xs.length/\ys.length<=i/\∃U h yd,Gr U0 H0 U H/\HRep K U H h/\Reps K U H ys yd/\out K E (xm K) U H ((mapR it.ck (a7w t fe rd) (it.xs.drop i) h).bind (a8s yd)) Q,
  ⟨_,rfl,Nat.zero_le _,Nat.zero_le _,U0,h0,[],.refl _ _,Rh,.nil,o⟩,?_⟩
 rintro i m ys H ⟨rfl,hi,hy,U,h,yd,g0,Rh,ry,o⟩
 by_cases hlt:i<it.xs.length
 .rw[List.drop_eq_getElem_cons hlt,mapR]at o
  by_cases hc:it.ck h
  .rw[if_pos hc,aui]at o;obtain⟨go,yl⟩:=(ir U H h g0 Rh hc).1 i _ (List.getElem?_eq_getElem hlt);refine .inr ⟨go,Nat.lt_of_le_of_lt hy (Nat.lt_of_lt_of_le hlt (ll hl)),λx H' y=>?_⟩;obtain⟨g1,r1,hr1⟩:=yl x H' y;have o':=a0e o g1
   cases ht:t it.xs[i] with
   |none=>simp only[a7w,ht]at o';exact o'.elim
   |some ts =>
    simp only[a7w,ht]at o';refine tg U H' x _ ts r _ r1 ht λus hus su=>⟨afp hus,U,ts++rd,h,a5i su (S.mono (g0.trans g1)),hr1,bw o' λd2 h2 U2 H2 u g2 r2 hr2 o2=>?_⟩;refine⟨it.xs.length-(i+1),by omega,rfl,hlt,by simp;omega,U2,h2,yd++[d2],(g0.trans g1).trans g2,hr2,((ry.mono g1).mono g2).snoc r2,o2⟩
  .rw[if_neg hc]at o;exact o.elim
 .have e:i=it.xs.length:=by omega
  subst e;rw[List.drop_eq_nil_of_le (Nat.le_refl _),mapR]at o
  by_cases hc:it.ck h
  .rw[if_pos hc]at o;refine .inl ⟨(ir U H h g0 Rh hc).2,vo (E:=E) ry Rh ?_⟩;simpa[R.bind,a8s] using o
  .rw[if_neg hc]at o;exact o.elim
theorem afq(ir:ajf K U0 H0 J it)(tg:aii K n g t)(S:SRep K U0 H0 r rd)(Rh:HRep K U0 H0 h0)(hl:it.xs.length<=LINE)
  (o:out K E (xm K) U0 H0 ((aih it.ck (a9h t c fe rd) it.xs h0).bind (a8s [])) Q):aav J (List.replicate n none++r) g (lift K E aec c) (lift K E (xm K) fe) Q H0:=by
 refine⟨λi m ys H=>m=it.xs.length-i/\i<=it.xs.length/\ys.length<=i/\∃U h yd,Gr U0 H0 U H/\HRep K U H h/\Reps K U H ys yd/\out K E (xm K) U H ((aih it.ck (a9h t c fe rd) (it.xs.drop i) h).bind (a8s yd)) Q,
  ⟨_,rfl,Nat.zero_le _,Nat.zero_le _,U0,h0,[],.refl _ _,Rh,.nil,o⟩,?_⟩
 rintro i m ys H ⟨rfl,hi,hy,U,h,yd,g0,Rh,ry,o⟩
 by_cases hlt:i<it.xs.length
 .rw[List.drop_eq_getElem_cons hlt,aih]at o
  by_cases hc:it.ck h
  .rw[if_pos hc,azj]at o;obtain⟨go,yl⟩:=(ir U H h g0 Rh hc).1 i _ (List.getElem?_eq_getElem hlt);refine .inr ⟨go,Nat.lt_of_le_of_lt hy (Nat.lt_of_lt_of_le hlt (ll hl)),λx H' y=>?_⟩;obtain⟨g1,r1,hr1⟩:=yl x H' y;have o':=a0e o g1
   cases ht:t it.xs[i] with
   |none=>simp only[a9h,ht]at o';exact o'.elim
   |some ts =>
    simp only[a9h,ht]at o';rw[R.bind_assoc]at o';refine tg U H' x _ ts r _ r1 ht λus hus su=>⟨afp hus,U,ts++rd,h,a5i su (S.mono (g0.trans g1)),hr1,bw o' λb h1 U1 H1 b' g2 rb hrb ob=>?_⟩;have su1:SRep K U1 H1 (us++r) (ts++rd):=(a5i su (S.mono (g0.trans g1))).mono g2;cases rb
    cases b with
    |true =>
     rw[if_pos rfl]at ob ⊢;rw[R.bind_assoc]at ob;refine⟨U1,ts++rd,h1,su1,hrb,bw ob λd2 h2 U2 H2 u g3 r2 hr2 o2=>?_⟩;refine⟨it.xs.length-(i+1),by omega,rfl,hlt,by simp;omega,U2,h2,yd++[d2],((g0.trans g1).trans g2).trans g3,hr2,(((ry.mono g1).mono g2).mono g3).snoc r2,?_⟩
     simpa[R.bind] using o2
    |false =>
     rw[if_neg Bool.false_ne_true]at ob ⊢;refine⟨it.xs.length-(i+1),by omega,rfl,hlt,by omega,U1,h1,yd,(g0.trans g1).trans g2,hrb,(ry.mono g1).mono g2,?_⟩
     simpa[R.bind] using ob
  .rw[if_neg hc]at o;exact o.elim
 .have e:i=it.xs.length:=by omega
  subst e;rw[List.drop_eq_nil_of_le (Nat.le_refl _),aih]at o
  by_cases hc:it.ck h
  .rw[if_pos hc]at o;refine .inl ⟨(ir U H h g0 Rh hc).2,vo (E:=E) ry Rh ?_⟩;simpa[R.bind,a8s] using o
  .rw[if_neg hc]at o;exact o.elim
section
variable{X:Cx}{E:XD}{aD tg aF cnd:Expr}{aB:Scope}{pos:Pos}{cl:List (Str×Addr)}{ts fr:List Str}{ix:List Nat}{fi:SI}{g:TG}{t:D->Option Sd}{fe:SE}{fc:ST}
theorem a1z(hc:X.calm=true)(S:CSc X aB cl ts fr ix)(hi:MI X E tg aF fi)(hg:∀C fp s H,PG (cxC X (ts++fr) aB cl C fp s H) tg g)(ht:aii X.K ts.length g t)(he:∀C fp s H,ME (cxC X (ts++fr) aB cl C fp s H) E aD fe)
  (hs:∀x,foldedSetIterable aF X.env x=pure x:=by intro _;rfl):ME X E (.ListComp aD [⟨tg,aF,[],0⟩] aB pos) (vg fi t fe ix):=by
 refine PE.weak (aj7 (te:=lift X.K E (xm X.K) fe) hc S hi hg he hs) ?_
 rintro Z H Q ⟨U,τ,h,Sr,Rh,o⟩
 refine⟨U,τ,h,Sr,Rh,bw o λit h1 U1 H1 J g1 r1 hr1 o1=>?_⟩
 by_cases hl:it.xs.length<=LINE
 .rw[if_pos hl]at o1;exact ac0 r1 ht (a5j (Sr.mono g1) ix) hr1 hl o1
 .rw[if_neg hl]at o1;exact o1.elim
end
mutual
def clo(n:Nat):D->Prop
 |.tup xs=>clos n xs
 |.rol xs=>clos n xs
 |.rod _ xs=>clos n xs
 |.scr xs=>clos n xs
 |.rdT _ xs=>clos n xs
 |.ins _ _ xs=>clos n xs
 |.ref i=>i<n
 |_=>True
def clos(n:Nat):List D->Prop
 |[]=>True
 |x::xs=>clo n x/\clos n xs
end
mutual
theorem Rep.clo:∀{v:V} {d:D},Rep K U H v d->clo U.length d
 |_,_,.non=>by simp[MI.clo]
 |_,_,.bl b=>by simp[MI.clo]
 |_,_,.int i=>by simp[MI.clo]
 |_,_,.str x=>by simp[MI.clo]
 |_,_,.ty n=>by simp[MI.clo]
 |_,_,.tup h r=>by simp only[MI.clo];exact Reps.clo r
 |_,_,.rol h r=>by simp only[MI.clo];exact Reps.clo r
 |_,_,.ref h=>by simp only[MI.clo];exact(List.getElem?_eq_some_iff.mp h).1
 |_,_,.rod h e r=>by simp only[MI.clo];exact Reps.clo r
 |_,_,.scr h r=>by simp only[MI.clo];exact Reps.clo r
 |_,_,.rdT h e r=>by simp only[MI.clo];exact Reps.clo r
 |_,_,.exc h hc hn=>by simp[MI.clo]
 |_,_,.ins h hn e r=>by simp only[MI.clo];exact Reps.clo r
theorem Reps.clo:∀{vs:List V} {ds:List D},Reps K U H vs ds->clos U.length ds
 |_,_,.nil=>by simp[MI.clos]
 |_,_,.cons r rs=>by simp only[MI.clos];exact⟨Rep.clo r,Reps.clo rs⟩
end
mutual
theorem Rep.cut:∀{v:V} {d:D},Rep K U H v d->clo n d->Rep K (U.take n) H v d
 |_,_,.non,_=>.non
 |_,_,.bl b,_=>.bl b
 |_,_,.int i,_=>.int i
 |_,_,.str x,_=>.str x
 |_,_,.ty n,_=>.ty n
 |_,_,.tup h r,c=>.tup h (Reps.cut r (by simpa only[MI.clo] using c))
 |_,_,.rol h r,c=>.rol h (Reps.cut r (by simpa only[MI.clo] using c))
 |_,_,.ref h,c=>.ref (by simp only[MI.clo]at c;rw[List.getElem?_take,if_pos c];exact h)
 |_,_,.rod h e r,c=>.rod h e (Reps.cut r (by simpa only[MI.clo] using c))
 |_,_,.scr h r,c=>.scr h (Reps.cut r (by simpa only[MI.clo] using c))
 |_,_,.rdT h e r,c=>.rdT h e (Reps.cut r (by simpa only[MI.clo] using c))
 |_,_,.exc h hc hn,_=>.exc h hc hn
 |_,_,.ins h hn e r,c=>.ins h hn e (Reps.cut r (by simpa only[MI.clo] using c))
theorem Reps.cut:∀{vs:List V} {ds:List D},Reps K U H vs ds->clos n ds->Reps K (U.take n) H vs ds
 |_,_,.nil,_=>.nil
 |_,_,.cons r rs,c=>by simp only[MI.clos]at c;exact .cons (Rep.cut r c.1) (Reps.cut rs c.2)
end
def a1p(n:Nat):O->Prop
 |.lst xs=>clos n xs
 |.dK kvs=>clos n (kvs.map (·.2))
 |.dT kvs=>clos n (kvs.map (·.2))
 |.ins _ fs=>clos n (fs.map (·.2))
def auk(n:Nat)(h:Hd):Prop:=∀o∈h,a1p n o
theorem ORep.clo(r:ORep K U H a o):a1p U.length o:=by
 cases o with
 |lst xs=>obtain⟨vs,_,r⟩:=r;exact r.clo
 |dK kvs=>obtain⟨us,_,_,r⟩:=r;exact r.clo
 |dT kvs=>obtain⟨us,_,_,r⟩:=r;exact r.clo
 |ins _ _=>obtain⟨_,_,us,_,_,_,r⟩:=r;exact r.clo
theorem ORep.cut(r:ORep K U H a o)(c:a1p n o):ORep K (U.take n) H a o:=by
 cases o with
 |lst xs=>obtain⟨vs,h,r⟩:=r;exact⟨vs,h,r.cut c⟩
 |dK kvs=>obtain⟨us,h,e,r⟩:=r;exact⟨us,h,e,r.cut c⟩
 |dT kvs=>obtain⟨us,h,e,r⟩:=r;exact⟨us,h,e,r.cut c⟩
 |ins _ _=>obtain⟨C,dx,us,h,hn,e,r⟩:=r;exact⟨C,dx,us,h,hn,e,r.cut c⟩
theorem HRep.clo(r:HRep K U H h):auk h.length h:=λo ho=>by
 obtain⟨i,hi⟩:=List.getElem?_of_mem ho;obtain⟨a,_,q⟩:=r.addr hi;rw[<-r.len];exact q.clo
theorem HRep.cut(r:HRep K U H (h++g))(c:auk h.length h):HRep K (U.take h.length) H h:=by
 refine⟨r.nd.sublist (List.take_sublist _ _),?_,λi a o e1 e2=>?_⟩
 .have:=r.len
  rw[List.length_append]at this;rw[List.length_take];omega
 .have hi:i<h.length:=(List.getElem?_eq_some_iff.mp e2).1;rw[List.getElem?_take,if_pos hi]at e1;exact(r.obj i a o e1 (by rw[List.getElem?_append_left hi];exact e2)).cut (c o (List.mem_of_getElem? e2))
noncomputable def X0:XD:=λ_ _ _ _=>False
abbrev SF:=List D->Hd->R D
noncomputable def v4(K:Fg)(n:Nat)(F:SF):Sp:=λvs H Q _=>vs.length=n/\∃U ds h,Reps K U H vs ds/\HRep K U H h/\out K X0 (xm K) U H (F ds h) Q
noncomputable def a2x(n:Nat)(ds:List D):Sd:=ds.map some++List.replicate (n-ds.length) none
noncomputable def kj(b:SS)(n:Nat)(ds:List D)(h:Hd):R D:=match b (a2x n ds) h with
 |.rt d h1=>.ok d h1
 |.nx _ h1=>.ok .non h1
 |.ex c h1=>.ex c h1
 |_=>.no
def Rf(n:Nat)(r' r:R D):Prop:=match r with
 |.no=>True
 |.ok d h1=>∃g,r'=.ok d (h1++g)/\(g=[]\/(n<=h1.length/\clo h1.length d/\auk h1.length h1))
 |.ex c h1=>∃g,r'=.ex c (h1++g)/\(g=[]\/(n<=h1.length/\auk h1.length h1))
theorem Rf.same(h:r'=r):Rf n r' r:=by
 subst h
 cases r' with
 |ok d h1=>exact⟨[],by simp,.inl rfl⟩
 |ex c h1=>exact⟨[],by simp,.inl rfl⟩
 |no=>exact True.intro
theorem adm(r:Reps K U H vs ds):SRep K U H (start N vs) (a2x N.length ds):=by
 refine a5i ?_ ?_
 .clear N
  induction r using Reps.rec (motive_1:=λ_ _ _=>True) with
  |nil=>exact a7x
  |cons r rs _ ih=>exact zp r ih
  |_=>trivial
 .rw[r.len];exact⟨by simp,λi d e=>by rw[List.getElem?_replicate]at e;split at e<;>cases e⟩
theorem am2(g:Gr U H U' H')(hn:U.length<=n):Gr U H (U'.take n) H':=by
 obtain⟨m,rfl,hm⟩:=g.pre;exact⟨⟨m.take (n-U.length),by rw[List.take_append,List.take_of_length_le hn],λa ha=>hm a (List.mem_of_mem_take ha)⟩,g.tup,g.frz,g.oth,g.kp⟩
section
variable{P:Program}{w:World}{K:Fg}{mg:Str->Option Value}{base:Heap}
theorem aul(Fu:Fun K x qual st f fd)(S:FnScope N ps (bj st))
  (hb:∀(cdv:Value) (A:Around) (outer:List Env) (s:Shared) (H:Hp) (E:XK),Room k (A.deeper (PyProof.Rows.envOfC qual (bj st) s.heap.objs.size f cdv))->MSs (aif CX0 P w K mg base N qual (bj st) f cdv A outer s H E).nox X0 (ym st) b)
  (hF:∀ds h,ds.length=ps.length->clos h.length ds->auk h.length h->Rf h.length (kj b N.length ds h) (F ds h)):FnOk P w K mg base CX0 (k+1) f fd ps (v4 K ps.length F):=by
 refine Fu.ok S (λvs H Q E h=>h.1) λcdv A outer s H vs Q E hr h=>⟨_,hb cdv A outer s H E hr,?_⟩;obtain⟨hl,U,ds,h,r,hr',o⟩:=h;refine⟨U,a2x N.length ds,h,adm r,hr',?_⟩;have q:=hF ds h (by rw[<-r.len];exact hl) (by rw[<-hr'.len];exact r.clo) hr'.clo
 unfold kj at q
 cases hFd:F ds h with
 |no=>rw[hFd]at o;exact o.elim
 |ex c h1 =>
  rw[hFd]at q o;obtain⟨g,e,cl⟩:=q;have fin:∀U' H',Gr U H U' H'->HRep K U' H' (h1++g)->X0 c U' H' (h1++g):=λU' H' g1 hr1=>by
   rcases cl with rfl|⟨hn,c2⟩
   .rw[List.append_nil]at hr1;exact o U' H' g1 hr1
   .exact o (U'.take h1.length) H' (am2 g1 (by rw[hr'.len];exact hn)) (hr1.cut c2)
  cases hbd:b (a2x N.length ds) h with
  |ex c' h' =>
   rw[hbd]at e
   injection e with e1 e2
   subst e1 e2;exact fin
  |_=>rw[hbd]at e;cases e
 |ok d h1 =>
  rw[hFd]at q o;obtain⟨g,e,cl⟩:=q;have fin:∀U' H' v,Gr U H U' H'->Rep K U' H' v d->HRep K U' H' (h1++g)->Q v H':=λU' H' v g1 r1 hr1=>by
   rcases cl with rfl|⟨hn,c1,c2⟩
   .rw[List.append_nil]at hr1;exact o U' H' v g1 r1 hr1
   .exact o (U'.take h1.length) H' v (am2 g1 (by rw[hr'.len];exact hn)) (r1.cut c1) (hr1.cut c2)
  cases hbd:b (a2x N.length ds) h with
  |rt d' h' =>
   rw[hbd]at e
   injection e with e1 e2
   subst e1 e2;exact fin
  |nx τ' h' =>
   rw[hbd]at e
   injection e with e1 e2
   subst e1 e2;exact λU' H' Z' g1 S1 hr1=>fin U' H' .non g1 .non hr1
  |_=>rw[hbd]at e;cases e
end
section
variable{K:Fg}{E:XD}{U:List Addr}{H:Hp}{h:Hd}{Q:VK}
theorem ans(o:out K E (xm K) U H (.ok d h) Q)(r:Rep K U H v d)(hr:HRep K U H h):Q v H:=o U H v (.refl _ _) r hr
theorem HRep.lst(hr:HRep K U H h){i:Nat}{a:Addr}{xs:List D}(e:U[i]? = some a)(hi:h[i]? = some (.lst xs)):∃vs,H a=some (.lst vs)/\Reps K U H vs xs:=hr.obj i a _ e hi
end
noncomputable def a6u:D->D->Hd->R D
 |.int i,.int j,h=>.ok (.int (i-j)) h
 |_,_,_=>.no
noncomputable def a2i:D->D->Hd->R D
 |.int i,.int j,h=>if 0<j then .ok (.int (i%j)) h else .no
 |_,_,_=>.no
noncomputable def a69:D->D->Hd->R D
 |.int i,.int j,h=>if 0<j/\j<1073741824 then .ok (.int (i / j)) h else .no
 |_,_,_=>.no
noncomputable def afr:D->D->Hd->R D
 |.int i,.int j,h=>if 0<=j/\j<=1000000/\i.natAbs<2^64 then .ok (.int (i^j.toNat)) h else .no
 |_,_,_=>.no
section
variable{X:Cx}{K:Fg}
theorem aop:a2g K a6u (rI0 λi j=>.int (i-j)):=by
 intro E U H h x y dx dy Q rx ry hr o
 cases rx with
 |int i =>
  cases ry with
  |int j=>exact⟨i,j,rfl,rfl,ans o (.int _) hr⟩
  |_=>exact o.elim
 |_=>exact o.elim
theorem aoq:a2g K a2i (rI (λ_ j=>0<j) λi j=>.int (i%j)):=by
 intro E U H h x y dx dy Q rx ry hr o
 cases rx with
 |int i =>
  cases ry with
  |int j =>
   by_cases hc:0<j
   .simp only[a2i,if_pos hc]at o;exact⟨i,j,rfl,rfl,hc,ans o (.int _) hr⟩
   .simp only[a2i,if_neg hc]at o;exact o.elim
  |_=>exact o.elim
 |_=>exact o.elim
theorem aor:a2g K a69 (rI b0h λi j=>.int (i / j)):=by
 intro E U H h x y dx dy Q rx ry hr o
 cases rx with
 |int i =>
  cases ry with
  |int j =>
   by_cases hc:0<j/\j<1073741824
   .simp only[a69,if_pos hc]at o;exact⟨i,j,rfl,rfl,hc,ans o (.int _) hr⟩
   .simp only[a69,if_neg hc]at o;exact o.elim
  |_=>exact o.elim
 |_=>exact o.elim
theorem aos:a2g K afr (rI b0i λi j=>.int (i^j.toNat)):=by
 intro E U H h x y dx dy Q rx ry hr o
 cases rx with
 |int i =>
  cases ry with
  |int j =>
   by_cases hc:0<=j/\j<=1000000/\i.natAbs<2^64
   .simp only[afr,if_pos hc]at o;exact⟨i,j,rfl,rfl,hc,ans o (.int _) hr⟩
   .simp only[afr,if_neg hc]at o;exact o.elim
  |_=>exact o.elim
 |_=>exact o.elim
variable{E:XD}{a b e:Expr}{es:List Expr}{fa fb:SE}{ka:SA}{pos:Pos}
theorem aum(ha:ME X E a fa)(hb:ME X E b fb):ME X E (.BinOp a .Sub b pos) (s2 a6u fa fb):=adk asm aop ha hb
theorem aun(ha:ME X E a fa)(hb:ME X E b fb):ME X E (.BinOp a .Mod b pos) (s2 a2i fa fb):=adk aso aoq ha hb
theorem auo(ha:ME X E a fa)(hb:ME X E b fb):ME X E (.BinOp a .FloorDiv b pos) (s2 a69 fa fb):=adk anj aor ha hb
theorem aup(ha:ME X E a fa)(hb:ME X E b fb):ME X E (.BinOp a .Pow b pos) (s2 afr fa fb):=adk asp aos ha hb
noncomputable def aab:D->Hd->R D
 |.int i,h=>.ok (.int (-i)) h
 |_,_=>.no
theorem auq(ha:ME X E a fa):ME X E (.UnaryOp .USub a pos) (s1 aab fa):=azf asq (λE U H h x dx Q rx hr o=>by
 cases rx with
 |int i=>exact⟨i,rfl,ans o (.int _) hr⟩
 |_=>exact o.elim) ha
noncomputable def gLt:D->D->Hd->R D
 |.int i,.int j,h=>.ok (.bl (decide (i<j))) h
 |.str i,.str j,h=>.ok (.bl (decide (i.cps.toList<j.cps.toList))) h
 |_,_,_=>.no
noncomputable def gLe:D->D->Hd->R D
 |.int i,.int j,h=>.ok (.bl (decide (i<=j))) h
 |.str i,.str j,h=>.ok (.bl (!decide (j.cps.toList<i.cps.toList))) h
 |_,_,_=>.no
noncomputable def gGt:D->D->Hd->R D
 |.int i,.int j,h=>.ok (.bl (decide (j<i))) h
 |_,_,_=>.no
noncomputable def gGe:D->D->Hd->R D
 |.int i,.int j,h=>.ok (.bl (decide (j<=i))) h
 |_,_,_=>.no
theorem aur:a2g K gLt (λx y H Q=>rI0 (λi j=>.bl (decide (i<j))) x y H Q\/∃i j,x=.str i/\y=.str j/\Q (.bl (decide (i.cps.toList<j.cps.toList))) H):=by
 intro E U H h x y dx dy Q rx ry hr o
 cases rx with
 |int i =>
  cases ry with
  |int j=>exact .inl ⟨i,j,rfl,rfl,ans o (.bl _) hr⟩
  |_=>exact o.elim
 |str i =>
  cases ry with
  |str j=>exact .inr ⟨i,j,rfl,rfl,ans o (.bl _) hr⟩
  |_=>exact o.elim
 |_=>exact o.elim
theorem afs:a2g K gLe (λx y H Q=>rI0 (λi j=>.bl (decide (i<=j))) x y H Q\/∃i j,x=.str i/\y=.str j/\Q (.bl (!decide (j.cps.toList<i.cps.toList))) H):=by
 intro E U H h x y dx dy Q rx ry hr o
 cases rx with
 |int i =>
  cases ry with
  |int j=>exact .inl ⟨i,j,rfl,rfl,ans o (.bl _) hr⟩
  |_=>exact o.elim
 |str i =>
  cases ry with
  |str j=>exact .inr ⟨i,j,rfl,rfl,ans o (.bl _) hr⟩
  |_=>exact o.elim
 |_=>exact o.elim
theorem aus:a2g K gGt (rI0 λi j=>.bl (decide (j<i))):=by
 intro E U H h x y dx dy Q rx ry hr o
 cases rx with
 |int i =>
  cases ry with
  |int j=>exact⟨i,j,rfl,rfl,ans o (.bl _) hr⟩
  |_=>exact o.elim
 |_=>exact o.elim
theorem aut:a2g K gGe (rI0 λi j=>.bl (decide (j<=i))):=by
 intro E U H h x y dx dy Q rx ry hr o
 cases rx with
 |int i =>
  cases ry with
  |int j=>exact⟨i,j,rfl,rfl,ans o (.bl _) hr⟩
  |_=>exact o.elim
 |_=>exact o.elim
noncomputable def a6a:D->Bool
 |.non=>true
 |_=>false
theorem aft(r:Rep K U H x .non):x=.non:=by cases r;rfl
theorem ac1{b:Bool}(r:Rep K U H x (.bl b)):x=.bl b:=by cases r;rfl
theorem afu{i:Int}(r:Rep K U H x (.int i)):x=.int i:=by cases r;rfl
theorem ac2(r:Rep K U H x d):decide (x=.non)=a6a d:=by cases r<;>simp[a6a]
noncomputable def gIs(x y:D)(h:Hd):R D:=match y with
 |.non=>.ok (.bl (a6a x)) h
 |.bl j=>(match x with|.bl i=>.ok (.bl (i == j)) h|_=>.no)
 |_=>.no
noncomputable def ac3(x y:D)(h:Hd):R D:=match y with
 |.non=>.ok (.bl (!a6a x)) h
 |.bl j=>(match x with|.bl i=>.ok (.bl (i != j)) h|_=>.no)
 |_=>.no
theorem auu:a2g K gIs (λx y H Q=>(y=.non/\Q (.bl (decide (x=.non))) H)\/∃i j,x=.bl i/\y=.bl j/\Q (.bl (i == j)) H):=by
 intro E U H h x y dx dy Q rx ry hr o
 cases dy with
 |non=>exact .inl ⟨aft ry,by rw[ac2 rx];exact ans o (.bl _) hr⟩
 |bl j =>
  cases dx with
  |bl i=>exact .inr ⟨i,j,ac1 rx,ac1 ry,ans o (.bl _) hr⟩
  |_=>exact o.elim
 |_=>exact o.elim
theorem afv:a2g K ac3 (λx y H Q=>(y=.non/\Q (.bl (!decide (x=.non))) H)\/∃i j,x=.bl i/\y=.bl j/\Q (.bl (i != j)) H):=by
 intro E U H h x y dx dy Q rx ry hr o
 cases dy with
 |non=>exact .inl ⟨aft ry,by rw[ac2 rx];exact ans o (.bl _) hr⟩
 |bl j =>
  cases dx with
  |bl i=>exact .inr ⟨i,j,ac1 rx,ac1 ry,ans o (.bl _) hr⟩
  |_=>exact o.elim
 |_=>exact o.elim
noncomputable def a1t:D->Bool
 |.non=>true|.bl _=>true|.int _=>true|.str _=>true
 |_=>false
noncomputable def fvD:D->Option V
 |.non=>some .non|.bl b=>some (.bl b)|.int i=>some (.int i)|.str x=>some (.str x)
 |_=>none
theorem ajg{d:D}(r:Rep K U H x d)(f:a1t d=true):fvD d=some x:=by
 cases r<;>first|rfl|(cases f;done)
theorem fvs{d e:D}{P:D->V->D->V->Prop}(h:∀d x e y,fvD d=some x->fvD e=some y->P d x e y)(r:Rep K U H x d)(q:Rep K U H y e)(f:a1t d=true)(g:a1t e=true):P d x e y:=h d x e y (ajg r f) (ajg q g)
noncomputable def eqF:D->D->Bool
 |.non,.non=>true
 |.bl i,.bl j=>i == j
 |.int i,.int j=>i == j
 |.str i,.str j=>i == j
 |.int i,.bl j=>i == (if j then 1 else 0)
 |.bl i,.int j=>(if i then 1 else 0) == j
 |_,_=>false
end
section
variable{X:Cx}{K:Fg}{E:XD}{a b e o:Expr}{es:List Expr}{fa fb:SE}{ka:SA}{pos:Pos}
noncomputable def zq(d:D)(h:Hd):Option (List D):=match d with
 |.tup xs=>some xs
 |.rol xs=>some xs
 |.ref i=>match h[i]? with|some (.lst xs)=>some xs|_=>none
 |_=>none
noncomputable def gIx(x y:D)(h:Hd):R D:=match y with
 |.int i=>(match x with
  |.str z=>if z.length<=LINE then (match atI z.cps.toList i with|some c=>.ok (.str ⟨#[c]⟩) h|none=>.no) else .no
  |x=>match zq x h with
   |some xs=>(match atI xs i with|some d=>.ok d h|none=>.no)
   |none=>.no)
 |_=>.no
theorem ac4(r:Reps K U H vs xs)(e:atI xs i=some d):∃v,atI vs i=some v/\Rep K U H v d:=by
 unfold atI at e ⊢;rw[r.len]
 cases hx:ixN xs.length i with
 |none=>rw[hx]at e;cases e
 |some j=>rw[hx]at e;exact r.get e
theorem auv:a2g K gIx (rIx K):=by
 intro E U H h x y dx dy Q rx ry hr o
 cases ry with
 |int i =>
  have go:∀{p:Addr} {vs:List V} {xs:List D},Reps K U H vs xs->out K E (xm K) U H (match atI xs i with|some d=>.ok d h|none=>.no) Q->∃v,atI vs i=some v/\Q v H:=λ{p vs xs} r o=>by
   cases he:atI xs i with
   |none=>rw[he]at o;exact o.elim
   |some d =>
    rw[he]at o;obtain⟨v,h1,h2⟩:=ac4 r he;exact⟨v,h1,ans o h2 hr⟩
  cases rx with
  |str z =>
   by_cases hc:z.length<=LINE
   .simp only[gIx,if_pos hc]at o
    cases he:atI z.cps.toList i with
    |none=>rw[he]at o;exact o.elim
    |some c=>rw[he]at o;exact .inr (.inr ⟨z,i,c,rfl,rfl,ll hc,he,ans o (.str _) hr⟩)
   .simp only[gIx,if_neg hc]at o;exact o.elim
  |@tup p vs xs hp r =>
   simp only[gIx,zq]at o;obtain⟨v,h1,h2⟩:=go (p:=p) r o;exact .inr (.inl ⟨p,vs,i,v,rfl,rfl,SqT.of hp,h1,h2⟩)
  |@rol p vs xs hp r =>
   simp only[gIx,zq]at o;obtain⟨v,h1,h2⟩:=go (p:=p) r o;exact .inl ⟨p,vs,i,v,rfl,rfl,hp.l,h1,h2⟩
  |@ref p j hp =>
   obtain⟨ob,e1,e2⟩:=hr.at hp
   cases ob with
   |lst xs =>
    simp only[gIx,zq,e1]at o;obtain⟨vs,h3,h4⟩:=e2;obtain⟨v,h1,h2⟩:=go (p:=p) h4 o;exact .inl ⟨p,vs,i,v,rfl,rfl,SqL.of h3,h1,h2⟩
   |dK _=>simp only[gIx,zq,e1]at o;exact o.elim
   |dT _=>simp only[gIx,zq,e1]at o;exact o.elim
   |ins _ _=>simp only[gIx,zq,e1]at o;exact o.elim
  |_=>exact o.elim
 |_=>exact o.elim
theorem aot(ha:ME X E a fa)(hb:ME X E b fb)(hp:a7i b):ME X E (.Subscript a b pos) (s2 gIx fa fb):=azg at6 auv ha hb hp
abbrev SO:=Sd->Hd->R (Option Int)
abbrev MO(X:Cx)(E:XD)(e:Option Expr)(f:SO):Prop:=PO X e (lift X.K E b25 f)
noncomputable def oN:SO:=λ_ h=>.ok none h
noncomputable def oS(f:SE):SO:=λτ h=>(f τ h).bind λd h1=>match d with|.int i=>.ok (some i) h1|_=>.no
theorem PO.weak{e:Option Expr}{t t':St->Hp->(Option Int->Hp->Prop)->Prop}(h:PO X e t)(i:∀Z H Q,t' Z H Q->t Z H Q):PO X e t':=λaA s Z H Q I q=>h aA s Z H Q I (i _ _ _ q)
theorem aou:MO X E none oN:=PO.weak anu λZ H Q ⟨U,τ,h,S,Rh,o⟩=>o U H none (.refl _ _) rfl Rh
theorem aov(he:ME X E e fa):MO X E (some e) (oS fa):=by
 refine PO.weak (anv he) ?_
 rintro Z H Q ⟨U,τ,h,S,Rh,o⟩
 refine⟨U,τ,h,S,Rh,bw o λd h1 U1 H1 v g1 r1 hr1 o1=>?_⟩
 cases r1 with
 |int i=>exact⟨i,rfl,o1 U1 H1 _ (.refl _ _) rfl hr1⟩
 |_=>exact o1.elim
def whole(n:Nat)(lo hi:Option Int):Prop:=HT.sIx n 0 lo=0/\HT.sIx n n hi=n
instance (n:Nat) (lo hi:Option Int):Decidable (whole n lo hi):=by unfold whole;exact inferInstance
noncomputable def gSl(d:D)(lo hi:Option Int)(h:Hd):R D:=match d with
 |.str z=>if z.length<=LINE then .ok (.str ⟨(a4z z.cps.toList lo hi).toArray⟩) h else .no
 |.tup xs=>if ¬ whole xs.length lo hi then .ok (.tup (a4z xs lo hi)) h else .no
 |.rol xs=>.ok (.ref h.length) (h++[.lst (a4z xs lo hi)])
 |.scr xs=>.ok (.ref h.length) (h++[.lst (a4z xs lo hi)])
 |.ref i=>match h[i]? with|some (.lst xs)=>.ok (.ref h.length) (h++[.lst (a4z xs lo hi)])|_=>.no
 |_=>.no
theorem a3n(r:Reps K U H vs xs)(lo hi:Option Int):Reps K U H (alo vs lo hi) (a4z xs lo hi):=by
 unfold alo a4z;rw[r.len];exact(r.drop _).take _
theorem ac6(rx:Rep K U H x d)(hr:HRep K U H h)(o:out K E (xm K) U H (gSl d lo hi h) Q):azb x lo hi H Q\/az0 K x lo hi H Q\/az2 K x lo hi H Q:=by
 cases rx with
 |str z =>
  by_cases hc:z.length<=LINE
  .simp only[gSl,if_pos hc]at o;exact .inl ⟨z,rfl,ll hc,ans o (.str _) hr⟩
  .simp only[gSl,if_neg hc]at o;exact o.elim
 |@tup p vs xs hp r =>
  by_cases hc:¬ whole xs.length lo hi
  .simp only[gSl,if_pos hc]at o;exact .inr (.inl ⟨p,vs,rfl,SqT.of hp,by rw[r.len];exact hc,a3d (a3n r lo hi) hr o⟩)
  .simp only[gSl,if_neg hc]at o;exact o.elim
 |@rol p vs xs hp r=>exact .inr (.inr ⟨p,vs,rfl,hp.l,vo (a3n r lo hi) hr o⟩)
 |@scr p vs xs hp r=>exact .inr (.inr ⟨p,vs,rfl,hp.l,vo (a3n r lo hi) hr o⟩)
 |@ref p j hp =>
  obtain⟨ob,e1,e2⟩:=hr.at hp
  cases ob with
  |lst xs =>
   simp only[gSl,e1]at o;obtain⟨vs,h3,h4⟩:=e2;exact .inr (.inr ⟨p,vs,rfl,SqL.of h3,vo (a3n h4 lo hi) hr o⟩)
  |dK _=>simp only[gSl,e1]at o;exact o.elim
  |dT _=>simp only[gSl,e1]at o;exact o.elim
  |ins _ _=>simp only[gSl,e1]at o;exact o.elim
 |_=>exact o.elim
theorem afw(r:Rep K U H x d)(f:a1t d=true):a2z x=true:=by cases r<;>first|rfl|cases f
theorem auw(r:Rep K U H x d)(q:Rep K U H y c):a1t d=true->a1t c=true->eqV x y=eqF d c:=λf g=>by
 refine fvs (P:=λd x c y=>eqV x y=eqF d c) (λd x e y h h'=>?_) r q f g
 cases d<;>first|(cases h;done)|(cases h;cases e<;>first|(cases h';done)|(cases h';rfl))
noncomputable def inD(x:D)(xs:List D):Bool:=xs.any λy=>eqF y x
theorem ajh(r:Reps K U H vs xs)(f:xs.all a1t=true):vs.all a2z=true:=by
 induction r using Reps.rec (motive_1:=λ_ _ _=>True) with
 |nil=>rfl
 |cons r rs _ ih =>
  rw[List.all_cons,Bool.and_eq_true]at f ⊢;exact⟨afw r f.1,ih f.2⟩
 |_=>trivial
theorem auy(rx:Rep K U H x d)(fx:a1t d=true)(r:Reps K U H vs xs)(f:xs.all a1t=true):inV x vs=inD d xs:=by
 unfold inV inD
 induction r using Reps.rec (motive_1:=λ_ _ _=>True) with
 |nil=>rfl
 |cons r rs _ ih =>
  rw[List.all_cons,Bool.and_eq_true]at f;rw[List.any_cons,List.any_cons,ih f.2,auw r rx f.1 fx]
 |_=>trivial
noncomputable def gIn(neg:Bool)(x y:D)(h:Hd):R D:=match y with
 |.str T=>(match x with
  |.str z=>(match z.cps.toList with|[c]=>.ok (.bl (if neg then !decide (c∈T.cps.toList) else decide (c∈T.cps.toList))) h|_=>.no)
  |_=>.no)
 |y=>match zq y h with
  |some xs=>if a1t x=true/\xs.all a1t=true then .ok (.bl (if neg then !inD x xs else inD x xs)) h else .no
  |none=>.no
theorem one_sign{z:Str}(h:z.cps.toList=[c]):z=⟨#[c]⟩:=by
 obtain⟨cps⟩:=z
 congr
 exact Array.ext' (by simpa using h)
theorem auz(neg:Bool){r1:R2}(h1:∀c T H (Q:VK),Q (.bl (if neg then !decide (c∈T.cps.toList) else decide (c∈T.cps.toList))) H->r1 (.str ⟨#[c]⟩) (.str T) H Q):a2g K (gIn neg) (λx y H Q=>r1 x y H Q\/rIn K neg x y H Q):=by
 intro E U H h x y dx dy Q rx ry hr o
 have go:∀{p:Addr} {vs:List V} {xs:List D},(SqL K H p vs\/SqT K H p vs)->Reps K U H vs xs->out K E (xm K) U H (if a1t dx=true/\xs.all a1t=true then .ok (.bl (if neg then !inD dx xs else inD dx xs)) h else .no) Q->rIn K neg x (.ref p) H Q:=λ{p vs xs} sq r o=>by
  split at o
  .rename_i hc;exact⟨p,vs,rfl,sq,afw rx hc.1,ajh r hc.2,by rw[auy rx hc.1 r hc.2];exact ans o (.bl _) hr⟩
  .exact o.elim
 cases ry with
 |str T =>
  cases rx with
  |str z =>
   simp only[gIn]at o
   split at o
   .rename_i c hz;rw[one_sign hz];exact .inl (h1 c T H Q (ans o (.bl _) hr))
   .exact o.elim
  |_=>exact o.elim
 |@tup p vs xs hp r=>simp only[gIn,zq]at o;exact .inr (go (.inr (SqT.of hp)) r o)
 |@rol p vs xs hp r=>simp only[gIn,zq]at o;exact .inr (go (.inl hp.l) r o)
 |@ref p j hp =>
  obtain⟨ob,e1,e2⟩:=hr.at hp
  cases ob with
  |lst xs =>
   simp only[gIn,zq,e1]at o;obtain⟨vs,h3,h4⟩:=e2;exact .inr (go (.inl (SqL.of h3)) h4 o)
  |dK _=>simp only[gIn,zq,e1]at o;exact o.elim
  |dT _=>simp only[gIn,zq,e1]at o;exact o.elim
  |ins _ _=>simp only[gIn,zq,e1]at o;exact o.elim
 |_=>exact o.elim
theorem aow:a2g K (gIn false) (λx y H Q=>(∃c T,x=.str ⟨#[c]⟩/\y=.str T/\Q (.bl (decide (c∈T.cps.toList))) H)\/rIn K false x y H Q):=auz false λc T H Q q=>⟨c,T,rfl,rfl,q⟩
noncomputable def m9:List D->Hd->R D
 |[.str z],h=>if z.length<=LINE then .ok (.int z.length) h else .no
 |[x],h=>(match zq x h with|some xs=>.ok (.int xs.length) h|none=>.no)
 |_,_=>.no
theorem aox:adi K m9 (λxs H Q=>(∃p ys,xs=[.ref p]/\(SqL K H p ys\/SqT K H p ys)/\Q (.int ys.length) H)\/∃z,xs=[.str z]/\z.length<=sizeLine/\Q (.int z.length) H):=by
 intro E U H h xs ds Q r hr o
 cases r with
 |nil=>exact o.elim
 |cons r rs =>
  cases rs with
  |cons _ _=>exact(show False by cases r<;>exact o).elim
  |nil =>
   cases r with
   |str z =>
    by_cases hc:z.length<=LINE
    .simp only[m9,if_pos hc]at o;exact .inr ⟨z,rfl,ll hc,ans o (.int _) hr⟩
    .simp only[m9,if_neg hc]at o;exact o.elim
   |@tup p vs xs hp r=>simp only[m9,zq]at o;exact .inl ⟨p,vs,rfl,.inr (SqT.of hp),by rw[r.len];exact ans o (.int _) hr⟩
   |@rol p vs xs hp r=>simp only[m9,zq]at o;exact .inl ⟨p,vs,rfl,.inl hp.l,by rw[r.len];exact ans o (.int _) hr⟩
   |@ref p j hp =>
    obtain⟨ob,e1,e2⟩:=hr.at hp
    cases ob with
    |lst xs =>
     simp only[m9,zq,e1]at o;obtain⟨vs,h3,h4⟩:=e2;exact .inl ⟨p,vs,rfl,.inl (SqL.of h3),by rw[h4.len];exact ans o (.int _) hr⟩
    |dK _=>simp only[m9,zq,e1]at o;exact o.elim
    |dT _=>simp only[m9,zq,e1]at o;exact o.elim
    |ins _ _=>simp only[m9,zq,e1]at o;exact o.elim
   |_=>exact o.elim
noncomputable def av0:List D->Hd->R D
 |[.int i],h=>.ok (.int (if i<0 then -i else i)) h
 |_,_=>.no
theorem aoy:adi K av0 (λxs H Q=>∃i,xs=[.int i]/\Q (.int (if i<0 then -i else i)) H):=by
 intro E U H h xs ds Q r hr o
 unfold av0 at o
 split at o
 .cases r with|cons r rs=>cases r;cases rs;exact⟨_,rfl,ans o (.int _) hr⟩
 .exact o.elim
noncomputable def a2p:List D->Hd->R D
 |[.int i,.int j],h=>.ok (.int (if j > i then j else i)) h
 |_,_=>.no
noncomputable def a2q:List D->Hd->R D
 |[.int i,.int j],h=>.ok (.int (if j<i then j else i)) h
 |_,_=>.no
theorem aji:adi K a2p (λxs H Q=>∃i j,xs=[.int i,.int j]/\Q (.int (if j > i then j else i)) H):=by
 intro E U H h xs ds Q r hr o
 unfold a2p at o
 split at o
 .cases r with|cons r rs=>cases rs with|cons q rs=>cases r;cases q;cases rs;exact⟨_,_,rfl,ans o (.int _) hr⟩
 .exact o.elim
theorem ajj:adi K a2q (λxs H Q=>∃i j,xs=[.int i,.int j]/\Q (.int (if j<i then j else i)) H):=by
 intro E U H h xs ds Q r hr o
 unfold a2q at o
 split at o
 .cases r with|cons r rs=>cases rs with|cons q rs=>cases r;cases q;cases rs;exact⟨_,_,rfl,ans o (.int _) hr⟩
 .exact o.elim
noncomputable def axz:List D->Hd->R D
 |[.int i],h=>.ok (.int i) h
 |[.bl k],h=>.ok (.int (if k then 1 else 0)) h
 |_,_=>.no
noncomputable def tyD(d:D)(h:Hd):Option String:=match d with
 |.non=>some "NoneType" |.bl _=>some "bool" |.int _=>some "int" |.str _=>some "str" |.tup _=>some "tuple" |.rol _=>some "list"
 |.ref i=>(match h[i]? with|some (.lst _)=>some "list" |some (.dK _)=>some "dict" |_=>none)
 |_=>none
noncomputable def aed(t T:String):Option Bool :=
 if t∈["NoneType","bool","int","str","tuple","list","dict"]/\T∈["bool","int","str","tuple","list","dict"] then some (t == T || (t == "bool" && T == "int")) else none
theorem afx{t T:String}{b:Bool}(e:aed t T=some b):PySem.W.kitOne K (.type t) (.type T)=some b:=by
 unfold aed at e
 split at e
 .rename_i h;obtain⟨h1,h2⟩:=h;simp only[List.mem_cons,List.not_mem_nil,or_false]at h1 h2
  rcases h1 with rfl|rfl|rfl|rfl|rfl|rfl|rfl<;>rcases h2 with rfl|rfl|rfl|rfl|rfl|rfl<;>(cases e;rfl)
 .cases e
noncomputable def aij:List D->Hd->R D
 |[x,.ty T],h=>(match tyD x h with|some t=>(match aed t T with|some b=>.ok (.bl b) h|none=>.no)|none=>.no)
 |_,_=>.no
theorem av1(r:Rep K U H x d)(hr:HRep K U H h)(e:tyD d h=some t):TyOf K H x (.type t):=by
 cases r with
 |non=>cases e;exact .non
 |bl b=>cases e;exact .bl b
 |int b=>cases e;exact .int b
 |str b=>cases e;exact .str b
 |ty _=>cases e
 |tup hp r=>cases e;exact .tup hp
 |rol hp r=>cases e;obtain⟨o,hp⟩:=hp;exact .frz hp
 |scr _ _=>cases e
 |rod _ _ _=>cases e
 |rdT _ _ _=>cases e
 |exc _ _ _=>cases e
 |ins _ _ _ _=>cases e
 |ref hp =>
  obtain⟨ob,e1,e2⟩:=hr.at hp
  cases ob with
  |lst xs=>simp only[tyD,e1]at e;cases e;obtain⟨vs,h3,h4⟩:=e2;exact .lst h3
  |dK _=>simp only[tyD,e1]at e;cases e;obtain⟨vs,h3,h4⟩:=e2;exact .dK h3
  |dT _=>simp only[tyD,e1]at e;cases e
  |ins _ _=>simp only[tyD,e1]at e;cases e
theorem aoz:adi K aij (λxs H Q=>∃x T t b,xs=[x,.ty T]/\TyOf K H x t/\PySem.W.kitOne K t (.type T)=some b/\Q (.bl b) H):=by
 intro E U H h xs ds Q r hr o
 unfold aij at o
 split at o
 .rename_i d T
  cases r with
  |cons r rs =>
   cases rs with
   |cons q rs =>
    cases q;cases rs
    cases ht:tyD d h with
    |none=>rw[ht]at o;exact o.elim
    |some t =>
     rw[ht]at o
     cases hb:aed t T with
     |none=>simp only[hb]at o;exact o.elim
     |some b =>
      simp only[hb]at o;exact⟨_,T,.type t,b,rfl,av1 r hr ht,afx hb,ans o (.bl _) hr⟩
 .exact o.elim
end
section
variable{X:Cx}{K:Fg}{E:XD}{a b e o:Expr}{es:List Expr}{fa fb fo:SE}{ka:SA}{pos apos cpos:Pos}{name:Str}{idn:String}
def ap0(K:Fg)(g:D->List D->Hd->R D)(r:V->List V->Hp->VK->Prop):Prop:=∀(E:XD) U H h x dx xs ds Q,Rep K U H x dx->Reps K U H xs ds->HRep K U H h->out K E (xm K) U H (g dx ds h) Q->r x xs H Q
noncomputable def isL(d:D)(h:Hd):Bool:=match d with|.ref i=>(match h[i]? with|some (.lst _)=>true|_=>false)|.rol _=>true|_=>false
noncomputable def sML(g:D->List D->Hd->R D)(f:SE)(k:SA):SE:=λτ h=>(f τ h).bind λd h1=>if isL d h1=true then (k τ h1).bind λds h2=>g d ds h2 else .no
theorem av2(r:Rep K U H x d)(hr:HRep K U H h)(e:isL d h=true):tyV K "list" x H:=by
 cases r with
 |rol hp _=>exact .inl ⟨rfl,_,hp.l⟩
 |ref hp =>
  obtain⟨ob,e1,e2⟩:=hr.at hp
  cases ob with
  |lst xs=>obtain⟨vs,h3,_⟩:=e2;exact .inl ⟨rfl,_,SqL.of h3⟩
  |dK _=>simp[isL,e1]at e
  |dT _=>simp[isL,e1]at e
  |ins _ _=>simp[isL,e1]at e
 |_=>cases e
theorem ap1(slot:Slot "list" name idn)(hty:typeOf (.builtin idn)=pure (.type "method_descriptor"))(hm:MtR X idn r)(hs:ap0 X.K g r)(ho:ME X E o fo)(ha:MA X E (e::es) ka)
  (hbase:attributeBase o name X.env (eval o X.env)=eval o X.env:=by rfl)
  (hfew:((backTo cpos (starEach (e::es) X.env)).all (λx => !x.1) && (backToKw cpos (keywordEach [] X.env)).all (λx=>x.1.isSome)
   && decide ((e::es).length+([]:List Keyword).length+(if ([]:List Keyword).isEmpty then 0 else 1)<30))=true:=by rfl)
  (hline:(apos.endLine == cpos.line)=true:=by rfl) (hst:starEach (e::es) X.env=(false,eval e X.env)::starEach es X.env:=by rfl) (hplain:(backTo cpos (starEach es X.env)).any (·.1)=false:=by rfl) :
  ME X E (.Call (.Attribute o name apos) (e::es) [] cpos) (sML g fo ka):=by
 refine PE.weak (az3 PySem.F.plainAttrs_list slot hty hm ho ha hbase hfew hline hst hplain) ?_
 rintro Z H Q ⟨U,τ,h,S,Rh,o⟩
 refine⟨U,τ,h,S,Rh,bw o λd h1 U1 H1 v g1 r1 hr1 o1=>?_⟩
 by_cases hc:isL d h1=true
 .rw[if_pos hc]at o1;refine⟨av2 r1 hr1 hc,U1,τ,h1,S.mono g1,hr1,bw o1 λds h2 U2 H2 vs g2 r2 hr2 o2=>?_⟩;exact hs E U2 H2 h2 v d vs ds Q (r1.mono g2) r2 hr2 o2
 .rw[if_neg hc]at o1;exact o1.elim
noncomputable def a4b:D->List D->Hd->R D
 |.ref i,[y],h=>(match h[i]? with|some (.lst xs)=>if xs.length<LINE then .ok .non (h.set i (.lst (xs++[y]))) else .no|_=>.no)
 |_,_,_=>.no
theorem ap2:ap0 K a4b af3:=by
 intro E U H h x dx xs ds Q rx r hr o
 unfold a4b at o
 split at o
 .rename_i i y
  cases rx with
  |@ref p _ hp =>
   cases r with
   |cons r1 rs =>
    cases rs
    split at o
    .rename_i xs hx;obtain⟨vs,h3,h4⟩:=hr.lst hp hx
     split at o
     .rename_i hc;exact⟨p,vs,_,rfl,rfl,h3,by rw[h4.len,ao8];exact hc,a7v (h4.snoc r1) hr hp .non o⟩
     .exact o.elim
    .exact o.elim
 .exact o.elim
noncomputable def a3o:D->List D->Hd->R D
 |.ref i,[.int j],h=>(match h[i]? with|some (.lst xs)=>(match ixN xs.length j with|some k=>(match xs[k]? with|some y=>if xs.length<=LINE then .ok y (h.set i (.lst (xs.eraseIdx k))) else .no|none=>.no)|none=>.no)|_=>.no)
 |_,_,_=>.no
theorem afy:ap0 K a3o alr:=by
 intro E U H h x dx xs ds Q rx r hr o
 unfold a3o at o
 split at o
 .rename_i i j
  cases rx with
  |@ref p _ hp =>
   cases r with
   |cons r1 rs =>
    cases r1;cases rs
    split at o
    .rename_i xs hx;obtain⟨vs,h3,h4⟩:=hr.lst hp hx
     split at o
     .rename_i k hk
      split at o
      .rename_i y hy
       split at o
       .rename_i hl;obtain⟨v,h5,h6⟩:=h4.get hy;obtain⟨q1,q2,q3,q4⟩:=aak hk;have hl':xs.length<=16777216:=hl;exact⟨p,vs,j,k,v,rfl,rfl,h3,by omega,by omega,by rw[h4.len];exact q1,h5,a7v (h4.erase k) hr hp h6 o⟩
       .exact o.elim
      .exact o.elim
     .exact o.elim
    .exact o.elim
 .exact o.elim
noncomputable def sMS(g:D->List D->Hd->R D)(f:SE)(k:SA):SE:=λτ h=>(f τ h).bind λd h1=>match d with|.str z=>(k τ h1).bind λds h2=>g (.str z) ds h2|_=>.no
theorem av3(slot:Slot "str" name idn)(hty:typeOf (.builtin idn)=pure (.type "method_descriptor"))(hm:MtR X idn r)(hs:ap0 X.K g r)(ho:ME X E o fo)(ha:MA X E (e::es) ka)
  (hbase:attributeBase o name X.env (eval o X.env)=eval o X.env:=by rfl)
  (hfew:((backTo cpos (starEach (e::es) X.env)).all (λx => !x.1) && (backToKw cpos (keywordEach [] X.env)).all (λx=>x.1.isSome)
   && decide ((e::es).length+([]:List Keyword).length+(if ([]:List Keyword).isEmpty then 0 else 1)<30))=true:=by rfl)
  (hline:(apos.endLine == cpos.line)=true:=by rfl) (hst:starEach (e::es) X.env=(false,eval e X.env)::starEach es X.env:=by rfl) (hplain:(backTo cpos (starEach es X.env)).any (·.1)=false:=by rfl) :
  ME X E (.Call (.Attribute o name apos) (e::es) [] cpos) (sMS g fo ka):=by
 refine PE.weak (azd slot hty hm ho ha hbase hfew hline hst hplain) ?_
 rintro Z H Q ⟨U,τ,h,S,Rh,o⟩
 refine⟨U,τ,h,S,Rh,bw o λd h1 U1 H1 v g1 r1 hr1 o1=>?_⟩
 cases r1 with
 |str z=>exact⟨⟨z,rfl⟩,U1,τ,h1,S.mono g1,hr1,bw o1 λds h2 U2 H2 vs g2 r2 hr2 o2=>hs E U2 H2 h2 _ _ vs ds Q (.str z) r2 hr2 o2⟩
 |_=>exact o1.elim
noncomputable def afz:D->List D->Hd->R D
 |.str T,[.str z],h=>(match z.cps.toList with|[c]=>.ok (.int (a3l T c)) h|_=>.no)
 |_,_,_=>.no
theorem ajk:ap0 K afz (λx xs H Q=>∃T c,x=.str T/\xs=[.str ⟨#[c]⟩]/\Q (.int (a3l T c)) H):=by
 intro E U H h x dx xs ds Q rx r hr o
 unfold afz at o
 split at o
 .cases rx
  cases r with
  |cons r1 rs =>
   cases r1;cases rs
   split at o
   .rename_i c hz;exact⟨_,c,rfl,by rw[one_sign hz],ans o (.int _) hr⟩
   .exact o.elim
 .exact o.elim
noncomputable def a9i:D->List D->Hd->R D
 |.str T,[.str z],h=>(match z.cps.toList with|[c]=>if c∈T.cps.toList then .ok (.int (a3l T c)) h else .no|_=>.no)
 |_,_,_=>.no
theorem ag0:ap0 K a9i (λx xs H Q=>∃T c,x=.str T/\xs=[.str ⟨#[c]⟩]/\c∈T.cps.toList/\Q (.int (a3l T c)) H):=by
 intro E U H h x dx xs ds Q rx r hr o
 unfold a9i at o
 split at o
 .cases rx
  cases r with
  |cons r1 rs =>
   cases r1;cases rs
   split at o
   .rename_i c hz
    split at o
    .rename_i hc;exact⟨_,c,rfl,by rw[one_sign hz],hc,ans o (.int _) hr⟩
    .exact o.elim
   .exact o.elim
 .exact o.elim
noncomputable def a3p:List D->Hd->R D
 |[.str z],h=>if z.length<=LINE then .ok (.ref h.length) (h++[.lst (a0f z)]) else .no
 |[x],h=>(match zq x h with|some xs=>.ok (.ref h.length) (h++[.lst xs])|none=>.no)
 |_,_=>.no
theorem a4f(z:Str):Reps K U H (yu z) (a0f z):=by
 unfold yu a0f
 induction z.cps.toList with
 |nil=>exact .nil
 |cons c cs ih=>exact .cons (.str _) ih
theorem ajl:adi K a3p (λxs H Q=>(∃p ys,xs=[.ref p]/\(SqL K H p ys\/SqT K H p ys)/\∀l,H l=none->Q (.ref l) (upd H l (.lst ys)))\/∃z,xs=[.str z]/\z.length<=sizeLine/\∀l,H l=none->Q (.ref l) (upd H l (.lst (yu z)))):=by
 intro E U H h xs ds Q r hr o
 cases r with
 |nil=>exact o.elim
 |cons r rs =>
  cases rs with
  |cons _ _=>exact(show False by cases r<;>exact o).elim
  |nil =>
   cases r with
   |str z =>
    by_cases hc:z.length<=LINE
    .simp only[a3p,if_pos hc]at o;exact .inr ⟨z,rfl,ll hc,vo (a4f z) hr o⟩
    .simp only[a3p,if_neg hc]at o;exact o.elim
   |@tup p vs xs hp r=>simp only[a3p,zq]at o;exact .inl ⟨p,vs,rfl,.inr (SqT.of hp),vo r hr o⟩
   |@rol p vs xs hp r=>simp only[a3p,zq]at o;exact .inl ⟨p,vs,rfl,.inl hp.l,vo r hr o⟩
   |@ref p j hp =>
    obtain⟨ob,e1,e2⟩:=hr.at hp
    cases ob with
    |lst xs =>
     simp only[a3p,zq,e1]at o;obtain⟨vs,h3,h4⟩:=e2;exact .inl ⟨p,vs,rfl,.inl (SqL.of h3),vo h4 hr o⟩
    |dK _=>simp only[a3p,zq,e1]at o;exact o.elim
    |dT _=>simp only[a3p,zq,e1]at o;exact o.elim
    |ins _ _=>simp only[a3p,zq,e1]at o;exact o.elim
   |_=>exact o.elim
noncomputable def yw:List D->Hd->R D
 |[.str z],h=>if z.length<=LINE then .ok (.tup (a0f z)) h else .no
 |[x],h=>(match zq x h with|some xs=>.ok (.tup xs) h|none=>.no)
 |_,_=>.no
theorem ag1:adi K yw (λxs H Q=>(∃p ys,xs=[.ref p]/\((SqL K H p ys/\∀l,H l=none->Q (.ref l) (upd H l (.tup ys)))\/(SqT K H p ys/\Q (.ref p) H)))\/∃z,xs=[.str z]/\z.length<=sizeLine/\∀l,H l=none->Q (.ref l) (upd H l (.tup (yu z)))):=by
 intro E U H h xs ds Q r hr o
 cases r with
 |nil=>exact o.elim
 |cons r rs =>
  cases rs with
  |cons _ _=>exact(show False by cases r<;>exact o).elim
  |nil =>
   cases r with
   |str z =>
    by_cases hc:z.length<=LINE
    .simp only[yw,if_pos hc]at o;exact .inr ⟨z,rfl,ll hc,a3d (a4f z) hr o⟩
    .simp only[yw,if_neg hc]at o;exact o.elim
   |@tup p vs xs hp r=>simp only[yw,zq]at o;exact .inl ⟨p,vs,rfl,.inr ⟨SqT.of hp,ans o (.tup hp r) hr⟩⟩
   |@rol p vs xs hp r=>simp only[yw,zq]at o;exact .inl ⟨p,vs,rfl,.inl ⟨hp.l,a3d r hr o⟩⟩
   |@ref p j hp =>
    obtain⟨ob,e1,e2⟩:=hr.at hp
    cases ob with
    |lst xs =>
     simp only[yw,zq,e1]at o;obtain⟨vs,h3,h4⟩:=e2;exact .inl ⟨p,vs,rfl,.inl ⟨SqL.of h3,a3d h4 hr o⟩⟩
    |dK _=>simp only[yw,zq,e1]at o;exact o.elim
    |dT _=>simp only[yw,zq,e1]at o;exact o.elim
    |ins _ _=>simp only[yw,zq,e1]at o;exact o.elim
   |_=>exact o.elim
noncomputable def ap3:List D->Option (List Bool)
 |[]=>some []
 |.bl z::r=>(ap3 r).map (z::·)
 |_::_=>none
theorem ab0:∀{vs:List V} {xs:List D} {zs:List Bool},Reps K U H vs xs->ap3 xs=some zs->vs=zs.map V.bl
 |_,_,_,.nil,e=>by cases e;rfl
 |_,_,zs,.cons (d:=d) r rs,e=>by
  cases r with
  |bl z =>
   simp only[ap3,Option.map_eq_some_iff]at e;obtain⟨ws,h1,rfl⟩:=e;rw[ab0 rs h1];rfl
  |_=>cases e
theorem ajm(bs:List Bool):ap3 (bs.map D.bl)=some bs:=by
 induction bs with
 |nil=>rfl
 |cons b bs ih=>simp[ap3,ih]
noncomputable def aee:List D->Hd->R D
 |[.ref i],h=>(match h[i]? with|some (.lst xs)=>(match ap3 xs with|some bs=>.ok (.bl (bs.all id)) h|none=>.no)|_=>.no)
 |[.rol xs],h=>(match ap3 xs with|some bs=>.ok (.bl (bs.all id)) h|none=>.no)
 |_,_=>.no
theorem ap4:adi K aee (λxs H Q=>∃(p:Addr) (bs:List Bool),xs=[.ref p]/\SqL K H p (bs.map V.bl)/\Q (.bl (bs.all id)) H):=by
 intro E U H h xs ds Q r hr o
 unfold aee at o
 split at o
 .cases r with
  |cons r rs =>
   cases rs
   cases r with
   |@ref p _ hp =>
    split at o
    .rename_i xs hx;obtain⟨vs,h3,h4⟩:=hr.lst hp hx
     split at o
     .rename_i bs hb;exact⟨p,bs,rfl,SqL.of (by rw[h3,ab0 h4 hb]),ans o (.bl _) hr⟩
     .exact o.elim
    .exact o.elim
 .cases r with
  |cons r rs =>
   cases rs
   cases r with
   |@rol p vs xs hp r =>
    split at o
    .rename_i bs hb;exact⟨p,bs,rfl,by rw[<-ab0 r hb];exact hp.l,ans o (.bl _) hr⟩
    .exact o.elim
 .exact o.elim
end
end MI
theorem L2.Room.u(r:L2.Room k A):A.units+64<PySem.cLine:=r.units
namespace MI
open L2
mutual
def eqD:D->D->Bool
 |.non,.non=>true
 |.bl a,.bl b=>a == b
 |.bl a,.int b=>(if a then 1 else 0) == b
 |.int a,.bl b=>a == (if b then 1 else 0)
 |.int a,.int b=>a == b
 |.str a,.str b=>a == b
 |.tup xs,.tup ys=>aac xs ys
 |_,_=>false
def aac:List D->List D->Bool
 |[],[]=>true
 |x::xs,y::ys=>eqD x y && aac xs ys
 |_,_=>false
end
noncomputable def pur:Nat->D->Bool
 |_,.non=>true
 |_,.bl _=>true
 |_,.int _=>true
 |_,.str _=>true
 |n+1,.tup xs=>xs.all (pur n)
 |_,_=>false
noncomputable def pairE(xs ys:List D)(j:Nat):Bool:=match xs[j]?,ys[j]? with|some x,some y=>eqD x y|_,_=>false
theorem a3q:∀xs ys:List D,((List.range (min xs.length ys.length)).all (pairE xs ys) && xs.length == ys.length)=aac xs ys
 |[],[]=>by simp[aac]
 |[],_::_=>by simp[aac]
 |_::_,[]=>by simp[aac]
 |x::xs,y::ys=>by
  have ih:=a3q xs ys;rw[show min (x::xs).length (y::ys).length=min xs.length ys.length+1 by simp only[List.length_cons];omega,List.range_succ_eq_map]
  rw[List.all_cons,List.all_map];have e:(pairE (x::xs) (y::ys) ∘ Nat.succ)=pairE xs ys:=by funext j;simp[pairE]
  rw[e];simp only[aac];rw[<-ih];have e2:((x::xs).length == (y::ys).length)=(xs.length == ys.length):=by simp
  rw[e2,Bool.and_assoc];rfl
section
variable{K:Fg}{U:List Addr}{H:Hp}
theorem a7y{xs:List D}(r:Rep K U H v (.tup xs)):∃a vs,v=.ref a/\H a=some (.tup vs)/\Reps K U H vs xs:=by cases r with|@tup a vs _ h rs=>exact⟨a,vs,rfl,h,rs⟩
theorem am3(r:Rep K U H v d)(q:Rep K U H v e)(f:a1t d=true)(g:a1t e=true):eqD d e=true:=by
 have h:=ajg r f;have h':=ajg q g
 cases d<;>first|(cases h;done)|(cases h;cases e<;>first|(cases h';done)|(cases h';simp[eqD]))
theorem a0r(r:Rep K U H v d)(p:pur n d=true):(∃xs,d=.tup xs)\/(a2z v=true/\a1t d=true):=by
 cases r<;>first|exact .inr ⟨rfl,rfl⟩|exact .inl ⟨_,rfl⟩|(cases n<;>cases p)
theorem a7z(r:Rep K U H x d)(q:Rep K U H y e)(f:a1t d=true)(g:a1t e=true):eqV x y=eqD d e:=by
 refine fvs (P:=λd x c y=>eqV x y=eqD d c) (λd x e y h h'=>?_) r q f g
 cases d<;>first|(cases h;done)|(cases h;cases e<;>first|(cases h';done)|(cases h';first|rfl|(simp[eqV,eqD];done)))
theorem ajn:∀(n:Nat) {v:V} {d e:D},Rep K U H v d->Rep K U H v e->pur n d=true->pur n e=true->eqD d e=true:=by
 intro n
 induction n with
 |zero =>
  intro v d e r q p1 p2
  rcases a0r r p1 with⟨xs,rfl⟩|⟨f1,g1⟩
  .cases p1
  rcases a0r q p2 with⟨xs,rfl⟩|⟨f2,g2⟩
  .cases p2
  exact am3 r q g1 g2
 |succ n ih =>
  intro v d e r q p1 p2
  rcases a0r r p1 with⟨xs,rfl⟩|⟨f1,g1⟩
  .rcases a0r q p2 with⟨ys,rfl⟩|⟨f2,g2⟩
   .obtain⟨a,vs,rfl,h,rs⟩:=a7y r;obtain⟨b,us,z,h',qs⟩:=a7y q;cases z
    rw[h]at h';cases h'
    simp only[eqD];simp only[pur,List.all_eq_true]at p1 p2
    clear h r q
    induction rs using Reps.rec (motive_1:=λ_ _ _=>True) generalizing ys with
    |nil=>cases qs;rfl
    |cons r rs _ ih2 =>
     cases qs with
     |cons q qs =>
      simp only[aac,Bool.and_eq_true];exact⟨ih r q (p1 _ (List.mem_cons_self ..)) (p2 _ (List.mem_cons_self ..)),ih2 _ qs (λx hx=>p1 x (List.mem_cons_of_mem _ hx)) (λx hx=>p2 x (List.mem_cons_of_mem _ hx))⟩
    |_=>trivial
   .obtain⟨a,vs,rfl,h,rs⟩:=a7y r;cases f2
  .rcases a0r q p2 with⟨ys,rfl⟩|⟨f2,g2⟩
   .obtain⟨a,vs,rfl,h,rs⟩:=a7y q;cases f1
   .exact am3 r q g1 g2
open SeqAt in
theorem am4{s:Shared}(hok:HOk P w H s.heap):∀(n:Nat) (A:Around) {x y:V} {u v:Value} {d e:D},Rep K U H x d->Rep K U H y e->RelV x u->RelV y v->pur n d=true->pur n e=true->A.units+n<cLine->EqAt A s u v (eqD d e):=by
 intro n
 induction n with
 |zero =>
  intro A x y u v d e r q rx ry p1 p2 hu
  rcases a0r r p1 with⟨xs,rfl⟩|⟨f1,f2⟩
  .cases p1
  .rcases a0r q p2 with⟨xs,rfl⟩|⟨g1,g2⟩
   .cases p2
   .rw[<-a7z r q f2 g2];exact af1 rx ry f1 g1
 |succ n ih =>
  intro A x y u v d e r q rx ry p1 p2 hu
  rcases a0r r p1 with⟨xs,rfl⟩|⟨f1,f2⟩
  .cases r with
   |@tup a vs _ ha rs =>
    cases rx
    obtain⟨_,its,r1,t1⟩:=(Rd.of ha).ok hok
    rcases a0r q p2 with⟨ys,rfl⟩|⟨g1,g2⟩
    .cases q with
     |@tup b us _ hb qs =>
      cases ry
      obtain⟨_,its2,r2,t2⟩:=(Rd.of hb).ok hok
      by_cases hab:a=b
      .subst hab;rw[ajn (n+1) (.tup ha rs) (.tup hb qs) p1 p2];exact EqAt.same _
      .have l1:its.toArray.size=xs.length:=by rw[List.size_toArray,<-r1.length,rs.len]
       have l2:its2.toArray.size=ys.length:=by rw[List.size_toArray,<-r2.length,qs.len]
       have:=RcAt.tuples (A:=A) (s:=s) (e:=pairE xs ys) t1 t2 (by omega) (λj h1 h2=>by
        have j1:j<xs.length:=by omega
        have j2:j<ys.length:=by omega
        obtain⟨v1,e1,q1⟩:=rs.get (List.getElem?_eq_getElem j1);obtain⟨v2,e2,q2⟩:=qs.get (List.getElem?_eq_getElem j2);obtain⟨u1,e3,q3⟩:=r1.get e1;obtain⟨u2,e4,q4⟩:=r2.get e2;have f1:its.toArray[j]=u1:=by simpa using (List.getElem?_eq_some_iff.mp e3).2
        have f2:its2.toArray[j]=u2:=by simpa using (List.getElem?_eq_some_iff.mp e4).2
        have pe:pairE xs ys j=eqD xs[j] ys[j]:=by simp[pairE,List.getElem?_eq_getElem j1,List.getElem?_eq_getElem j2]
        rw[f1,f2,pe];simp only[pur,List.all_eq_true]at p1 p2;exact ih A.in1 q1 q2 q3 q4 (p1 _ (List.getElem_mem j1)) (p2 _ (List.getElem_mem j2)) (by rw[Around.in1_units];omega))
       rw[l1,l2,a3q]at this;exact EqAt.of_refs hab this
    .have e0:eqD (.tup xs) e=false:=by cases e<;>first|rfl|(cases g2;done)
     rw[e0]
     cases y with
     |non=>cases ry;exact EqAt.tuple_none t1 (by omega)
     |bl b=>cases ry;exact EqAt.tuple_bool b t1 (by omega)
     |int b=>obtain⟨t,rfl⟩:=ry;exact EqAt.tuple_int b t t1 (by omega)
     |str b=>obtain⟨t,rfl⟩:=ry;exact EqAt.tuple_str b t t1 (by omega)
     |_=>cases g1
  .rcases a0r q p2 with⟨ys,rfl⟩|⟨g1,g2⟩
   .cases q with
    |@tup b us _ hb qs =>
     cases ry
     obtain⟨_,its2,r2,t2⟩:=(Rd.of hb).ok hok;have e0:eqD d (.tup ys)=false:=by cases d<;>first|rfl|(cases f2;done)
     rw[e0]
     cases x with
     |non=>cases rx;exact EqAt.none_tuple t2 (by omega)
     |bl b=>cases rx;exact EqAt.bool_tuple b t2 (by omega)
     |int b=>obtain⟨t,rfl⟩:=rx;exact EqAt.int_tuple b t t2 (by omega)
     |str b=>obtain⟨t,rfl⟩:=rx;exact EqAt.str_tuple b t t2 (by omega)
     |_=>cases f1
   .rw[<-a7z r q f2 g2];exact af1 rx ry f1 g1
open SeqAt in
theorem av4(ry:RelV y u)(rx:RelV x v)(fy:a2z y=true)(fx:a2z x=true):RcAt A s u v (eqV y x):=by
 cases y with
 |non =>
  cases ry
  cases x with
  |non=>cases rx;exact RcAt.none_none
  |bl b=>cases rx;exact RcAt.none_bool b
  |int b=>obtain⟨t,rfl⟩:=rx;exact RcAt.none_int b t
  |str b=>obtain⟨t,rfl⟩:=rx;exact RcAt.none_str b t
  |_=>cases fx
 |bl a =>
  cases ry
  cases x with
  |non=>cases rx;exact RcAt.bool_none a
  |bl b=>cases rx;exact RcAt.bool_bool a b
  |int b=>obtain⟨t,rfl⟩:=rx;exact RcAt.bool_int a b t
  |str b=>obtain⟨t,rfl⟩:=rx;exact RcAt.bool_str a b t
  |_=>cases fx
 |int a =>
  obtain⟨t',rfl⟩:=ry
  cases x with
  |non=>cases rx;exact RcAt.int_none a t'
  |bl b=>cases rx;exact RcAt.int_bool a t' b
  |int b=>obtain⟨t,rfl⟩:=rx;exact RcAt.int_int a t' b t
  |str b=>obtain⟨t,rfl⟩:=rx;exact RcAt.int_str a t' b t
  |_=>cases fx
 |str a =>
  obtain⟨t',rfl⟩:=ry
  cases x with
  |non=>cases rx;exact RcAt.str_none a t'
  |bl b=>cases rx;exact RcAt.str_bool a t' b
  |int b=>obtain⟨t,rfl⟩:=rx;exact RcAt.str_int a t' b t
  |str b=>obtain⟨t,rfl⟩:=rx;exact RcAt.str_str a t' b t
  |_=>cases fx
 |_=>cases fy
open SeqAt in
theorem ajo(ry:RelV y u)(rx:RelV x v)(fy:a2z y=true)(fx:a2z x=true):RcNeAt A s u v (!eqV y x):=by
 cases y with
 |non =>
  cases ry
  cases x with
  |non=>cases rx;exact RcNeAt.none_none
  |bl b=>cases rx;exact RcNeAt.none_bool b
  |int b=>obtain⟨t,rfl⟩:=rx;exact RcNeAt.none_int b t
  |str b=>obtain⟨t,rfl⟩:=rx;exact RcNeAt.none_str b t
  |_=>cases fx
 |bl a =>
  cases ry
  cases x with
  |non=>cases rx;exact RcNeAt.bool_none a
  |bl b=>cases rx;exact RcNeAt.bool_bool a b
  |int b=>obtain⟨t,rfl⟩:=rx;exact RcNeAt.bool_int a b t
  |str b=>obtain⟨t,rfl⟩:=rx;exact RcNeAt.bool_str a b t
  |_=>cases fx
 |int a =>
  obtain⟨t',rfl⟩:=ry
  cases x with
  |non=>cases rx;exact RcNeAt.int_none a t'
  |bl b=>cases rx;exact RcNeAt.int_bool a t' b
  |int b=>obtain⟨t,rfl⟩:=rx;exact RcNeAt.int_int a t' b t
  |str b=>obtain⟨t,rfl⟩:=rx;exact RcNeAt.int_str a t' b t
  |_=>cases fx
 |str a =>
  obtain⟨t',rfl⟩:=ry
  cases x with
  |non=>cases rx;exact RcNeAt.str_none a t'
  |bl b=>cases rx;exact RcNeAt.str_bool a t' b
  |int b=>obtain⟨t,rfl⟩:=rx;exact RcNeAt.str_int a t' b t
  |str b=>obtain⟨t,rfl⟩:=rx;exact RcNeAt.str_str a t' b t
  |_=>cases fx
 |_=>cases fy
open SeqAt in
theorem tops{s:Shared}{A:Around}(hok:HOk P w H s.heap)(r:Rep K U H x d)(q:Rep K U H y e)(rx:RelV x u)(ry:RelV y v)(p1:pur 60 d=true)(p2:pur 60 e=true)(hu:A.units+64<cLine) :
  RcAt A s u v (eqD d e)/\RcNeAt A s u v (!eqD d e):=by
 rcases a0r r p1 with⟨xs,rfl⟩|⟨f1,f2⟩
 .cases r with
  |@tup a vs _ ha rs =>
   cases rx
   obtain⟨_,its,r1,t1⟩:=(Rd.of ha).ok hok
   rcases a0r q p2 with⟨ys,rfl⟩|⟨g1,g2⟩
   .cases q with
    |@tup b us _ hb qs =>
     cases ry
     obtain⟨_,its2,r2,t2⟩:=(Rd.of hb).ok hok;have l1:its.toArray.size=xs.length:=by rw[List.size_toArray,<-r1.length,rs.len]
     have l2:its2.toArray.size=ys.length:=by rw[List.size_toArray,<-r2.length,qs.len]
     have step:∀j (h1:j<its.toArray.size) (h2:j<its2.toArray.size),EqAt A.in1 s its.toArray[j] its2.toArray[j] (pairE xs ys j):=λj h1 h2=>by
      have j1:j<xs.length:=by omega
      have j2:j<ys.length:=by omega
      obtain⟨v1,e1,q1⟩:=rs.get (List.getElem?_eq_getElem j1);obtain⟨v2,e2,q2⟩:=qs.get (List.getElem?_eq_getElem j2);obtain⟨u1,e3,q3⟩:=r1.get e1;obtain⟨u2,e4,q4⟩:=r2.get e2;have f1:its.toArray[j]=u1:=by simpa using (List.getElem?_eq_some_iff.mp e3).2
      have f2:its2.toArray[j]=u2:=by simpa using (List.getElem?_eq_some_iff.mp e4).2
      have pe:pairE xs ys j=eqD xs[j] ys[j]:=by simp[pairE,List.getElem?_eq_getElem j1,List.getElem?_eq_getElem j2]
      rw[f1,f2,pe];simp only[pur,List.all_eq_true]at p1 p2;exact am4 hok 59 A.in1 q1 q2 q3 q4 (p1 _ (List.getElem_mem j1)) (p2 _ (List.getElem_mem j2)) (by rw[Around.in1_units];omega)
     have c1:=RcAt.tuples (A:=A) (s:=s) (e:=pairE xs ys) t1 t2 (by omega) step
     have c2:=RcNeAt.tuples (A:=A) (s:=s) (e:=pairE xs ys) t1 t2 (by omega) step
     rw[l1,l2,a3q]at c1 c2;exact⟨c1,c2⟩
   .have e0:eqD (.tup xs) e=false:=by cases e<;>first|rfl|(cases g2;done)
    rw[e0]
    cases y with
    |non=>cases ry;exact⟨RcAt.tuple_none t1 (by omega),RcNeAt.tuple_none t1 (by omega)⟩
    |bl b=>cases ry;exact⟨RcAt.tuple_bool b t1 (by omega),RcNeAt.tuple_bool b t1 (by omega)⟩
    |int b=>obtain⟨t,rfl⟩:=ry;exact⟨RcAt.tuple_int b t t1 (by omega),RcNeAt.tuple_int b t t1 (by omega)⟩
    |str b=>obtain⟨t,rfl⟩:=ry;exact⟨RcAt.tuple_str b t t1 (by omega),RcNeAt.tuple_str b t t1 (by omega)⟩
    |_=>cases g1
 .rcases a0r q p2 with⟨ys,rfl⟩|⟨g1,g2⟩
  .cases q with
   |@tup b us _ hb qs =>
    cases ry
    obtain⟨_,its2,r2,t2⟩:=(Rd.of hb).ok hok;have e0:eqD d (.tup ys)=false:=by cases d<;>first|rfl|(cases f2;done)
    rw[e0]
    cases x with
    |non=>cases rx;exact⟨RcAt.none_tuple t2 (by omega),RcNeAt.none_tuple t2 (by omega)⟩
    |bl b=>cases rx;exact⟨RcAt.bool_tuple b t2 (by omega),RcNeAt.bool_tuple b t2 (by omega)⟩
    |int b=>obtain⟨t,rfl⟩:=rx;exact⟨RcAt.int_tuple b t t2 (by omega),RcNeAt.int_tuple b t t2 (by omega)⟩
    |str b=>obtain⟨t,rfl⟩:=rx;exact⟨RcAt.str_tuple b t t2 (by omega),RcNeAt.str_tuple b t t2 (by omega)⟩
    |_=>cases f1
  .rw[<-a7z r q f2 g2];exact⟨av4 rx ry f1 g1,ajo rx ry f1 g1⟩
noncomputable def b0n(K:Fg):R2:=λx y H Q=>∃U d e,Rep K U H x d/\Rep K U H y e/\pur 60 d=true/\pur 60 e=true/\Q (.bl (eqD d e)) H
noncomputable def b0o(K:Fg):R2:=λx y H Q=>∃U d e,Rep K U H x d/\Rep K U H y e/\pur 60 d=true/\pur 60 e=true/\Q (.bl (!eqD d e)) H
theorem am5{X:Cx}(hu:X.A.units+64<cLine):OpR X (compareOp .Eq) (b0n X.K):=by
 intro aA s Z H x y v u Q I rx ry h
 obtain⟨U,d,e,r,q,p1,p2,hq⟩:=h;exact(tops (A:=X.A) I.hok r q rx ry p1 p2 hu).1 X.prog X.w X.xe _ ⟨.bl _,H,I,rfl,hq⟩
theorem am6{X:Cx}(hu:X.A.units+64<cLine):OpR X (compareOp .NotEq) (b0o X.K):=by
 intro aA s Z H x y v u Q I rx ry h
 obtain⟨U,d,e,r,q,p1,p2,hq⟩:=h;exact(tops (A:=X.A) I.hok r q rx ry p1 p2 hu).2 X.prog X.w X.xe _ ⟨.bl _,H,I,rfl,hq⟩
noncomputable def hEq(x y:D)(h:Hd):R D:=if pur 60 x=true/\pur 60 y=true then .ok (.bl (eqD x y)) h else .no
noncomputable def hNe(x y:D)(h:Hd):R D:=if pur 60 x=true/\pur 60 y=true then .ok (.bl (!eqD x y)) h else .no
theorem ag2:a2g K hEq (b0n K):=by
 intro E U H h x y dx dy Q rx ry hr o
 unfold hEq at o
 split at o
 .rename_i hc;exact⟨U,dx,dy,rx,ry,hc.1,hc.2,ans o (.bl _) hr⟩
 .exact o.elim
theorem ag3:a2g K hNe (b0o K):=by
 intro E U H h x y dx dy Q rx ry hr o
 unfold hNe at o
 split at o
 .rename_i hc;exact⟨U,dx,dy,rx,ry,hc.1,hc.2,ans o (.bl _) hr⟩
 .exact o.elim
end
section
variable{X:Cx}{E:XD}{K:Fg}
noncomputable def ajp:SE:=λ_ h=>.ok (.ref h.length) (h++[.dK []])
theorem ap5:ME X E (.Dict [] [] pos) ajp:=by
 refine PE.weak aj2 λZ H Q ⟨U,τ,h,S,Rh,o⟩=>λp hp=>?_;exact o (U++[p]) _ _ (a9f hp _) (.ref (by rw[List.getElem?_append_right (by rw[Rh.len];exact Nat.le_refl _),Rh.len];simp)) (Rh.add hp ⟨[],lw,rfl,.nil⟩)
noncomputable def a80:D->D->Hd->R D
 |.int i,.int j,h=>.ok (.int (i+j)) h
 |.str x,.str y,h=>if x.length+y.length<=LINE then .ok (.str (x++y)) h else .no
 |_,_,_=>.no
theorem ac8:a2g K a80 (λx y H Q=>rI0 (λi j=>.int (i+j)) x y H Q\/∃i j,x=.str i/\y=.str j/\i.length+j.length<=sizeLine/\Q (.str (i++j)) H):=by
 intro E U H h x y dx dy Q rx ry hr o
 cases rx with
 |int i =>
  cases ry with
  |int j=>exact .inl ⟨i,j,rfl,rfl,ans o (.int _) hr⟩
  |_=>exact o.elim
 |str i =>
  cases ry with
  |str j =>
   by_cases hc:i.length+j.length<=LINE
   .simp only[a80,if_pos hc]at o;exact .inr ⟨i,j,rfl,rfl,ll hc,ans o (.str _) hr⟩
   .simp only[a80,if_neg hc]at o;exact o.elim
  |_=>exact o.elim
 |_=>exact o.elim
theorem av5:bootBuiltins "max" = some (.builtin "max"):=by first|exact PySem.boot_max|exact PyProof.Rows.boot_max
theorem av6:bootBuiltins "min" = some (.builtin "min"):=by first|exact PySem.boot_min|exact PyProof.Rows.boot_min
theorem ap6:bootBuiltins "bool" = some (.type "bool"):=by first|exact PySem.boot_bool|exact PyProof.Rows.boot_bool
theorem ajq(h1:MG X E e g)(h2:MGs X E es ks)(hs:(assignEach (e::es) X.env).map (·.2)=assign e X.env::(assignEach es X.env).map (·.2):=by rfl):MGs X E (e::es) (jb g ks) :=
 PGs.weak (a3i h1 h2 hs) λvs Z H Q q=>aje q
end
end MI
namespace ZP
open PySem.Builtin PySem.Builtin.SmallTypes
section
variable{prog:Program}{w:World}{A:Around}{E:Value->Shared->Prop}{s:Shared}
theorem ap7{α:Type}{Q:α->Shared->Prop}(hh:A.handled=none)(q:∀h' e,(∀b o,s.heap.get? b=some o->h'.get? b=some o)->(∃o,h'.get? e=some o/\o.cls=.type "StopIteration")->E (.ref e) {s with heap:=h' }) :
  wpAny (model prog w) A (stopIteration:Sem α) Q E s:=by
 have none_first:firstArgMember (.type "StopIteration") []=pure Value.none:=by first|rfl|(simp only[firstArgMember];rfl)
 rw[stopIteration]
 apply wpAny_bind
 rw[newExc,newTuple]
 apply wpAny_bind
 apply wpAny_newObj_type _ (by size_fits)
 rw[none_first,pure_bind]
 apply wpAny_newObj_type _ (by size_fits)
 apply wpAny_raiseNew_none hh
 exact q _ _ (λb o z=>Heap.get?_push_of_some _ (Heap.get?_push_of_some _ z)) ⟨_,Heap.get?_push_size _ rfl,rfl⟩
theorem ajr(hi:s.heap.IsTupleIter it t i)(ht:s.heap.IsTuple t aC)(hx:aC[i]? = some x)
  (q:∀h',h'.IsTupleIter it t (i+1)->Heap.SameBut it s.heap h'->Q x {s with heap:=h' }):wpAny (model prog w) A (nextOf (.ref it)) Q E s:=by
 have ty:=hi.typeIs;obtain⟨o,e1,e2,e3⟩:=id hi;obtain⟨p,f1,f2,n,f3⟩:=ht;rw[nextOf]
 apply wpAny_bind
 apply wpAny_callSpecial?_slot (name:=Str.ofString "__next__") ty F.slot_tuple_iterator_next
 apply wpAny_call_entry F.slot_tuple_iterator_next ty F.entry_tuple_iterator_next _ (F.args_tuple_iterator_next_1 _)
 change wpAny (model prog w) A.in1 (field (.ref it) 0>>=_) _ _ _
 apply wpAny_bind;apply wpAny_field e1 e3 (x:=.ref t) rfl
 change wpAny (model prog w) A.in1 (field (.ref it) 1>>=_) _ _ _
 apply wpAny_bind;apply wpAny_field e1 e3 (x:=.int i 0) rfl
 change wpAny (model prog w) A.in1 (seqItems? (.ref t)>>=_) _ _ _
 apply wpAny_bind;apply wpAny_seqItems f1 f3
 dsimp only;rw[Int.toNat_natCast,hx]
 apply wpAny_bind
 obtain⟨c,dd,dt,sl⟩:=o;simp only at e2 e3;subst e2 e3
 apply wpAny_setField e1 rfl (Nat.lt_succ_self 1)
 apply wpAny_pure
 exact⟨x,rfl,wpAny_pure (q _ ⟨_,Heap.get?_update_self _ e1 rfl,rfl,rfl⟩ (Heap.SameBut.update ..))⟩
theorem ap8{it t:Addr}{i:Nat}{aC:Array Value}{Q:Value->Shared->Prop}(hh:A.handled=none)(hi:s.heap.IsTupleIter it t i)(ht:s.heap.IsTuple t aC)(hx:aC[i]? = none)
  (q:∀h' e,Heap.ExtBut it s.heap h'->(∃o,h'.get? e=some o/\o.cls=.type "StopIteration")->E (.ref e) {s with heap:=h' }):wpAny (model prog w) A (nextOf (.ref it)) Q E s:=by
 have ty:=hi.typeIs;obtain⟨o,e1,e2,e3⟩:=id hi;obtain⟨p,f1,f2,n,f3⟩:=ht;rw[nextOf]
 apply wpAny_bind
 apply wpAny_callSpecial?_slot (name:=Str.ofString "__next__") ty F.slot_tuple_iterator_next
 apply wpAny_call_entry F.slot_tuple_iterator_next ty F.entry_tuple_iterator_next _ (F.args_tuple_iterator_next_1 _)
 change wpAny (model prog w) A.in1 (field (.ref it) 0>>=_) _ _ _
 apply wpAny_bind;apply wpAny_field e1 e3 (x:=.ref t) rfl
 change wpAny (model prog w) A.in1 (field (.ref it) 1>>=_) _ _ _
 apply wpAny_bind;apply wpAny_field e1 e3 (x:=.int i 0) rfl
 change wpAny (model prog w) A.in1 (seqItems? (.ref t)>>=_) _ _ _
 apply wpAny_bind;apply wpAny_seqItems f1 f3
 dsimp only;rw[Int.toNat_natCast,hx];dsimp only;obtain⟨c,dd,dt,sl⟩:=o;simp only at e2 e3;subst e2 e3
 apply wpAny_bind;apply wpAny_rule
 apply wpAny_bind;apply wpAny_setField e1 rfl (Nat.succ_pos 1)
 apply ap7 (show A.in1.handled=none from hh)
 exact λh' e k z=>q h' e (λb o nb eb=>k b o ((Heap.SameBut.update ..).extBut b o nb eb)) z
theorem ag4{A:Around}(hh:A.handled=none)(it t:Addr)(ne:t≠it)(aC:Array Value):Draws prog w A it [it,t] aC.size (λi v=>aC[i]? = some v) (λi h=>h.IsTupleIter it t i/\h.IsTuple t aC) where
 live:=λ_ _ st=>let ⟨o,e,_⟩:=st.1; ⟨o,e⟩
 frame:=λ_ _ _ st k=>⟨let ⟨o,e,r⟩:=st.1; ⟨o,k it (by simp) o e,r⟩,let ⟨o,e,r⟩:=st.2; ⟨o,k t (by simp) o e,r⟩⟩
 item:=λi s Q E hi st q=>ajr st.1 st.2 (Array.getElem?_eq_getElem hi) λh' a b=>q _ h' s.toks (Array.getElem?_eq_getElem hi) ⟨a,st.2.extBut b.extBut ne⟩ b
 done:=λs Q E st q=>ap8 hh st.1 st.2 (by simp) q
end
structure Ap (z TI TO i1 i2:Addr) (p q:List Addr):Prop where
 m1:i1∈p
 m2:i2∈q
 z1:z∉p
 z2:z∉q
 o1:TO∉p
 o2:TO∉q
 oz:TO≠z
 x1:i1∉q
 x2:i2∉p
section
variable{prog:Program}{w:World}{A:Around}{E:Value->Shared->Prop}{s:Shared}{z TI TO i1 i2:Addr}{p q:List Addr}{n1 n2 k:Nat}{P1 P2:Nat->Value->Prop}{S1 S2:Nat->Heap->Prop}{a b:Value}
theorem far{D:Draws prog w A i1 p n1 P1 S1}(sb:Heap.SameBut c h h')(nc:c∉p)(st:S1 k h):S1 k h':=D.frame _ _ _ st λx hx o e=>sb.extBut x o (λy=>nc (y ▸ hx)) e
theorem ag5(hz:IsZip s.heap z TI TO .none)(hi:IsPair s.heap TI (.ref i1) (.ref i2))(ho:IsPair s.heap TO a b)(oz:TO≠z)
  (go:∀h1,IsZip h1 z TI TO .ellipsis->Heap.SameBut z s.heap h1->wpAny (model prog w) A (nextOf (.ref i1))
   (λx s2=>IsPair s2.heap TO a b/\∀h3,IsPair h3 TO x b->Heap.SameBut TO s2.heap h3->wpAny (model prog w) A (nextOf (.ref i2))
    (λy s4=>IsPair s4.heap TO x b/\∀h5,IsPair h5 TO x y->Heap.SameBut TO s4.heap h5->IsZip h5 z TI TO .ellipsis/\∀h8,IsZip h8 z TI TO (rawInt h5.objs.size)->IsPair h8 h5.objs.size x y->h8.objs.size=h5.objs.size+1->
     (∀c o,c≠z->h5.get? c=some o->h8.get? c=some o)->Q (.done (.ret (.ref h5.objs.size))) {s4 with heap:=h8})
    (λe s4=>wpAny (model prog w) A (setField (.ref z) 0 .none) (λ_ s5=>E e s5) E s4) {s2 with heap:=h3})
   (λe s2=>wpAny (model prog w) A (setField (.ref z) 0 .none) (λ_ s3=>E e s3) E s2) {s with heap:=h1}) :
  wpAny (model prog w) A (Builtin.«zip.__next__» ⟨[.ref z],[]⟩) Q E s:=by
 change wpAny (model prog w) A (field (.ref z) 2>>=_) _ _ _
 apply wpAny_bind;apply wpAny_field hz rfl (x:=.bool false) rfl
 change wpAny (model prog w) A (field (.ref z) 3>>=_) _ _ _
 apply wpAny_bind;apply wpAny_field hz rfl (x:=.ref TI) rfl
 apply wpAny_bind;apply wpAny_seqItems hi rfl
 change wpAny (model prog w) A (ownedTupleIsFree (.ref z)>>=_) _ _ _
 apply wpAny_bind
 rw[ownedTupleIsFree]
 apply wpAny_bind;apply wpAny_field hz rfl (x:=.none) rfl
 apply wpAny_pure
 rw[if_pos rfl]
 apply wpAny_bind;apply wpAny_rule
 apply wpAny_bind;apply wpAny_field hz rfl (x:=.ref TO) rfl
 apply wpAny_bind;apply wpAny_setField_rec hz (Nat.succ_pos _)
 intro h1 z1 b1
 apply wpAny_bind
 simp only[List.zipIdx_cons,List.zipIdx_nil,List.forIn_cons,List.forIn_nil]
 apply wpAny_bind;apply wpAny_bind;apply wpAny_onRaise
 change wpAny (model prog w) A (nextOf (.ref i1)>>=_) _ _ _
 apply wpAny_bind
 apply wpAny_mono (go h1 z1 b1) _ λ_ _ r=>r
 rintro x s2 ⟨o2,g2⟩
 apply wpAny_pure
 apply wpAny_bind;apply wpAny_seqItems o2 rfl
 apply wpAny_bind;apply wpAny_updateSeq_pair o2
 intro h3 o3 b3
 apply wpAny_bind;apply wpAny_letGo;apply wpAny_pure
 apply wpAny_bind;apply wpAny_bind;apply wpAny_onRaise
 change wpAny (model prog w) A (nextOf (.ref i2)>>=_) _ _ _
 apply wpAny_bind
 apply wpAny_mono (g2 h3 o3 b3) _ λ_ _ r=>r
 rintro y s4 ⟨o4,g4⟩
 apply wpAny_pure
 apply wpAny_bind;apply wpAny_seqItems o4 rfl
 apply wpAny_bind;apply wpAny_updateSeq_pair o4
 intro h5 o5 b5
 obtain⟨z5,g5⟩:=g4 h5 o5 b5
 apply wpAny_bind;apply wpAny_letGo;apply wpAny_pure;apply wpAny_pure
 apply wpAny_bind;apply wpAny_seqItems o5 rfl
 apply wpAny_bind;refine wpAny_newTuple ?_ (by show 2<=sizeLine;decide)
 change wpAny (model prog w) A (ownedTupleHandOut (.ref z) (.ref h5.objs.size)>>=_) _ _ _
 apply wpAny_bind
 rw[ownedTupleHandOut];have z6:IsZip (h5.push {cls:=.type "tuple",data:=.seq #[x,y]}) z TI TO .ellipsis:=Heap.get?_push_of_some _ z5;have lt:z<h5.objs.size:=Heap.lt_size z5
 apply wpAny_bind;apply wpAny_setField_rec z6 (Nat.succ_pos _)
 intro h7 z7 b7
 apply wpAny_setField_rec z7 (by show 1<5;decide)
 intro h8 z8 b8
 apply wpAny_pure
 refine g5 h8 z8 (b8.extBut _ _ (Nat.ne_of_gt lt) (b7.extBut _ _ (Nat.ne_of_gt lt) (Heap.get?_push_size _ rfl))) ?_ λc o nc e=>b8.extBut _ _ nc (b7.extBut _ _ nc (Heap.get?_push_of_some _ e));rw[b8.1,b7.1,Heap.size_push]
theorem ajs{Q:Value->Shared->Prop}(D1:Draws prog w A i1 p n1 P1 S1)(D2:Draws prog w A i2 q n2 P2 S2)(ap:Ap z TI TO i1 i2 p q)(hz:IsZip s.heap z TI TO .none)(hi:IsPair s.heap TI (.ref i1) (.ref i2))(ho:IsPair s.heap TO a b)
  (s1:S1 k s.heap) (s2:S2 k s.heap) (k1:k<n1) (k2:k<n2)
  (hQ:∀x y h' tk,P1 k x->P2 k y->IsZip h' z TI TO (rawInt s.heap.objs.size)->IsPair h' TO x y->S1 (k+1) h'->S2 (k+1) h'->IsPair h' s.heap.objs.size x y->h'.objs.size=s.heap.objs.size+1->
   (∀c o,c≠z->c≠TO->c≠i1->c≠i2->s.heap.get? c=some o->h'.get? c=some o)->Q (.ref s.heap.objs.size) {s with heap:=h',toks:=tk}) :
  wpAny (model prog w) A (Builtin.«zip.__next__» ⟨[.ref z],[]⟩) (λfin s'=>∃v,fin=.done (.ret v)/\Q v s') E s:=by
 have ni1:i1≠z:=λe=>ap.z1 (e ▸ ap.m1);have ni2:i2≠z:=λe=>ap.z2 (e ▸ ap.m2);have no1:TO≠i1:=λe=>ap.o1 (e ▸ ap.m1);have no2:TO≠i2:=λe=>ap.o2 (e ▸ ap.m2);refine ag5 hz hi ho ap.oz λh1 z1 b1=>?_;refine D1.item k _ _ _ k1 (far (D:=D1) b1 ap.z1 s1) λx h2 t2 px st2 b2=>?_;refine⟨b2.extBut _ _ no1 (b1.extBut _ _ ap.oz ho),λh3 o3 b3=>?_⟩;refine D2.item k _ _ _ k2 (far (D:=D2) b3 ap.o2 (far (D:=D2) b2 ap.x1 (far (D:=D2) b1 ap.z2 s2))) λy h4 t4 py st4 b4=>?_;refine⟨b4.extBut _ _ no2 o3,λh5 o5 b5=>⟨b5.extBut _ _ ap.oz.symm (b4.extBut _ _ ni2.symm (b3.extBut _ _ ap.oz.symm (b2.extBut _ _ ni1.symm z1))),λh8 z8 t8 l8 k8=>⟨_,rfl,?_⟩⟩⟩
 have sz:h5.objs.size=s.heap.objs.size:=by rw[b5.1,b4.1,b3.1,b2.1,b1.1]
 have g1:S1 (k+1) h8:=D1.frame _ _ _ (far (D:=D1) b5 ap.o1 (far (D:=D1) b4 ap.x2 (far (D:=D1) b3 ap.o1 st2))) λc hc o e=>k8 c o (λy=>ap.z1 (y ▸ hc)) e;have g2:S2 (k+1) h8:=D2.frame _ _ _ (far (D:=D2) b5 ap.o2 st4) λc hc o e=>k8 c o (λy=>ap.z2 (y ▸ hc)) e;rw[sz]at z8 t8 l8 ⊢;exact hQ x y h8 t4 px py z8 (k8 _ _ ap.oz o5) g1 g2 t8 l8 λc o c1 c2 c3 c4 e=>k8 c o c1 (b5.extBut _ _ c2 (b4.extBut _ _ c4 (b3.extBut _ _ c2 (b2.extBut _ _ c3 (b1.extBut _ _ c1 e)))))
theorem ap9(D1:Draws prog w A i1 p n1 P1 S1)(D2:Draws prog w A i2 q n2 P2 S2)(ap:Ap z TI TO i1 i2 p q)(hz:IsZip s.heap z TI TO .none)(hi:IsPair s.heap TI (.ref i1) (.ref i2))(ho:IsPair s.heap TO a b)
  (s1:S1 k s.heap) (s2:S2 k s.heap) (kk:k=n1\/(k<n1/\k=n2))
  (hE:∀h' tk e,(∀c o,c≠z->c≠TO->c≠i1->c≠i2->s.heap.get? c=some o->h'.get? c=some o)->(∃o,h'.get? e=some o/\o.cls=.type "StopIteration")->E (.ref e) {s with heap:=h',toks:=tk}) :
  wpAny (model prog w) A (Builtin.«zip.__next__» ⟨[.ref z],[]⟩) Q E s:=by
 have ni1:i1≠z:=λe=>ap.z1 (e ▸ ap.m1);have ni2:i2≠z:=λe=>ap.z2 (e ▸ ap.m2);have no1:TO≠i1:=λe=>ap.o1 (e ▸ ap.m1);have stop:∀{h:Heap} {e:Addr},(∃o,h.get? e=some o/\o.cls=.type "StopIteration")->IsZip h z TI TO .ellipsis->e≠z:=λ{h e} ⟨o,eo,ec⟩ zz y=>by
  subst y;rw[zz]at eo;cases eo;simp at ec
 refine ag5 hz hi ho ap.oz λh1 z1 b1=>?_
 rcases kk with rfl|⟨k1,rfl⟩
 .refine D1.done _ _ _ (far (D:=D1) b1 ap.z1 s1) λh2 e x2 st=>?_;have z2:IsZip h2 z TI TO .ellipsis:=x2 _ _ ni1.symm z1;have ne:=stop st z2;obtain⟨oe,f1,f2⟩:=st;refine wpAny_setField_rec z2 (Nat.succ_pos _) λh3 _ b3=>?_;exact hE h3 _ e (λc o c1 _ c3 _ y=>b3.extBut _ _ c1 (x2 _ _ c3 (b1.extBut _ _ c1 y))) ⟨oe,b3.extBut _ _ ne f1,f2⟩
 .refine D1.item k _ _ _ k1 (far (D:=D1) b1 ap.z1 s1) λx h2 t2 px st2 b2=>?_;refine⟨b2.extBut _ _ no1 (b1.extBut _ _ ap.oz ho),λh3 o3 b3=>?_⟩;refine D2.done _ _ _ (far (D:=D2) b3 ap.o2 (far (D:=D2) b2 ap.x1 (far (D:=D2) b1 ap.z2 s2))) λh4 e x4 st=>?_;have z4:IsZip h4 z TI TO .ellipsis:=x4 _ _ ni2.symm (b3.extBut _ _ ap.oz.symm (b2.extBut _ _ ni1.symm z1));have ne:=stop st z4;obtain⟨oe,f1,f2⟩:=st;refine wpAny_setField_rec z4 (Nat.succ_pos _) λh5 _ b5=>?_;exact hE h5 _ e (λc o c1 c2 c3 c4 y=>b5.extBut _ _ c1 (x4 _ _ c4 (b3.extBut _ _ c2 (b2.extBut _ _ c3 (b1.extBut _ _ c1 y))))) ⟨oe,b5.extBut _ _ ne f1,f2⟩
theorem next_item{Q:Option Value->Shared->Prop}(D1:Draws prog w A.in1 i1 p n1 P1 S1)(D2:Draws prog w A.in1 i2 q n2 P2 S2)(ap:Ap z TI TO i1 i2 p q)(hz:IsZip s.heap z TI TO .none)(hi:IsPair s.heap TI (.ref i1) (.ref i2))(ho:IsPair s.heap TO a b)
  (s1:S1 k s.heap) (s2:S2 k s.heap) (k1:k<n1) (k2:k<n2)
  (hQ:∀x y h' tk,P1 k x->P2 k y->IsZip h' z TI TO (rawInt s.heap.objs.size)->IsPair h' TO x y->S1 (k+1) h'->S2 (k+1) h'->IsPair h' s.heap.objs.size x y->h'.objs.size=s.heap.objs.size+1->
   (∀c o,c≠z->c≠TO->c≠i1->c≠i2->s.heap.get? c=some o->h'.get? c=some o)->Q (some (.ref s.heap.objs.size)) {s with heap:=h',toks:=tk}):wpAny (model prog w) A (pyNext (.ref z)) Q E s:=by
 have ty:s.TypeIs (.ref z) "zip":=⟨_,hz,rfl⟩;rw[pyNext]
 apply wpAny_bind;apply wpAny_attempt
 apply wpAny_callSpecial?_slot (name:=Str.ofString "__next__") ty F.slot_zip_next
 apply wpAny_call_entry F.slot_zip_next ty F.entry_zip_next _ (F.args_zip_next_1 _)
 exact ajs D1 D2 ap hz hi ho s1 s2 k1 k2 λx y h' tk c1 c2 c3 c4 c5 c6 c7 c8 c9=>wpAny_pure (hQ x y h' tk c1 c2 c3 c4 c5 c6 c7 c8 c9)
theorem next_end(D1:Draws prog w A.in1 i1 p n1 P1 S1)(D2:Draws prog w A.in1 i2 q n2 P2 S2)(ap:Ap z TI TO i1 i2 p q)(hz:IsZip s.heap z TI TO .none)(hi:IsPair s.heap TI (.ref i1) (.ref i2))(ho:IsPair s.heap TO a b)
  (s1:S1 k s.heap) (s2:S2 k s.heap) (kk:k=n1\/(k<n1/\k=n2))
  (hQ:∀h' tk,(∀c o,c≠z->c≠TO->c≠i1->c≠i2->s.heap.get? c=some o->h'.get? c=some o)->Q none {s with heap:=h',toks:=tk}):wpAny (model prog w) A (pyNext (.ref z)) Q E s:=by
 have ty:s.TypeIs (.ref z) "zip":=⟨_,hz,rfl⟩;rw[pyNext]
 apply wpAny_bind;apply wpAny_attempt
 apply wpAny_callSpecial?_slot (name:=Str.ofString "__next__") ty F.slot_zip_next
 apply wpAny_call_entry F.slot_zip_next ty F.entry_zip_next _ (F.args_zip_next_1 _)
 refine ap9 D1 D2 ap hz hi ho s1 s2 kk ?_
 rintro h' tk e kp ⟨o,f1,f2⟩
 refine wpAny_bind (wpAny_isInstance (b:=true) (T := "StopIteration") ⟨o,f1,f2⟩ isSubtype_stop (wpAny_pure (hQ h' tk kp)))
end
end ZP
namespace ZP
open PySem.Builtin PySem.Builtin.SmallTypes L2
inductive Srk where
 |tup (a:Addr)|lst (a:Addr)|str (x:Str)
noncomputable def Srk.v:Srk->V
 |.tup a=>.ref a
 |.lst a=>.ref a
 |.str x=>.str x
noncomputable def its(H:Hp):Srk->Option (List V)
 |.tup a=>match H a with|some (.tup vs)=>some vs|_=>none
 |.lst a=>match H a with|some (.lst vs)=>some vs|some (.frz _ (.lst vs))=>some vs|_=>none
 |.str x=>some (yu x)
def own(it:Addr)(t:Tok):Srk->Nat->Heap->Prop
 |.tup a,i,h=>h.IsTupleIter it a i
 |.lst a,i,h=>h.IsListIter it a i
 |.str x,i,h=>h.IsStrIter it (strIterType x) x t i
noncomputable def iob(t:Tok):Srk->Obj
 |.tup a=>{cls:=.type "tuple_iterator",data:=.fields #[.ref a,.int 0 0]}
 |.lst a=>{cls:=.type "list_iterator",data:=.fields #[.ref a,.int 0 0]}
 |.str x=>{cls:=.type (strIterType x),data:=.fields #[.str x t,.int 0 0]}
noncomputable def val(t:Tok):Srk->Value
 |.tup a=>.ref a
 |.lst a=>.ref a
 |.str x=>.str x t
def cont(h:Heap):Srk->List Value->Prop
 |.tup a,us=>h.IsTuple a us.toArray
 |.lst a,us=>h.IsList a us.toArray
 |.str x,us=>True
theorem azk{h:Heap}(e:h.get? it=some (iob t k)):own it t k 0 h:=by
 cases k with
 |tup a=>exact⟨_,e,rfl,rfl⟩
 |lst a=>exact⟨_,e,rfl,rfl⟩
 |str x=>exact⟨_,e,rfl,rfl⟩
theorem a4g(o:own it t k i h):∃ob,h.get? it=some ob/\∀v,ob.data≠.cell v:=by
 cases k with
 |tup a=>obtain⟨ob,e,_,d⟩:=o;exact⟨ob,e,λv z=>by rw[d]at z;cases z⟩
 |lst a=>obtain⟨ob,e,_,d⟩:=o;exact⟨ob,e,λv z=>by rw[d]at z;cases z⟩
 |str x=>obtain⟨ob,e,_,d⟩:=o;exact⟨ob,e,λv z=>by rw[d]at z;cases z⟩
theorem a2j{h':Heap}(o:own it t k i h)(kk:∀ob,h.get? it=some ob->h'.get? it=some ob):own it t k i h':=by
 cases k with
 |tup a=>obtain⟨ob,e,r⟩:=o;exact⟨ob,kk _ e,r⟩
 |lst a=>obtain⟨ob,e,r⟩:=o;exact⟨ob,kk _ e,r⟩
 |str x=>obtain⟨ob,e,r⟩:=o;exact⟨ob,kk _ e,r⟩
section
variable{P:Program}{w:World}{H:Hp}{s:Shared}
theorem a6b(I:Inv X aA Z H s)(e:its H k=some xs):∃us,cont s.heap k us/\((∀x,k≠.str x)->Vals xs us):=by
 cases k with
 |tup a =>
  cases q:H a with
  |none=>simp[its,q]at e
  |some o =>
   cases o with
   |tup vs =>
    simp[its,q]at e;subst e
    obtain⟨us,r,t,_⟩:=I.tuple (SqT.of q);exact⟨us,t,λ_=>r⟩
   |_=>simp[its,q]at e
 |lst a =>
  cases q:H a with
  |none=>simp[its,q]at e
  |some o =>
   cases o with
   |lst vs =>
    simp[its,q]at e;subst e
    obtain⟨us,r,t,_⟩:=I.list (SqL.of q);exact⟨us,t.isList,λ_=>r⟩
   |frz ob u =>
    cases u with
    |lst vs =>
     simp[its,q]at e;subst e
     obtain⟨us,r,t,_⟩:=I.list (.inl (.inr ⟨_,q⟩));exact⟨us,t.isList,λ_=>r⟩
    |_=>simp[its,q]at e
   |_=>simp[its,q]at e
 |str x=>exact⟨[],True.intro,λn=>absurd rfl (n x)⟩
theorem a4h(I:Inv X aA Z H s)(e:its H k=some xs)(hn:H it=none) :
  ∃(cs:List Addr) (P1:Nat->Value->Prop) (S1:Nat->Heap->Prop),(∀A:Around,A.handled=none->Draws X.prog X.w A it (it::cs) xs.length P1 S1)/\(∀i,own it t k i s.heap->S1 i s.heap)/\(∀i h,S1 i h->own it t k i h)/\(∀c∈cs,H c≠none) /\
   ∀i v,P1 i v->∃x,xs[i]? = some x/\RelV x v:=by
 cases k with
 |tup a =>
  obtain⟨us,c,r⟩:=a6b I e;have r:=r (by intro x z;cases z)
  have ha:H a≠none:=λz=>by simp[its,z]at e
  have l:us.toArray.size=xs.length:=by rw[List.size_toArray,r.length]
  refine⟨[a],λi v=>us.toArray[i]? = some v,λi h=>h.IsTupleIter it a i/\h.IsTuple a us.toArray,λA hA=>?_,λi o=>⟨o,c⟩,λi h z=>z.1,λc hc=>by rw[List.mem_singleton.mp hc];exact ha,λi v z=>?_⟩
  .have:=ag4 (prog:=X.prog) (w:=X.w) hA it a (λy=>ha (y ▸ hn)) us.toArray
   rw[l]at this;exact this
  .have z':us[i]? = some v:=by simpa using z
   have hi:i<xs.length:=by rw[r.length];exact(List.getElem?_eq_some_iff.mp z').1
   obtain⟨u,e1,e2⟩:=r.get (List.getElem?_eq_getElem hi);rw[z']at e1;cases e1
   exact⟨_,List.getElem?_eq_getElem hi,e2⟩
 |lst a =>
  obtain⟨us,c,r⟩:=a6b I e;have r:=r (by intro x z;cases z)
  have ha:H a≠none:=λz=>by simp[its,z]at e
  have l:us.toArray.size=xs.length:=by rw[List.size_toArray,r.length]
  refine⟨[a],λi v=>us.toArray[i]? = some v,λi h=>h.IsListIter it a i/\h.IsList a us.toArray,λA hA=>?_,λi o=>⟨o,c⟩,λi h z=>z.1,λc hc=>by rw[List.mem_singleton.mp hc];exact ha,λi v z=>?_⟩
  .have:=Draws.list (prog:=X.prog) (w:=X.w) hA it a (λy=>ha (y ▸ hn)) us.toArray
   rw[l]at this;exact this
  .have z':us[i]? = some v:=by simpa using z
   have hi:i<xs.length:=by rw[r.length];exact(List.getElem?_eq_some_iff.mp z').1
   obtain⟨u,e1,e2⟩:=r.get (List.getElem?_eq_getElem hi);rw[z']at e1;cases e1
   exact⟨_,List.getElem?_eq_getElem hi,e2⟩
 |str x =>
  cases e
  have l:(yu x).length=x.cps.size:=by simp[yu]
  refine⟨[],λi v=>∃c u,x.cps[i]? = some c/\v=.str ⟨#[c]⟩ u,λi h=>h.IsStrIter it (strIterType x) x t i,λA hA=>?_,λi o=>o,λi h z=>z,λc hc=>(by cases hc),λi v z=>?_⟩
  .rw[l]
   cases ha:x.cps.all (· < 128)
   .have:=Draws.strWide (prog:=X.prog) (w:=X.w) hA it x t
    simpa[strIterType,ha] using this
   .have:=Draws.strAscii (prog:=X.prog) (w:=X.w) hA it x t
    simpa[strIterType,ha] using this
  .obtain⟨c,u,e1,rfl⟩:=z;exact⟨.str ⟨#[c]⟩,by simp[yu,e1],⟨_,rfl⟩⟩
end
noncomputable def ItZ(k1 k2:Srk):It where
 go:=λi H=>∃xs ys x y,its H k1=some xs/\its H k2=some ys/\xs[i]? = some x/\ys[i]? = some y
 yld:=λi H v H'=>∃xs ys x y p,its H k1=some xs/\its H k2=some ys/\xs[i]? = some x/\ys[i]? = some y/\H p=none/\v=.ref p/\H'=upd H p (.tup [x,y])
 stop:=λi H=>∃xs ys,its H k1=some xs/\its H k2=some ys/\(i=xs.length\/(i<xs.length/\i=ys.length))
def tnZ(z TI TO i1 i2:Addr)(t1 t2:Tok)(k1 k2:Srk)(i:Nat)(h:Heap):Prop :=
 IsZip h z TI TO .none/\IsPair h TI (.ref i1) (.ref i2)/\(∃a b,IsPair h TO a b)/\own i1 t1 k1 i h/\own i2 t2 k2 i h
structure Far (z TI TO i1 i2:Addr):Prop where
 a:TI≠z
 b:TO≠z
 c:i1≠z
 d:i2≠z
 e:TI≠TO
 f:TI≠i1
 g:TI≠i2
 h:TO≠i1
 i:TO≠i2
 j:i1≠i2
theorem a81{X:Cx}{aA:List (Addr×Obj)}{Z:St}{H:Hp}{s:Shared}{h':Heap}{t':Nat}{ch:List Addr}(I:Inv X aA Z H s)(hf:∀b∈ch,FpOk X aA H b)(k:∀b o,b∉ch->s.heap.get? b=some o->h'.get? b=some o) :
  Inv X aA Z H {s with heap:=h',toks:=t' }:=by
 have nit:∀b u,H b=some u->b∉ch:=λb u e z=>by rw[(hf b z).1]at e;cases e
 refine I.step (g':=s.gens) (d':=s.drawn) (ch:=ch) (λb hb=>?_) (λb o _ _ hc e _=>k b o hc e) (λb o _ _ hc e _=>⟨o.slots,k b o hc e⟩) (λ_ _ _ _ n=>n) (λb o hc e=>⟨o,k b o hc e⟩) (λ_ _ e=>e) (λ_ _ _ e=>e)
  (λb ps e=>⟨#[],by rw[e];simp⟩) (λm hm=>?_) (λb u e=>?_) I.bare
 .obtain⟨_,f1,_,f3,f4,f5⟩:=hf b hb;exact⟨f3,f1,f4,f5⟩
 .obtain⟨o,es,ep,ho,r⟩:=hm;exact⟨o,es,ep,k _ o (λz=>(hf _ z).2.1 rfl) ho,r⟩
 .refine(I.hok b u e).stay (λc v hc q=>k c v ?_ q) (λ_ q=>q) λ_ _ q=>q
  rcases hc with z|z
  .rw[z];exact nit b u e
  .exact nit c _ z
theorem ajt{P:Program}{w:World}{K:Fg}{elts:List Expr}{x1:Nat}{pos:Pos}{z TI TO i1 i2:Addr}{t1 t2:Tok}{k1 k2:Srk}(f:Far z TI TO i1 i2):Turn P w K (.Tuple elts x1 pos) (ItZ k1 k2) [z,TI,TO,i1,i2] z (tnZ z TI TO i1 i2 t1 t2 k1 k2) where
 mem:=by simp
 obj:=λi h st b hb=>by
  obtain⟨h1,h2,⟨a,b',h3⟩,h4,h5⟩:=st;simp only[List.mem_cons,List.not_mem_nil,or_false]at hb
  rcases hb with rfl|rfl|rfl|rfl|rfl
  .exact⟨_,h1,λv z=>(by cases z)⟩
  .exact⟨_,h2,λv z=>(by cases z)⟩
  .exact⟨_,h3,λv z=>(by cases z)⟩
  .exact a4g h4
  .exact a4g h5
 keep:=λi h h' st k=>by
  obtain⟨h1,h2,⟨a,b',h3⟩,h4,h5⟩:=st;exact⟨k z (by simp) _ h1,k TI (by simp) _ h2,⟨a,b',k TO (by simp) _ h3⟩,a2j h4 λob e=>k i1 (by simp) ob e,a2j h5 λob e=>k i2 (by simp) ob e⟩
 item:=by
  intro X hP hw hK hc i aA s Z H E I hf st hg
  subst hP hw hK;obtain⟨xs,ys,x,y,e1,e2,g1,g2⟩:=hg;obtain⟨h1,h2,⟨a,b,h3⟩,h4,h5⟩:=st;have n:∀c∈[z,TI,TO,i1,i2],H c=none:=λc hc=>(hf c hc).1;obtain⟨cs,P1,S1,D1,a1,b1,c1,d1⟩:=a4h I (t:=t1) e1 (n i1 (by simp))
  obtain⟨ds,P2,S2,D2,a2,b2,c2,d2⟩:=a4h I (t:=t2) e2 (n i2 (by simp))
  have hd:=I.ok.hd hc;have out1:∀c,H c=none->c∉cs:=λc e z=>c1 c z e;have out2:∀c,H c=none->c∉ds:=λc e z=>c2 c z e;have ap:Ap z TI TO i1 i2 (i1::cs) (i2::ds):=⟨by simp,by simp,by simp[f.c.symm,out1 z (n z (by simp))],by simp[f.d.symm,out2 z (n z (by simp))],by simp[f.h,out1 TO (n TO (by simp))],by simp[f.i,out2 TO (n TO (by simp))],f.b,by simp[f.j,out2 i1 (n i1 (by simp))],by simp[f.j.symm,out1 i2 (n i2 (by simp))]⟩
  refine next_item (D1 X.A.in1 hd) (D2 X.A.in1 hd) ap h1 h2 h3 (a1 i h4) (a2 i h5) (List.getElem?_eq_some_iff.mp g1).1 (List.getElem?_eq_some_iff.mp g2).1 λu v h' tk pu pv z' to' s1' s2' pr sz kp=>?_;obtain⟨x',q1,r1⟩:=d1 i u pu;obtain⟨y',q2,r2⟩:=d2 i v pv;rw[g1]at q1;cases q1
  rw[g2]at q2;cases q2
  refine⟨_,rfl,wpAny_letOwnedTupleGo_zip z' λh2' z2' sb=>?_⟩;have hp:H s.heap.objs.size=none:=I.hok.fresh (Nat.le_refl _);have lt:∀c∈[z,TI,TO,i1,i2],c<s.heap.objs.size:=λc hc=>by
   simp only[List.mem_cons,List.not_mem_nil,or_false]at hc
   rcases hc with rfl|rfl|rfl|rfl|rfl
   .exact Heap.lt_size h1
   .exact Heap.lt_size h2
   .exact Heap.lt_size h3
   .obtain⟨_,e,_⟩:=a4g h4;exact Heap.lt_size e
   .obtain⟨_,e,_⟩:=a4g h5;exact Heap.lt_size e
  have all:∀c o,c∉[z,TI,TO,i1,i2]->s.heap.get? c=some o->h2'.get? c=some o:=λc o nc e=>by
   simp only[List.mem_cons,List.not_mem_nil,or_false,not_or]at nc;exact(sb.2 c nc.1).trans (kp c o nc.1 nc.2.2.1 nc.2.2.2.1 nc.2.2.2.2 e)
  have nT:∀c∈[z,TI,TO,i1,i2],c≠s.heap.objs.size:=λc hc=>Nat.ne_of_lt (lt c hc);have I0:Inv X aA Z (upd H s.heap.objs.size (.tup [x,y])) {s with heap:=s.heap.push {cls:=.type "tuple",data:=.seq #[u,v]} } :=
   I.laid (t':=s.toks) (o:=.tup [x,y]) (λb o e=>Heap.get?_push_of_some _ e) (Nat.le_refl _) ⟨by show 2<=sizeLine;decide,[u,v],.cons r1 (.cons r2 .nil),⟨_,Heap.get?_push_size _ rfl,rfl,_,rfl⟩⟩
  have I1:Inv X aA Z (upd H s.heap.objs.size (.tup [x,y])) {s with heap:=h2',toks:=tk}:=by
   refine a81 (s:={s with heap:=s.heap.push {cls:=.type "tuple",data:=.seq #[u,v]} }) (ch:=[z,TI,TO,i1,i2]) I0 (λb hb=>?_) λc o nc e=>?_
   .obtain⟨f0,f1⟩:=hf b hb;exact⟨by rw[gf (nT b hb)];exact f0,f1⟩
   .rcases Heap.get?_push_cases e with⟨rfl,rfl⟩|e
    .exact(sb.2 _ (nT z (by simp)).symm).trans pr
    .exact all c o nc e
  refine⟨.ref s.heap.objs.size,_,I1,rfl,⟨xs,ys,x,y,_,e1,e2,g1,g2,hp,rfl,rfl⟩,⟨z2',?_,⟨u,v,(sb.2 _ f.b).trans to'⟩,a2j (b1 _ _ s1') λob e=>(sb.2 _ f.c).trans e,a2j (b2 _ _ s2') λob e=>(sb.2 _ f.d).trans e⟩,λb hb=>?_⟩
  .exact(sb.2 _ f.a).trans (kp TI _ f.a f.e f.f f.g h2)
  .rw[gf (nT b hb)];exact n b hb
 done:=by
  intro X hP hw hK hc i aA s Z H E I hf st hg
  subst hP hw hK;obtain⟨xs,ys,e1,e2,g⟩:=hg;obtain⟨h1,h2,⟨a,b,h3⟩,h4,h5⟩:=st;have n:∀c∈[z,TI,TO,i1,i2],H c=none:=λc hc=>(hf c hc).1;obtain⟨cs,P1,S1,D1,a1,b1,c1,d1⟩:=a4h I (t:=t1) e1 (n i1 (by simp))
  obtain⟨ds,P2,S2,D2,a2,b2,c2,d2⟩:=a4h I (t:=t2) e2 (n i2 (by simp))
  have hd:=I.ok.hd hc;have out1:∀c,H c=none->c∉cs:=λc e z=>c1 c z e;have out2:∀c,H c=none->c∉ds:=λc e z=>c2 c z e;have ap:Ap z TI TO i1 i2 (i1::cs) (i2::ds):=⟨by simp,by simp,by simp[f.c.symm,out1 z (n z (by simp))],by simp[f.d.symm,out2 z (n z (by simp))],by simp[f.h,out1 TO (n TO (by simp))],by simp[f.i,out2 TO (n TO (by simp))],f.b,by simp[f.j,out2 i1 (n i1 (by simp))],by simp[f.j.symm,out1 i2 (n i2 (by simp))]⟩
  refine next_end (D1 X.A.in1 hd) (D2 X.A.in1 hd) ap h1 h2 h3 (a1 i h4) (a2 i h5) g λh' tk kp=>⟨rfl,a81 I hf λc o nc e=>?_⟩;simp only[List.mem_cons,List.not_mem_nil,or_false,not_or]at nc;exact kp c o nc.1 nc.2.2.1 nc.2.2.2.1 nc.2.2.2.2 e
 self:=λ_ _ _ _ _ st h=>wpAny_pyIter_zip st.1 h
theorem ag6(c:cont h k us)(o:Obj):cont (h.push o) k us:=by
 cases k with
 |tup a=>obtain⟨ob,e,r⟩:=c;exact⟨ob,Heap.get?_push_of_some _ e,r⟩
 |lst a=>obtain⟨ob,e,r⟩:=c;exact⟨ob,Heap.get?_push_of_some _ e,r⟩
 |str x=>trivial
theorem a3r{s:Shared}(c:cont s.heap k us)(q:Q (.ref s.heap.objs.size) {s with heap:=s.heap.push (iob t k)}) :
  wpAny (model prog w) A (pyIter (val t k)) Q E s:=by
 cases k with
 |tup a=>exact wpAny_pyIter_tuple c q
 |lst a=>exact wpAny_pyIter_list c q
 |str x=>exact wpAny_pyIter_strU q
noncomputable def mk2(h:Heap)(t1 t2:Tok)(k1 k2:Srk):Heap:=(h.push (iob t1 k1)).push (iob t2 k2)
noncomputable def mk5(h:Heap)(t1 t2:Tok)(k1 k2:Srk):Heap :=
 (((mk2 h t1 t2 k1 k2).push {cls:=.type "tuple",data:=.seq #[.ref h.objs.size,.ref (h.objs.size+1)]}).push {cls:=.type "tuple",data:=.seq #[.none,.none]}).push
  {cls:=.type "zip",data:=.fields #[.none,.bool false,.bool false,.ref (h.objs.size+2),.ref (h.objs.size+3)]}
theorem aju(t1 t2:Tok)(k1 k2:Srk)(us1 us2:List Value):Meets (Builtin.«zip.__new__» ⟨[.type "zip",val t1 k1,val t2 k2],[]⟩)
  (λ_ R s=>cont s.heap k1 us1/\cont s.heap k2 us2/\R (.ok (.ret (.ref (s.heap.objs.size+4)))) {s with heap:=mk5 s.heap t1 t2 k1 k2}) :=
 .of_wp λprog w A R s h=>by
  obtain⟨hp,g,d,tk,os⟩:=s;obtain⟨c1,c2,h⟩:=h;have sub:=sub_zip;have c1':cont (Shared.heap ⟨hp,g,d,tk,os⟩) k1 us1:=c1;have c2':cont (Shared.heap ⟨hp.push (iob t1 k1),g,d,tk,os⟩) k2 us2:=ag6 c2 _
  wp_walk using a3r (t:=t1) c1',a3r (t:=t2) c2'
  refine⟨_,rfl,?_⟩;simpa[mk5,mk2,Heap.size_push,ownedTupleFields,Nat.add_assoc] using h
theorem azl(n:Nat):Far (n+4) (n+2) (n+3) n (n+1):=by
 refine⟨?_,?_,?_,?_,?_,?_,?_,?_,?_,?_⟩<;>(intro z;have z:(_:Nat)=_:=z;omega)
theorem b28(n b:Nat)(h:b∈[n+4,n+2,n+3,n,n+1]):n<=b:=by
 simp only[List.mem_cons,List.not_mem_nil,or_false]at h;omega
section
variable{X:Cx}{elts:List Expr}{x1:Nat}{tpos:Pos}
noncomputable def b29(ta:TA):TI:=λZ H R=>ta Z H λvs H1=>∃k1 k2 xs ys,vs=[Srk.v k1,Srk.v k2]/\its H1 k1=some xs/\its H1 k2=some ys/\R (ItZ k1 k2) H1
theorem ag7{k:Srk}(r:RelV k.v u):∃t,u=val t k:=by
 cases k with
 |tup a=>cases r;exact⟨0,rfl⟩
 |lst a=>cases r;exact⟨0,rfl⟩
 |str x=>obtain⟨t,rfl⟩:=r;exact⟨t,rfl⟩
theorem av7(hg:Gl X "zip")(hm:X.mg "zip" = none)(hb:bootBuiltins "zip" = some (.type "zip"))(ha:PA X [e1,e2] ta)
  (h1:starEach [e1,e2] X.env=[(false,eval e1 X.env),(false,eval e2 X.env)]:=by rfl) (h2:starEach [e2] X.env=[(false,eval e2 X.env)]:=by rfl):PI X (.Tuple elts x1 tpos) (.Call (.Name "zip" p) [e1,e2] [] pos) (b29 ta):=by
 intro aA s Z H R I h
 refine wpAny_Call_Name_kw (a2u I hg hm hb ?_ (by decide) (by decide))
 refine PyProof.Rows.callWith_type1 (thn (ha pos aA s Z H _ I h) λus s1 ⟨vs,H1,I1,r1,q1⟩=>?_) (by rw[h1,h2]) (by rw[h2];rfl)
 obtain⟨k1,k2,xs,ys,rfl,e1,e2,q⟩:=q1;obtain⟨v1,v2,rfl,rv1,rv2⟩:=vals2 r1;obtain⟨t1,rfl⟩:=ag7 rv1;obtain⟨t2,rfl⟩:=ag7 rv2;obtain⟨us1,c1,_⟩:=a6b I1 e1;obtain⟨us2,c2,_⟩:=a6b I1 e2;refine callType_new F.called_zip (by decide) (F.typeCall_zip_2 _ _) (F.newCall_zip_2 _ _) (λobj=>F.args_object_init_3 obj _ _) F.entry_zip_new (aju t1 t2 k1 k2 us1 us2) ⟨c1,c2,?_⟩
 have z2:(mk2 s1.heap t1 t2 k1 k2).objs.size=s1.heap.objs.size+2:=by simp[mk2,Heap.size_push]
 have at0:(mk5 s1.heap t1 t2 k1 k2).get? s1.heap.objs.size=some (iob t1 k1):=by
  unfold mk5 mk2;exact Heap.get?_push_of_some _ (Heap.get?_push_of_some _ (Heap.get?_push_of_some _ (Heap.get?_push_of_some _ (Heap.get?_push_size _ (by cases k1<;>rfl)))))
 have at1:(mk5 s1.heap t1 t2 k1 k2).get? (s1.heap.objs.size+1)=some (iob t2 k2):=by
  unfold mk5 mk2;have:=Heap.get?_push_size (o:=iob t2 k2) (s1.heap.push (iob t1 k1)) (by cases k2<;>rfl)
  rw[Heap.size_push]at this;exact Heap.get?_push_of_some _ (Heap.get?_push_of_some _ (Heap.get?_push_of_some _ this))
 have at2:IsPair (mk5 s1.heap t1 t2 k1 k2) (s1.heap.objs.size+2) (.ref s1.heap.objs.size) (.ref (s1.heap.objs.size+1)):=by
  unfold mk5;rw[<-z2];exact Heap.get?_push_of_some _ (Heap.get?_push_of_some _ (Heap.get?_push_size _ rfl))
 have at3:IsPair (mk5 s1.heap t1 t2 k1 k2) (s1.heap.objs.size+3) .none .none:=by
  unfold mk5;have:=Heap.get?_push_size (o:={cls:=.type "tuple",data:=.seq #[.none,.none]}) ((mk2 s1.heap t1 t2 k1 k2).push {cls:=.type "tuple",data:=.seq #[.ref s1.heap.objs.size,.ref (s1.heap.objs.size+1)]}) rfl;rw[Heap.size_push,z2]at this;exact Heap.get?_push_of_some _ this
 have at4:IsZip (mk5 s1.heap t1 t2 k1 k2) (s1.heap.objs.size+4) (s1.heap.objs.size+2) (s1.heap.objs.size+3) .none:=by
  unfold mk5;have:=Heap.get?_push_size (o:={cls:=.type "zip",data:=.fields #[.none,.bool false,.bool false,.ref (s1.heap.objs.size+2),.ref (s1.heap.objs.size+3)]}) (((mk2 s1.heap t1 t2 k1 k2).push {cls:=.type "tuple",data:=.seq #[.ref s1.heap.objs.size,.ref (s1.heap.objs.size+1)]}).push {cls:=.type "tuple",data:=.seq #[.none,.none]}) rfl;rw[Heap.size_push,Heap.size_push,z2]at this;exact this
 have keepA:∀b o,s1.heap.get? b=some o->(mk5 s1.heap t1 t2 k1 k2).get? b=some o:=λb o e=>by
  unfold mk5 mk2;exact Heap.get?_push_of_some _ (Heap.get?_push_of_some _ (Heap.get?_push_of_some _ (Heap.get?_push_of_some _ (Heap.get?_push_of_some _ e))))
 have I2:Inv X aA Z H1 {s1 with heap:=mk5 s1.heap t1 t2 k1 k2}:=I1.kept (t':=s1.toks) keepA
 refine⟨⟨_,at4,rfl⟩,?_⟩;refine wpAny_pyIter_zip (s:={s1 with heap:=mk5 s1.heap t1 t2 k1 k2}) at4 ?_
 refine⟨s1.heap.objs.size+4,[s1.heap.objs.size+4,s1.heap.objs.size+2,s1.heap.objs.size+3,s1.heap.objs.size,s1.heap.objs.size+1],tnZ _ _ _ _ _ t1 t2 k1 k2,ItZ k1 k2,H1,rfl,I2,ajt (azl s1.heap.objs.size),
  ⟨at4,at2,⟨_,_,at3⟩,azk at0,azk at1⟩,λb hb=>?_,q⟩
 have:s1.heap.objs.size<=b:=b28 _ b hb
 exact I1.fpOk this (I1.hok.fresh this)
end
end ZP
namespace MI
open L2 ZP
def srcOf(d:D)(h:Hd):Option (List D×(Hd->Prop)):=match d with
 |.tup xs=>some (xs,λ_=>True)
 |.rol xs=>some (xs,λ_=>True)
 |.str x=>some (a0f x,λ_=>True)
 |.ref i=>(match h[i]? with|some (.lst xs)=>some (xs,λh=>h[i]? = some (.lst xs))|_=>none)
 |_=>none
noncomputable def apa(x y:D)(h:Hd):R Itm:=match srcOf x h,srcOf y h with
 |some (xs,c1),some (ys,c2)=>.ok ⟨(xs.zip ys).map λp=>.tup [p.1,p.2],λh=>c1 h/\c2 h⟩ h
 |_,_=>.no
noncomputable def aef(f g:SE):SI:=λτ h=>(f τ h).bind λx h1=>(g τ h1).bind λy h2=>apa x y h2
theorem ag8(r:Rep K U H v d)(hr:HRep K U H h)(e:srcOf d h=some (xs,ck)) :
  ∃k:Srk,v=k.v/\ck h/\∀U' H' h',Gr U H U' H'->HRep K U' H' h'->ck h'->∃vs,its H' k=some vs/\Reps K U' H' vs xs:=by
 cases r with
 |@tup a vs ys ha rs =>
  cases e
  exact⟨.tup a,rfl,True.intro,λU' H' h' g _ _=>⟨vs,by simp[its,g.tup _ _ ha],rs.mono g⟩⟩
 |@rol a vs ys ha rs =>
  cases e
  refine⟨.lst a,rfl,True.intro,λU' H' h' g _ _=>⟨vs,?_,rs.mono g⟩⟩;obtain⟨o,q⟩:=ha.mono g;simp[its,q]
 |str x =>
  cases e
  exact⟨.str x,rfl,True.intro,λU' H' h' g _ _=>⟨_,rfl,a4f x⟩⟩
 |@ref a i ha =>
  obtain⟨ob,e1,e2⟩:=hr.at ha
  cases ob with
  |lst zs =>
   simp only[srcOf,e1]at e;cases e
   refine⟨.lst a,rfl,e1,λU' H' h' g hr' c=>?_⟩;obtain⟨us,q1,q2⟩:=hr'.obj i a _ (g.at ha) c;exact⟨us,by simp[its,q1],q2⟩
  |dK _=>simp only[srcOf,e1]at e;cases e
  |dT _=>simp only[srcOf,e1]at e;cases e
  |ins _ _=>simp only[srcOf,e1]at e;cases e
 |_=>cases e
theorem av8(hg:Gl X "zip")(hm:X.mg "zip" = none)(hb:bootBuiltins "zip" = some (.type "zip"))(ha:ME X E e1 f)(hb':ME X E e2 g)
  (h1:starEach [e1,e2] X.env=[(false,eval e1 X.env),(false,eval e2 X.env)]:=by rfl) (h2:starEach [e2] X.env=[(false,eval e2 X.env)]:=by rfl) :
  MI X E (.Tuple elts x1 tpos) (.Call (.Name "zip" p) [e1,e2] [] pos) (aef f g):=by
 rintro aA s Z H Rr I ⟨U,τ,h,S,Rh,o⟩
 refine av7 hg hm hb (a4c ha (a4c hb' a8w (by rw[h2];rfl)) (by rw[h1,h2])) h1 h2 aA s Z H Rr I ?_
 refine⟨U,τ,h,S,Rh,bw o λd h1 U1 H1 v g1 r1 hr1 o1=>?_⟩;refine⟨U1,τ,h1,S.mono g1,hr1,bw o1 λd2 h2 U2 H2 u g2 r2 hr2 o2=>?_⟩;unfold apa at o2
 split at o2
 .rename_i xs c1 ys c2 q1 q2;obtain⟨k1,rfl,k1c,k1f⟩:=ag8 (r1.mono g2) hr2 q1;obtain⟨k2,rfl,k2c,k2f⟩:=ag8 r2 hr2 q2;obtain⟨vs1,w1,w2⟩:=k1f U2 H2 h2 (.refl _ _) hr2 k1c;obtain⟨vs2,w3,w4⟩:=k2f U2 H2 h2 (.refl _ _) hr2 k2c;refine⟨k1,k2,vs1,vs2,rfl,w1,w3,o2 U2 H2 _ (.refl _ _) ?_ hr2⟩
  intro U3 H3 h3 g3 hr3 c
  obtain⟨us1,a1,a2⟩:=k1f U3 H3 h3 g3 hr3 c.1;obtain⟨us2,a3,a4⟩:=k2f U3 H3 h3 g3 hr3 c.2;refine⟨λi d ed=>?_,us1,us2,a1,a3,?_⟩
  .simp only[List.getElem?_map,Option.map_eq_some_iff]at ed;obtain⟨⟨x,y⟩,ez,rfl⟩:=ed;obtain⟨ex,ey⟩:=List.getElem?_zip_eq_some.mp ez;obtain⟨v1,b1,b2⟩:=a2.get ex;obtain⟨v2,b3,b4⟩:=a4.get ey;refine⟨⟨us1,us2,v1,v2,a1,a3,b1,b3⟩,λx H' yl=>?_⟩;obtain⟨xs',ys',x',y',p,c1,c2,c3,c4,c5,rfl,rfl⟩:=yl;rw[a1]at c1;cases c1
   rw[a3]at c2;cases c2
   rw[b1]at c3;cases c3
   rw[b3]at c4;cases c4
   exact⟨a0d c5 _,.tup lw (.cons (b2.mono (a0d c5 _)) (.cons (b4.mono (a0d c5 _)) .nil)),hr3.aside c5 _⟩
  .rw[List.length_map,List.length_zip,a2.len,a4.len];omega
 .exact o2.elim
theorem av9:bootBuiltins "zip" = some (.type "zip"):=by first|exact PySem.boot_zip|exact PyProof.Rows.boot_zip|rfl
end MI
namespace MI
open L2
def FrzOf(L:List Addr)(H H2:Hp):Prop:=∀a,(a∉L->H2 a=H a)/\(a∈L->∃o u,H a=some u/\H2 a=some (.frz o u))
def adn(H:Hp)(L:List Addr):Prop:=∀a∈L,(∃xs,H a=some (.lst xs))\/(∃kvs,H a=some (.dK kvs))\/(∃kvs,H a=some (.dT kvs))\/∃C dx fs,H a=some (.ins C dx fs)
def still:HO->Prop
 |.lst _=>False|.dK _=>False|.dT _=>False|.ins _ _ _=>False
 |_=>True
theorem FrzOf.still(f:FrzOf L H H2)(ab:adn H L)(e:H a=some u)(st:MI.still u):H2 a=some u:=by
 rw[(f a).1 λz=>?_]
 .exact e
 .rcases ab a z with⟨_,q⟩|⟨_,q⟩|⟨_,q⟩|⟨_,_,_,q⟩<;>(rw[e]at q;cases q;exact st)
theorem Inv.frz{X:Cx}{aA:List (Addr×Obj)}{Z:St}{H:Hp}{s:Shared}{L:List Addr}(I:Inv X aA Z H s)(ab:adn H L):∃H2,FrzOf L H H2/\Inv X aA Z H2 s:=by
 have obj:∀a∈L,∀u,H a=some u->∃o,s.heap.get? a=some o:=λa ha u e=>by
  rcases ab a ha with⟨_,q⟩|⟨_,q⟩|⟨_,q⟩|⟨_,_,_,q⟩
  .obtain⟨_,_,_,_,z⟩:=I.hok a _ q;exact⟨_,z⟩
  .obtain⟨_,_,_,_,z⟩:=I.hok a _ q;obtain⟨o,_,_,z,_⟩:=z;exact⟨o,z⟩
  .obtain⟨_,_,_,_,o,_,_,z,_⟩:=I.hok a _ q;exact⟨o,z⟩
  .obtain⟨_,_,_,z,_⟩:=I.hok a _ q;exact⟨_,z⟩
 let H2:Hp:=λa=>if a∈L then (match s.heap.get? a,H a with|some o,some u=>some (.frz o u)|_,w=>w) else H a
 have f:FrzOf L H H2:=λa=>⟨λh=>by simp[H2,h],λh=>by
  obtain⟨u,e⟩:∃u,H a=some u:=by
   rcases ab a h with⟨_,q⟩|⟨_,q⟩|⟨_,q⟩|⟨_,_,_,q⟩<;>exact⟨_,q⟩
  obtain⟨o,eo⟩:=obj a h u e;exact⟨o,u,e,by simp[H2,h,e,eo]⟩⟩
 refine⟨H2,f,?_⟩;have mv:∀a u,ObjOk X.prog X.w H s.heap a u->ObjOk X.prog X.w H2 s.heap a u:=λa u x=>x.stay (λb v _ q=>q) (λc q=>f.still ab q True.intro) λc xs q=>f.still ab q True.intro;have ok:HOk X.prog X.w H2 s.heap:=λa u e=>by
  by_cases hl:a∈L
  .obtain⟨u0,e0⟩:∃u,H a=some u:=by
    rcases ab a hl with⟨_,q⟩|⟨_,q⟩|⟨_,q⟩|⟨_,_,_,q⟩<;>exact⟨_,q⟩
   obtain⟨o,eo⟩:=obj a hl u0 e0;have e':H2 a=some (.frz o u0):=by simp[H2,hl,e0,eo]
   rw[e']at e;cases e
   exact⟨eo,mv a u0 (I.hok a u0 e0)⟩
  .rw[(f a).1 hl]at e;exact mv a u (I.hok a u e)
 have fn:∀b,H b=none->H2 b=none:=λb n=>by
  rw[(f b).1 λz=>?_]
  .exact n
  .rcases ab b z with⟨_,q⟩|⟨_,q⟩|⟨_,q⟩|⟨_,_,_,q⟩<;>(rw[n]at q;cases q)
 have un:Un X.fs [] H H2 s.heap s.heap:=⟨λb o q _ _ _=>q,λb o q _ _ _=>⟨o.slots,q⟩,λb o _ n _=>fn b n,λb o q _=>⟨o,q⟩,λb xs q=>f.still ab q True.intro,λb o u q=>f.still ab q True.intro,λb ps q=>⟨#[],by rw[f.still ab q True.intro];simp⟩⟩
 exact I.un (t':=s.toks) un ok
theorem ag9(h:PE X e t):PE X e (λZ H Q=>t Z H λv H1=>∃L,adn H1 L/\∀H2,FrzOf L H1 H2->Q v H2):=λaA s Z H Q I q =>
 thn (h aA s Z H _ I q) λu s' ⟨v,H1,I1,r,L,ab,k⟩=>let ⟨H2,f,I2⟩:=Inv.frz I1 ab; ⟨v,H2,I2,r,k H2 f⟩
noncomputable def a0b{α β:Type}(f:α->Option β):List α->Option (List β)
 |[]=>some []
 |x::xs=>match f x,a0b f xs with|some y,some ys=>some (y::ys)|_,_=>none
open Classical in
noncomputable def a1d(n:Nat)(h:Hd):Nat->D->Option D
 |0,_=>none
 |k+1,d=>if clo n d then some d else match d with
  |.tup xs=>(a0b (a1d n h k) xs).map .tup
  |.rol xs=>(a0b (a1d n h k) xs).map .rol
  |.scr xs=>(a0b (a1d n h k) xs).map .scr
  |.rod ks xs=>(a0b (a1d n h k) xs).map (.rod ks)
  |.rdT ks xs=>(a0b (a1d n h k) xs).map (.rdT ks)
  |.ins c ks xs=>(a0b (a1d n h k) xs).map (.ins c ks)
  |.ref i=>match h[i]? with
   |some (.lst xs)=>(a0b (a1d n h k) xs).map .rol
   |some (.dK kvs)=>(a0b (a1d n h k) (kvs.map (·.2))).map (.rod (kvs.map (·.1)))
   |some (.dT kvs)=>(a0b (a1d n h k) (kvs.map (·.2))).map (.rdT (kvs.map (·.1)))
   |some (.ins c kvs)=>(a0b (a1d n h k) (kvs.map (·.2))).map (.ins c (kvs.map (·.1)))
   |none=>none
  |_=>none
open Classical in
noncomputable def ava(n:Nat)(h:Hd)(k:Nat)(o:O):Option O:=if a1p n o then some o else match o with
 |.lst xs=>(a0b (a1d n h k) xs).map .lst
 |.dK kvs=>(a0b (a1d n h k) (kvs.map (·.2))).map λys=>.dK ((kvs.map (·.1)).zip ys)
 |.dT kvs=>(a0b (a1d n h k) (kvs.map (·.2))).map λys=>.dT ((kvs.map (·.1)).zip ys)
 |.ins c kvs=>(a0b (a1d n h k) (kvs.map (·.2))).map λys=>.ins c ((kvs.map (·.1)).zip ys)
abbrev FU:Nat:=20
noncomputable def aad(n:Nat):R D->R D
 |.ok d h1=>match a1d n h1 FU d,a0b (ava n h1 FU) (h1.take n) with|some d',some g=>.ok d' g|_,_=>.no
 |_=>.no
open Classical in
noncomputable def arh(n:Nat):R D->R D
 | .ok (.ref i) h1=>(match h1[i]? with
   |some o=>if n<=i/\a1p n o/\∀u∈h1.take n,a1p n u then .ok (.ref n) (h1.take n++[o]) else .no
   |none=>.no)
 |_=>.no
section
variable{K:Fg}{U U':List Addr}{H H' H2:Hp}{h1:Hd}{n:Nat}{L:List Addr}
theorem aca(f:FrzOf L H' H2)(ab:adn H' L)(κ:List Addr):Gw κ H' κ H2:=⟨⟨[],by simp⟩,λa vs e=>f.still ab e True.intro,λa o u e=>f.still ab e True.intro⟩
theorem km(ih:∀{v d d'},Rep K U H v d->f d=some d'->Rep K κ H2 v d'):∀{vs:List V} {ds ds':List D},Reps K U H vs ds->a0b f ds=some ds'->Reps K κ H2 vs ds'
 |_,_,_,.nil,e=>by cases e;exact .nil
 |_,x::xs,_,.cons r rs,e=>by
  unfold a0b at e
  split at e
  .rename_i y ys h1 h2;cases e
   exact .cons (ih r h1) (km ih rs h2)
  .cases e
theorem a6c(hr:HRep K U' H' h1)(hL:∀(i:Nat) a,U'[i]? = some a->n<=i->a∈L)(f:FrzOf L H' H2)(ab:adn H' L):∀(k:Nat) {v:V} {d d':D},Rep K U' H' v d->a1d n h1 k d=some d'->Rep K (U'.take n) H2 v d':=by
 intro k
 induction k with
 |zero=>intro v d d' r e;cases e
 |succ k ih =>
  intro v d d' r e
  unfold a1d at e
  split at e
  .rename_i c;cases e
   exact(r.cut c).monoW (aca f ab _)
  .rename_i c
   cases r with
   |tup h rs =>
    simp only[Option.map_eq_some_iff]at e;obtain⟨ys,e1,rfl⟩:=e;exact .tup (f.still ab h True.intro) (km (λr e=>ih r e) rs e1)
   |rol h rs =>
    simp only[Option.map_eq_some_iff]at e;obtain⟨ys,e1,rfl⟩:=e;exact .rol (h.monoW (aca f ab U')) (km (λr e=>ih r e) rs e1)
   |scr h rs =>
    simp only[Option.map_eq_some_iff]at e;obtain⟨ys,e1,rfl⟩:=e;exact .scr (h.monoW (aca f ab U')) (km (λr e=>ih r e) rs e1)
   |rod h ek rs =>
    simp only[Option.map_eq_some_iff]at e;obtain⟨ys,e1,rfl⟩:=e;exact .rod (f.still ab h True.intro) ek (km (λr e=>ih r e) rs e1)
   |rdT h ek rs =>
    simp only[Option.map_eq_some_iff]at e;obtain⟨ys,e1,rfl⟩:=e;exact .rdT (f.still ab h True.intro) ek (km (λr e=>ih r e) rs e1)
   |@ref a i ha =>
    have hi:n<=i:=by
     simp only[clo]at c;omega
    obtain⟨o,u,e1,e2⟩:=(f a).2 (hL i a ha hi);obtain⟨ob,h3,h4⟩:=hr.at ha;simp only[h3]at e
    cases ob with
    |lst xs =>
     simp only[Option.map_eq_some_iff]at e;obtain⟨ys,e3,rfl⟩:=e;obtain⟨vs,h5,h6⟩:=h4;rw[e1]at h5;cases h5
     exact .rol ⟨o,e2⟩ (km (λr e=>ih r e) h6 e3)
    |dK kvs =>
     simp only[Option.map_eq_some_iff]at e;obtain⟨ys,e3,rfl⟩:=e;obtain⟨us,h5,h6,h7⟩:=h4;rw[e1]at h5;cases h5
     exact .rod e2 h6 (km (λr e=>ih r e) h7 e3)
    |dT kvs =>
     simp only[Option.map_eq_some_iff]at e;obtain⟨ys,e3,rfl⟩:=e;obtain⟨us,h5,h6,h7⟩:=h4;rw[e1]at h5;cases h5
     exact .rdT e2 h6 (km (λr e=>ih r e) h7 e3)
    |ins c kvs =>
     simp only[Option.map_eq_some_iff]at e;obtain⟨ys,e3,rfl⟩:=e;obtain⟨C,dx,us,h5,hn,h6,h7⟩:=h4;rw[e1]at h5;cases h5
     exact .ins e2 hn h6 (km (λr e=>ih r e) h7 e3)
   |non=>simp only[clo,not_true_eq_false]at c
   |exc _ _ _=>simp only[clo,not_true_eq_false]at c
   |ins h hn ek rs =>
    simp only[Option.map_eq_some_iff]at e;obtain⟨ys,e1,rfl⟩:=e;exact .ins (f.still ab h True.intro) hn ek (km (λr e=>ih r e) rs e1)
   |bl b=>simp only[clo,not_true_eq_false]at c
   |int b=>simp only[clo,not_true_eq_false]at c
   |str b=>simp only[clo,not_true_eq_false]at c
   |ty b=>simp only[clo,not_true_eq_false]at c
theorem a5k{κ:Type}{H:Hp}{us:List (κ×V)}{ks:List κ}{ys:List D}(e:us.map (·.1)=ks)(r:Reps K U H (us.map (·.2)) ys):KRep K U H us (ks.zip ys):=by
 have l:ks.length=ys.length:=by rw[<-e,List.length_map,<-r.len,List.length_map]
 refine⟨?_,?_⟩
 .rw[List.map_fst_zip (by omega)];exact e
 .rw[List.map_snd_zip (by omega)];exact r
theorem apb(hr:HRep K U' H' h1)(hL:∀(i:Nat) a,U'[i]? = some a->n<=i->a∈L)(f:FrzOf L H' H2)(ab:adn H' L){k:Nat}(na:a∉L)(r:ORep K U' H' a o)(e:ava n h1 k o=some o'):ORep K (U'.take n) H2 a o':=by
 have same:H2 a=H' a:=(f a).1 na;unfold ava at e
 split at e
 .rename_i c;cases e
  exact(r.cut c).monoW (aca f ab _) same
 .cases o with
  |lst xs =>
   simp only[Option.map_eq_some_iff]at e;obtain⟨ys,e1,rfl⟩:=e;obtain⟨vs,h3,h4⟩:=r;exact⟨vs,by rw[same];exact h3,km (λr e=>a6c hr hL f ab k r e) h4 e1⟩
  |dK kvs =>
   simp only[Option.map_eq_some_iff]at e;obtain⟨ys,e1,rfl⟩:=e;obtain⟨us,h3,h4,h5⟩:=r;exact⟨us,by rw[same];exact h3,a5k h4 (km (λr e=>a6c hr hL f ab k r e) h5 e1)⟩
  |dT kvs =>
   simp only[Option.map_eq_some_iff]at e;obtain⟨ys,e1,rfl⟩:=e;obtain⟨us,h3,h4,h5⟩:=r;exact⟨us,by rw[same];exact h3,a5k h4 (km (λr e=>a6c hr hL f ab k r e) h5 e1)⟩
  |ins c kvs =>
   simp only[Option.map_eq_some_iff]at e;obtain⟨ys,e1,rfl⟩:=e;obtain⟨C,dx,us,h3,hn,h4,h5⟩:=r;exact⟨C,dx,us,by rw[same];exact h3,hn,a5k h4 (km (λr e=>a6c hr hL f ab k r e) h5 e1)⟩
theorem a2k{α β:Type}{f:α->Option β}:∀{xs:List α} {ys:List β},a0b f xs=some ys->xs.length=ys.length/\∀(i:Nat) y,ys[i]? = some y->∃x,xs[i]? = some x/\f x=some y
 |[],_,e=>by cases e;exact⟨rfl,λi y e=>by simp at e⟩
 |x::xs,ys,e=>by
  unfold a0b at e
  split at e
  .rename_i y ys h1 h2;cases e
   obtain⟨l,g⟩:=a2k h2;refine⟨by simp[l],λi z e=>?_⟩
   cases i with
   |zero=>simp at e;subst e;exact⟨x,rfl,h1⟩
   |succ i=>simpa using g i z (by simpa using e)
  .cases e
theorem aga(hr:HRep K U' H' h1)(M:List Addr)(hM:∀a∈M,a∈U'):adn H' M:=λa ha=>by
 obtain⟨i,hi⟩:=List.getElem?_of_mem (hM a ha);obtain⟨o,_,q⟩:=hr.at hi
 cases o with
 |lst xs=>obtain⟨vs,h,_⟩:=q;exact .inl ⟨_,h⟩
 |dK xs=>obtain⟨vs,h,_⟩:=q;exact .inr (.inl ⟨_,h⟩)
 |dT xs=>obtain⟨vs,h,_⟩:=q;exact .inr (.inr (.inl ⟨_,h⟩))
 |ins _ _=>obtain⟨C,dx,vs,h,_⟩:=q;exact .inr (.inr (.inr ⟨_,_,_,h⟩))
theorem a6d{α:Type}{l:List α}(nd:l.Nodup){i j:Nat}{a:α}(h1:l[i]? = some a)(h2:l[j]? = some a):i=j:=by
 obtain⟨l1,e1⟩:=List.getElem?_eq_some_iff.mp h1;obtain⟨l2,e2⟩:=List.getElem?_eq_some_iff.mp h2
 rcases Nat.lt_trichotomy i j with l|l|l
 .exact absurd (e1.trans e2.symm) (List.pairwise_iff_getElem.mp nd i j l1 l2 l)
 .exact l
 .exact absurd (e2.trans e1.symm) (List.pairwise_iff_getElem.mp nd j i l2 l1 l)
theorem avb(g:Gr U H U' H')(f:FrzOf L H' H2)(ab:adn H' L)(hL:∀a∈L,H a=none)(hm:∀a∈m,H a=none):Gr U H (U++m) H2:=by
 refine⟨⟨m,rfl,hm⟩,λa vs e=>f.still ab (g.tup a vs e) True.intro,λa o u e=>f.still ab (g.frz a o u e) True.intro,λa u e hn=>?_,λa u e=>?_⟩
 .rw[(f a).1 λz=>by rw[hL a z]at e;cases e]
  exact g.oth a u e hn
 .obtain⟨u',e'⟩:=g.kp a u e;rw[(f a).1 λz=>by rw[hL a z]at e;cases e]
  exact⟨u',e'⟩
theorem agb{d d':D}{v:V}{g':Hd}(g:Gr U H U' H')(rb:Rep K U' H' v d)(hr:HRep K U' H' h1)(e:aad U.length (.ok d h1)=.ok d' g') :
  ∃L,adn H' L/\∀H2,FrzOf L H' H2->Gr U H U H2/\Rep K U H2 v d'/\HRep K U H2 g':=by
 obtain⟨m,rfl,hm⟩:=g.pre;have tk:(U++m).take U.length=U:=by simp
 have ab:adn H' m:=aga hr m λa ha=>List.mem_append_right _ ha;have hL:∀(i:Nat) a,(U++m)[i]? = some a->U.length<=i->a∈m:=λi a e hi=>by
  rw[List.getElem?_append_right hi]at e;exact List.mem_of_getElem? e
 refine⟨m,ab,λH2 f=>?_⟩;unfold aad at e;simp only at e
 split at e
 .rename_i dd gg e1 e2;cases e
  refine⟨by simpa using avb g f ab hm (m:=[]) (by simp),by have:=a6c hr hL f ab FU rb e1;rwa[tk]at this,?_⟩
  obtain⟨l,gt⟩:=a2k e2;have hl:=hr.len;have ln:U.length<=h1.length:=by rw[<-hl];simp
  refine⟨(List.nodup_append.mp hr.nd).1,by rw[<-l,List.length_take];omega,λi a o q1 q2=>?_⟩
  obtain⟨x,hx,fx⟩:=gt i o q2;have hi:i<U.length:=(List.getElem?_eq_some_iff.mp q1).1;rw[List.getElem?_take,if_pos hi]at hx;have q3:(U++m)[i]? = some a:=by rw[List.getElem?_append_left hi];exact q1
  have na:a∉m:=λz=>(List.nodup_append.mp hr.nd).2.2 a (List.mem_of_getElem? q1) a z rfl;have:=apb hr hL f ab na (hr.obj i a x q3 hx) fx
  rwa[tk]at this
 .cases e
theorem ajv(g:Gr U H U' H')(rb:Rep K U' H' v d)(hr:HRep K U' H' h1)(e:arh U.length (.ok d h1)=.ok d' g') :
  ∃b,H b=none/\Gr U H (U++[b]) H'/\Rep K (U++[b]) H' v d'/\HRep K (U++[b]) H' g':=by
 obtain⟨m,rfl,hm⟩:=g.pre;have tk:(U++m).take U.length=U:=by simp
 have up:∀b,Gw U H' (U++[b]) H':=λb=>⟨⟨[b],rfl⟩,λ_ _ h=>h,λ_ _ _ h=>h⟩
 cases rb with
 |@ref b i hb =>
  unfold arh at e;simp only at e
  split at e
  .rename_i ob ho
   split at e
   .rename_i hc;obtain⟨hi,c1,c2⟩:=hc;cases e
    have hb':=hb;rw[List.getElem?_append_right hi]at hb';have bm:b∈m:=List.mem_of_getElem? hb';obtain⟨nd1,nd2,nd3⟩:=List.nodup_append.mp hr.nd;have hl:=hr.len;have ln:U.length<=h1.length:=by rw[<-hl];simp
    have lt:(h1.take U.length).length=U.length:=by rw[List.length_take];omega
    refine⟨b,hm b bm,⟨⟨[b],rfl,by simpa using hm b bm⟩,g.tup,g.frz,g.oth,g.kp⟩,.ref (by simp),?_⟩
    refine⟨List.nodup_append.mpr ⟨nd1,by simp,λa ha c hc z=>nd3 a ha c (by rw[List.mem_singleton.mp hc];exact bm) z⟩,by simp[lt],λj a o q1 q2=>?_⟩
    by_cases hj:j<U.length
    .rw[List.getElem?_append_left hj]at q1;rw[List.getElem?_append_left (by omega)]at q2
     have q2':=q2;rw[List.getElem?_take,if_pos hj]at q2';have:=(hr.obj j a o (by rw[List.getElem?_append_left hj];exact q1) q2').cut (c2 o (List.mem_of_getElem? q2))
     rw[tk]at this;exact this.monoW (up b) rfl
    .have hj2:j<(U++[b]).length:=(List.getElem?_eq_some_iff.mp q1).1;have:j=U.length:=by simp at hj2;omega
     subst this;rw[List.getElem?_append_right (Nat.le_refl _)]at q1;rw[List.getElem?_append_right (by omega),lt]at q2
     simp at q1 q2
     subst q1 q2;have:=(hr.obj i b ob hb ho).cut c1;rw[tk]at this;exact this.monoW (up b) rfl
   .cases e
  .cases e
 |_=>cases e
end
noncomputable def sZ(f:SE):SE:=λτ h=>aad h.length (f τ h)
abbrev b2a(Q:VK):VK:=λv H1=>∃L,adn H1 L/\∀H2,FrzOf L H1 H2->Q v H2
theorem b0p(q:lift K E (xm K) (sZ fa) Z H Q):lift K E (xm K) fa Z H (b2a Q):=by
 obtain⟨U,τ,h,S,Rh,o⟩:=q;refine⟨U,τ,h,S,Rh,?_⟩;unfold sZ at o;rw[<-Rh.len]at o
 cases hf:fa τ h with
 |ok d h1 =>
  rw[hf]at o
  intro U' H' v g r hr
  cases hz:aad U.length (.ok d h1) with
  |ok d' g' =>
   rw[hz]at o;obtain⟨L,ab,k⟩:=agb g r hr hz;refine⟨L,ab,λH2 f=>?_⟩;obtain⟨k1,k2,k3⟩:=k H2 f;exact o U H2 v k1 k2 k3
  |ex c hx=>unfold aad at hz;simp only at hz;split at hz<;>cases hz
  |no=>rw[hz]at o;exact o.elim
 |ex c h1=>rw[hf]at o;exact o.elim
 |no=>rw[hf]at o;exact o.elim
theorem b2b(ha:ME X E e fa):ME X E e (sZ fa):=PE.weak (ag9 ha) λZ H Q q=>b0p q
noncomputable def refOf:D->Option Nat
 |.ref i=>some i
 |_=>none
noncomputable def a2r(ds:List D):List Nat:=ds.filterMap refOf
noncomputable def a0j:Nat->List D->List D
 |_,[]=>[]
 |k,d::ds=>match d with
  |.ref _=>.ref k::a0j (k+1) ds
  |d=>d::a0j k ds
noncomputable def vp:Hd->List Nat->List O->Hd
 |h,i::is,o::os=>vp (h.set i o) is os
 |h,_,_=>h
def isRef(d:D):Prop:=∃i,d=.ref i
open Classical in
noncomputable def ari(m:Bool)(F:SF)(ds:List D)(h:Hd):R D:=match a0b (λi=>h[i]?) (a2r ds) with
 |none=>.no
 | some os=>if (a2r ds).Nodup/\(∀d∈ds,clo 0 d\/isRef d)/\(∀o∈os,a1p 0 o) then
   (match (if m then arh os.length (F (a0j 0 ds) os) else aad os.length (F (a0j 0 ds) os)) with
   | .ok d h1=>if ∀o∈h1,a1p 0 o then
     (if m then .ok (.ref h.length) (vp h (a2r ds) h1++h1.drop os.length)
      else if clo 0 d then .ok d (vp h (a2r ds) h1) else .no) else .no
   |_=>.no)
  else .no
noncomputable def dj(m:Bool)(n:Nat)(F:SF):SF:=λds h=>if ds.length=n then ari m F ds h else .no
section
variable{K:Fg}{U U':List Addr}{H H' H2:Hp}{h h1:Hd}{n:Nat}
theorem am7(κ:List Addr):Gw [] H κ H:=⟨⟨κ,rfl⟩,λ_ _ h=>h,λ_ _ _ h=>h⟩
theorem Rep.any(r:Rep K U H v d)(c:MI.clo 0 d)(κ:List Addr):Rep K κ H v d:=by
 have:=r.cut c
 rw[List.take_zero]at this;exact this.monoW (am7 κ)
theorem ORep.any(r:ORep K U H a o)(c:a1p 0 o)(κ:List Addr):ORep K κ H a o:=by
 have:=r.cut c
 rw[List.take_zero]at this;exact this.monoW (am7 κ) rfl
theorem a9j{α:Type}(l:List α):∀{is:List Nat},(∀i∈is,i<l.length)->∃ys,a0b (λi=>l[i]?) is=some ys
 |[],_=>⟨[],rfl⟩
 |i::is,hi=>by
  obtain⟨ys,e⟩:=a9j l (is:=is) λj hj=>hi j (List.mem_cons_of_mem _ hj);have:=hi i List.mem_cons_self;exact⟨l[i]::ys,by unfold a0b;rw[e,List.getElem?_eq_getElem this]⟩
theorem a4i:∀{ds:List D} {vs:List V} {pre κ:List Addr},Reps K U H vs ds->(∀d∈ds,clo 0 d\/isRef d)->a0b (λi=>U[i]?) (a2r ds)=some κ->Reps K (pre++κ) H vs (a0j pre.length ds)
 |[],_,_,_,.nil,_,_=>.nil
 |d::ds,_,pre,κ,.cons r rs,hc,e=>by
  have hc':∀d∈ds,clo 0 d\/isRef d:=λx hx=>hc x (List.mem_cons_of_mem _ hx)
  by_cases hd:isRef d
  .obtain⟨i,rfl⟩:=hd;have e':a0b (λi=>U[i]?) (i::a2r ds)=some κ:=e;unfold a0b at e'
   split at e'
   .rename_i a κ' h1 h2
    cases e'
    cases r with
    |ref ha =>
     rw[ha]at h1;cases h1
     have:=a4i (pre:=pre++[a]) rs hc' h2
     simp only[List.append_assoc,List.singleton_append,List.length_append,List.length_singleton]at this;refine .cons (.ref ?_) this;rw[List.getElem?_append_right (Nat.le_refl _)];simp
   .cases e'
  .have c:=(hc d List.mem_cons_self).resolve_right hd;have e1:a2r (d::ds)=a2r ds:=by
    unfold a2r
    cases d<;>first|rfl|exact absurd ⟨_,rfl⟩ hd
   have e2:a0j pre.length (d::ds)=d::a0j pre.length ds:=by
    cases d<;>first|rfl|exact absurd ⟨_,rfl⟩ hd
   rw[e1]at e;rw[e2];exact .cons (r.any c _) (a4i rs hc' e)
theorem a0s:∀{is:List Nat} {os:List O} {h:Hd},(vp h is os).length=h.length
 |[],_,_=>by simp[vp]
 |_::_,[],_=>by simp[vp]
 |i::is,o::os,h=>by rw[vp,a0s,List.length_set]
theorem a4j:∀{is:List Nat} {os:List O} {h:Hd},i∉is->(vp h is os)[i]? = h[i]?
 |[],_,_,_=>by simp[vp]
 |_::_,[],_,_=>by simp[vp]
 |j::is,o::os,h,n=>by
  rw[vp,a4j λz=>n (List.mem_cons_of_mem _ z),List.getElem?_set_ne λz=>n (by rw[z];exact List.mem_cons_self)]
theorem a9k:∀{is:List Nat} {os:List O} {h:Hd} {j:Nat},is.Nodup->is[j]? = some i->os[j]? = some o->i<h.length->(vp h is os)[i]? = some o
 |[],_,_,_,_,e,_,_=>by simp at e
 |_::_,[],_,_,_,_,e,_=>by simp at e
 |k::is,o'::os,h,j,nd,e1,e2,hl=>by
  cases j with
  |zero =>
   simp at e1 e2
   subst e1 e2;rw[vp,a4j (List.nodup_cons.mp nd).1,List.getElem?_set_self hl]
  |succ j =>
   rw[vp];exact a9k (j:=j) (List.nodup_cons.mp nd).2 (by simpa using e1) (by simpa using e2) (by simpa using hl)
theorem a9l{α:Type}{l:List α}(nl:l.Nodup){is:List Nat}{ys:List α}(e:a0b (λi=>l[i]?) is=some ys)(ni:is.Nodup):ys.Nodup:=by
 obtain⟨le,g⟩:=a2k e;refine List.pairwise_iff_getElem.mpr λi j hi hj lt z=>?_;obtain⟨x,h1,h2⟩:=g i _ (List.getElem?_eq_getElem hi);obtain⟨y,h3,h4⟩:=g j _ (List.getElem?_eq_getElem hj);rw[<-z]at h4;have:=a6d nl h2 h4;subst this;have:=a6d ni h1 h3;omega
theorem acb{is:List Nat}{κ m:List Addr}{g:Hd}(hr:HRep K U H h)(e1:a0b (λi=>U[i]?) is=some κ)(nd:is.Nodup)(gr:Gr κ H (κ++m) H2)(hg:HRep K (κ++m) H2 g)(cg:∀o∈g,a1p 0 o)(hm:m.length<=1) :
  Gr U H (U++m) H2/\HRep K (U++m) H2 (vp h is g++g.drop κ.length):=by
 obtain⟨l1,g1⟩:=a2k e1;have mn:∀a∈m,H a=none:=by
  obtain⟨m',e,hm'⟩:=gr.pre;rw[List.append_cancel_left e];exact hm'
 have sub:∀a∈κ,a∈U:=λa ha=>by
  obtain⟨j,hj⟩:=List.getElem?_of_mem ha;obtain⟨i,_,q⟩:=g1 j a hj;exact List.mem_of_getElem? q
 have some_of:∀a∈U,∃u,H a=some u:=λa ha=>by
  obtain⟨i,hi⟩:=List.getElem?_of_mem ha;obtain⟨o,_,q⟩:=hr.at hi;obtain⟨u,q,_⟩:=q.some;exact⟨u,q⟩
 have G:Gr U H (U++m) H2:=⟨⟨m,rfl,mn⟩,gr.tup,gr.frz,λa u e n=>gr.oth a u e λz=>n (sub a z),gr.kp⟩;have lg:=hg.len;rw[List.length_append]at lg;refine⟨G,?_,?_,λj a o q1 q2=>?_⟩
 .refine List.nodup_append.mpr ⟨hr.nd,(List.nodup_append.mp hg.nd).2.1,λa ha b hb z=>?_⟩;obtain⟨u,q⟩:=some_of a ha;rw[z,mn b hb]at q;cases q
 .rw[List.length_append,List.length_append,a0s,List.length_drop,hr.len];omega
 .by_cases hj:j<U.length
  .rw[List.getElem?_append_left hj]at q1;rw[List.getElem?_append_left (by rw[a0s,<-hr.len];exact hj)]at q2
   by_cases hp:j∈is
   .obtain⟨k,hk⟩:=List.getElem?_of_mem hp;have hkl:k<κ.length:=by rw[<-l1];exact(List.getElem?_eq_some_iff.mp hk).1
    obtain⟨i,h3,h4⟩:=g1 k _ (List.getElem?_eq_getElem hkl);rw[hk]at h3;cases h3
    rw[q1]at h4;have hkg:k<g.length:=by omega
    have e5:=a9k (h:=h) nd hk (List.getElem?_eq_getElem hkg) (by rw[<-hr.len];exact hj)
    rw[e5]at q2;cases q2
    have ea:(κ++m)[k]? = some a:=by rw[List.getElem?_append_left hkl,List.getElem?_eq_getElem hkl];exact h4.symm
    exact(hg.obj k a _ ea (List.getElem?_eq_getElem hkg)).any (cg _ (List.getElem_mem hkg)) _
   .rw[a4j hp]at q2;have r:=hr.obj j a o q1 q2;obtain⟨u,hu,_⟩:=r.some;have na:a∉κ:=λz=>by
     obtain⟨k,hk⟩:=List.getElem?_of_mem z;obtain⟨i,h3,h4⟩:=g1 k a hk;have:=a6d hr.nd q1 h4;subst this;exact hp (List.mem_of_getElem? h3)
    exact r.mono G (by rw[hu];exact gr.oth a u hu na)
  .have q1':=q1;rw[List.getElem?_append_right (by omega)]at q1
   rw[List.getElem?_append_right (by rw[a0s,<-hr.len];omega),a0s,<-hr.len,List.getElem?_drop]at q2
   have ea:(κ++m)[κ.length+(j-U.length)]? = some a:=by rw[List.getElem?_append_right (by omega)];simpa using q1
   exact(hg.obj _ a o ea q2).any (cg o (List.mem_of_getElem? q2)) _
theorem agc{m:Bool}{F:SF}{vs:List V}{ds:List D}{Q:VK}(r:Reps K U H vs ds)(hr:HRep K U H h)(o:out K X0 (xm K) U H (dj m n F ds h) Q)(E:XK) :
  v4 K n F vs H (λv H1=>∃L,adn H1 L/\∀H2,FrzOf L H1 H2->Q v H2) E:=by
 unfold dj at o
 split at o
 .rename_i hl;refine⟨by rw[r.len];exact hl,?_⟩
  unfold ari at o
  split at o
  .exact o.elim
  .rename_i os hos
   split at o
   .rename_i hc;obtain⟨nd,hd,hcl⟩:=hc;obtain⟨l0,g0⟩:=a2k hos;obtain⟨κ,e1⟩:=a9j U (is:=a2r ds) λi hi=>by
     obtain⟨j,hj⟩:=List.getElem?_of_mem hi;have hjl:j<os.length:=by rw[<-l0];exact(List.getElem?_eq_some_iff.mp hj).1
     obtain⟨x,h3,h4⟩:=g0 j _ (List.getElem?_eq_getElem hjl);rw[hj]at h3;cases h3
     rw[hr.len];exact(List.getElem?_eq_some_iff.mp h4).1
    obtain⟨l1,g1⟩:=a2k e1;have lk:κ.length=os.length:=by omega
    have R0:Reps K κ H vs (a0j 0 ds):=by simpa using a4i (pre:=[]) r hd e1
    have H0:HRep K κ H os:=by
     refine⟨a9l hr.nd e1 nd,lk,λj a ob q1 q2=>?_⟩;obtain⟨i,h3,h4⟩:=g1 j a q1;obtain⟨i',h5,h6⟩:=g0 j ob q2;rw[h3]at h5;cases h5
     exact(hr.obj i a ob h4 h6).any (hcl ob (List.mem_of_getElem? q2)) _
    refine⟨κ,a0j 0 ds,os,R0,H0,?_⟩
    cases hF:F (a0j 0 ds) os with
    |no=>rw[hF]at o;cases m<;>exact o.elim
    |ex c hx=>rw[hF]at o;cases m<;>exact o.elim
    |ok d h1 =>
     rw[hF]at o
     intro U' H' v g rb hr1
     rw[<-lk]at o
     cases m with
     |false =>
      simp only[Bool.false_eq_true,if_false]at o
      cases hz:aad κ.length (.ok d h1) with
      |ok d' g' =>
       rw[hz]at o;simp only at o;obtain⟨L,ab,k⟩:=agb g rb hr1 hz;refine⟨L,ab,λH2 f=>?_⟩;obtain⟨k1,k2,k3⟩:=k H2 f
       split at o
       .rename_i cg
        split at o
        .rename_i cd;have q:=acb (m:=[]) hr e1 nd (by simpa using k1) (by simpa using k3) cg (by simp)
         have lg:=k3.len;have dr:g'.drop κ.length=[]:=List.drop_eq_nil_of_le (by omega)
         rw[dr,List.append_nil,List.append_nil]at q;exact o U H2 v q.1 (k2.any cd _) q.2
        .exact o.elim
       .exact o.elim
      |ex c hx=>rw[hz]at o;exact o.elim
      |no=>rw[hz]at o;exact o.elim
     |true =>
      simp only[if_true]at o
      cases hz:arh κ.length (.ok d h1) with
      |ok d' g' =>
       rw[hz]at o;simp only at o;obtain⟨b,hb,k1,k2,k3⟩:=ajv g rb hr1 hz;refine⟨[],λa ha=>(by simp at ha),λH2 f=>?_⟩
       have e2:H2=H':=by funext a;exact(f a).1 (by simp)
       subst e2
       split at o
       .rename_i cg;have q:=acb (m:=[b]) hr e1 nd k1 k3 cg (by simp)
        refine o (U++[b]) H2 v q.1 ?_ q.2;have hd':d'=.ref κ.length:=by
         unfold arh at hz
         split at hz
         .rename_i i h2 hh
          injection hh with z1 z2
          split at hz
          .split at hz
           .injection hz with z3 z4;exact z3.symm
           .cases hz
          .cases hz
         .cases hz
        subst hd'
        cases k2 with
        |ref hk =>
         rw[List.getElem?_append_right (Nat.le_refl _)]at hk;simp at hk;subst hk;exact .ref (by rw[<-hr.len];simp)
       .exact o.elim
      |ex c hx=>rw[hz]at o;exact o.elim
      |no=>rw[hz]at o;exact o.elim
   .exact o.elim
 .exact o.elim
end
theorem acd(m:Bool){X:Cx}(G:Dn X.prog X.w X.K X.mg X.base k x ps (v4 X.K n F) f fd)(hr:Room k X.A)(hg:Gl X x)(ha:MA X X0 (e::es) ka)
  (hdb:(x == ("__debug__" : Str))=false:=by decide) (he:starEach (e::es) X.env=(false,eval e X.env)::starEach es X.env:=by rfl) (hpl:(backTo pos (starEach es X.env)).any (·.1)=false:=by rfl):ME X X0 (.Call (.Name x p) (e::es) [] pos) (sA (dj m n F) ka):=by
 refine PE.weak (ag9 (anq G.ok hr hg G.m G.kp G.b .nil at8 ha hdb he hpl)) ?_
 rintro Z H Q ⟨U,τ,h,S,Rh,o⟩
 refine⟨U,τ,h,S,Rh,bw o λds h1 U1 H1 vs g1 r1 hr1 o1=>?_⟩;rw[List.append_nil];exact agc r1 hr1 o1 _
theorem agd(m:Bool){X:Cx}(G:Dn X.prog X.w X.K X.mg X.base k x ps (v4 X.K n F) f fd)(hr:Room k X.A)(hg:Gl X x)(hdb:(x == ("__debug__" : Str))=false:=by decide) :
  ME X X0 (.Call (.Name x p) [] [] pos) (sA (dj m n F) au):=by
 refine PE.weak (ag9 (aiv G.ok hr hg G.m G.kp G.b .nil at8 hdb)) ?_
 rintro Z H Q ⟨U,τ,h,S,Rh,o⟩
 exact agc (vs:=[]) .nil Rh o E0
noncomputable def b0q:SS:=λ_ _=>.no
section
variable{X:Cx}{E:XD}
theorem avc:MSs X E st b0q:=λ_ _ _ _ _ _ ⟨_,_,_,_,_,o⟩=>o.elim
end
theorem avd(h:PS X st t):PS X st (λD Z H=>t {D with nx:=λZ' H1=>∃L,adn H1 L/\∀H2,FrzOf L H1 H2->D.nx Z' H2} Z H):=λaA s Z H D I q =>
 thn (h aA s Z H _ I q) λf s' k=>by
  cases f with
  |next =>
   obtain⟨Z',H1,I1,L,ab,k⟩:=k;obtain⟨H2,f,I2⟩:=Inv.frz I1 ab;exact⟨Z',H2,I2,k H2 f⟩
  |brk=>exact k
  |cont=>exact k
  |ret u=>exact k
theorem age(q:a7t K E (j7 i f) N Z H):lift K E (xm K) f Z H (λv H1=>N.nx (Z.set i (some v)) H1):=by
 obtain⟨U,τ,h,S,Rh,o⟩:=q;exact⟨U,τ,h,S,Rh,uf o λd h1 U1 H1 v g1 r1 hr1 o1=>o1 U1 H1 _ (.refl _ _) ((S.mono g1).set r1 i) hr1⟩
theorem apc(ht:aii K n g t)(q:lift K E (xm K) (vg fi t fe ix) Z H Q):afc (lift K E (arf K) fi) (qi n ix) g (lift K E (xm K) fe) Z H Q:=by
 obtain⟨U,τ,h,Sr,Rh,o⟩:=q;refine⟨U,τ,h,Sr,Rh,bw o λit h1 U1 H1 J g1 r1 hr1 o1=>?_⟩
 by_cases hl:it.xs.length<=LINE
 .rw[if_pos hl]at o1;exact ac0 r1 ht (a5j (Sr.mono g1) ix) hr1 hl o1
 .rw[if_neg hl]at o1;exact o1.elim
theorem ace(ht:aii K n g t)(q:lift K E (xm K) (a1x fi t fc fe ix) Z H Q):a65 (lift K E (arf K) fi) (qi n ix) g (lift K E aec fc) (lift K E (xm K) fe) Z H Q:=by
 obtain⟨U,τ,h,Sr,Rh,o⟩:=q;refine⟨U,τ,h,Sr,Rh,bw o λit h1 U1 H1 J g1 r1 hr1 o1=>?_⟩
 by_cases hl:it.xs.length<=LINE
 .rw[if_pos hl]at o1;exact afq r1 ht (a5j (Sr.mono g1) ix) hr1 hl o1
 .rw[if_neg hl]at o1;exact o1.elim
section
variable{X:Cx}{E:XD}{aD tg aF cnd:Expr}{aB:Scope}{pos spos pos':Pos}{cl:List (Str×Addr)}{ts fr:List Str}{ix:List Nat}{fi:SI}{g:TG}{t:D->Option Sd}{fe:SE}{fc:ST}{i:Nat}{x:Str}
theorem agf(hN:X.N.Nodup)(hi':X.N[i]? = some x)(hx:Loc X.env.scope x)(hc:X.calm=true)(S:CSc X aB cl ts fr ix)(hi:MI X E tg aF fi)(hg:∀C fp s H,PG (cxC X (ts++fr) aB cl C fp s H) tg g)(ht:aii X.K ts.length g t)(he:∀C fp s H,ME (cxC X (ts++fr) aB cl C fp s H) E aD fe)
  (hs:∀x,foldedSetIterable aF X.env x=pure x:=by intro _;rfl) (hsw:swapsWith (.ListComp aD [⟨tg,aF,[],0⟩] aB pos) (some (.Name x pos')) spos.line X.env=pure true:=by rfl) (hf:Hf X x:=by with_unfolding_all first|exact .inl rfl|exact .inr rfl|assumption) :
  MS X E (.Assign [.Name x pos'] (.ListComp aD [⟨tg,aF,[],0⟩] aB pos) spos) (j7 i (vg fi t fe ix)) :=
 PS.weak (aj8 (te:=lift X.K E (xm X.K) fe) hN hi' hx hc S hi hg he hs hsw hf) λN Z H q=>apc ht (age q)
theorem apd(hN:X.N.Nodup)(hi':X.N[i]? = some x)(hx:Loc X.env.scope x)(hc:X.calm=true)(S:CSc X aB cl ts fr ix)(hi:MI X E tg aF fi)(hg:∀C fp s H,PG (cxC X (ts++fr) aB cl C fp s H) tg g)(ht:aii X.K ts.length g t)(he:∀C fp s H,ME (cxC X (ts++fr) aB cl C fp s H) E aD fe)
  (hq:∀C fp s H,MT (cxC X (ts++fr) aB cl C fp s H) E cnd fc)
  (hs:∀x,foldedSetIterable aF X.env x=pure x:=by intro _;rfl) (hsw:swapsWith (.ListComp aD [⟨tg,aF,[cnd],0⟩] aB pos) (some (.Name x pos')) spos.line X.env=pure true:=by rfl) (hf:Hf X x:=by with_unfolding_all first|exact .inl rfl|exact .inr rfl|assumption) :
  MS X E (.Assign [.Name x pos'] (.ListComp aD [⟨tg,aF,[cnd],0⟩] aB pos) spos) (j7 i (a1x fi t fc fe ix)) :=
 PS.weak (a72 (te:=lift X.K E (xm X.K) fe) (tc:=lift X.K E aec fc) hN hi' hx hc S hi hg he hq hs hsw hf) λN Z H q=>ace ht (age q)
theorem acf(hN:X.N.Nodup)(hi':X.N[i]? = some x)(hx:Loc X.env.scope x)(hc:X.calm=true)(S:CSc X aB cl ts fr ix)(hi:MI X E tg aF fi)(hg:∀C fp s H,PG (cxC X (ts++fr) aB cl C fp s H) tg g)(ht:aii X.K ts.length g t)(he:∀C fp s H,ME (cxC X (ts++fr) aB cl C fp s H) E aD fe)
  (hq:∀C fp s H,MT (cxC X (ts++fr) aB cl C fp s H) E cnd fc)
  (hs:∀x,foldedSetIterable aF X.env x=pure x:=by intro _;rfl) (hsw:swapsWith (.ListComp aD [⟨tg,aF,[cnd],0⟩] aB pos) (some (.Name x pos')) spos.line X.env=pure true:=by rfl) (hf:Hf X x:=by with_unfolding_all first|exact .inl rfl|exact .inr rfl|assumption) :
  MS X E (.Assign [.Name x pos'] (.ListComp aD [⟨tg,aF,[cnd],0⟩] aB pos) spos) (j7 i (sZ (a1x fi t fc fe ix))) :=
 PS.weak (avd (a72 (te:=lift X.K E (xm X.K) fe) (tc:=lift X.K E aec fc) hN hi' hx hc S hi hg he hq hs hsw hf)) λN Z H q=>ace ht (b0p (age q))
end
theorem am8(Fu:Fun K x qual st f fd)(S:FnScope N ps (bj st))
  (hb:∀(cdv:Value) (A:Around) (outer:List Env) (s:Shared) (H:Hp) (E:XK),Room k (A.deeper (PyProof.Rows.envOfC qual (bj st) s.heap.objs.size f cdv))->MSs (aif CX0 P w K mg base N qual (bj st) f cdv A outer s H E).nox X0 (ym st) b) :
  FnOk P w K mg base CX0 (k+1) f fd ps (v4 K ps.length (kj b N.length)):=aul Fu S hb λds h _ _ _=>Rf.same rfl
end MI
namespace MI
open L2 HT
theorem ado{s:Shared}(ht:PyProof.Rows.IsTup s.heap t aC)(hs:s.heap.IsSliceOf sl vl vu .none)(pl:IsPart vl lo)(pu:IsPart vu hi)
  (hw:HT.sIx aC.size 0 lo=0/\HT.sIx aC.size aC.size hi=aC.size) (h:Q (.ref t) s):wpAny (model prog w) A (getItem (.ref t) (.ref sl)) Q E s:=by
 obtain⟨os,f1,f2,f3⟩:=id hs;have ty:s.TypeIs (.ref sl) "slice":=⟨os,f1,f2⟩;have tt:s.TypeIs (.ref t) "tuple":=ht.typeIs;rw[getItem]
 try apply wpAny_holding
 first|(apply wpAny_bind;apply wpAny_pure)|skip
 apply wpAny_bind;apply wpAny_sequenceKey tt (by decide)
 apply wpAny_bind
 apply wpAny_callSpecial?_slot (name:=Str.ofString "__getitem__") tt PyProof.Rows.slot_tuple_getitem
 apply wpAny_call_entry PyProof.Rows.slot_tuple_getitem tt PyProof.Rows.entry_tuple_getitem _ (PyProof.Rows.args_tuple_getitem _ _)
 change wpAny (model prog w) A.in1 (Builtin.Tuple.tupleItemsOf (.ref t)>>=_) _ _ s
 apply wpAny_bind;apply PyProof.Rows.tupleItemsOf_ ht
 apply wpAny_bind;apply wpAny_typeOf ty
 rw[if_pos (by decide)]
 apply wpAny_bind;apply HT.a1n hs pl pu
 rw[hw.1,hw.2];dsimp only;rw[if_pos (by simp)]
 apply wpAny_bind
 rw[Builtin.Tuple.tupleIsExact]
 apply wpAny_bind;apply wpAny_typeOf tt
 apply wpAny_pure
 rw[if_pos (by decide)]
 apply wpAny_bind;apply wpAny_rule
 apply wpAny_pure
 exact⟨_,rfl,wpAny_pure h⟩
def b0r(K:Fg):V->Option Int->Option Int->Hp->VK->Prop:=λx lo hi H Q=>∃a xs,x=.ref a/\SqT K H a xs/\whole xs.length lo hi/\Q (.ref a) H
theorem ajw:SlR X (b0r X.K):=by
 intro aA s Z H x v vl vu lo hi sl Q I rx hs pl pu h
 obtain⟨a,xs,rfl,hx,hw,q⟩:=h;cases rx
 obtain⟨its,r,ht,hz⟩:=I.tuple hx;have aH:its.toArray.size=xs.length:=by rw[List.size_toArray];exact r.length.symm
 exact⟨"tuple",_,PyProof.Rows.slot_tuple_getitem.lookup,ht.typeIs,ado ht hs pl pu (by rw[aH];exact hw) ⟨.ref a,H,I,rfl,q⟩⟩
noncomputable def a8t(d:D)(lo hi:Option Int)(h:Hd):R D:=match d with
 |.tup xs=>if whole xs.length lo hi then .ok (.tup xs) h else .ok (.tup (a4z xs lo hi)) h
 |d=>gSl d lo hi h
noncomputable def a1e(f:SE)(l u:SO):SE:=λτ h=>(f τ h).bind λd h1=>(l τ h1).bind λlo h2=>(u τ h2).bind λhi h3=>a8t d lo hi h3
theorem ape(rx:Rep K U H x d)(hr:HRep K U H h)(o:out K E (xm K) U H (a8t d lo hi h) Q):(azb x lo hi H Q\/az0 K x lo hi H Q\/az2 K x lo hi H Q)\/b0r K x lo hi H Q:=by
 cases rx with
 |@tup p vs xs hp r =>
  by_cases hc:whole xs.length lo hi
  .simp only[a8t,if_pos hc]at o;exact .inr ⟨p,vs,rfl,SqT.of hp,by rw[r.len];exact hc,ans o (.tup hp r) hr⟩
  .simp only[a8t,if_neg hc]at o;exact .inl (.inr (.inl ⟨p,vs,rfl,SqT.of hp,by rw[r.len];exact hc,a3d (a3n r lo hi) hr o⟩))
 |non=>exact o.elim
 |bl _=>exact o.elim
 |int _=>exact o.elim
 |ty _=>exact o.elim
 |str z=>exact .inl (ac6 (.str z) hr o)
 |rol a b=>exact .inl (ac6 (.rol a b) hr o)
 |scr a b=>exact .inl (ac6 (.scr a b) hr o)
 |rod a b c=>exact o.elim
 |rdT a b c=>exact o.elim
 |exc a b c=>exact o.elim
 |ins _ _ _ _=>exact o.elim
 |ref a=>exact .inl (ac6 (.ref a) hr o)
theorem agg(he:ME X E e fa)(hl:MO X E lo l)(hu:MO X E hi u):ME X E (.Subscript e (.Slice lo hi none p2) pos) (a1e fa l u):=by
 refine PE.weak (aiy ((atj.or (asy.or anz)).or ajw) he hl hu) ?_
 rintro Z H Q ⟨U,τ,h,S,Rh,o⟩
 refine⟨U,τ,h,S,Rh,bw o λd h1 U1 H1 v g1 r1 hr1 o1=>?_⟩;refine⟨U1,τ,h1,S.mono g1,hr1,bw o1 λlo h2 U2 H2 lv g2 r2 hr2 o2=>?_⟩;refine⟨U2,τ,h2,(S.mono g1).mono g2,hr2,bw o2 λhi h3 U3 H3 hv g3 r3 hr3 o3=>?_⟩
 cases r2;cases r3
 exact ape ((r1.mono g2).mono g3) hr3 o3
end MI
namespace L2
open PyProof.Rows
theorem ajx:b0g X (axv X.K):=by
 intro aA s Z H o i ov iv Q I ro ri h
 obtain⟨p,xs,k,z,rfl,rfl,hq,he,q⟩:=h;cases ro
 obtain⟨t,rfl⟩:=ri;obtain⟨its,r,pl,hz⟩:=I.list hq;obtain⟨j,h1,h2,h3,h4,h5⟩:=a7h he;obtain⟨w,ew,rw'⟩:=r.get h2;have len:=r.length;have l63:=a3j;have done:EP X aA Z Q w s:=⟨z,H,I,rw',q⟩
 by_cases neg:k<0
 .have ej:(k+(its.toArray.size:Int)).toNat=j:=by
   rw[seqIndex_neg neg h4]at h1;rw[List.size_toArray,<-len];exact Option.some.inj h1
  exact wpAny_getItem_list_neg pl.isList neg (by rw[List.size_toArray];omega) (by omega) (by rw[ej];simpa using ew) done
 .have ej:k.toNat=j:=by
   rw[seqIndex_of (by omega) h5]at h1
   exact Option.some.inj h1
  exact wpAny_getItem_list pl.isList (by omega) (by omega) (by rw[ej];simpa using ew) done
end L2
namespace MI
open L2
noncomputable def apf(x y:D)(h:Hd):R D:=match x,y with
 |.ref p,.int i=>(match h[p]? with|some (.lst xs)=>(match atI xs i with|some d=>.ok d h|none=>.no)|_=>.no)
 |_,_=>.no
theorem apg:a2g K apf (axv K):=by
 intro E U H h x y dx dy Q rx ry hr o
 cases rx with
 |@ref p i hp =>
  cases ry with
  |int k =>
   simp only[apf]at o
   split at o
   .rename_i xs hx;obtain⟨vs,h3,h4⟩:=hr.lst hp hx
    split at o
    .rename_i d he;obtain⟨v,h1,h2⟩:=ac4 h4 he;exact⟨p,vs,k,v,rfl,rfl,SqL.of h3,h1,ans o h2 hr⟩
    .exact o.elim
   .exact o.elim
  |_=>exact o.elim
 |_=>exact o.elim
noncomputable def ab1(g:D->D->Hd->R D)(fo fi fe:SE):SS:=λτ h=>(fo τ h).fl λo h1=>(fi τ h1).fl λi h2=>(apf o i h2).fl λx h3=>(fe τ h3).fl λy h4=>(g x y h4).fl λz h5=>match put o i z h5 with|some h6=>.nx τ h6|none=>.no
section
variable{X:Cx}{E:XD}{e o i:Expr}{fa fb fc:SE}{pos:Pos}
theorem aph(ho:ME X E o fa)(hi:ME X E i fb)(he:ME X E e fc)(hp:OpR X (inplaceOp op) r)(hs:a2g X.K gg r)
  (ha:∀ov iv new,augStore i ov iv new=(do holding [new,ov,iv] (setItem ov iv new);release [new,ov,iv] [];pure .next):=by intros;rfl):MS X E (.AugAssign (.Subscript o i tpos) op e pos) (ab1 gg fa fb fc):=by
 refine PS.weak (ani ho hi ajx he hp set_list ha) ?_
 rintro N Z H ⟨U,τ,h,S,Rh,oo⟩
 refine⟨U,τ,h,S,Rh,uf oo λd h1 U1 H1 v g1 r1 hr1 o1=>?_⟩;refine⟨U1,τ,h1,S.mono g1,hr1,uf o1 λd2 h2 U2 H2 u g2 r2 hr2 o2=>?_⟩;refine apg E U2 H2 h2 v u d d2 _ (r1.mono g2) r2 hr2 (uf o2 λd3 h3 U3 H3 w g3 r3 hr3 o3=>?_);have S3:=((S.mono g1).mono g2).mono g3;refine⟨U3,τ,h3,S3,hr3,uf o3 λd4 h4 U4 H4 y g4 r4 hr4 o4=>?_⟩;refine hs E U4 H4 h4 w y d3 d4 _ (r3.mono g4) r4 hr4 (uf o4 λd5 h5 U5 H5 z g5 r5 hr5 o5=>?_)
 cases hq:put d d2 d5 h5 with
 |none=>rw[hq]at o5;exact o5.elim
 |some h6 =>
  rw[hq]at o5;exact afl ((((r1.mono g2).mono g3).mono g4).mono g5) (((r2.mono g3).mono g4).mono g5) r5 hr5 hq λH' g6 hr6=>o5 U5 H' Z g6 (((S3.mono g4).mono g5).mono g6) hr6
end
end MI
namespace TPM
open PySem.W L2 HT MI
theorem adp(t b:Addr)(items2:Array Value)(n n2:Nat)(dd dd2:Option Addr)(sl sl2:Array (Option Value)) :
  Meets (Builtin.«tuple.__add__» ⟨[.ref t,.ref b],[]⟩) (λ_ R s=>s.heap.get? t=some {cls:=.type "tuple",dict:=dd,data:=.seq #[] n,slots:=sl}/\s.heap.get? b=some {cls:=.type "tuple",dict:=dd2,data:=.seq items2 n2,slots:=sl2}/\R (.ok (.ret (.ref b))) s):=by
 refine .of_wp λprog w A R s h=>?_;obtain⟨hp,g,d,tk,os⟩:=s;obtain⟨hl,hb,h⟩:=h
 wp_walk
 refine wpAny_of_eq sub_tuple_self ?_
 wp_walk
 exact⟨_,rfl,h⟩
noncomputable def ave(K:Fg):R2:=λx y H Q=>∃a b ys,x=.ref a/\y=.ref b/\SqT K H a []/\SqT K H b ys/\Q (.ref b) H
theorem api:OpR X (binaryOp .Add) (ave X.K):=by
 intro aA s Z H x y v u Q I rx ry h
 obtain⟨a,b,ys,rfl,rfl,ha,hb,q⟩:=h;cases rx
 cases ry
 obtain⟨its,r1,p1,_⟩:=I.tuple ha;obtain⟨its2,r2,p2,_⟩:=I.tuple hb;cases r1
 obtain⟨⟨cls,dd,data,sl⟩,ho,hc,n,hd⟩:=id p1;obtain⟨⟨cls2,dd2,data2,sl2⟩,ho2,hc2,n2,hd2⟩:=id p2;simp only at hc hd hc2 hd2;subst hc hd hc2 hd2;exact concat_meets ⟨_,ho,rfl⟩ ⟨_,ho2,rfl⟩ noFill_tuple_add seq_tuple_add F.slot_tuple_add F.entry_tuple_add (F.args_tuple_add_2 _ _) (adp a b its2.toArray n n2 dd dd2 sl sl2) ⟨ho,ho2,⟨.ref b,H,I,rfl,q⟩⟩
end TPM
namespace L2
open PyProof.Rows
section
variable{X:Cx}
theorem Inv.lstR(I:Inv X aA Z H s)(hH:Rd H l (.lst xs)):xs.length<=sizeLine/\∃(its:List Value) (n:Nat),Vals xs its/\xs.length=its.length/\s.heap.get? l=some {cls:=.type "list",data:=.seq its.toArray n}:=by
 obtain⟨z,its,n,r,e⟩:=hH.ok I.hok;exact⟨z,its,n,r,r.length,e⟩
noncomputable def avf:R2:=λx y H Q=>∃l b xs zs,x=.ref l/\y=.ref b/\Rd H l (.lst xs)/\Rd H b (.lst zs)/\xs.length+zs.length<=sizeLine/\∀p,H p=none->Q (.ref p) (upd H p (.lst (xs++zs)))
theorem apj:OpR X (binaryOp .Add) avf:=λaA s Z H x y v u Q I rx ry ⟨l,b,xs,zs,ex,ey,h1,h2,hz,q⟩=>by
 subst ex ey;cases rx
 cases ry
 obtain⟨_,as,_,va,la,ea⟩:=I.lstR h1;obtain⟨_,bs,_,vb,lb,eb⟩:=I.lstR h2;have app:as.toArray++bs.toArray=(as++bs).toArray:=by simp
 refine PySem.P.add_list ea eb ?_ (by simp;omega)
 rw[app];exact⟨.ref _,_,I.lnew (t':=s.toks) (va.append vb) (by simpa using hz),rfl,q _ I.fresh⟩
def avh:V->List V->Hp->VK->Prop:=λx vs H Q=>∃l b xs zs,x=.ref l/\vs=[.ref b]/\H l=some (.lst xs)/\Rd H b (.lst zs)/\xs.length+zs.length<=sizeLine/\Q .non (upd H l (.lst (xs++zs)))
theorem adq:MtM X "list.extend" avh:=λaA s Z H x vs v us Q I rx rv ⟨l,b,xs,zs,ex,ev,h1,h2,hz,q⟩=>by
 subst ex ev;cases rx
 obtain⟨u,rfl,ru⟩:=rv.one;cases ru
 obtain⟨_,as,n,va,la,ea⟩:=I.lstM h1;obtain⟨_,bs,m,vb,lb,eb⟩:=I.lstR h2;have few:as.toArray.size+bs.toArray.size<=sizeLine:=by simp;omega
 have long:¬ (!as.toArray.isEmpty && Builtin.List.listTooLong (as.toArray.size+bs.toArray.size))=true:=by rw[a7m few,Bool.and_false];exact Bool.false_ne_true
 exact call_meets F.slot_list_extend ⟨_,ea,rfl⟩ F.entry_list_extend (F.args_list_extend_2 _ _) (AutoSeq1.list_extend_list_list_0 l as.toArray n b bs.toArray m long (by simp;omega) (by omega))
  ⟨ea,eb,.non,_,I.lset (its':=as++bs) h1 ea (by simp) (va.append vb) (by simpa using hz),rfl,q⟩
noncomputable def avi:R2:=λx y H Q=>∃l k xs,x=.ref l/\y=.int k/\Rd H l (.lst xs) /\ -(2^63)<=k/\k<2^63/\xs.length*k.toNat<=sizeLine/\∀p,H p=none->Q (.ref p) (upd H p (.lst (List.replicate k.toNat xs).flatten))
theorem apk(its:List Value)(k:Nat):List.foldl (λx1 x2=>x1++x2) #[] (List.replicate (if its.toArray.isEmpty=true then 0 else k) its.toArray)=(List.replicate k its).flatten.toArray:=by
 have g:∀m:Nat,List.foldl (λx1 x2=>x1++x2) #[] (List.replicate m its.toArray)=(List.replicate m its).flatten.toArray:=λm=>by simpa using foldl_rep its m []
 cases its with
 |nil=>simp
 |cons a r=>rw[if_neg (by simp),g]
theorem apl:OpR X (binaryOp .Mult) avi:=λaA s Z H x y v u Q I rx ry ⟨l,k,xs,ex,ey,h1,k1,k2,hz,q⟩=>by
 subst ex ey;cases rx
 obtain⟨t,rfl⟩:=ry;obtain⟨_,as,n,va,la,ea⟩:=I.lstR h1;have few:as.toArray.size*k.toNat<=sizeLine:=by rw[List.size_toArray,<-la];exact hz
 have top:(sizeLine:Nat)<=(2^63-1) / 8:=by decide
 refine wpAny_binaryOp_repeat_ref (T := "list") (U := "int") (by decide) ⟨_,ea,rfl⟩ (λs'=>typeIs_int s' k t) noFill_list_mul F.fills_int_mul F.slot_int_rmul repeat_list F.slot_int_index.lookup
  (call_meets F.slot_int_rmul (typeIs_int s k t) F.entry_int_rmul (F.args_int_rmul_2 _ _) (int___rmul___int_list k t l as.toArray n)
   ⟨ea,rfl,⟨_,ea,rfl⟩,call_meets F.slot_list_mul ⟨_,ea,rfl⟩ F.entry_list_mul (F.args_list_mul_2 _ _)
    (AutoListH.list___mul___list_int_3 l as.toArray n k t (by rw[fitsIndex_both k1 k2];exact Bool.false_ne_true) (by omega) (by rw[a7m few];exact Bool.false_ne_true)) ⟨ea,?_⟩⟩)
 rw[apk];exact⟨.ref _,_,I.lnew (t':=s.toks) (va.rep k.toNat) (by rw[len_rep,Nat.mul_comm];exact hz),rfl,q _ I.fresh⟩
end
end L2
namespace MI
open L2 TPM
noncomputable def a0c(d:D)(h:Hd):Option (List D):=match d with
 |.rol xs=>some xs
 |.ref i=>(match h[i]? with|some (.lst xs)=>some xs|_=>none)
 |_=>none
section
variable{K:Fg}{U:List Addr}{H:Hp}{h:Hd}
theorem a2l(r:Rep K U H x d)(hr:HRep K U H h)(e:a0c d h=some xs):∃a vs,x=.ref a/\Rd H a (.lst vs)/\Reps K U H vs xs:=by
 cases r with
 |@rol a vs ys hp rs=>cases e;exact⟨a,vs,rfl,.inr hp,rs⟩
 |@ref a i hp =>
  obtain⟨ob,e1,e2⟩:=hr.at hp;simp only[a0c,e1]at e
  cases ob with
  |lst ys=>cases e;obtain⟨vs,h3,h4⟩:=e2;exact⟨a,vs,rfl,.inl h3,h4⟩
  |_=>cases e
 |_=>cases e
noncomputable def dw:D->D->Hd->R D
 |.int i,.int j,h=>.ok (.int (i+j)) h
 |.str x,.str y,h=>if x.length+y.length<=LINE then .ok (.str (x++y)) h else .no
 |.tup [],.tup ys,h=>.ok (.tup ys) h
 |.tup (x::xs),.tup ys,h=>if (x::xs).length+ys.length<=LINE then .ok (.tup (x::xs++ys)) h else .no
 |x,y,h=>match a0c x h,a0c y h with
  |some xs,some ys=>if xs.length+ys.length<=LINE then .ok (.ref h.length) (h++[.lst (xs++ys)]) else .no
  |_,_=>.no
theorem apm(e1:a0c x h=some xs)(e2:a0c y h=some ys):dw x y h=if xs.length+ys.length<=LINE then .ok (.ref h.length) (h++[.lst (xs++ys)]) else .no:=by
 cases x<;>first|(cases e1;done)|(cases y<;>first|(cases e2;done)|(simp only[dw,e1,e2]))
theorem apn(x y:D)(h:Hd):(∃i j,x=.int i/\y=.int j)\/(∃i j,x=.str i/\y=.str j)\/(∃xs ys,x=.tup xs/\y=.tup ys)\/(∃xs ys,a0c x h=some xs/\a0c y h=some ys)\/dw x y h=.no:=by
 cases e1:a0c x h with
 |some xs =>
  cases e2:a0c y h with
  |some ys=>exact .inr (.inr (.inr (.inl ⟨xs,ys,rfl,rfl⟩)))
  |none =>
   refine .inr (.inr (.inr (.inr ?_)))
   cases x<;>first|(cases e1;done)|(simp only[dw,e1,e2])
 |none =>
  cases x with
  |int i=>cases y<;>first|exact .inl ⟨_,_,rfl,rfl⟩|exact .inr (.inr (.inr (.inr rfl)))
  |str i=>cases y<;>first|exact .inr (.inl ⟨_,_,rfl,rfl⟩)|exact .inr (.inr (.inr (.inr rfl)))
  |tup i=>cases y<;>first|exact .inr (.inr (.inl ⟨_,_,rfl,rfl⟩))|(cases i<;>exact .inr (.inr (.inr (.inr rfl))))
  |_=>refine .inr (.inr (.inr (.inr ?_)));simp only[dw,e1]
theorem ajy:a2g K dw (λx y H Q=>(rI0 (λi j=>.int (i+j)) x y H Q\/(∃i j,x=.str i/\y=.str j/\i.length+j.length<=sizeLine/\Q (.str (i++j)) H)\/asz K x y H Q\/avf x y H Q)\/ave K x y H Q):=by
 intro E U H h x y dx dy Q rx ry hr o
 rcases apn dx dy h with⟨i,j,rfl,rfl⟩|⟨i,j,rfl,rfl⟩|⟨xs,ys,rfl,rfl⟩|⟨xs,ys,e1,e2⟩|e
 .cases rx;cases ry
  exact .inl (.inl ⟨i,j,rfl,rfl,ans o (.int _) hr⟩)
 .cases rx;cases ry
  simp only[dw]at o
  split at o
  .rename_i hc;exact .inl (.inr (.inl ⟨i,j,rfl,rfl,ll hc,ans o (.str _) hr⟩))
  .exact o.elim
 .cases rx with
  |@tup a vs _ ha r1 =>
  cases ry with
  |@tup b us _ hb r2 =>
  cases xs with
  |nil=>cases r1;exact .inr ⟨a,b,us,rfl,rfl,SqT.of ha,SqT.of hb,ans o (.tup hb r2) hr⟩
  |cons z xs =>
   simp only[dw]at o
   split at o
   .rename_i hc;refine .inl (.inr (.inr (.inl ⟨a,b,vs,us,rfl,rfl,SqT.of ha,SqT.of hb,λz=>(by subst z;cases r1),ll (by rw[r1.len,r2.len];exact hc),λz=>?_,λ_=>?_⟩)))
    .subst z;cases r2
     rw[List.append_nil]at o;exact ans o (.tup ha r1) hr
    .exact a3d (r1.app r2) hr o
   .exact o.elim
 .rw[apm e1 e2]at o;obtain⟨a,vs,rfl,h1,h2⟩:=a2l rx hr e1;obtain⟨b,us,rfl,h3,h4⟩:=a2l ry hr e2
  split at o
  .rename_i hc;exact .inl (.inr (.inr (.inr ⟨a,b,vs,us,rfl,rfl,h1,h3,ll (by rw[h2.len,h4.len];exact hc),vo (h2.app h4) hr o⟩)))
  .exact o.elim
 .rw[e]at o;exact o.elim
theorem apo(ha:ME X E a fa)(hb:ME X E b fb):ME X E (.BinOp a .Add b pos) (s2 dw fa fb) :=
 adk (OpR.or (asl.or (adb.or (anw.or apj))) api) ajy ha hb
open Classical in
noncomputable def a1u(x y:D)(h:Hd):R D:=match y with
 |.int k=>(match x with
  |.int i=>if CMul i k then .ok (.int (i*k)) h else .no
  |_=>match a0c x h with
   |some xs=>if (-(2^63)<=k/\k<2^63)/\xs.length*k.toNat<=LINE then .ok (.ref h.length) (h++[.lst (List.replicate k.toNat xs).flatten]) else .no
   |none=>.no)
 |_=>.no
theorem ajz:a2g K a1u (λx y H Q=>rI CMul (λi j=>.int (i*j)) x y H Q\/avi x y H Q):=by
 intro E U H h x y dx dy Q rx ry hr o
 cases dy with
 |int k =>
  obtain rfl:=afu ry
  cases hx:a0c dx h with
  |some xs =>
   obtain⟨a,vs,rfl,h1,h2⟩:=a2l rx hr hx;have o':out K E (xm K) U H (if (-(2^63)<=k/\k<2^63)/\xs.length*k.toNat<=LINE then .ok (.ref h.length) (h++[.lst (List.replicate k.toNat xs).flatten]) else .no) Q:=by
    cases dx<;>first|(cases hx;done)|(simp only[a1u,hx]at o;exact o)
   split at o'
   .rename_i hc;exact .inr ⟨a,k,vs,rfl,rfl,h1,hc.1.1,hc.1.2,ll (by rw[h2.len];exact hc.2),vo (h2.flat _) hr o'⟩
   .exact o'.elim
  |none =>
   cases dx with
   |int i =>
    obtain rfl:=afu rx
    by_cases hc:CMul i k
    .simp only[a1u,if_pos hc]at o;exact .inl ⟨i,k,rfl,rfl,hc,ans o (.int _) hr⟩
    .simp only[a1u,if_neg hc]at o;exact o.elim
   |_=>simp only[a1u,hx]at o;exact o.elim
 |_=>exact o.elim
theorem apq(ha:ME X E a fa)(hb:ME X E b fb):ME X E (.BinOp a .Mult b pos) (s2 a1u fa fb):=adk (asn.or apl) ajz ha hb
noncomputable def agh:D->List D->Hd->R D
 |.ref i,[.tup ys],h=>(match h[i]? with|some (.lst xs)=>if xs.length+ys.length<=LINE then .ok .non (h.set i (.lst (xs++ys))) else .no|_=>.no)
 |.ref i,[y],h=>(match h[i]?,a0c y h with|some (.lst xs),some ys=>if xs.length+ys.length<=LINE then .ok .non (h.set i (.lst (xs++ys))) else .no|_,_=>.no)
 |_,_,_=>.no
theorem ak0:ap0 K agh (λx vs H Q=>avh x vs H Q\/aby K x vs H Q):=by
 intro E U H h x dx xs ds Q rx r hr o
 unfold agh at o
 split at o
 .rename_i i ys
  cases rx with
  |@ref p _ hp =>
   cases r with
   |cons r1 rs =>
    cases rs
    cases r1 with
    |@tup b us zs hb rb =>
     split at o
     .rename_i xs hx;obtain⟨vs,h3,h4⟩:=hr.lst hp hx
      split at o
      .rename_i hc;exact .inr ⟨p,b,vs,us,rfl,rfl,h3,SqT.of hb,ll (by rw[h4.len,rb.len];exact hc),a7v (h4.app rb) hr hp .non o⟩
      .exact o.elim
     .exact o.elim
 .rename_i i y _
  cases rx with
  |@ref p _ hp =>
   cases r with
   |cons r1 rs =>
    cases rs
    split at o
    .rename_i xs ys hx hy;obtain⟨vs,h3,h4⟩:=hr.lst hp hx;obtain⟨b,us,rfl,h5,h6⟩:=a2l r1 hr hy
     split at o
     .rename_i hc;exact .inl ⟨p,b,vs,us,rfl,rfl,h3,h5,ll (by rw[h4.len,h6.len];exact hc),a7v (h4.app h6) hr hp .non o⟩
     .exact o.elim
    .exact o.elim
 .exact o.elim
end
end MI
namespace MI
open L2
noncomputable def aik:D->Option Key
 |.int i=>some (.inl i)
 |.str x=>some (.inr x)
 |_=>none
noncomputable def ak1:D->Option (List Key)
 |.tup xs=>a0b aik xs
 |_=>none
noncomputable def a6r{κ:Type}[DecidableEq κ](kvs:List (κ×D))(k:κ):Option D:=(kvs.find? λkv=>decide (kv.1=k)).map (·.2)
noncomputable def putD{κ:Type}[DecidableEq κ](kvs:List (κ×D))(k:κ)(d:D):List (κ×D):=if (kvs.any λkv=>decide (kv.1=k))=true then kvs.map λkv=>if kv.1=k then (kv.1,d) else kv else kvs++[(k,d)]
section
variable{K:Fg}{U:List Addr}{H:Hp}{h:Hd}
theorem a82{v:V}{d:D}{k:Key}(r:Rep K U H v d)(e:aik d=some k):v=kV k:=by
 cases r with
 |int i=>cases e;rfl
 |str x=>cases e;rfl
 |_=>cases e
theorem acg:∀{vs:List V} {ds:List D} {ks:List Key},Reps K U H vs ds->a0b aik ds=some ks->vs=ks.map kV
 |_,_,_,.nil,e=>by cases e;rfl
 |_,d::ds,_,.cons r rs,e=>by
  unfold a0b at e
  split at e
  .rename_i y ys h1 h2;cases e
   rw[a82 r h1,acg rs h2];rfl
  .cases e
theorem agi{v:V}{d:D}{ks:List Key}(r:Rep K U H v d)(e:ak1 d=some ks):∃b,v=.ref b/\H b=some (.tup (ks.map kV)):=by
 cases r with
 |@tup a vs xs hp rs=>exact⟨a,rfl,by rw[<-acg rs e];exact hp⟩
 |_=>cases e
theorem a83{κ:Type}[DecidableEq κ](k:κ):∀{us:List (κ×V)} {kvs:List (κ×D)},KRep K U H us kvs->match a6r kvs k with|some d=>∃v,abq us k=some v/\Rep K U H v d|none=>abq us k=none
 |[],[],_=>rfl
 |[],_::_,r=>by have:=congrArg List.length r.1;simp at this
 |_::_,[],r=>by have:=congrArg List.length r.1;simp at this
 |(a,v)::us,(b,d)::kvs,r=>by
  obtain⟨e,rs⟩:=r;simp only[List.map_cons,List.cons.injEq]at e;obtain⟨e1,e2⟩:=e;subst e1
  cases rs with
  |cons r1 rs =>
   by_cases hk:a=k
   .simp only[a6r,abq,List.find?_cons,hk,decide_true,Option.map_some];exact⟨v,rfl,r1⟩
   .have ih:=a83 k (us:=us) (kvs:=kvs) ⟨e2,rs⟩;simp only[a6r,abq,List.find?_cons,hk,decide_false]at ih ⊢;exact ih
theorem ach{κ:Type}[DecidableEq κ]{us:List (κ×V)}{kvs:List (κ×D)}(k:κ){v:V}{d:D}(r:KRep K U H us kvs)(rv:Rep K U H v d):KRep K U H (putK us k v) (putD kvs k d):=by
 have anyEq:∀{us:List (κ×V)} {kvs:List (κ×D)},us.map (·.1)=kvs.map (·.1)->(us.any λkv=>decide (kv.1=k))=(kvs.any λkv=>decide (kv.1=k)):=λ{us kvs} e=>by
  have h1:(us.any λkv=>decide (kv.1=k))=(us.map (·.1)).any λa=>decide (a=k):=by rw[List.any_map];rfl
  have h2:(kvs.any λkv=>decide (kv.1=k))=(kvs.map (·.1)).any λa=>decide (a=k):=by rw[List.any_map];rfl
  rw[h1,h2,e]
 have rmap:∀{us:List (κ×V)} {kvs:List (κ×D)},KRep K U H us kvs->KRep K U H (us.map λkv=>if kv.1=k then (kv.1,v) else kv) (kvs.map λkv=>if kv.1=k then (kv.1,d) else kv):=λ{us}=>by
  induction us with
  |nil=>intro kvs r;cases kvs with
   |nil=>exact⟨rfl,.nil⟩
   |cons _ _=>have:=congrArg List.length r.1;simp at this
  |cons a us ih=>intro kvs r;cases kvs with
   |nil=>have:=congrArg List.length r.1;simp at this
   |cons b kvs =>
    obtain⟨e,rs⟩:=r;simp only[List.map_cons,List.cons.injEq]at e;obtain⟨e1,e2⟩:=e
    cases rs with
    |cons r1 rs =>
     obtain⟨i1,i2⟩:=ih ⟨e2,rs⟩;obtain⟨a1,a2⟩:=a;obtain⟨b1,b2⟩:=b;simp only at e1;subst e1
     by_cases hk:a1=k
     .simp only[List.map_cons,hk,if_true];exact⟨by simp only[List.map_cons,i1],.cons rv i2⟩
     .simp only[List.map_cons,hk,if_false];exact⟨by simp only[List.map_cons,i1],.cons r1 i2⟩
 have ae:=anyEq r.1;unfold putK putD;rw[ae]
 split
 .exact rmap r
 .exact⟨by simp[r.1],by simpa using r.2.snoc rv⟩
noncomputable def am9(x y:D)(h:Hd):Option (Option D):=match x with
 |.ref i=>(match h[i]? with
  |some (.dK kvs)=>(aik y).map λk=>a6r kvs k
  |some (.dT kvs)=>(ak1 y).map λk=>a6r kvs k
  |_=>none)
 |.rod ks xs=>(aik y).map λk=>a6r (ks.zip xs) k
 |.rdT ks xs=>(ak1 y).map λk=>a6r (ks.zip xs) k
 |_=>none
def azm(K:Fg)(U:List Addr)(H:Hp)(a:Addr)(y:V):Option D->Prop
 |some d=>∃v,aeb H a y (some v)/\Rep K U H v d
 |none=>aeb H a y none
theorem agj{κ:Type}{us:List (κ×V)}{ks:List κ}{xs:List D}(e:us.map (·.1)=ks)(r:Reps K U H (us.map (·.2)) xs):KRep K U H us (ks.zip xs):=a5k e r
theorem a84(rx:Rep K U H x dx)(ry:Rep K U H y dy)(hr:HRep K U H h)(e:am9 dx dy h=some r):∃a,x=.ref a/\azm K U H a y r:=by
 have goK:∀{a:Addr} {us:List (Key×V)} {kvs:List (Key×D)},Rd H a (.dK us)->KRep K U H us kvs->(aik dy).map (λk=>a6r kvs k)=some r->azm K U H a y r:=λ{a us kvs} rd kr e=>by
  simp only[Option.map_eq_some_iff]at e;obtain⟨k,ek,rfl⟩:=e;have ey:=a82 ry ek;have q:=a83 k kr
  cases hv:a6r kvs k with
  |none=>rw[hv]at q;exact .inl ⟨us,k,rd,ey,q.symm⟩
  |some d=>rw[hv]at q;obtain⟨v,q1,q2⟩:=q;exact⟨v,.inl ⟨us,k,rd,ey,q1.symm⟩,q2⟩
 have goT:∀{a:Addr} {us:List (List Key×V)} {kvs:List (List Key×D)},Rd H a (.dT us)->KRep K U H us kvs->(ak1 dy).map (λk=>a6r kvs k)=some r->azm K U H a y r:=λ{a us kvs} rd kr e=>by
  simp only[Option.map_eq_some_iff]at e;obtain⟨k,ek,rfl⟩:=e;obtain⟨b,ey,eb⟩:=agi ry ek;have q:=a83 k kr
  cases hv:a6r kvs k with
  |none=>rw[hv]at q;exact .inr ⟨us,k,b,rd,ey,eb,q.symm⟩
  |some d=>rw[hv]at q;obtain⟨v,q1,q2⟩:=q;exact⟨v,.inr ⟨us,k,b,rd,ey,eb,q1.symm⟩,q2⟩
 cases rx with
 |@ref a i ha =>
  obtain⟨ob,e1,e2⟩:=hr.at ha;simp only[am9,e1]at e
  cases ob with
  |lst _=>cases e
  |dK kvs=>obtain⟨us,h3,h4⟩:=e2;exact⟨a,rfl,goK (.inl h3) h4 e⟩
  |dT kvs=>obtain⟨us,h3,h4⟩:=e2;exact⟨a,rfl,goT (.inl h3) h4 e⟩
  |ins _ _=>cases e
 |@rod a o us ks xs hp ek rs=>exact⟨a,rfl,goK (.inr ⟨o,hp⟩) (agj ek rs) e⟩
 |@rdT a o us ks xs hp ek rs=>exact⟨a,rfl,goT (.inr ⟨o,hp⟩) (agj ek rs) e⟩
 |_=>cases e
noncomputable def a5b(x y:D)(h:Hd):R D:=match am9 x y h with
 |some (some d)=>.ok d h
 |_=>.no
noncomputable def aae(neg:Bool)(y x:D)(h:Hd):R D:=match am9 x y h with
 |some r=>.ok (.bl (if neg then !r.isSome else r.isSome)) h
 |none=>.no
noncomputable def b0s:R2:=λy x H Q=>∃a o,x=.ref a/\aeb H a y o/\Q (.bl o.isSome) H
noncomputable def agk:R2:=λy x H Q=>∃a o,x=.ref a/\aeb H a y o/\Q (.bl (!o.isSome)) H
theorem u1{A:Around}(hu:A.units+64<cLine):A.units+1<cLine:=by omega
theorem avj{X:Cx}(hu:X.A.units+64<cLine):OpR X (compareOp .In) b0s:=λaA s Z H y x v u Q I ry rx ⟨a,o,ex,g,q⟩=>by
 subst ex;obtain rfl:u=Value.ref a:=rx;exact b22 (u1 hu) I g ry λs3 I3=>⟨.bl o.isSome,H,I3,rfl,q⟩
theorem agl{X:Cx}(hu:X.A.units+64<cLine):OpR X (compareOp .NotIn) agk:=λaA s Z H y x v u Q I ry rx ⟨a,o,ex,g,q⟩=>by
 subst ex;obtain rfl:u=Value.ref a:=rx;exact ao1 (u1 hu) I g ry λs3 I3=>⟨.bl (!o.isSome),H,I3,rfl,q⟩
theorem apr:a2g K (aae false) b0s:=by
 intro E U H h y x dy dx Q ry rx hr o
 unfold aae at o
 split at o
 .rename_i r e;obtain⟨a,rfl,q⟩:=a84 rx ry hr e
  cases r with
  |none=>exact⟨a,none,rfl,q,ans o (.bl _) hr⟩
  |some d=>obtain⟨v,q,_⟩:=q;exact⟨a,some v,rfl,q,ans o (.bl _) hr⟩
 .exact o.elim
theorem adt:a2g K (aae true) agk:=by
 intro E U H h y x dy dx Q ry rx hr o
 unfold aae at o
 split at o
 .rename_i r e;obtain⟨a,rfl,q⟩:=a84 rx ry hr e
  cases r with
  |none=>exact⟨a,none,rfl,q,ans o (.bl _) hr⟩
  |some d=>obtain⟨v,q,_⟩:=q;exact⟨a,some v,rfl,q,ans o (.bl _) hr⟩
 .exact o.elim
variable{X:Cx}{E:XD}{a b e o i:Expr}{fa fb fc:SE}{pos:Pos}
theorem aps(hu:X.A.units+64<cLine)(ha:ME X E a fa)(hb:ME X E b fb)(hs:az7 b):ME X E (.Subscript a b pos) (s2 a5b fa fb):=by
 refine PE.weak (ao3 (u1 hu) ha hb hs) ?_
 rintro Z H Q ⟨U,τ,h,S,Rh,o⟩
 refine⟨U,τ,h,S,Rh,bw o λd h1 U1 H1 v g1 r1 hr1 o1=>?_⟩;refine⟨U1,τ,h1,S.mono g1,hr1,bw o1 λd2 h2 U2 H2 u g2 r2 hr2 o2=>?_⟩;unfold a5b at o2
 split at o2
 .rename_i dd e;obtain⟨p,rfl,w,q1,q2⟩:=a84 (r1.mono g2) r2 hr2 e;exact⟨p,w,rfl,q1,ans o2 q2 hr2⟩
 .exact o2.elim
noncomputable def ama(o k v:D)(h:Hd):Option Hd:=match o with
 |.ref i=>(match h[i]? with
  |some (.dK kvs)=>(match aik k with|some kk=>if kvs.length<LINE then some (h.set i (.dK (putD kvs kk v))) else none|none=>none)
  |some (.dT kvs)=>(match ak1 k with|some kk=>if kvs.length<LINE then some (h.set i (.dT (putD kvs kk v))) else none|none=>none)
  |_=>none)
 |_=>none
noncomputable def a6s(fe fo fi:SE):SS:=λτ h=>(fe τ h).fl λv h1=>(fo τ h1).fl λo h2=>(fi τ h2).fl λk h3=>match ama o k v h3 with|some h4=>.nx τ h4|none=>.no
theorem KRep.mono{κ:Type}{U':List Addr}{H':Hp}{us:List (κ×V)}{kvs:List (κ×D)}(g:Gr U H U' H')(r:KRep K U H us kvs):KRep K U' H' us kvs:=⟨r.1,r.2.mono g⟩
theorem ak2{h':Hd}{o k v:V}{od kd vd:D}{Q:Hp->Prop}(r1:Rep K U H o od)(r2:Rep K U H k kd)(r3:Rep K U H v vd)(hr:HRep K U H h)(e:ama od kd vd h=some h')(q:∀H',Gr U H U H'->HRep K U H' h'->Q H') :
  ∃a H4,o=.ref a/\az5 H a k v H4/\Q H4:=by
 cases r1 with
 |@ref a i ha =>
  obtain⟨ob,h1,h2⟩:=hr.at ha;simp only[ama,h1]at e
  cases ob with
  |lst _=>cases e
  |dK kvs =>
   obtain⟨us,h3,h4⟩:=h2
   cases hk:aik kd with
   |none=>simp only[hk]at e;cases e
   |some kk =>
    simp only[hk]at e
    split at e
    .rename_i hl;cases e
     have lu:us.length=kvs.length:=by simpa using congrArg List.length h4.1
     exact⟨a,_,rfl,.inl ⟨us,kk,h3,a82 r2 hk,by rw[ao8,lu];exact hl,rfl⟩,q _ (a2v hr ha _) (hr.put ha ⟨_,lw,(ach kk h4 r3).mono (a2v hr ha _)⟩)⟩
    .cases e
  |dT kvs =>
   obtain⟨us,h3,h4⟩:=h2
   cases hk:ak1 kd with
   |none=>simp only[hk]at e;cases e
   |some kk =>
    simp only[hk]at e
    split at e
    .rename_i hl;cases e
     have lu:us.length=kvs.length:=by simpa using congrArg List.length h4.1
     obtain⟨b,eb,tb⟩:=agi r2 hk;exact⟨a,_,rfl,.inr ⟨us,kk,b,h3,eb,tb,by rw[ao8,lu];exact hl,rfl⟩,q _ (a2v hr ha _) (hr.put ha ⟨_,lw,(ach kk h4 r3).mono (a2v hr ha _)⟩)⟩
    .cases e
  |ins _ _=>cases e
 |_=>cases e
theorem apt(hu:X.A.units+64<cLine)(he:ME X E e fa)(ho:ME X E o fb)(hi:ME X E i fc)(hs:swapsWith e (some (.Subscript o i pos')) pos.line X.env=pure false:=by rfl):MS X E (.Assign [.Subscript o i pos'] e pos) (a6s fa fb fc):=by
 refine PS.weak (ao4 (u1 hu) ho hi he hs) ?_
 rintro N Z H ⟨U,τ,h,S,Rh,oo⟩
 refine⟨U,τ,h,S,Rh,uf oo λd h1 U1 H1 v g1 r1 hr1 o1=>?_⟩;refine⟨U1,τ,h1,S.mono g1,hr1,uf o1 λd2 h2 U2 H2 u g2 r2 hr2 o2=>?_⟩;refine⟨U2,τ,h2,(S.mono g1).mono g2,hr2,uf o2 λd3 h3 U3 H3 w g3 r3 hr3 o3=>?_⟩
 cases hp:ama d2 d3 d h3 with
 |none=>rw[hp]at o3;exact o3.elim
 |some h4 =>
  rw[hp]at o3;exact ak2 (r2.mono g3) r3 ((r1.mono g2).mono g3) hr3 hp λH' g4 hr4=>o3 U3 H' Z g4 ((((S.mono g1).mono g2).mono g3).mono g4) hr4
noncomputable def gD1(x y:D)(h:Hd):R D:=match aik x with
 |some k=>.ok (.ref h.length) (h++[.dK [(k,y)]])
 |none=>.no
theorem agm{p:Addr}{o:HO}{ob:O}(hr:HRep K U H h)(pn:p∉U)(gw:Gw U H (U++[p]) (upd H p o))(q:ORep K (U++[p]) (upd H p o) p ob):HRep K (U++[p]) (upd H p o) (h++[ob]):=by
 refine⟨List.nodup_append.mpr ⟨hr.nd,by simp,λa ha b hb z=>pn (by rw[List.mem_singleton.mp hb]at z;rw[<-z];exact ha)⟩,by simp[hr.len],λj a o' q1 q2=>?_⟩
 by_cases hj:j<U.length
 .rw[List.getElem?_append_left hj]at q1;rw[List.getElem?_append_left (by rw[<-hr.len];exact hj)]at q2
  exact(hr.obj j a o' q1 q2).monoW gw (gf λz=>pn (by rw[<-z];exact List.mem_of_getElem? q1))
 .have hj2:j<(U++[p]).length:=(List.getElem?_eq_some_iff.mp q1).1;have:j=U.length:=by simp at hj2;omega
  subst this;rw[List.getElem?_append_right (Nat.le_refl _)]at q1;rw[hr.len,List.getElem?_append_right (Nat.le_refl _)]at q2;simp at q1 q2;subst q1 q2;exact q
theorem azn(ha:ME X E a fa)(hb:ME X E b fb):ME X E (.Dict [some a] [b] pos) (s2 gD1 fa fb):=by
 refine PE.weak (ao6 (aj4 ha hb ao5) rfl rfl (by simp) (by simp)) ?_
 rintro Z H Q ⟨U,τ,h,S,Rh,o⟩ p hp
 have pn:p∉U:=Rh.notin hp;have g0:Gr U H U (upd H p (.dK [])):=a0d hp _;unfold s2 at o;refine⟨U,τ,h,S.mono g0,Rh.aside hp _,?_⟩
 cases hfa:fa τ h with
 |no=>rw[hfa]at o;exact o.elim
 |ex c hx=>rw[hfa]at o;exact a0e (Rp:=xm X.K) (r:=.ex c hx) (Q:=Q) o g0
 |ok d h1 =>
  rw[hfa]at o
  intro U1 H1 v g1 r1 hr1
  refine⟨U1,τ,h1,(S.mono g0).mono g1,hr1,?_⟩;simp only[R.bind]at o
  cases hfb:fb τ h1 with
  |no=>rw[hfb]at o;exact o.elim
  |ex c hx=>rw[hfb]at o;exact a0e (Rp:=xm X.K) (r:=.ex c hx) (Q:=Q) o (g0.trans g1)
  |ok d2 h2 =>
   rw[hfb]at o
   intro U2 H2 u g2 r2 hr2
   have g12:=g1.trans g2;have e2:H2 p=some (.dK []):=g12.oth p _ lw pn;simp only[gD1]at o
   cases hk:aik d with
   |none=>rw[hk]at o;exact o.elim
   |some k =>
    rw[hk]at o;refine⟨e2,[(k,u)],?_,by simp,?_⟩
    .rw[a82 (r1.mono g2) hk];rfl
    .obtain⟨m,em,hm⟩:=g12.pre;have nm:∀c∈m,c≠p/\H c=none:=λc hc=>by
      have q:=hm c hc
      by_cases z:c=p
      .subst z;rw[lw]at q;cases q
      .rw[gf z]at q;exact⟨z,q⟩
     have pn2:p∉U2:=λz=>by
      rw[em]at z
      rcases List.mem_append.mp z with z|z
      .exact pn z
      .exact(nm p z).1 rfl
     have ne:∀{c u'},H c=some u'->c≠p:=λe=>iu e hp;have up:∀{c u'},H c=some u'->(upd H p (.dK [])) c=some u':=λe=>by rw[gf (ne e)];exact e
     have gw:Gw U2 H2 (U2++[p]) (upd H2 p (.dK [(k,u)])):=⟨⟨[p],rfl⟩,λc vs e=>by rw[gf (λz=>by subst z;rw[e2]at e;cases e)];exact e,λc o u' e=>by rw[gf (λz=>by subst z;rw[e2]at e;cases e)];exact e⟩
     have G:Gr U H (U2++[p]) (upd H2 p (.dK [(k,u)])):=by
      refine⟨⟨m++[p],by rw[em];simp,λc hc=>?_⟩,λc vs e=>?_,λc o u' e=>?_,λc u' e hn=>?_,λc u' e=>?_⟩
      .rcases List.mem_append.mp hc with hc|hc
       .exact(nm c hc).2
       .rw[List.mem_singleton.mp hc];exact hp
      .rw[gf (ne e)];exact g12.tup _ _ (up e)
      .rw[gf (ne e)];exact g12.frz _ _ _ (up e)
      .rw[gf (ne e)];exact g12.oth _ _ (up e) hn
      .obtain⟨w,q⟩:=g12.kp _ _ (up e);exact⟨w,by rw[gf (ne e)];exact q⟩
     refine o (U2++[p]) _ (.ref p) G (.ref (by rw[List.getElem?_append_right (by rw[hr2.len];exact Nat.le_refl _),hr2.len];simp)) (agm hr2 pn2 gw ⟨_,lw,rfl,.cons (r2.monoW gw) .nil⟩)
end
end MI
namespace ZP
open PySem.Builtin PySem.Builtin.SmallTypes L2
noncomputable def a4r(it:Addr):Obj:={cls:=.type "enumerate",data:=.fields #[.none,.bool false,.ref it,rawInt 0,.none,.none]}
theorem agn(t:Tok)(k:Srk)(us:List Value):Meets (Builtin.«enumerate.__new__» ⟨[.type "enumerate",val t k],[]⟩)
  (λ_ R s=>cont s.heap k us/\R (.ok (.ret (.ref (s.heap.objs.size+1)))) {s with heap:=(s.heap.push (iob t k)).push (a4r s.heap.objs.size)}) :=
 .of_wp λprog w A R s h=>by
  obtain⟨hp,g,d,tk,os⟩:=s;obtain⟨c,h⟩:=h;have sub:=sub_enumerate;have c':cont (Shared.heap ⟨hp,g,d,tk,os⟩) k us:=c;have fin:R (.ok (.ret (.ref (hp.push (iob t k)).objs.size))) {heap:=(hp.push (iob t k)).push (a4r hp.objs.size),gens:=g,drawn:=d,toks:=tk,os:=os}:=by simpa[Heap.size_push] using h
  wp_walk
  refine wpAny_stack_any λst=>wpAny_pure ?_
  split
  .rename_i cl _ _ _ _ _
   cases (cl == Value.type "enumerate")
   .wp_walk using a3r (t:=t) c'
    exact⟨_,rfl,fin⟩
   .wp_walk using a3r (t:=t) c'
    exact⟨_,rfl,fin⟩
  .wp_walk using a3r (t:=t) c'
   exact⟨_,rfl,fin⟩
noncomputable def ItE(k:Srk):It where
 go:=λi H=>∃xs x,its H k=some xs/\xs[i]? = some x
 yld:=λi H v H'=>∃xs x p,its H k=some xs/\xs[i]? = some x/\H p=none/\v=.ref p/\H'=upd H p (.tup [.int i,x])
 stop:=λi H=>∃xs,its H k=some xs/\i=xs.length
def tnE(e it:Addr)(t:Tok)(k:Srk)(i:Nat)(h:Heap):Prop:=(∃old,IsEnum h e it i old)/\own it t k i h
theorem ago(ne:e≠it):Turn P w K (.Tuple elts x1 pos) (ItE k) [e,it] e (tnE e it t k) where
 mem:=by simp
 obj:=λi h st b hb=>by
  obtain⟨⟨old,h1⟩,h4⟩:=st;simp only[List.mem_cons,List.not_mem_nil,or_false]at hb
  rcases hb with rfl|rfl
  .exact⟨_,h1,λv z=>(by cases z)⟩
  .exact a4g h4
 keep:=λi h h' st kk=>by
  obtain⟨⟨old,h1⟩,h4⟩:=st;exact⟨⟨old,kk e (by simp) _ h1⟩,a2j h4 λob q=>kk it (by simp) ob q⟩
 item:=by
  intro X hP hw hK hc i aA s Z H E I hf st hg
  subst hP hw hK;obtain⟨xs,x,e1,g1⟩:=hg;obtain⟨⟨old,h1⟩,h4⟩:=st;have n:∀c∈[e,it],H c=none:=λc hc=>(hf c hc).1;obtain⟨cs,P1,S1,D1,a1,b1,c1,d1⟩:=a4h I (t:=t) e1 (n it (by simp))
  have hd:=I.ok.hd hc;have ef:e∉it::cs:=by
   intro z
   rcases List.mem_cons.mp z with z|z
   .exact ne z
   .exact c1 e z (n e (by simp))
  refine wpAny_pyNext_enum_itemD (D1 X.A.in1 hd) h1 (a1 i h4) (List.getElem?_eq_some_iff.mp g1).1 ne ef λu h' tk pu eo s1' pr sz kp=>?_;obtain⟨x',q1,r1⟩:=d1 i u pu;rw[g1]at q1;cases q1
  refine⟨_,rfl,wpAny_letOwnedTupleGo_enum eo λh2' z2' sb=>?_⟩;have hp:H s.heap.objs.size=none:=I.hok.fresh (Nat.le_refl _);have lt:∀c∈[e,it],c<s.heap.objs.size:=λc hc=>by
   simp only[List.mem_cons,List.not_mem_nil,or_false]at hc
   rcases hc with rfl|rfl
   .exact Heap.lt_size h1
   .obtain⟨_,q,_⟩:=a4g h4;exact Heap.lt_size q
  have nT:∀c∈[e,it],c≠s.heap.objs.size:=λc hc=>Nat.ne_of_lt (lt c hc);have all:∀c o,c∉[e,it]->s.heap.get? c=some o->h2'.get? c=some o:=λc o nc q=>by
   simp only[List.mem_cons,List.not_mem_nil,or_false,not_or]at nc;exact(sb.2 c nc.1).trans (kp c o nc.1 nc.2 q)
  have I0:Inv X aA Z (upd H s.heap.objs.size (.tup [.int i,x])) {s with heap:=s.heap.push {cls:=.type "tuple",data:=.seq #[.int i tk,u]} } :=
   I.laid (t':=s.toks) (o:=.tup [.int i,x]) (λb o q=>Heap.get?_push_of_some _ q) (Nat.le_refl _) ⟨by show 2<=sizeLine;decide,[.int i tk,u],.cons ⟨tk,rfl⟩ (.cons r1 .nil),⟨_,Heap.get?_push_size _ rfl,rfl,_,rfl⟩⟩
  have I1:Inv X aA Z (upd H s.heap.objs.size (.tup [.int i,x])) {s with heap:=h2',toks:=tk+1}:=by
   refine a81 (s:={s with heap:=s.heap.push {cls:=.type "tuple",data:=.seq #[.int i tk,u]} }) (ch:=[e,it]) I0 (λb hb=>?_) λc o nc q=>?_
   .obtain⟨f0,f1⟩:=hf b hb;exact⟨by rw[gf (nT b hb)];exact f0,f1⟩
   .rcases Heap.get?_push_cases q with⟨rfl,rfl⟩|q
    .exact(sb.2 _ (nT e (by simp)).symm).trans pr
    .exact all c o nc q
  refine⟨.ref s.heap.objs.size,_,I1,rfl,⟨xs,x,_,e1,g1,hp,rfl,rfl⟩,⟨⟨u,by simpa using z2'⟩,a2j (b1 _ _ s1') λob q=>(sb.2 _ ne.symm).trans q⟩,λb hb=>?_⟩
  rw[gf (nT b hb)];exact n b hb
 done:=by
  intro X hP hw hK hc i aA s Z H E I hf st hg
  subst hP hw hK;obtain⟨xs,e1,rfl⟩:=hg;obtain⟨⟨old,h1⟩,h4⟩:=st;have n:∀c∈[e,it],H c=none:=λc hc=>(hf c hc).1;obtain⟨cs,P1,S1,D1,a1,b1,c1,d1⟩:=a4h I (t:=t) e1 (n it (by simp))
  have hd:=I.ok.hd hc;refine wpAny_pyNext_enum_endD (D1 X.A.in1 hd) h1 (a1 _ h4) λh' ex=>⟨rfl,a81 (t':=s.toks) I hf λc o nc q=>?_⟩;simp only[List.mem_cons,List.not_mem_nil,or_false,not_or]at nc;exact ex c o nc.2 q
 self:=λ_ _ _ _ _ st h=>by
  obtain⟨⟨old,h1⟩,_⟩:=st;exact wpAny_pyIter_enum h1 h
section
variable{X:Cx}{elts:List Expr}{x1:Nat}{tpos:Pos}
noncomputable def azo(ta:TA):TI:=λZ H R=>ta Z H λvs H1=>∃k xs,vs=[Srk.v k]/\its H1 k=some xs/\R (ItE k) H1
theorem apu(hg:Gl X "enumerate")(hm:X.mg "enumerate" = none)(ha:PA X [e1] ta)
  (h1:starEach [e1] X.env=[(false,eval e1 X.env)]:=by rfl):PI X (.Tuple elts x1 tpos) (.Call (.Name "enumerate" p) [e1] [] pos) (azo ta):=by
 intro aA s Z H R I h
 refine wpAny_Call_Name_kw (a2u I hg hm PyProof.Rows.boot_enumerate ?_ (by decide) (by decide))
 refine PyProof.Rows.callWith_type1 (thn (ha pos aA s Z H _ I h) λus s1 ⟨vs,H1,I1,r1,q1⟩=>?_) (by rw[h1];rfl) (by rfl)
 obtain⟨k,xs,rfl,e1,q⟩:=q1;obtain⟨v1,rfl,rv1⟩:=vals1 r1;obtain⟨t,rfl⟩:=ag7 rv1;obtain⟨us1,c1,_⟩:=a6b I1 e1;refine callType_new F.called_enumerate (by decide) (F.typeCall_enumerate_1 _) (F.newCall_enumerate_1 _) (λobj=>F.args_object_init_2 obj _) F.entry_enumerate_new (agn t k us1) ⟨c1,?_⟩
 have at0:((s1.heap.push (iob t k)).push (a4r s1.heap.objs.size)).get? s1.heap.objs.size=some (iob t k):=Heap.get?_push_of_some _ (Heap.get?_push_size _ (by cases k<;>rfl))
 have at1:IsEnum ((s1.heap.push (iob t k)).push (a4r s1.heap.objs.size)) (s1.heap.objs.size+1) s1.heap.objs.size 0 .none:=by
  have:=Heap.get?_push_size (o:=a4r s1.heap.objs.size) (s1.heap.push (iob t k)) rfl
  rw[Heap.size_push]at this;exact this
 have keepA:∀b o,s1.heap.get? b=some o->((s1.heap.push (iob t k)).push (a4r s1.heap.objs.size)).get? b=some o:=λb o q=>Heap.get?_push_of_some _ (Heap.get?_push_of_some _ q);have I2:Inv X aA Z H1 {s1 with heap:=(s1.heap.push (iob t k)).push (a4r s1.heap.objs.size)}:=I1.kept (t':=s1.toks) keepA
 refine⟨⟨_,at1,rfl⟩,?_⟩;refine wpAny_pyIter_enum (s:={s1 with heap:=(s1.heap.push (iob t k)).push (a4r s1.heap.objs.size)}) at1 ?_
 refine⟨s1.heap.objs.size+1,[s1.heap.objs.size+1,s1.heap.objs.size],tnE _ _ t k,ItE k,H1,rfl,I2,ago (by intro z;have z:(_:Nat)=_:=z;omega),⟨⟨.none,at1⟩,azk at0⟩,λb hb=>?_,q⟩
 have:s1.heap.objs.size<=b:=by
  simp only[List.mem_cons,List.not_mem_nil,or_false]at hb
  rcases hb with rfl|rfl
  .exact Nat.le_succ _
  .exact Nat.le_refl _
 exact I1.fpOk this (I1.hok.fresh this)
end
end ZP
namespace MI
open L2 ZP
noncomputable def ab2(x:D)(h:Hd):R Itm:=match srcOf x h with
 |some (xs,c)=>.ok ⟨((List.range xs.length).zip xs).map λp=>.tup [.int (p.1:Nat),p.2],c⟩ h
 |none=>.no
noncomputable def a3e(f:SE):SI:=λτ h=>(f τ h).bind ab2
theorem apv(hg:Gl X "enumerate")(hm:X.mg "enumerate" = none)(ha:ME X E e1 f)
  (h1:starEach [e1] X.env=[(false,eval e1 X.env)]:=by rfl):MI X E (.Tuple elts x1 tpos) (.Call (.Name "enumerate" p) [e1] [] pos) (a3e f):=by
 rintro aA s Z H Rr I ⟨U,τ,h,S,Rh,o⟩
 refine apu hg hm (a4c ha a8w (by rw[h1];rfl)) h1 aA s Z H Rr I ?_
 refine⟨U,τ,h,S,Rh,bw o λd h1 U1 H1 v g1 r1 hr1 o1=>?_⟩;unfold ab2 at o1
 split at o1
 .rename_i xs c q1;obtain⟨k,rfl,kc,kf⟩:=ag8 r1 hr1 q1;obtain⟨vs,w1,w2⟩:=kf U1 H1 h1 (.refl _ _) hr1 kc;refine⟨k,vs,rfl,w1,o1 U1 H1 _ (.refl _ _) ?_ hr1⟩
  intro U3 H3 h3 g3 hr3 c3
  obtain⟨us,a1,a2⟩:=kf U3 H3 h3 g3 hr3 c3;refine⟨λi d ed=>?_,us,a1,?_⟩
  .simp only[List.getElem?_map,Option.map_eq_some_iff]at ed;obtain⟨⟨j,y⟩,ez,rfl⟩:=ed;obtain⟨ex,ey⟩:=List.getElem?_zip_eq_some.mp ez;have hj:j=i:=by
    obtain⟨_,q⟩:=List.getElem?_eq_some_iff.mp ex;simpa using q.symm
   subst hj;obtain⟨v2,b3,b4⟩:=a2.get ey;refine⟨⟨us,v2,a1,b3⟩,λx H' yl=>?_⟩;obtain⟨xs',x',p,c1,c3,c5,rfl,rfl⟩:=yl;rw[a1]at c1;cases c1
   rw[b3]at c3;cases c3
   exact⟨a0d c5 _,.tup lw (.cons (.int _) (.cons (b4.mono (a0d c5 _)) .nil)),hr3.aside c5 _⟩
  .rw[List.length_map,List.length_zip,List.length_range,a2.len];omega
 .exact o1.elim
end MI
namespace L2
open PyProof.Rows
section
variable{X:Cx}
noncomputable def apw(lo:Int)(n:Nat):List V:=(List.range n).map λi=>V.int (lo+(i:Nat))
theorem ak3{lo:Int}{n:Nat}{acc:Array Value}(h:ItemsOf (λi v=>∃t,v=.int (lo+i*1) t) acc n):Vals (apw lo n) acc.toList:=by
 obtain⟨hs,ha⟩:=h;have key:∀(k:Nat) (us:List Value) (a:Int),us.length=k->(∀(j:Nat) (v:Value),us[j]? = some v->∃t,v=.int (a+(j:Nat)) t)->Vals ((List.range k).map λi=>V.int (a+(i:Nat))) us:=by
  intro k
  induction k with
  |zero=>intro us a hl _;cases us with|nil=>exact .nil|cons _ _=>simp at hl
  |succ k ih =>
   intro us a hl hp
   cases us with
   |nil=>simp at hl
   |cons u us =>
    rw[List.range_succ_eq_map,List.map_cons,List.map_map];refine .cons ?_ ?_
    .obtain⟨t,e⟩:=hp 0 u rfl;exact⟨t,e⟩
    .have:=ih us (a+1) (by simpa using hl) λj v e=>by
      obtain⟨t,q⟩:=hp (j+1) v (by simpa using e)
      exact⟨t,by rw[q];congr 1;push_cast;omega⟩
     have fe:((λi:Nat=>V.int (a+(i:Nat))) ∘ Nat.succ)=λi:Nat=>V.int (a+1+(i:Nat)):=by funext i;simp;omega
     rw[fe];exact this
 refine key n _ lo (by simp[hs]) λj v e=>?_
 obtain⟨t,q⟩:=ha j v (by simpa using e)
 exact⟨t,by rw[q,Int.mul_one]⟩
def Bd(lo hi:Int):Prop := -(2^62)<=lo/\lo<2^62 /\ -(2^62)<=hi/\hi<2^62
theorem a3s(hc:X.calm=true):CallR X (.type "list") (λxs H Q=>∃p lo hi,xs=[.ref p]/\H p=some (.rng lo hi)/\Bd lo hi/\(hi-lo).toNat<=sizeLine/\∀l,H l=none->Q (.ref l) (upd H l (.lst (apw lo (hi-lo).toNat)))):=by
 intro aA s Z H xs us Q I r ⟨p,lo,hi,e,hp,⟨b1,b2,b3,b4⟩,hl,q⟩
 subst e;obtain⟨u,rfl,ru⟩:=vals1 r;cases ru
 obtain⟨t,u,v,ho⟩:=I.hok p _ hp;refine call_list_range (n:=(hi-lo).toNat) (I.ok.hd hc) ho (small_one b1 b2 b3 b4) (by rw[rangeSize_one];split<;>omega) (by have:=sizeLine_eq;omega) λh' tk acc c kp e hi'=>?_
 exact⟨.ref s.heap.objs.size,_,I.laid (t':=tk) kp (Nat.le_refl _) (show ObjOk X.prog X.w _ h' _ (.lst (apw lo (hi-lo).toNat)) from ⟨by simpa[apw] using hl,acc.toList,c,ak3 hi',by simpa using e⟩),rfl,q _ (I.hok.fresh (Nat.le_refl _))⟩
noncomputable def azp(ta:TA):TE:=λZ H Q=>ta Z H λvs H1=>∃i j,vs=[.int i,.int j]/\∀p,H1 p=none->Q (.ref p) (upd H1 p (.rng i j))
noncomputable def azq(ta:TA):TE:=λZ H Q=>ta Z H λvs H1=>∃j,vs=[.int j]/\∀p,H1 p=none->Q (.ref p) (upd H1 p (.rng 0 j))
theorem aci{s:Shared}{lo hi:Int}{tk:Nat}(I:Inv X aA Z H s)(q:∀p,H p=none->Q (.ref p) (upd H p (.rng lo hi))) :
  EP X aA Z Q (.ref s.heap.objs.size) {s with heap:=s.heap.push {cls:=.type "range",data:=.fields #[.int lo t,.int hi u,.int 1 v]},toks:=tk} :=
 ⟨.ref _,_,I.laid (t':=tk) (o:=.rng lo hi) (λb o e=>Heap.get?_push_of_some _ e) (Nat.le_refl _) ⟨t,u,v,Heap.get?_push_size _ rfl⟩,rfl,q _ (I.hok.fresh (Nat.le_refl _))⟩
theorem agp(hg:Gl X "range")(hm:X.mg "range" = none)(ha:PA X [a,b] ta)(hs:starEach [a,b] X.env=[(false,eval a X.env),(false,eval b X.env)]:=by rfl)(hs2:starEach [b] X.env=[(false,eval b X.env)]:=by rfl) :
  PE X (.Call (.Name "range" p) [a,b] [] pos) (azp ta):=by
 intro aA s Z H Q I h
 refine Call_ (a2u I hg hm boot_range (PyProof.Rows.callWith_type1 (thn (ha pos aA s Z H _ I h) λus s1 ⟨vs,H1,I1,r1,i,j,ev,q⟩=>?_) (by rw[hs,hs2]) (by rw[hs2];rfl)))
 subst ev;obtain⟨u1,u2,rfl,⟨t,rfl⟩,⟨t',rfl⟩⟩:=vals2 r1;exact call_range_2 (aci I1 q)
theorem agq(hg:Gl X "range")(hm:X.mg "range" = none)(ha:PA X [a] ta)(hs:starEach [a] X.env=[(false,eval a X.env)]:=by rfl):PE X (.Call (.Name "range" p) [a] [] pos) (azq ta):=by
 intro aA s Z H Q I h
 refine Call_ (a2u I hg hm boot_range (PyProof.Rows.callWith_type1 (thn (ha pos aA s Z H _ I h) λus s1 ⟨vs,H1,I1,r1,j,ev,q⟩=>?_) hs rfl));subst ev;obtain⟨u1,rfl,⟨t,rfl⟩⟩:=vals1 r1;exact call_range_1 (aci I1 q)
end
end L2
namespace MI
open L2
noncomputable def a9m:List D->Hd->R D
 |[.int i,.int j],h=>if (B62 i/\B62 j)/\(j-i).toNat<=LINE then .ok (.ref h.length) (h++[.lst (rng i (j-i).toNat)]) else .no
 |_,_=>.no
noncomputable def a9n:List D->Hd->R D
 |[.int j],h=>if B62 j/\j.toNat<=LINE then .ok (.ref h.length) (h++[.lst (rng 0 j.toNat)]) else .no
 |_,_=>.no
theorem ak4(lo:Int)(n:Nat):Reps K U H (apw lo n) (rng lo n):=by
 unfold apw rng
 generalize List.range n=l
 induction l with
 |nil=>exact .nil
 |cons i l ih=>exact .cons (.int _) ih
section
variable{X:Cx}{E:XD}{a b:Expr}{ka:SA}{p p2 pos pos2:Pos}
theorem agr(hr:HRep K U H h)(hq:H q=none)(c:(hi-lo).toNat<=LINE)(b:Bd lo hi)(o:out K E (xm K) U H (.ok (.ref h.length) (h++[.lst (rng lo (hi-lo).toNat)])) Q) :
  ∃p lo' hi',[V.ref q]=[V.ref p]/\(upd H q (.rng lo hi)) p=some (.rng lo' hi')/\Bd lo' hi'/\(hi'-lo').toNat<=sizeLine/\∀l,(upd H q (.rng lo hi)) l=none->Q (.ref l) (upd (upd H q (.rng lo hi)) l (.lst (apw lo' (hi'-lo').toNat))) :=
 ⟨q,lo,hi,rfl,lw,b,ll c,vo (E:=E) (ak4 lo _) (hr.aside hq _) (a0e o (a0d hq _))⟩
theorem ak5(hc:X.calm=true)(hg:Gl X "list")(hm:X.mg "list" = none)(hg2:Gl X "range")(hm2:X.mg "range" = none)(ha:MA X E [a,b] ka)(hs:starEach [a,b] X.env=[(false,eval a X.env),(false,eval b X.env)]:=by rfl)(hs2:starEach [b] X.env=[(false,eval b X.env)]:=by rfl)
  (he:starEach [.Call (.Name "range" p2) [a,b] [] pos2] X.env=(false,eval (.Call (.Name "range" p2) [a,b] [] pos2) X.env)::starEach [] X.env:=by rfl) (hpl:(backTo pos (starEach [] X.env)).any (·.1)=false:=by rfl) :
  ME X E (.Call (.Name "list" p) [.Call (.Name "range" p2) [a,b] [] pos2] [] pos) (sA a9m ka):=by
 refine PE.weak (a5v (a3s hc) hg hm aaw (a4c (agp hg2 hm2 ha hs hs2) a8w he) (by decide) (by decide) he hpl) ?_
 rintro Z H Q ⟨U,τ,h,S,Rh,o⟩
 refine⟨U,τ,h,S,Rh,bw o λds h1 U1 H1 vs g1 r1 hr1 o1=>?_⟩;unfold a9m at o1
 split at o1
 .split at o1
  .rename_i i j hb
   cases r1 with
   |cons r rs =>
    cases r
    cases rs with
    |cons r rs =>
     cases r;cases rs
     exact⟨i,j,rfl,λq hq=>agr hr1 hq hb.2 ⟨hb.1.1.1,hb.1.1.2,hb.1.2.1,hb.1.2.2⟩ o1⟩
  .exact o1.elim
 .exact o1.elim
theorem ak6(hc:X.calm=true)(hg:Gl X "list")(hm:X.mg "list" = none)(hg2:Gl X "range")(hm2:X.mg "range" = none)(ha:MA X E [a] ka)(hs:starEach [a] X.env=[(false,eval a X.env)]:=by rfl)
  (he:starEach [.Call (.Name "range" p2) [a] [] pos2] X.env=(false,eval (.Call (.Name "range" p2) [a] [] pos2) X.env)::starEach [] X.env:=by rfl) (hpl:(backTo pos (starEach [] X.env)).any (·.1)=false:=by rfl) :
  ME X E (.Call (.Name "list" p) [.Call (.Name "range" p2) [a] [] pos2] [] pos) (sA a9n ka):=by
 refine PE.weak (a5v (a3s hc) hg hm aaw (a4c (agq hg2 hm2 ha hs) a8w he) (by decide) (by decide) he hpl) ?_
 rintro Z H Q ⟨U,τ,h,S,Rh,o⟩
 refine⟨U,τ,h,S,Rh,bw o λds h1 U1 H1 vs g1 r1 hr1 o1=>?_⟩;unfold a9n at o1
 split at o1
 .split at o1
  .rename_i j hb
   cases r1 with
   |cons r rs =>
    cases r;cases rs
    exact⟨j,rfl,λq hq=>agr hr1 hq (by rw[Int.sub_zero];exact hb.2) ⟨by decide,by decide,hb.1.1,hb.1.2⟩ (by rw[Int.sub_zero];exact o1)⟩
  .exact o1.elim
 .exact o1.elim
end
end MI
namespace L2
open PyProof.Rows
noncomputable def Itd(lo:Int)(n:Nat):It:=⟨λi _=>i<n,λi H x H'=>H'=H/\x=.int (lo-i),λi _=>n<=i⟩
theorem ags{P:Program}{w:World}{K:Fg}{tg:Expr}(it:Addr)(lo:Int)(n:Nat):Turn P w K tg (Itd lo n) [it] it (λi h=>IsRangeIter h it (lo-(i:Nat)) ((n:Int)-(i:Nat)) (-1)) where
 mem:=by simp
 obj:=λi h st b hb=>by
  cases List.mem_singleton.mp hb
  exact⟨_,st,λv z=>nomatch (show Data.fields _=Data.cell v from z)⟩
 keep:=λi h h' st k=>k it (by simp) _ st
 item:=by
  intro X hP hw hK hc i aA s Z H E I hf st hg
  subst hP hw hK;obtain⟨f0,f1,f2,f3,f4,f5⟩:=hf it (by simp)
  have hg:i<n:=hg;refine wpAny_pyNext_range_item st (by omega) λh' st' sb=>?_
  have I1:Inv X aA Z H {s with heap:=h',toks:=s.toks+1}:=I.turned (λb o hb e=>sb.extBut b o hb e) f0 f1 f3 f4 f5
  have e1:lo-(i:Nat) + -1=lo-((i+1:Nat):Int):=by omega
  have e2:(n:Int)-(i:Nat)-1=(n:Int)-((i+1:Nat):Int):=by omega
  have st2:IsRangeIter h' it (lo-((i+1:Nat):Int)) ((n:Int)-((i+1:Nat):Int)) (-1):=by rw[<-e1,<-e2];exact st'
  exact⟨_,rfl,aem (s:={s with heap:=h',toks:=s.toks+1}) (n := "range_iterator") st' rfl rfl (by decide) ⟨.int (lo-i),H,I1,⟨_,rfl⟩,⟨rfl,rfl⟩,st2,λb hb=>(hf b hb).1⟩⟩
 done:=by
  intro X hP hw hK hc i aA s Z H E I hf st hg
  subst hP hw hK;obtain⟨f0,f1,f2,f3,f4,f5⟩:=hf it (by simp)
  exact wpAny_pyNext_range_end (I.ok.hd hc) st (by have:n<=i:=hg;omega) λh' eb=>⟨rfl,I.turned (t':=s.toks) (λb o hb e=>eb b o hb e) f0 f1 f3 f4 f5⟩
 self:=λ_ _ _ _ _ st h=>wpAny_pyIter_rangeiter st h
theorem agt(a b:Int):Builtin.Range.rangeSize a b (-1)=((a-b).toNat:Int):=by
 unfold Builtin.Range.rangeSize;rw[if_neg (by decide)]
 split
 .rw[show(-(-1:Int))=1 by decide,Int.ediv_one];omega
 .omega
section
variable{X:Cx}{tg:Expr}
noncomputable def azr(ta:TA):TI:=λZ H R=>ta Z H λvs H1=>∃i j:Int,vs=[.int i,.int j,.int (-1)]/\Bd i j/\R (Itd i (i-j).toNat) H1
theorem agu(hg:Gl X "range")(hm:X.mg "range" = none)(ha:PA X [a,b,c] ta)(hs:starEach [a,b,c] X.env=[(false,eval a X.env),(false,eval b X.env),(false,eval c X.env)]:=by rfl)(hs2:starEach [b,c] X.env=[(false,eval b X.env),(false,eval c X.env)]:=by rfl) :
  PI X tg (.Call (.Name "range" p) [a,b,c] [] pos) (azr ta):=by
 intro aA s Z H R I h
 refine Call_ (a2u I hg hm boot_range (PyProof.Rows.callWith_type1 (thn (ha pos aA s Z H _ I h) λus s1 ⟨vs,H1,I1,r1,i,j,ev,⟨b1,b2,b3,b4⟩,q⟩=>?_) (by rw[hs,hs2]) (by rw[hs2];rfl)))
 subst ev
 cases r1 with
 |cons r rr =>
  obtain⟨u1,u2,e,⟨t1,rfl⟩,⟨t2,rfl⟩⟩:=vals2 rr;subst e;obtain⟨t0,rfl⟩:=r;refine call_range_3 (by decide) ?_ (.inl (PyProof.noPylong_small (by omega)))
  have I2:Inv X aA Z H1 {s1 with heap:=s1.heap.push {cls:=.type "range",data:=.fields #[.int i t0,.int j t1,.int (-1) t2]},toks:=s1.toks}:=I1.kept λb o e=>Heap.get?_push_of_some _ e
  refine wpAny_pyIter_range (IsRange.new ..) (PySem.W.small_down b1 b2 b3 b4) ?_;refine⟨_,[_],_,_,H1,rfl,I2.kept (t':=s1.toks) λb o e=>Heap.get?_push_of_some _ e,ags _ i (i-j).toNat,?_,λb hb=>?_,q⟩
  .show IsRangeIter _ _ (i-((0:Nat):Int)) (((i-j).toNat:Int)-((0:Nat):Int)) (-1);rw[show i-((0:Nat):Int)=i by omega,show((i-j).toNat:Int)-((0:Nat):Int)=Builtin.Range.rangeSize i j (-1) by rw[agt];omega]
   exact Heap.get?_push_size _ rfl
  .cases List.mem_singleton.mp hb
   exact I2.fpOk (Nat.le_refl _) (I2.hok.fresh (Nat.le_refl _))
end
end L2
namespace MI
open L2
noncomputable def arj(lo:Int)(n:Nat):List D:=(List.range n).map λi=>D.int (lo-(i:Nat))
noncomputable def ab3(ds:List D)(h:Hd):R Itm:=match ds with
 |[.int i,.int j,.int k]=>if k = -1/\B62 i/\B62 j then .ok ⟨arj i (i-j).toNat,λ_=>True⟩ h else .no
 |_=>.no
theorem avk(lo:Int)(n:Nat):ajf K U0 H0 (Itd lo n) ⟨arj lo n,λ_=>True⟩:=by
 intro U H h g hr _
 refine⟨λi d ed=>?_,by show n<=(arj lo n).length;simp[arj]⟩
 simp only[arj,List.getElem?_map,Option.map_eq_some_iff]at ed;obtain⟨j,ej,rfl⟩:=ed;obtain⟨hj,e⟩:=List.getElem?_eq_some_iff.mp ej;simp at e hj;subst e;refine⟨hj,λy H' q=>?_⟩;obtain⟨rfl,rfl⟩:=q;exact⟨.refl _ _,.int _,hr⟩
theorem apx(hg:Gl X "range")(hm:X.mg "range" = none)(ha:MA X E [a,b,c] k)(hs:starEach [a,b,c] X.env=[(false,eval a X.env),(false,eval b X.env),(false,eval c X.env)]:=by rfl)(hs2:starEach [b,c] X.env=[(false,eval b X.env),(false,eval c X.env)]:=by rfl):MI X E tg (.Call (.Name "range" p) [a,b,c] [] pos) (sRg ab3 k):=by
 rintro aA s Z H Rr I ⟨U,τ,h,S,Rh,o⟩
 refine agu hg hm ha hs hs2 aA s Z H Rr I ⟨U,τ,h,S,Rh,bw o λds h1 U1 H1 vs g1 r1 hr1 o1=>?_⟩;unfold ab3 at o1
 split at o1
 .rename_i i j k
  cases r1 with
  |cons r rs =>
   cases r
   cases rs with
   |cons r rs =>
   cases r
   cases rs with
   |cons r rs =>
   cases r;cases rs
   split at o1
   .rename_i hb;obtain⟨rfl,hb⟩:=hb;exact⟨i,j,rfl,⟨hb.1.1,hb.1.2,hb.2.1,hb.2.2⟩,o1 U1 H1 _ (.refl _ _) (avk i _) hr1⟩
   .exact o1.elim
 .exact o1.elim
theorem apy:bootBuiltins "repr" = some (.builtin "repr"):=by decide +kernel
theorem az{α β:Type}(a:α)(h:Hd)(k:α->Hd->R β):(R.ok a h).bind k=k a h:=rfl
theorem yz{α:Type}(a:α)(h:Hd)(k:α->Hd->Fl):(R.ok a h).fl k=k a h:=rfl
noncomputable def thn(r:Fl)(g:SS):Fl:=match r with|.nx τ h=>g τ h|r=>r
theorem p6(f g:SS)(τ:Sd)(h:Hd):cj f g τ h=thn (f τ h) g:=by unfold cj thn;cases f τ h<;>rfl
theorem yg(τ:Sd)(h:Hd)(g:SS):thn (.nx τ h) g=g τ h:=rfl
theorem acj(d:D)(h:Hd)(g:SS):thn (.rt d h) g=.rt d h:=rfl
noncomputable def toR(r:Fl):R D:=match r with|.rt d h1=>.ok d h1|.nx _ h1=>.ok .non h1|.ex c h1=>.ex c h1|_=>.no
theorem dh(b:SS)(n:Nat)(ds:List D)(h:Hd):kj b n ds h=toR (b (a2x n ds) h):=by unfold kj toR;cases b (a2x n ds) h<;>rfl
theorem a9o(d:D)(h:Hd):toR (.rt d h)=.ok d h:=rfl
theorem ack(τ:Sd)(h:Hd):toR (.nx τ h)=.ok .non h:=rfl
theorem jx:∀{xs:List D},clos n xs↔∀x∈xs,clo n x
 |[]=>by simp[clos]
 |x::xs=>by simp[clos,jx (xs:=xs)]
theorem bc(i:Int):clo n (.int i):=by simp[clo]
theorem jk(i:Str):clo n (.str i):=by simp[clo]
theorem qd(i:Bool):clo n (.bl i):=by simp[clo]
theorem apz:clo n .non:=by simp[clo]
theorem j6:clos n []:=by simp[clos]
theorem bh(a:clo n x)(b:clos n xs):clos n (x::xs):=by simp only[clos];exact⟨a,b⟩
theorem jj(h:clos n xs):clo n (.tup xs):=by simpa[clo] using h
theorem ud(h:clos n xs):clo n (.rol xs):=by simpa[clo] using h
theorem bz{α:Type}{n:Nat}{f:α->D}{l:List α}(h:∀a∈l,clo n (f a)):clos n (l.map f):=by
 rw[jx]
 intro x hx
 obtain⟨a,ha,rfl⟩:=List.mem_map.mp hx;exact h a ha
mutual
theorem a4s(hm:n<=m):∀{d:D},clo n d->clo m d
 |.non,_=>by simp[clo]
 |.bl _,_=>by simp[clo]
 |.int _,_=>by simp[clo]
 |.str _,_=>by simp[clo]
 |.ty _,_=>by simp[clo]
 |.tup xs,h=>by simp only[clo]at h ⊢;exact yo hm h
 |.rol xs,h=>by simp only[clo]at h ⊢;exact yo hm h
 |.scr xs,h=>by simp only[clo]at h ⊢;exact yo hm h
 |.rod _ xs,h=>by simp only[clo]at h ⊢;exact yo hm h
 |.rdT _ xs,h=>by simp only[clo]at h ⊢;exact yo hm h
 |.exc _,_=>by simp[clo]
 |.ins _ _ xs,h=>by simp only[clo]at h ⊢;exact yo hm h
 |.ref i,h=>by simp only[clo]at h ⊢;omega
theorem yo(hm:n<=m):∀{xs:List D},clos n xs->clos m xs
 |[],_=>by simp[clos]
 |x::xs,h=>by simp only[clos]at h ⊢;exact⟨a4s hm h.1,yo hm h.2⟩
end
theorem qj(hm:n<=m)(h:a1p n o):a1p m o:=by
 cases o with
 |lst xs=>exact yo hm h
 |dK kvs=>exact yo hm h
 |dT kvs=>exact yo hm h
 |ins _ _=>exact yo hm h
theorem a85{α:Type}{f:α->Option α}:∀{xs:List α},(∀x∈xs,f x=some x)->a0b f xs=some xs
 |[],_=>rfl
 |x::xs,h=>by
  unfold a0b;rw[h x List.mem_cons_self,a85 λy hy=>h y (List.mem_cons_of_mem _ hy)]
theorem a5l(c:clo n d):a1d n h (k+1) d=some d:=by unfold a1d;rw[if_pos c]
theorem ak7(c:a1p n o):ava n h k o=some o:=by unfold ava;rw[if_pos c]
theorem a86{n k i:Nat}{h:Hd}{xs:List D}(hi:n<=i)(e:h[i]? = some (.lst xs))(c:clos n xs):a1d n h (k+2) (.ref i)=some (.rol xs):=by
 unfold a1d;rw[if_neg (by simp only[clo];omega)]
 simp only[e];rw[a85 λx hx=>a5l (jx.mp c x hx)];rfl
theorem ak8(e:a0b (a1d n h k) xs=some ys)(nc:¬ clos n xs):a1d n h (k+1) (.tup xs)=some (.tup ys):=by
 unfold a1d;rw[if_neg (by simpa only[clo] using nc)]
 simp only[e,Option.map_some]
theorem a2a{α β:Type}{f:α->Option β}{x:α}{y:β}{xs:List α}{ys:List β}(h:f x=some y)(t:a0b f xs=some ys):a0b f (x::xs)=some (y::ys):=by unfold a0b;rw[h,t]
theorem a4k{n:Nat}{d d':D}{h1:Hd}(e:a1d n h1 FU d=some d')(c:∀o∈h1.take n,a1p n o):aad n (.ok d h1)=.ok d' (h1.take n):=by
 unfold aad;simp only[e];rw[a85 λo ho=>ak7 (c o ho)]
theorem j4{h1:Hd}(e:clo n d)(c:∀o∈h1.take n,a1p n o):aad n (.ok d h1)=.ok d (h1.take n):=a4k (a5l e) c
theorem a3t(hi:n<=i)(e:h1[i]? = some (.lst xs))(cx:clos n xs)(c:∀o∈h1.take n,a1p n o):aad n (.ok (.ref i) h1)=.ok (.rol xs) (h1.take n):=a4k (a86 hi e cx) c
theorem a1f(e:f τ h=.ok (.ref h.length) (h++[.lst xs]))(cx:clos h.length xs)(c:∀o∈h,a1p h.length o):sZ f τ h=.ok (.rol xs) h:=by
 unfold sZ;rw[e,a3t (Nat.le_refl _) (by simp) cx (by simpa using c)]
 simp
def Pu(F:SF)(n:Nat)(ds:List D)(d:D):Prop:=∀h,dj false n F ds h=.ok d h
def Dr(F:SF)(n:Nat)(ds:List D)(o:O)(d:D)(o':O):Prop:=∀p h,h[p]? = some o->dj false n F (.ref p::ds) h=.ok d (h.set p o')
theorem a5m:∀{ds:List D},(∀d∈ds,clo 0 d)->a2r ds=[]/\a0j 0 ds=ds/\∀k,a0j k ds=ds
 |[],_=>⟨rfl,rfl,λ_=>rfl⟩
 |d::ds,h=>by
  obtain⟨a,b,c⟩:=a5m (ds:=ds) λx hx=>h x (List.mem_cons_of_mem _ hx);have hd:=h d List.mem_cons_self;have nr:refOf d=none:=by cases d<;>first|rfl|(simp only[clo]at hd;omega)
  refine⟨?_,?_,λk=>?_⟩
  .simpa[a2r,nr] using a
  .cases d<;>first|(simp only[clo]at hd;omega)|(simp only[a0j,b])
  .cases d<;>first|(simp only[clo]at hd;omega)|(simp only[a0j,c])
theorem Pu.of{ds:List D}(hn:ds.length=n)(cd:∀x∈ds,clo 0 x)(e:F ds []=r)(z:aad 0 r=.ok d [])(c:clo 0 d):Pu F n ds d:=λh=>by
 obtain⟨p1,p2,_⟩:=a5m cd;unfold dj;rw[if_pos hn];unfold ari;rw[p1];simp only[a0b,List.length_nil,Bool.false_eq_true,if_false];rw[if_pos ⟨List.nodup_nil,λx hx=>.inl (cd x hx),λo ho=>by simp at ho⟩,p2,e,z]
 simp[c,vp]
theorem Dr.of{ds:List D}(hn:ds.length+1=n)(cd:∀x∈ds,clo 0 x)(co:a1p 0 o)(e:F (.ref 0::ds) [o]=r)(z:aad 1 r=.ok d [o'])(c:clo 0 d)(co':a1p 0 o'):Dr F n ds o d o':=λp h hp=>by
 obtain⟨p1,_,p3⟩:=a5m cd;have e1:a2r (.ref p::ds)=[p]:=by
  have:a2r (.ref p::ds)=p::a2r ds:=rfl
  rw[this,p1]
 have e2:a0j 0 (.ref p::ds)=.ref 0::ds:=by
  have:a0j 0 (.ref p::ds)=.ref 0::a0j 1 ds:=rfl
  rw[this,p3]
 unfold dj;rw[if_pos (by simpa using hn)]
 unfold ari;rw[e1];simp only[a0b,hp,List.length_singleton,Bool.false_eq_true,if_false];have all:∀x∈(D.ref p::ds),clo 0 x\/isRef x:=λx hx=>by
  rcases List.mem_cons.mp hx with rfl|hx
  .exact .inr ⟨p,rfl⟩
  .exact .inl (cd x hx)
 rw[if_pos ⟨by simp,all,λu hu=>by rw[List.mem_singleton.mp hu];exact co⟩,e2,e,z]
 simp[c,co',vp]
theorem amb{ds:List D}(hn:ds.length=n)(cd:∀x∈ds,clo 0 x)(e:F ds []=.ok (.ref i) h1)(ho:h1[i]? = some o)(co:a1p 0 o)(h:Hd):dj true n F ds h=.ok (.ref h.length) (h++[o]):=by
 obtain⟨p1,p2,_⟩:=a5m cd;unfold dj;rw[if_pos hn];unfold ari;rw[p1];simp only[a0b,List.length_nil,if_true];rw[if_pos ⟨List.nodup_nil,λx hx=>.inl (cd x hx),λo ho=>by simp at ho⟩,p2,e]
 unfold arh;simp only[ho];rw[if_pos ⟨Nat.zero_le _,co,by simp⟩]
 simp[co,vp]
theorem ak9(g:SG)(b:SS)(τ:Sd)(h:Hd):forL (λ_=>True) g b [] τ h=.nx τ h:=by rw[forL,if_pos True.intro]
noncomputable def trn(r:Fl)(k:Sd->Hd->Fl):Fl:=match r with|.nx τ h=>k τ h|.ct τ h=>k τ h|.bk τ h=>.nx τ h|r=>r
theorem a6e(g:SG)(b:SS)(x:D)(xs:List D)(τ τ1:Sd)(h h1:Hd)(e:g x τ h=.nx τ1 h1):forL (λ_=>True) g b (x::xs) τ h=trn (b τ1 h1) (forL (λ_=>True) g b xs):=by
 rw[forL,if_pos True.intro,e];dsimp only;unfold trn
 cases b τ1 h1<;>rfl
theorem amc(τ:Sd)(h:Hd)(k:Sd->Hd->Fl):trn (.nx τ h) k=k τ h:=rfl
theorem avl(d:D)(h:Hd)(k:Sd->Hd->Fl):trn (.rt d h) k=.rt d h:=rfl
theorem a2m{g:SG}{b:SS}{α:Type}(f:α->D)(I:List α->Sd->Hd->Prop)(Rt:D->Hd->Prop):∀(xs pre:List α) (τ:Sd) (h:Hd),
  (∀pre' x post τ h,pre++xs=pre'++x::post->I pre' τ h->∃τ1 h1,g (f x) τ h=.nx τ1 h1/\((∃τ2 h2,b τ1 h1=.nx τ2 h2/\I (pre'++[x]) τ2 h2)\/∃d h2,b τ1 h1=.rt d h2/\Rt d h2))->I pre τ h->
  (∃τ' h',forL (λ_=>True) g b (xs.map f) τ h=.nx τ' h'/\I (pre++xs) τ' h')\/∃d h',forL (λ_=>True) g b (xs.map f) τ h=.rt d h'/\Rt d h'
 |[],pre,τ,h,_,i0=>.inl ⟨τ,h,ak9 ..,by simpa using i0⟩
 |x::xs,pre,τ,h,st,i0=>by
  obtain⟨τ1,h1,e1,q⟩:=st pre x xs τ h rfl i0;rw[List.map_cons,a6e _ _ _ _ _ _ _ _ e1]
  rcases q with⟨τ2,h2,e2,i2⟩|⟨d,h2,e2,r⟩
  .rw[e2,amc];have:=a2m f I Rt xs (pre++[x]) τ2 h2 (λpre' y post τ h e=>st pre' y post τ h (by simpa using e)) i2
   simpa using this
  .rw[e2,avl];exact .inr ⟨d,h2,rfl,r⟩
theorem my{g:SG}{b:SS}{α:Type}(f:α->D)(I:List α->Sd->Hd->Prop)(xs:List α)(τ:Sd)(h:Hd)
  (st:∀pre x post τ h,xs=pre++x::post->I pre τ h->∃τ1 h1,g (f x) τ h=.nx τ1 h1/\∃τ2 h2,b τ1 h1=.nx τ2 h2/\I (pre++[x]) τ2 h2) (i0:I [] τ h) :
  ∃τ' h',forL (λ_=>True) g b (xs.map f) τ h=.nx τ' h'/\I xs τ' h':=by
 rcases a2m f I (λ_ _=>False) xs [] τ h (λpre' x post τ h e i=>let ⟨τ1,h1,a,b⟩:=st pre' x post τ h e i; ⟨τ1,h1,a,.inl b⟩) i0 with⟨τ',h',a,b⟩|⟨_,_,_,z⟩
 .exact⟨τ',h',a,b⟩
 .exact z.elim
theorem a9p{f:D->Hd->R D}{α:Type}(g F:α->D){h:Hd}:∀{xs:List α},(∀x∈xs,f (g x) h=.ok (F x) h)->mapR (λ_=>True) f (xs.map g) h=.ok (xs.map F) h
 |[],_=>by rw[List.map_nil,mapR,if_pos True.intro];rfl
 |x::xs,st=>by
  rw[List.map_cons,mapR,if_pos True.intro,st x List.mem_cons_self];show(mapR _ f (xs.map g) h).bind _=_;rw[a9p g F λy hy=>st y (List.mem_cons_of_mem _ hy)];rfl
theorem aka(I:Nat->Sd->Hd->Prop)(N:Sd->Hd->Prop)(Rt:D->Hd->Prop)
  (st:∀m τ h,I m τ h->(∃h1,c τ h=.ok false h1/\N τ h1)\/∃h1,c τ h=.ok true h1/\((∃τ2 h2 m',f τ h1=.nx τ2 h2/\m'<m/\I m' τ2 h2)\/∃d h2,f τ h1=.rt d h2/\Rt d h2)) :
  ∀(m n:Nat) (τ:Sd) (h:Hd),m<n->I m τ h->(∃τ' h',sWh c f n τ h=.nx τ' h'/\N τ' h')\/∃d h',sWh c f n τ h=.rt d h'/\Rt d h':=by
 intro m
 induction m using Nat.strongRecOn with
 |ind m ih =>
  intro n τ h hn i0
  cases n with
  |zero=>omega
  |succ n =>
   rcases st m τ h i0 with⟨h1,e1,q⟩|⟨h1,e1,q⟩
   .exact .inl ⟨τ,h1,by rw[sWh,e1];rfl,q⟩
   .rcases q with⟨τ2,h2,m',e2,lt,i2⟩|⟨d,h2,e2,r⟩
    .have e3:sWh c f (n+1) τ h=sWh c f n τ2 h2:=by
      rw[sWh,e1,yz,if_pos rfl,e2]
     rw[e3];exact ih m' lt n τ2 h2 (by omega) i2
    .refine .inr ⟨d,h2,?_,r⟩;rw[sWh,e1,yz,if_pos rfl,e2]
end MI
namespace HND
open L2 MI
noncomputable def a2n:SS :=
 (mq (sA a1o (aa (sZ (sA a3p (aa (sZ (a1e (sV 0) oN (oS (sI 63)))) au))) (aa (sI 0) (aa (sI 0) (aa (sI 7) (aa (sI 0) au)))))))
noncomputable def a2o:SS :=
 (cj (sIf (sT (s2 gLt (sV 1) (sI 2)))
 (mq (sI 0))
 sNx)
 (cj (sIf (adl (sT (s2 hEq (s2 gIx (sV 0) (sI 2)) (sI 0))) (sT (s2 gLt (s2 gIx (sV 0) (sI 1)) (sA m9 (aa (s2 gIx (sV 0) (sI 0)) au)))))
 (cj (j7 2 (s2 gIx (s2 gIx (sV 0) (sI 0)) (s2 gIx (sV 0) (sI 1))))
 (cj (ab1 a80 (sV 0) (sI 1) (sI 1))
 (cj (a8q (s2 a2i (s2 dw (s2 a1u (s2 gIx (sV 0) (sI 3)) (sI 48271)) (sV 2)) (sI 2147483647)) (sV 0) (sI 3))
 (sIf (sT (s2 gGe (sA av0 (aa (sV 2) au)) (s2 afr (sI 10) (sI 18))))
 (a8q (sA av0 (aa (sV 2) au)) (sV 0) (sI 2))
 sNx))))
 sNx)
 (cj (sIf (sT (s2 gGt (s2 gIx (sV 0) (sI 2)) (sI 0)))
 (cj (j7 3 (s2 a2i (s2 gIx (sV 0) (sI 2)) (sV 1)))
 (cj (a8q (s2 a69 (s2 gIx (sV 0) (sI 2)) (sV 1)) (sV 0) (sI 2))
 (mq (sV 3))))
 sNx)
 (cj (ab1 a80 (sV 0) (sI 4) (sI 1))
 (mq (s2 a2i (s2 a69 (s2 a2i (s2 afr (s2 dw (s2 gIx (sV 0) (sI 3)) (s2 a1u (sI 7368787) (s2 gIx (sV 0) (sI 4)))) (sI 5)) (sI 2147483647)) (sI 1009)) (sV 1)))))))
noncomputable def a1g:SS :=
 (cj (j7 0 (sC (.str " !\"#$&'()*+,-./0123456789:;<=>?@ABCDEFGHIJKLMNOPQRSTUVWXYZ[\\]^_`")))
 (mq (s2 dw (sV 0) (sC (.str "abcdefghijklmnopqrstuvwxyz{|}~\n")))))
noncomputable def qp(j8:SF)(aj:SF):SS :=
 (cj (j7 4 (sA (dj false 2 aj) (aa (sV 0) (aa (sA m9 (aa (sV 1) au)) au))))
 (cj (j7 2 (s2 dw (sV 2) (s2 gIx (sV 1) (sV 4))))
 (j7 1 (s2 dw (a1e (sV 1) oN (oS (sV 4))) (a1e (sV 1) (oS (s2 dw (sV 4) (sI 1))) oN)))))
noncomputable def a0g(j8:SF)(aj:SF):SS :=
 (cj (j7 1 (sA (dj false 0 j8) au))
 (cj (j7 2 (sC (.str "")))
 (cj (a2w (sRg a0a (aa (s2 dw (sI 1) (sA (dj false 2 aj) (aa (sV 0) (aa (sI 6) au)))) au)) (kN 3) (qp j8 aj))
 (mq (sV 2)))))
noncomputable def zb(aj:SF):SE :=
 (sA uc (aa (sI 0) (aa (sV 0) au)))
noncomputable def zc(aj:SF):SE :=
 (sA uc (aa (sV 1) (aa (sV 0) au)))
noncomputable def vq(aj:SF):SS :=
 (cj (j7 7 (s2 a6u (s2 a6u (sA m9 (aa (sV 4) au)) (sI 1)) (sA (dj false 2 aj) (aa (sV 0) (aa (sV 1) au)))))
 (cj (sIf (sT (s2 hEq (sV 3) (sI 0)))
 (j7 7 (sA (dj false 2 aj) (aa (sV 0) (aa (sA m9 (aa (sV 4) au)) au))))
 sNx)
 (cj (a8r (sML a3o (sV 4) (aa (sV 7) au)) (a3h 2 (jb (kN 8) (jb (kN 9) a3m))))
 (cj (a8q (sV 6) (s2 gIx (sV 5) (sV 8)) (sV 9))
 (cj (yf (sML a4b (sV 5) (aa (s2 a1u (sZ (sA a1o (aa (sI 0) au))) (sV 1)) au)))
 (yf (sML agh (sV 4) (aa (sZ (vg (sRg a0a (aa (sV 1) au)) t1 (zc aj) [6])) au))))))))
noncomputable def vy(aj:SF):SS :=
 (a8q (sA (dj false 2 aj) (aa (sV 0) (aa (sV 2) au))) (s2 gIx (sV 5) (sV 8)) (sV 9))
noncomputable def a0t(aj:SF):SS :=
 (cj (j7 3 (sA (dj false 2 aj) (aa (sV 0) (aa (sI 2) au))))
 (cj (j7 4 (vg (sRg a0a (aa (sV 1) au)) t1 (zb aj) []))
 (cj (j7 5 (sA a1o (aa (s2 a1u (sZ (sA a1o (aa (sI 0) au))) (sV 1)) au)))
 (cj (a2w (sRg a1c (aa (sI 1) (aa (sV 2) au))) (kN 6) (vq aj))
 (cj (a2w (sIt (sV 4)) (a3h 2 (jb (kN 8) (jb (kN 9) a3m))) (vy aj))
 (mq (sV 5)))))))
noncomputable def ug(aj:SF):SS :=
 (cj (j7 5 (s2 a6u (sA (dj false 2 aj) (aa (sV 0) (aa (sI 7) au))) (sI 1)))
 (cj (sIf (sT (s2 hEq (sV 2) (sI 1)))
 (j7 5 (s2 a69 (sV 5) (sI 5)))
 sNx)
 (cj (sIf (adl (sT (s2 hEq (sV 2) (sI 2))) (sT (s2 gGt (sA (dj false 2 aj) (aa (sV 0) (aa (sI 3) au))) (sI 0))))
 (j7 5 (s1 aab (sI 1)))
 sNx)
 (yf (sML a4b (sV 3) (aa (sV 5) au))))))
noncomputable def zu(aj:SF):SS :=
 (cj (j7 2 (sA (dj false 2 aj) (aa (sV 0) (aa (sI 3) au))))
 (cj (j7 3 (sA a1o (aa (s1 aab (sI 1)) au)))
 (cj (a2w (sRg a1c (aa (sI 1) (aa (sV 1) au))) (kN 4) (ug aj))
 (mq (sV 3)))))
noncomputable def rm(aj:SF):ST :=
 (sT (s2 gGt (sA m9 (aa (sV 3) au)) (sI 0)))
noncomputable def n6(aj:SF):SS :=
 (yf (sML a4b (sV 4) (aa (sML a3o (sV 3) (aa (sA (dj false 2 aj) (aa (sV 0) (aa (sA m9 (aa (sV 3) au)) au))) au)) au)))
noncomputable def a0u(aj:SF):SE :=
 (sA uc au)
noncomputable def a0v(aj:SF):SE :=
 (s1 aab (sI 1))
noncomputable def xn(aj:SF):SE :=
 (s2 gIx (sV 1) (sV 0))
noncomputable def n8(aj:SF):SS :=
 (cj (a8q (sA yw (aa (sZ (vg (sIt (sV 8)) t1 (xn aj) [4])) au)) (sV 5) (s2 gIx (sV 4) (sV 7)))
 (a8q (s2 gIx (sV 2) (sV 7)) (sV 6) (s2 gIx (sV 4) (sV 7))))
noncomputable def uh(aj:SF):SS :=
 (cj (j7 3 (sA a9m (aa (sI 1) (aa (sA m9 (aa (sV 1) au)) au))))
 (cj (j7 4 (sA a1o (aa (sI 0) au)))
 (cj (sWh (rm aj) (n6 aj) 100000)
 (cj (j7 5 (vg (sIt (sV 1)) t1 (a0u aj) []))
 (cj (j7 6 (vg (sIt (sV 1)) t1 (a0v aj) []))
 (cj (a2w (a3e (sV 1)) (a3h 2 (jb (kN 7) (jb (kN 8) a3m))) (n8 aj))
 (mq (sA uc (aa (sA yw (aa (sV 5) au)) (aa (sA yw (aa (sV 6) au)) au))))))))))
end HND
namespace L2
open PyProof.Rows
noncomputable def ixI(n:Int):List Int->Option Nat
 |[]=>none
 |a::l=>if a=n then some 0 else (ixI n l).map (·+1)
end L2
namespace MI
open L2
structure KD (P:Program) (w:World) (K:Fg) (a:Addr) (kvs:List (Str×Str)):Prop where
 sys:(a == sysModules)=false
 ex:∃(o:Obj) (vs:List (Key×Value)),K.lookup a=some o/\KV (kvs.map λp=>((.inr p.1:Key),V.str p.2)) vs/\∀h:Heap,h.get? a=some o->h.DictOf (mz P w) a vs
section
variable{X:Cx}{E:XD}{e:Expr}{fa:SE}{pos p:Pos}{a:Addr}{kvs:List (Str×Str)}{x:Str}
theorem KD.at(kd:KD X.prog X.w X.K a kvs)(I:Inv X aA Z H s):∃vs,KV (kvs.map λp=>((.inr p.1:Key),V.str p.2)) vs/\s.heap.DictOf (mz X.prog X.w) a vs:=by
 obtain⟨o,vs,l,r,d⟩:=kd.ex;exact⟨vs,r,d _ (I.bk _ _ (I.mod.kin _ _ l))⟩
end
mutual
def toPy:D->Option PyData
 |.non=>some .none
 |.bl b=>some (.bool b)
 |.int i=>some (.int i)
 |.str x=>some (.str x)
 |.tup xs=>(a87 xs).map .tuple
 |.rol xs=>(a87 xs).map .list
 |.rod [] []=>some (.dict [])
 |_=>none
def a87:List D->Option (List PyData)
 |[]=>some []
 |x::xs=>match toPy x,a87 xs with|some p,some ps=>some (p::ps)|_,_=>none
end
mutual
def noL:D->Bool
 |.rol _=>false
 |.tup xs=>aq0 xs
 |_=>true
def aq0:List D->Bool
 |[]=>true
 |x::xs=>noL x && aq0 xs
end
section
variable{P:Program}{w:World}{K:Fg}{U:List Addr}{H:Hp}{h:Heap}
mutual
theorem agv(ok:HOk P w H h):∀(d:D) {v:V} {u:Value} {p:PyData},Rep K U H v d->RelV v u->toPy d=some p->∃as,Reads h u p as/\(noL d=true->sysModules∉as)
 |.non=>by
  rename_i v u p
  intro rp r e
  cases rp;cases e
  obtain rfl:u=Value.none:=r
  exact⟨_,.none,λ_=>by simp⟩
 |.bl b=>by
  rename_i v u p
  intro rp r e
  cases rp;cases e
  obtain rfl:u=Value.bool b:=r
  exact⟨_,.bool b,λ_=>by simp⟩
 |.int i=>by
  rename_i v u p
  intro rp r e
  cases rp;cases e
  obtain⟨t,rfl⟩:=r;exact⟨_,.int i t,λ_=>by simp⟩
 |.str x=>by
  rename_i v u p
  intro rp r e
  cases rp;cases e
  obtain⟨t,rfl⟩:=r;exact⟨_,.str x t,λ_=>by simp⟩
 |.tup xs=>by
  rename_i v u p
  intro rp r e
  cases rp with
  |@tup a _ _ hp rs =>
  simp only[toPy,Option.map_eq_some_iff]at e;obtain⟨ps,e,rfl⟩:=e;obtain rfl:u=Value.ref a:=r;obtain⟨_,its,vr,o,e1,e2,n,e3⟩:=(show ObjOk P w H h a (.tup _) from ok a _ hp)
  obtain⟨as,q,s⟩:=a88 ok xs rs vr e;exact⟨as,.tuple e1 e2 e3 q,λz=>s (by simpa[noL] using z)⟩
 |.rol xs=>by
  rename_i v u p
  intro rp r e
  cases rp with
  |@rol a _ _ hp rs =>
  simp only[toPy,Option.map_eq_some_iff]at e;obtain⟨ps,e,rfl⟩:=e;obtain rfl:u=Value.ref a:=r;obtain⟨o,hp⟩:=hp;obtain⟨_,_,its,n,vr,e1⟩:=(show ObjOk P w H h a (.frz o (.lst _)) from ok a _ hp)
  obtain⟨as,q,s⟩:=a88 ok xs rs vr e;exact⟨a::as,.list e1 rfl rfl q,λz=>by simp[noL]at z⟩
 |.rod ks xs=>by
  rename_i v u p
  intro rp r e
  cases ks with
  |cons k ks=>simp[toPy]at e
  |nil =>
   cases xs with
   |cons x xs=>simp[toPy]at e
   |nil =>
    cases rp with
    |@rod a _ us _ _ hp ek rs =>
    simp only[toPy,Option.some.injEq]at e;subst e;obtain rfl:u=Value.ref a:=r;obtain⟨_,_,sy,vs,kv,o,es,ep,e1,e2,e3,_,pr,_⟩:=(show ObjOk P w H h a (.frz _ (.dK _)) from ok a _ hp)
    have us0:=List.map_eq_nil_iff.mp ek;subst us0;cases kv
    have:es.toList=[]:=by cases hh:es.toList with|nil=>rfl|cons x y=>rw[hh]at pr;cases pr
    refine⟨_,.dict (kvs:=[]) e1 e2.1 e3 (by rw[this];exact .nil) (by rw[this];exact .nil),λ_=>?_⟩
    intro z
    simp at z
    subst z;simp at sy
 |.ty _=>by intro rp r e;simp[toPy]at e
 |.scr _=>by intro rp r e;simp[toPy]at e
 |.ref _=>by intro rp r e;simp[toPy]at e
 |.rdT _ _=>by intro rp r e;simp[toPy]at e
 |.exc _=>by intro rp r e;simp[toPy]at e
 |.ins _ _ _=>by intro rp r e;simp[toPy]at e
theorem a88(ok:HOk P w H h):∀(ds:List D) {vs:List V} {us:List Value} {ps:List PyData},Reps K U H vs ds->Vals vs us->a87 ds=some ps->∃as,ReadsAll h us ps as/\(aq0 ds=true->sysModules∉as)
 |[]=>by
  intro rs qs e
  cases rs;cases qs;cases e
  exact⟨[],.nil,λ_=>by simp⟩
 |d::ds=>by
  intro rs qs e
  cases rs with
  |cons r rs =>
  cases qs with
  |cons q qs =>
  simp only[a87]at e
  split at e
  .rename_i p ps' e1 e2;cases e
   obtain⟨as,a1,s1⟩:=agv ok d r q e1;obtain⟨bs,a2,s2⟩:=a88 ok ds rs qs e2;refine⟨as++bs,.cons a1 a2,λz=>?_⟩;simp only[aq0,Bool.and_eq_true]at z
   intro m
   rcases List.mem_append.mp m with m|m
   .exact s1 z.1 m
   .exact s2 z.2 m
  .cases e
end
theorem aq1(ok:HOk P w H h){v:V}{d:D}{u:Value}{p:PyData}(rp:Rep K U H v d)(r:RelV v u)(e:toPy d=some p):∃as,Reads h u p as/\(noL d=true->sysModules∉as):=agv ok d rp r e
end
def okR(d:D)(p:PyData):Prop:=(p.hasDict=true->noL d=true)/\p.showable=true/\p.depth<=60/\p.shown.length<=sizeLine
def avm(K:Fg):List V->Hp->VK->Prop:=λxs H Q=>∃v U d p,xs=[v]/\Rep K U H v d/\toPy d=some p/\okR d p/\Q (.str p.shown) H
theorem agw{X:Cx}(hg:X.A.guards=some [])(hu:X.A.units+64<cLine):CallR X (.builtin "repr") (avm X.K):=by
 intro aA s Z H xs us Q I r ⟨v,U,d,p,ex,rp,ep,⟨hd,hs,dp,sz⟩,q⟩
 subst ex;obtain⟨u,rfl,rx⟩:=vals1 r;have big:∀a:Addr,u=.ref a->wpAny (model X.prog X.w) X.A (call (.builtin "repr") [u]) (EP X aA Z Q) X.xe s:=λa eu=>by
  subst eu;obtain⟨as,rd,sy⟩:=aq1 I.hok rp rx ep;exact repr_of_reads' rd hs (λz=>sy (hd z)) hg (by omega) (λb o e=>e) (λh' u tk hk=>⟨.str p.shown,H,I.kept hk,⟨u,rfl⟩,q⟩) sz
 cases rp with
 |non =>
  cases ep
  obtain rfl:u=Value.none:=rx
  exact PySem.P.repr_of_none ⟨.str _,H,I.tok _,⟨_,rfl⟩,q⟩
 |bl b =>
  cases ep
  obtain rfl:u=Value.bool b:=rx
  exact PySem.P.repr_of_bool ⟨.str _,H,I.tok _,⟨_,rfl⟩,q⟩
 |int i =>
  cases ep
  obtain⟨t,rfl⟩:=rx;exact PySem.P.repr_of_int (by simpa[PyData.showable] using hs) ⟨.str _,H,I.tok _,⟨_,rfl⟩,q⟩
 |str x =>
  cases ep
  obtain⟨t,rfl⟩:=rx;exact PySem.P.repr_of_str ⟨.str _,H,I.tok _,⟨_,rfl⟩,q⟩ sz
 |@tup a vs xs hp r=>exact big a rx
 |@rol a vs xs hp r=>exact big a rx
 |@rod a o us ks xs hp ek rs=>exact big a rx
 |ty _=>cases ep
 |scr _ _=>cases ep
 |ref _=>cases ep
 |rdT _ _ _=>cases ep
 |exc _ _ _=>cases ep
 |ins _ _ _ _=>cases ep
open Classical in
noncomputable def ab4:List D->Hd->R D
 |[x],h=>(match toPy x with|some p=>if okR x p then .ok (.str p.shown) h else .no|none=>.no)
 |_,_=>.no
theorem akb:adi K ab4 (avm K):=by
 intro E U H h xs ds Q r hr o
 unfold ab4 at o
 split at o
 .split at o
  .rename_i p ep
   split at o
   .rename_i ok
    cases r with
    |cons r rs =>
     cases rs
     exact⟨_,U,_,p,rfl,r,ep,ok,ans o (.str _) hr⟩
   .exact o.elim
  .exact o.elim
 .exact o.elim
theorem a9q:CallR X (.builtin "isinstance") (λxs H Q=>∃a o us T b,xs=[.ref a,.ty T]/\H a=some (.frz o (.dK us))/\PySem.W.kitOne X.K (.type "dict") (.type T)=some b/\Q (.bl b) H):=by
 intro aA s Z H xs us Q I r h
 obtain⟨a,o,kv,T,b,rfl,ea,e,q⟩:=h;obtain⟨u,w',rfl,rx,rt⟩:=vals2 r;cases rt
 obtain rfl:u=Value.ref a:=rx
 obtain⟨_,_,_,vs,_,p⟩:=(show ObjOk X.prog X.w H s.heap a (.frz o (.dK kv)) from I.hok a _ ea)
 obtain⟨o',es,ep,h1,h2,_⟩:=p;exact PySem.W.kia_one PySem.W.kitx_dict I.kIn ⟨o',h1,h2.1⟩ e (λz=>nomatch z) λtk=>⟨.bl b,H,I.tok tk,rfl,q⟩
noncomputable def ph:List D->Hd->R D
 |[.rod ks xs,.ty T],h=>(match aed "dict" T with|some b=>.ok (.bl b) h|none=>.no)
 |ds,h=>aij ds h
theorem akc:adi K ph (λxs H Q=>(∃x T t b,xs=[x,.ty T]/\TyOf K H x t/\PySem.W.kitOne K t (.type T)=some b/\Q (.bl b) H)\/∃a o us T b,xs=[.ref a,.ty T]/\H a=some (.frz o (.dK us))/\PySem.W.kitOne K (.type "dict") (.type T)=some b/\Q (.bl b) H):=by
 intro E U H h xs ds Q r hr o
 unfold ph at o
 split at o
 .split at o
  .rename_i b hb
   cases r with
   |cons r1 rs =>
    cases rs with
    |cons r2 rs2 =>
     cases rs2
     cases r2
     cases r1 with
     |rod hp ek rr=>exact .inr ⟨_,_,_,_,b,rfl,hp,afx hb,ans o (.bl _) hr⟩
  .exact o.elim
 .exact .inl (aoz E U H h xs _ Q r hr o)
end MI
namespace L2
open PySem.W PyProof.Rows
section
variable{P:Program}{w:World}{H H':Hp}{h h':Heap}
theorem HOk.is(x:HOk P w H h)(e:H a=some o):∃ob,h.get? a=some ob:=by
 have:=x a o e
 cases o with
 |lst xs=>obtain⟨_,_,_,_,e⟩:=this;exact⟨_,e⟩
 |tup xs=>obtain⟨_,_,_,ob,e,_⟩:=this;exact⟨_,e⟩
 |dK kvs=>obtain⟨_,_,_,_,o,_,_,e,_⟩:=this;exact⟨_,e⟩
 |dT kvs=>obtain⟨_,_,_,_,o,_,_,e,_⟩:=this;exact⟨_,e⟩
 |set S n=>obtain⟨o,_,_,_,e,_⟩:=this;exact⟨_,e⟩
 |ins C dx fs=>obtain⟨_,_,_,e,_⟩:=this;exact⟨_,e⟩
 |own y=>exact this
 |xd fs=>obtain⟨_,⟨_,_,_,e,_⟩,_⟩:=this;exact⟨_,e⟩
 |rng lo hi=>obtain⟨_,_,_,e⟩:=this;exact⟨_,e⟩
 |frz ob u=>exact⟨_,this.1⟩
 |tbl ps=>exact⟨_,this⟩
 |met f y=>exact⟨_,this⟩
 |ext φ=>exact this.2.1
end
end L2
namespace L2
open PySem.W PyProof.Rows Builtin Builtin.ObjectAttr Builtin.Getset_descriptor
section
variable{prog:Program}{w:World}{A:Around}{E:Value->Shared->Prop}{s:Shared}{K:Frag}{x D:Addr}{ox:Obj}{odo:Option Obj}
abbrev ExAt(x D:Addr)(h:Heap):Prop:=∃o,h.get? x=some o/\o.cls=.ref D
theorem ExAt.ty(I:ExAt x D h):Looks M h (typeOf (.ref x)) (.ref D):=by
 obtain⟨o,q,c⟩:=I;exact c ▸ (Looks.ld q).andThen .now
end
end L2
namespace AT
open L2
theorem akd{α:Type}(x0:α)(xs:List α):atI (x0::xs) 0=some x0:=vh (j:=0) rfl
theorem ake{α:Type}(x0 x1:α)(xs:List α):atI (x0::x1::xs) 1=some x1:=vh (j:=1) rfl
theorem akf{α:Type}(x0 x1 x2:α)(xs:List α):atI (x0::x1::x2::xs) 2=some x2:=vh (j:=2) rfl
theorem akg{α:Type}(x0 x1 x2 x3:α)(xs:List α):atI (x0::x1::x2::x3::xs) 3=some x3:=vh (j:=3) rfl
theorem akh{α:Type}(x0 x1 x2 x3 x4:α)(xs:List α):atI (x0::x1::x2::x3::x4::xs) 4=some x4:=vh (j:=4) rfl
theorem aki{α:Type}(x0 x1 x2 x3 x4 x5:α)(xs:List α):atI (x0::x1::x2::x3::x4::x5::xs) 5=some x5:=vh (j:=5) rfl
theorem akj{α:Type}(x0 x1 x2 x3 x4 x5 x6:α)(xs:List α):atI (x0::x1::x2::x3::x4::x5::x6::xs) 6=some x6:=vh (j:=6) rfl
theorem akk{α:Type}(x0 x1 x2 x3 x4 x5 x6 x7:α)(xs:List α):atI (x0::x1::x2::x3::x4::x5::x6::x7::xs) 7=some x7:=vh (j:=7) rfl
theorem x10:ixN 1 0=some 0:=rfl
theorem x20:ixN 2 0=some 0:=rfl
theorem x21:ixN 2 1=some 1:=rfl
theorem x30:ixN 3 0=some 0:=rfl
theorem x31:ixN 3 1=some 1:=rfl
theorem x32:ixN 3 2=some 2:=rfl
theorem x40:ixN 4 0=some 0:=rfl
theorem x41:ixN 4 1=some 1:=rfl
theorem x42:ixN 4 2=some 2:=rfl
theorem x43:ixN 4 3=some 3:=rfl
theorem x50:ixN 5 0=some 0:=rfl
theorem x51:ixN 5 1=some 1:=rfl
theorem x52:ixN 5 2=some 2:=rfl
theorem x53:ixN 5 3=some 3:=rfl
theorem x54:ixN 5 4=some 4:=rfl
theorem x60:ixN 6 0=some 0:=rfl
theorem x61:ixN 6 1=some 1:=rfl
theorem x62:ixN 6 2=some 2:=rfl
theorem x63:ixN 6 3=some 3:=rfl
theorem x64:ixN 6 4=some 4:=rfl
theorem x65:ixN 6 5=some 5:=rfl
theorem x70:ixN 7 0=some 0:=rfl
theorem x71:ixN 7 1=some 1:=rfl
theorem x72:ixN 7 2=some 2:=rfl
theorem x73:ixN 7 3=some 3:=rfl
theorem x74:ixN 7 4=some 4:=rfl
theorem x75:ixN 7 5=some 5:=rfl
theorem x76:ixN 7 6=some 6:=rfl
noncomputable def amd(x:Int):Int:=if x<0 then -x else x
theorem akl(x:Int)(h:MI.Hd):MI.av0 [.int x] h=.ok (.int (amd x)) h:=rfl
theorem p18(h:MI.Hd):MI.afr (.int 10) (.int 18) h=.ok (.int 1000000000000000000) h:=by rw[MI.afr,if_pos (by decide)];rfl
theorem azs{i:Int}(c:0<=j/\j<=1000000/\i.natAbs<2^64):MI.afr (.int i) (.int j) h=.ok (.int (i^j.toNat)) h:=by rw[MI.afr,if_pos c]
end AT
namespace MI
open L2 SeqAt
noncomputable def b0t(neg:Bool)(K:Fg):R2:=λx y H Q=>∃(U:List Addr) (p q:Addr) (vs us:List V) (xs ys:List D),x=.ref p/\y=.ref q/\Rd H p (.lst vs)/\Rd H q (.lst us)/\Reps K U H vs xs/\Reps K U H us ys/\xs.all (pur 59)=true/\ys.all (pur 59)=true/\Q (.bl (if neg then !aac xs ys else aac xs ys)) H
theorem akm(I:Inv X aA Z H s)(hu:X.A.units+64<cLine)(h1:Rd H p (.lst vs))(h2:Rd H q (.lst us))(rs:Reps X.K U H vs xs)(qs:Reps X.K U H us ys)(p1:xs.all (pur 59)=true)(p2:ys.all (pur 59)=true) :
  RcAt X.A s (.ref p) (.ref q) (aac xs ys)/\RcNeAt X.A s (.ref p) (.ref q) (!aac xs ys):=by
 obtain⟨its,r1,pl1,z1⟩:=I.list (.inl h1);obtain⟨its2,r2,pl2,z2⟩:=I.list (.inl h2);have l1:its.toArray.size=xs.length:=by rw[List.size_toArray,<-r1.length,rs.len]
 have l2:its2.toArray.size=ys.length:=by rw[List.size_toArray,<-r2.length,qs.len]
 by_cases hl:xs.length=ys.length
 .have step:∀j (h1:j<its.toArray.size) (h2:j<its2.toArray.size),EqAt X.A.in1 s its.toArray[j] its2.toArray[j] (pairE xs ys j):=λj h1 h2=>by
   have j1:j<xs.length:=by omega
   have j2:j<ys.length:=by omega
   obtain⟨v1,e1,q1⟩:=rs.get (List.getElem?_eq_getElem j1);obtain⟨v2,e2,q2⟩:=qs.get (List.getElem?_eq_getElem j2);obtain⟨u1,e3,q3⟩:=r1.get e1;obtain⟨u2,e4,q4⟩:=r2.get e2;have f1:its.toArray[j]=u1:=by simpa using (List.getElem?_eq_some_iff.mp e3).2
   have f2:its2.toArray[j]=u2:=by simpa using (List.getElem?_eq_some_iff.mp e4).2
   have pe:pairE xs ys j=eqD xs[j] ys[j]:=by simp[pairE,List.getElem?_eq_getElem j1,List.getElem?_eq_getElem j2]
   rw[f1,f2,pe];rw[List.all_eq_true]at p1 p2;exact am4 I.hok 59 X.A.in1 q1 q2 q3 q4 (p1 _ (List.getElem_mem j1)) (p2 _ (List.getElem_mem j2)) (by rw[Around.in1_units];omega)
  have c1:=RcAt.lists (A:=X.A) (s:=s) (e:=pairE xs ys) pl1.isList pl2.isList (by omega) (by omega) step
  have c2:=RcNeAt.lists (A:=X.A) (s:=s) (e:=pairE xs ys) pl1.isList pl2.isList (by omega) (by omega) step
  have ea:=a3q xs ys;rw[hl,Nat.min_self,beq_self_eq_true,Bool.and_true,<-hl]at ea;rw[l1,ea]at c1 c2;exact⟨c1,c2⟩
 .have ne:(its.toArray.size != its2.toArray.size)=true:=by rw[l1,l2];simpa using hl
  have ea:=a3q xs ys;rw[beq_eq_false_iff_ne.mpr hl,Bool.and_false]at ea;rw[<-ea];exact⟨RcAt.lists_lengths pl1.isList pl2.isList ne (by omega),RcNeAt.lists_lengths pl1.isList pl2.isList ne (by omega)⟩
theorem avn{X:Cx}(hu:X.A.units+64<cLine):OpR X (compareOp .NotEq) (b0t true X.K):=by
 intro aA s Z H x y v u Q I rx ry h
 obtain⟨U,p,q,vs,us,xs,ys,rfl,rfl,h1,h2,r1,r2,p1,p2,hq⟩:=h
 cases rx;cases ry
 exact(akm I hu h1 h2 r1 r2 p1 p2).2 X.prog X.w X.xe _ ⟨.bl _,H,I,rfl,hq⟩
noncomputable def avo(neg:Bool)(x y:D)(h:Hd):R D:=match a0c x h,a0c y h with
 |some xs,some ys=>if xs.all (pur 59)=true/\ys.all (pur 59)=true then .ok (.bl (if neg then !aac xs ys else aac xs ys)) h else .no
 |_,_=>.no
theorem aq2(neg:Bool):a2g K (avo neg) (b0t neg K):=by
 intro E U H h x y dx dy Q rx ry hr o
 unfold avo at o
 split at o
 .rename_i xs ys e1 e2
  split at o
  .rename_i hc;obtain⟨a,vs,rfl,h1,r1⟩:=a2l rx hr e1;obtain⟨b,us,rfl,h2,r2⟩:=a2l ry hr e2;exact⟨U,a,b,vs,us,xs,ys,rfl,rfl,h1,h2,r1,r2,hc.1,hc.2,ans o (.bl _) hr⟩
  .exact o.elim
 .exact o.elim
end MI
namespace SETH
noncomputable def it:Nat->Nat->Nat
 |0,x=>x
 |n+1,x=>it n (5*x+1)
theorem agx(m:Nat):∀(n x:Nat),it (n+m) x=it m (it n x)
 |0,x=>by rw[Nat.zero_add];rfl
 |n+1,x=>by rw[show n+1+m=(n+m)+1 by omega];exact agx m n _
theorem ame:∀k:Nat,∃c,∀x,it (2^k) x=(4*(2^k*(2*c+1))+1)*x+2^k*(2*c+1)
 |0=>⟨0,λx=>by show 5*x+1=_;omega⟩
 |k+1=>by
  obtain⟨c,h⟩:=ame k;refine⟨2*c*(2^k*(2*c+1))+c+2^k*(2*c+1),λx=>?_⟩;have e:2^(k+1)=2^k+2^k:=by rw[Nat.pow_succ];omega
  rw[e,agx,h,h]
  generalize 2^k=P
  grind
theorem full:∀(k x y:Nat),∃n,n<2^k/\it n x%2^k=y%2^k
 |0,x,y=>⟨0,by decide,by rw[Nat.pow_zero,Nat.mod_one,Nat.mod_one]⟩
 |k+1,x,y=>by
  obtain⟨n,hn,e⟩:=full k x y;obtain⟨c,h⟩:=ame k;have hp:0<2^k:=Nat.pow_pos (by decide)
  rw[Nat.pow_succ]
  by_cases q:it n x / 2^k%2=y / 2^k%2
  .exact⟨n,by omega,by rw[Nat.mod_mul,Nat.mod_mul,e,q]⟩
  .refine⟨n+2^k,by omega,?_⟩
   rw[agx,h]
   generalize 2^k=P at *
   generalize it n x=z at *
   have:(4*(P*(2*c+1))+1)*z+P*(2*c+1)=(z+P)+P*2*(2*(2*c+1)*z+c):=by grind
   rw[this,Nat.add_mul_mod_self_left,Nat.mod_mul,Nat.mod_mul,Nat.add_mod_right,e,Nat.add_div_right _ hp]
   congr 2
   omega
noncomputable def im(M:Nat):Nat->Nat->Nat
 |0,x=>x
 |n+1,x=>im M n ((x*5+1)%M)
theorem avp(M:Nat):∀(n x:Nat),im M n x%M=it n x%M
 |0,x=>rfl
 |n+1,x=>by
  show im M n _%M=it n _%M;rw[avp M n];have:∀n a b,a%M=b%M->it n a%M=it n b%M:=by
   intro n
   induction n with
   |zero=>exact λa b h=>h
   |succ n ih=>exact λa b h=>ih _ _ (by rw[Nat.add_mod,Nat.mul_mod,h,<-Nat.mul_mod,<-Nat.add_mod])
  exact this n _ _ (by rw[Nat.mod_mod,Nat.mul_comm])
theorem avq(hM:0<M):∀(n x:Nat),x<M->im M n x<M
 |0,x,h=>h
 |n+1,x,h=>avq hM n _ (Nat.mod_lt _ hM)
theorem aq3(hx:x<2^k)(hy:y<2^k):∃n,n<2^k/\im (2^k) n x=y:=by
 obtain⟨n,hn,e⟩:=full k x y;refine⟨n,hn,?_⟩;rw[<-avp,Nat.mod_eq_of_lt hy,Nat.mod_eq_of_lt (avq (by omega) n x hx)]at e
 exact e
open PySem.SetTable
noncomputable def ls(mask:Nat):Nat->Nat×Nat->Nat×Nat
 |0,x=>x
 |n+1,x=>ls mask n (leap mask x.1 x.2)
theorem amf(mask m:Nat):∀(n:Nat) (x:Nat×Nat),ls mask (n+m) x=ls mask m (ls mask n x)
 |0,x=>by rw[Nat.zero_add];rfl
 |n+1,x=>by rw[show n+1+m=(n+m)+1 by omega];exact amf mask m n _
theorem a73(mask:Nat):∀(n:Nat) (x:Nat×Nat),(ls mask n x).2=x.2 / 32^n
 |0,x=>by rw[Nat.pow_zero,Nat.div_one];rfl
 |n+1,x=>by
  show(ls mask n _).2=_;rw[a73 mask n,Nat.pow_succ,Nat.mul_comm,<-Nat.div_div_eq_div_mul];rfl
theorem avr(mask:Nat):∀(n:Nat) (x:Nat×Nat),x.1<=mask->(ls mask n x).1<=mask
 |0,x,h=>h
 |n+1,x,h=>avr mask n _ (Nat.le_of_lt_succ (Nat.mod_lt _ (Nat.succ_pos _)))
theorem avs(mask:Nat):∀(n i:Nat),ls mask n (i,0)=(im (mask+1) n i,0)
 |0,i=>rfl
 |n+1,i=>by
  show ls mask n (leap mask i 0)=(im (mask+1) n _,0);rw[<-avs mask n];rfl
theorem hit{mask k i p y:Nat}(hk:mask+1=2^k)(hi:i<=mask)(hp:p<2^64)(hy:y<=mask):∃m,m<mask+14/\(ls mask m (i,p)).1=y:=by
 have e:ls mask 13 (i,p)=((ls mask 13 (i,p)).1,0):=by
  refine Prod.ext rfl ?_;rw[a73];show p / 32^13=0;exact Nat.div_eq_of_lt (by omega)
 have h13:=avr mask 13 (i,p) hi;obtain⟨n,hn,en⟩:=aq3 (k:=k) (x:=(ls mask 13 (i,p)).1) (y:=y) (by omega) (by omega)
 refine⟨13+n,by omega,?_⟩
 rw[amf,e,avs];show im (mask+1) n _=y;rw[hk];exact en
end SETH
namespace MI
open L2
def Bz(j:Int):Prop:=0<=j/\j<2^62
instance (j:Int):Decidable (Bz j):=by unfold Bz;exact inferInstance
end MI
namespace STP
open L2 MI
noncomputable def v6:SE :=
 (s2 (gIn false) (sV 0) (sV 1))
noncomputable def qt:SS :=
 (mq (a0q (sA ph (aa (sV 1) (aa (sC (.ty "str")) au))) (sA aee (aa (sZ (vg (sIt (sV 1)) t1 v6 [0])) au))))
noncomputable def uz(je:SF):SS :=
 (mq (s2 gIx (sA (dj false 3 je) (aa (sV 0) (aa (sV 1) (aa (sV 2) au)))) (s1 aab (sI 1))))
noncomputable def m7:SS :=
 (yf (sML a4b (sV 6) (aa (s2 gIx (s2 gIx (sV 4) (s2 gIx (sV 6) (s1 aab (sI 1)))) (sMS a9i (sV 3) (aa (sV 7) au))) au)))
noncomputable def p7:SS :=
 (cj (a8r (sV 0) (a3h 3 (jb (kN 3) (jb (kN 4) (jb (kN 5) a3m)))))
 (cj (j7 6 (sA a1o (aa (sV 1) au)))
 (cj (a2w (sIt (sV 2)) (kN 7) m7)
 (mq (sV 6)))))
end STP
namespace K40
open L2 MI
noncomputable def zx:SS :=
 (mq (a0q (sA ph (aa (sV 0) (aa (sC (.ty "int")) au))) (a5a (sA ph (aa (sV 0) (aa (sC (.ty "bool")) au))))))
noncomputable def a3u:SS :=
 (mq (a0q (sA ph (aa (sV 0) (aa (sC (.ty "tuple")) au))) (sCh gLe gLe (sV 1) (sA m9 (aa (sV 0) au)) (sV 2))))
end K40
namespace L2
open PyProof.Rows
section
variable{prog:Program}{w:World}{A:Around}{R:Result->Shared->Prop}{s:Shared}{aD t0 i0 t1 i1:Expr}{aB:Scope}{pos:Pos}{it acc:Value}{env:Env}{cs:List Expr}
noncomputable def tests(cs:List Expr)(env:Env):Sem Bool:=match cs with
 |[]=>pure true
 |c::_=>isTrue c env (eval c env)
def One(cs:List Expr):Prop:=cs=[]\/∃c,cs=[c]
theorem aq4(one:One cs):compTurn (.ListComp aD [⟨t0,i0,[],0⟩,⟨t1,i1,cs,0⟩] aB pos) 1 it acc env=(standAt i1.pos>>=λ_=>pyNext it>>=λr=>match r with
   |none=>pure (.done .next)
   |some v=>letOwnedTupleGo t1 it v>>=λ_=>assign t1 env v>>=λ_=>tests cs env>>=λok =>
    (if ok=true then (eval aD env>>=λx=>call (.builtin "list.append") [acc,x]>>=λ_=>pure ()) else pure ())>>=λ_ =>
     again (.compLoop (.ListComp aD [⟨t0,i0,[],0⟩,⟨t1,i1,cs,0⟩] aB pos) 1 it acc env)):=by
 rcases one with rfl|⟨c,rfl⟩
 .unfold tests;simp only[pure_bind,if_true];rfl
 .show(standAt i1.pos>>=λ_=>pyNext it>>=λr=>_)=_
  congr 1;funext _;congr 1;funext r
  cases r with
  |none=>rfl
  |some v =>
   show(letOwnedTupleGo t1 it v>>=λ_=>assign t1 env v>>=λ_=>_)=(letOwnedTupleGo t1 it v>>=λ_=>assign t1 env v>>=λ_=>_)
   congr 1;funext _;congr 1;funext _
   unfold tests;simp
   congr 1;funext ok
   cases ok with
   |false=>rw[if_neg Bool.false_ne_true,if_neg Bool.false_ne_true,pure_bind]
   |true =>
    rw[if_pos rfl,if_pos rfl,bind_assoc]
    congr 1;funext x
    rw[map_eq_pure_bind,bind_assoc]
    congr 1
theorem adu(one:One cs)(J:Nat->Shared->Prop)
  (step:∀m z,J m z->wpAny (model prog w) A (pyNext it) (λgot z1=>match got with
   |none=>R (.ok .next) z1
   |some v=>wpAny (model prog w) A (letOwnedTupleGo t1 it v) (λ_ z2=>wpAny (model prog w) A (assign t1 env v) (λ_ z3=>wpAny (model prog w) A (tests cs env) (λok z3'=>if ok=true then wpAny (model prog w) A (eval aD env) (λx z4 =>
     wpAny (model prog w) A (call (.builtin "list.append") [acc,x]) (λ_ z5=>∃m',m'<m/\J m' z5) (λ_ _=>False) z4)
     (λ_ _=>False) z3' else ∃m',m'<m/\J m' z3') (λ_ _=>False) z3) (λ_ _=>False) z2) (λ_ _=>False) z1) (λ_ _=>False) z)
  (m:Nat) (j0:J m s):codeAny (model prog w) A (.compLoop (.ListComp aD [⟨t0,i0,[],0⟩,⟨t1,i1,cs,0⟩] aB pos) 1 it acc env) R s:=by
 refine codeAny_loop rfl J (λm z hj=>(wpAny_noted ?_:wpAny _ _ ((compTurn (.ListComp aD [⟨t0,i0,[],0⟩,⟨t1,i1,cs,0⟩] aB pos) 1 it acc env).onRaise _) _ _ z)) m j0;rw[aq4 one];refine wpAny_bind (wpAny_standAt (wpAny_bind (wpAny_mono (step m z hj) (λgot z1 h1=>?_) λ_ _ no=>no.elim)))
 match got,h1 with
 |none,h1=>exact wpAny_pure h1
 |some v,h1 =>
  refine wpAny_bind (wpAny_mono h1 (λ_ z2 h2=>wpAny_bind (wpAny_mono h2 (λ_ z3 h3=>wpAny_bind (wpAny_mono h3 (λok z3' h3'=>?_) λ_ _ no=>no.elim)) λ_ _ no=>no.elim)) λ_ _ no=>no.elim)
  match ok,h3' with
  |true,h3' =>
   rw[if_pos rfl]at h3';refine wpAny_bind (wpAny_bind (wpAny_mono h3' (λx z4 h4=>?_) λ_ _ no=>no.elim));exact wpAny_bind (wpAny_mono h4 (λ_ z5 h5=>wpAny_pure (wpAny_pure ⟨rfl,h5⟩)) λ_ _ no=>no.elim)
  |false,h3' =>
   rw[if_neg Bool.false_ne_true]at h3';exact wpAny_bind (wpAny_pure (wpAny_pure ⟨rfl,h3'⟩))
theorem ab5(h0:codeAny (model prog w) A (.compLoop (.ListComp aD [⟨t0,i0,[],0⟩,⟨t1,i1,cs,0⟩] aB pos) 1 it acc env) R s)
  (h:wpAny (model prog w) A (pyIter it) (λit' s'=>codeAny (model prog w) A (.compLoop (.ListComp aD [⟨t0,i0,[],0⟩,⟨t1,i1,cs,0⟩] aB pos) 1 it' acc env) R s') (λ_ _=>False) s) :
  codeAny (model prog w) A (.compStart (.ListComp aD [⟨t0,i0,[],0⟩,⟨t1,i1,cs,0⟩] aB pos) 1 it acc env) R s:=by
 apply codeAny_of_tree
 show wpAny (model prog w) _ ((compStart (.ListComp aD [⟨t0,i0,[],0⟩,⟨t1,i1,cs,0⟩] aB pos) 1 it acc env).onRaise _) _ _ s
 apply wpAny_onRaise
 unfold compStart;show wpAny (model prog w) _ (ask>>=_) _ _ s
 apply wpAny_bind
 apply wpAny_askSetting
 refine wpAny_ite ?_
 split
 .first
  |exact wpAny_pure ⟨rfl,h0⟩
  |exact wpAny_bind (wpAny_pure (wpAny_pure ⟨rfl,h0⟩))
 .apply wpAny_bind
  apply wpAny_rule
  show wpAny (model prog w) _ (standAt i1.pos>>=_) _ _ s
  apply wpAny_bind
  apply wpAny_standAt
  apply wpAny_bind
  exact wpAny_mono h (λit' s' h'=>wpAny_pure ⟨rfl,h'⟩) λ_ _ no=>no.elim
theorem ab6(J:Nat->Shared->Prop)
  (step:∀m z,J m z->wpAny (model prog w) A (pyNext it) (λgot z1=>match got with
   |none=>R (.ok .next) z1
   |some v=>wpAny (model prog w) A (letOwnedTupleGo t0 it v) (λ_ z2=>wpAny (model prog w) A (assign t0 env v) (λ_ z3=>wpAny (model prog w) A (eval i1 env) (λx z4 =>
     wpAny (model prog w) A (foldedSetIterable i1 env x) (λy z5=>wpAny (model prog w) A (pyIter y) (λit1 z6 =>
      codeAny (model prog w) A (.compStart (.ListComp aD [⟨t0,i0,[],0⟩,⟨t1,i1,cs,0⟩] aB pos) 1 it1 acc env) (λr z7=>∃f,r=.ok f/\∃m',m'<m/\J m' z7) z6) (λ_ _=>False) z5) (λ_ _=>False) z4)
     (λ_ _=>False) z3) (λ_ _=>False) z2) (λ_ _=>False) z1) (λ_ _=>False) z)
  (m:Nat) (j0:J m s):codeAny (model prog w) A (.compLoop (.ListComp aD [⟨t0,i0,[],0⟩,⟨t1,i1,cs,0⟩] aB pos) 0 it acc env) R s:=by
 refine codeAny_loop rfl J (λm z hj=>(wpAny_noted ?_:wpAny _ _ ((compTurn (.ListComp aD [⟨t0,i0,[],0⟩,⟨t1,i1,cs,0⟩] aB pos) 0 it acc env).onRaise _) _ _ z)) m j0;show wpAny (model prog w) _ (standAt i0.pos>>=λ_=>pyNext it>>=_) _ _ z
 apply wpAny_bind
 apply wpAny_standAt
 apply wpAny_bind
 refine wpAny_mono (step m z hj) (λgot z1 h1=>?_) λ_ _ no=>no.elim
 match got,h1 with
 |none,h1=>exact wpAny_pure h1
 |some v,h1 =>
  apply wpAny_bind
  refine wpAny_mono h1 (λ_ z2 h2=>?_) λ_ _ no=>no.elim
  apply wpAny_bind
  refine wpAny_mono h2 (λ_ z3 h3=>?_) λ_ _ no=>no.elim;show wpAny (model prog w) _ (eval i1 env>>=_) _ _ _
  apply wpAny_bind
  refine wpAny_mono h3 (λx z4 h4=>?_) λ_ _ no=>no.elim
  apply wpAny_bind
  apply wpAny_standAt
  show wpAny (model prog w) _ (foldedSetIterable i1 env x>>=_) _ _ _
  apply wpAny_bind
  refine wpAny_mono h4 (λy z5 h5=>?_) λ_ _ no=>no.elim;show wpAny (model prog w) _ (holding [y] (pyIter y)>>=_) _ _ _
  apply wpAny_bind
  apply wpAny_holding
  refine wpAny_mono h5 (λit1 z6 h6=>?_) λ_ _ no=>no.elim
  apply wpAny_bind
  refine wpAny_runOwn (codeAny_mono h6 λr z7 h7=>?_);obtain⟨f,rfl,h8⟩:=h7;exact wpAny_pure ⟨rfl,h8⟩
end
section
variable{prog:Program}{w:World}{A:Around}{R:Result->Shared->Prop}{s:Shared}{aD t0 i0 t1 i1:Expr}{aB:Scope}{pos:Pos}{it acc:Value}{env:Env}{cs:List Expr}
theorem a9r(h0:codeAny (model prog w) A (.compLoop (.ListComp aD [⟨t0,i0,[],0⟩,⟨t1,i1,cs,0⟩] aB pos) 0 it acc env) R s)
  (h:wpAny (model prog w) A (pyIter it) (λit' s'=>codeAny (model prog w) A (.compLoop (.ListComp aD [⟨t0,i0,[],0⟩,⟨t1,i1,cs,0⟩] aB pos) 0 it' acc env) R s') (λ_ _=>False) s) :
  codeAny (model prog w) A (.compStart (.ListComp aD [⟨t0,i0,[],0⟩,⟨t1,i1,cs,0⟩] aB pos) 0 it acc env) R s:=by
 apply codeAny_of_tree
 show wpAny (model prog w) _ ((compStart (.ListComp aD [⟨t0,i0,[],0⟩,⟨t1,i1,cs,0⟩] aB pos) 0 it acc env).onRaise _) _ _ s
 apply wpAny_onRaise
 unfold compStart;show wpAny (model prog w) _ (ask>>=_) _ _ s
 apply wpAny_bind
 apply wpAny_askSetting
 refine wpAny_ite ?_
 split
 .first
  |exact wpAny_pure ⟨rfl,h0⟩
  |exact wpAny_bind (wpAny_pure (wpAny_pure ⟨rfl,h0⟩))
 .apply wpAny_bind
  apply wpAny_rule
  show wpAny (model prog w) _ (standAt i0.pos>>=_) _ _ s
  apply wpAny_bind
  apply wpAny_standAt
  apply wpAny_bind
  exact wpAny_mono h (λit' s' h'=>wpAny_pure ⟨rfl,h'⟩) λ_ _ no=>no.elim
end
section
variable{X:Cx}
theorem FpOk.onL(f:FpOk Y aA H b)(hp:Y.pn=[])(hn:H' b=none)(ne:b∉L):FpOk Y (xj L h) H' b:=by
 obtain⟨_,f1,f2,f3,f4,_⟩:=f;refine⟨hn,f1,f2,f3,f4,λp hq z=>ne ?_⟩;rw[hp]at hq;have:=(a8v (show p∈xj L h from hq)).1
 rw[<-z];exact this
def LiA(a:Addr)(ys:List V)(h:Heap):Prop:=∃(its:List Value) (k:Nat),h.get? a=some {cls:=.type "list",data:=.seq its.toArray k}/\Vals ys its/\ys.length<=sizeLine
theorem LiA.keep{a:Addr}{ys:List V}{h h':Heap}(l:LiA a ys h)(k:∀o,h.get? a=some o->h'.get? a=some o):LiA a ys h':=let ⟨its,n,e,r⟩:=l; ⟨its,n,k _ e,r⟩
def PCn(X:Cx)(cs:List Expr)(t:TT):Prop:=∀(aA:List (Addr×Obj)) (s:Shared) (Z:St) (H:Hp) (Q:Bool->Hp->Prop),Inv X aA Z H s->t Z H Q->wpAny (model X.prog X.w) X.A (tests cs X.env) (TP X aA Z Q) X.xe s
theorem avt:PCn X [] (λ_ H Q=>Q true H):=λ_ _ _ H _ I h=>wpAny_pure ⟨H,I,h⟩
def b0u(wi1:TI)(s0:St)(g0 g1:TG)(tc:TT)(te:TE)(Q:VK)(J0:It)(H1:Hp):Prop :=
 ∃W:Nat->Nat->List V->Hp->Prop,(∃m,W 0 m [] H1)/\∀i m ks H,W i m ks H->
  (J0.stop i H/\∀p,H p=none->Q (.ref p) (upd H p (.lst ks))) \/
  (J0.go i H/\∀x H',J0.yld i H x H'->g0 x s0 H' λZ2 H2=>Ext s0 Z2/\wi1 Z2 H2 λJ1 H3=>∃V':Nat->Nat->List V->Hp->Prop,(∃n,V' 0 n ks H3)/\∀j n ks H,V' j n ks H->
   (J1.stop j H/\∃m',m'<m/\W (i+1) m' ks H) \/
   (J1.go j H/\∀y H',J1.yld j H y H'->g1 y Z2 H' λZ3 H4=>Ext Z2 Z3/\tc Z3 H4 λok H4'=>if ok=true then te Z3 H4' (λz H5=>ks.length<sizeLine/\∃n',n'<n/\V' (j+1) n' (ks++[z]) H5) else ∃n',n'<n/\V' (j+1) n' ks H4'))
noncomputable def avu(wi0 wi1:TI)(s0:St->St)(g0 g1:TG)(tc:TT)(te:TE):TE:=λZ H Q=>wi0 Z H λJ0 H1=>b0u wi1 (s0 Z) g0 g1 tc te Q J0 H1
theorem aq5(one:One cs)(hc:X.calm=true)(S:CSc X aB cl ts fr ix)(hi0:PI X t0 i0 wi0)
  (hg0:∀C fp s H,PG (cxC X (ts++fr) aB cl C fp s H) t0 g0) (hi1:∀C fp s H,PI (cxC X (ts++fr) aB cl C fp s H) t1 i1 wi1) (hg1:∀C fp s H,PG (cxC X (ts++fr) aB cl C fp s H) t1 g1) (ht:∀C fp s H,PCn (cxC X (ts++fr) aB cl C fp s H) cs tc) (he:∀C fp s H,PE (cxC X (ts++fr) aB cl C fp s H) aD te)
  (hs0:∀x,foldedSetIterable i0 X.env x=pure x:=by intro _;rfl) (hs1:∀env x,foldedSetIterable i1 env x=pure x:=by intro _ _;rfl)
  (use:Option (Value->Sem Unit)) (I:Inv X aA Z H s) (h:avu wi0 wi1 (qi ts.length ix) g0 g1 tc te Z H Q) (fin:a4e X aA Z use Q Qf) :
  wpAny (model X.prog X.w) X.A (comprehension (.ListComp aD [⟨t0,i0,[],0⟩,⟨t1,i1,cs,0⟩] aB pos) aB X.env ppos (newList []) false (eval i0 X.env) use) Qf X.xe s:=by
 refine wpAny_comprehension_free (use:=use) rfl hs0 S.clos S.kind S.names (thn (hi0 aA s Z H _ I h) λv s1 h1=>thn h1 λitv s2 h2=>?_);obtain⟨it,fp,tn,J,H2,e,I2,T,st2,f2,W,⟨m0,w0⟩,turn⟩:=h2;subst e;have hob:∀b∈fp,b<s2.heap.objs.size:=λb hb=>let ⟨o,e,_⟩:=T.obj _ _ st2 b hb;Heap.lt_size e;refine wpAny_newObj_type (afb S.own S.push S.kind λh4 hns4 hc4 hsb4=>?_);dsimp only at hns4 hc4 hsb4 ⊢
 generalize hH2:s2.heap.push {cls:=.type "list",dict:=none,data:=.seq ([]:List Value).toArray}=G at hns4 hc4 hsb4 ⊢
 have hCs:G.objs.size=s2.heap.objs.size+1:=by rw[<-hH2,Heap.size_push]
 have hCle:s2.heap.objs.size<=G.objs.size:=by omega
 have hne:G.objs.size≠s2.heap.objs.size:=by omega
 have old:∀b o,s2.heap.get? b=some o->h4.get? b=some o:=λb o e=>by
  exact hsb4 b o (hH2 ▸ Heap.get?_push_of_some _ e)
 have hacc:LiA s2.heap.objs.size [] h4:=⟨[],0,hsb4 _ _ (hH2 ▸ Heap.get?_push_size _ rfl),.nil,Nat.zero_le _⟩;have K0:Inv (cxC X (ts++fr) aB cl G.objs.size fp s2 H2) [] (qi ts.length ix Z) H2 {s2 with heap:=h4} :=
  afe S I2 f2 hob hCle old hns4 hc4 rfl rfl
 have st4:tn 0 h4:=T.keep _ _ _ st2 λb _ o e=>old b o e;have accF:s2.heap.objs.size∉fp:=λz=>Nat.lt_irrefl _ (hob _ z)
 generalize hY:cxC X (ts++fr) aB cl G.objs.size fp s2 H2=Y at K0
 have Yc:Y.calm=true:=by rw[<-hY];exact hc
 have Yp:Y.prog=X.prog:=by rw[<-hY];rfl
 have Yw:Y.w=X.w:=by rw[<-hY];rfl
 have YK:Y.K=X.K:=by rw[<-hY];rfl
 have YA:Y.A=X.A:=by rw[<-hY];rfl
 have Yn:Y.pn=[]:=by rw[<-hY];rfl
 have Ye:Y.env=compEnvC aB cl G.objs.size X.env:=by rw[<-hY];rfl
 have Yx:Y.xe=λ_ _=>False:=by rw[<-hY];rfl
 have YG0:PG Y t0 g0:=by rw[<-hY];exact hg0 _ _ _ _
 have YG1:PG Y t1 g1:=by rw[<-hY];exact hg1 _ _ _ _
 have YI1:PI Y t1 i1 wi1:=by rw[<-hY];exact hi1 _ _ _ _
 have YT:PCn Y cs tc:=by rw[<-hY];exact ht _ _ _ _
 have YE:PE Y aD te:=by rw[<-hY];exact he _ _ _ _
 have stat:∀{H':Hp},(∀b∈fp,H' b=none)->∀b∈fp,FpOk Y [] H' b:=λhn b hb=>by
  rw[<-hY];exact atl (a9d S I2 f2 hob hCle) rfl (hn b hb) hb
 have statA:∀{H':Hp},H' s2.heap.objs.size=none->FpOk Y [] H' s2.heap.objs.size:=λhn=>by
  rw[<-hY];exact alw (a9d S I2 f2 hob hCle) rfl hn rfl (Ne.symm hne) λx c e=>afg I2 (S.sub x c e)
 generalize hacca:s2.heap.objs.size=ac at hacc accF statA hne hCle
 have loop:∀s4:Shared,s4={s2 with heap:=h4}->
   codeAny (model X.prog X.w) X.A (.compLoop (.ListComp aD [⟨t0,i0,[],0⟩,⟨t1,i1,cs,0⟩] aB pos) 0 (.ref it) (.ref ac) (compEnvC aB cl G.objs.size X.env))
    (compPost (model X.prog X.w) X.A X.xe use Qf (.ref ac) G.objs.size) s4:=by
  rintro s4 rfl
  refine ab6 (λn s'=>∃i Z' H' ks,Inv Y [] Z' H' s'/\Ext (qi ts.length ix Z) Z'/\tn i s'.heap/\(∀b∈fp,H' b=none)/\H' ac=none /\
   LiA ac ks s'.heap/\W i n ks H') ?_ m0
   ⟨0,_,H2,[],K0,⟨rfl,λ_ _ z=>z⟩,st4,λb hb=>(f2 b hb).1,I2.hok.fresh (by omega),hacc,w0⟩
  rintro n s5 ⟨i,Z5,H5,ks,I5,x5,st5,fr5,fa5,ac5,w5⟩
  have I5':Inv Y [] (qi ts.length ix Z) H5 s5:=I5.weak x5.1.symm x5.2;have hao:∃o,s5.heap.get? ac=some o/\∀v,o.data≠.cell v:=by
   obtain⟨its,k,ho,_⟩:=ac5;exact⟨_,ho,λv z=>by cases z⟩
  have I5p:Inv Y (xj [ac] s5.heap) (qi ts.length ix Z) H5 s5:=Inv.pinned (aA:=[]) (fp:=[ac]) I5' (λb hb=>by rw[List.mem_singleton.mp hb];exact statA fa5) (λb hb=>by rw[List.mem_singleton.mp hb];exact hao)
  have F5:∀b∈fp,FpOk Y (xj [ac] s5.heap) H5 b:=λb hb=>(stat fr5 b hb).onL Yn (fr5 b hb) (λz=>accF (by rw[List.mem_singleton.mp z]at hb;exact hb))
  obtain⟨ao,hao1,hao2⟩:=hao;have pa:(ac,ao)∈xj [ac] s5.heap:=jw (by simp) hao1
  rcases turn i n ks H5 w5 with⟨stop,qn⟩|⟨go,step⟩
  .rw[<-YA];refine thn (T.done Y Yp Yw YK Yc i _ s5 _ H5 _ I5p F5 st5 stop) λr s6 ⟨hr,I6⟩=>?_;subst hr;have e6:=(I6.pin (ac,ao) (List.mem_append_right _ pa)).1;have S6:LiA ac ks s6.heap:=ac5.keep λo ho=>by rw[hao1]at ho;cases ho;exact e6
   have I6':Inv (cxC X (ts++fr) aB cl G.objs.size fp s2 H2) [] (qi ts.length ix Z) H5 s6:=by rw[hY];exact I6.unpinned'
   obtain⟨m6,hn6,_⟩:=I6'.loc;rw[YA];obtain⟨its6,k6,q6,rv6,hz6⟩:=S6;refine fin ac G.objs.size s6 (upd H5 ac (.lst ks)) m6 hn6 (I2.fpOk (by omega) (by rw[gf hne];exact I6'.free)) (λh' sb=>?_) (qn _ fa5)
   exact comp_back I2 f2 (by omega) (by omega) hne I6' fa5 q6 rv6 hz6 sb
  .rw[<-YA];refine thn (T.item Y Yp Yw YK Yc i _ s5 _ H5 _ I5p F5 st5 go) λr s6 ⟨u,hr,h6⟩=>?_;subst hr;refine thn h6 λ_ s7 ⟨x,H7,I7,r7,y7,st7,fr7⟩=>?_;have fa7:H7 ac=none:=(I7.pin (ac,ao) (List.mem_append_right _ pa)).2.1;have ac7:=(I7.pin (ac,ao) (List.mem_append_right _ pa)).1;have S7:LiA ac ks s7.heap:=ac5.keep λo ho=>by rw[hao1]at ho;cases ho;exact ac7
   have obj7:∀b∈ac::fp,∃o,s7.heap.get? b=some o/\∀v,o.data≠.cell v:=λb hb=>by
    rcases List.mem_cons.mp hb with e|e
    .subst e;exact⟨_,ac7,hao2⟩
    .exact T.obj _ _ st7 b e
   have I7':Inv Y (xj (ac::fp) s7.heap) (qi ts.length ix Z) H7 s7:=by
    refine Inv.pinned (aA:=[]) (fp:=ac::fp) I7.unpinned' (λb hb=>?_) obj7
    rcases List.mem_cons.mp hb with e|e
    .subst e;exact statA fa7
    .exact stat fr7 b e
   rw[<-Ye,<-Yp,<-Yw];refine wpAny_mono (YG0 _ s7 _ H7 x u _ I7' r7 (step x H7 y7)) (λ_ s8 ⟨Z8,H8,I8,x8,q8⟩=>?_) (λ_ _ z=>by rw[Yx]at z;exact z)
   refine wpAny_mono (YI1 _ s8 _ H8 _ I8 q8) (λv8 z4 h8=>wpAny_of_eq (hs1 _ v8) (wpAny_mono h8 (λitv z6 h9=>?_) (λ_ _ z=>by rw[Yx]at z;exact z))) (λ_ _ z=>by rw[Yx]at z;exact z)
   obtain⟨it1,fp1,tn1,J1,H9,e1,I9,T1,st9,f9,V,⟨n0,v0⟩,turn1⟩:=h9;subst e1;have pin9:∀b∈ac::fp,∀o,s7.heap.get? b=some o->z6.heap.get? b=some o/\H9 b=none:=λb hb o e=>by
    obtain⟨z1,z2,_⟩:=I9.pin (b,o) (List.mem_append_right _ (jw hb e));exact⟨z1,z2⟩
   have apart:∀b∈fp1,b∉ac::fp:=λb hb z=>by
    obtain⟨o,e,_⟩:=obj7 b z;exact(f9 b hb).2.2.2.2.2 (b,o) (List.mem_append_right _ (jw z e)) rfl
   have stat1:∀{H':Hp},(∀b∈fp1,H' b=none)->∀b∈fp1,FpOk Y [] H' b:=λhn b hb=>by
    obtain⟨_,k1,k2,k3,k4,_⟩:=f9 b hb;refine⟨hn b hb,k1,k2,k3,k4,λp hp=>?_⟩;rw[Yn]at hp;exact absurd (show p∈([]:List (Addr×Obj)) from hp) (by simp)
   have S9:LiA ac ks z6.heap:=S7.keep λo ho=>(pin9 ac (by simp) o ho).1
   have inner:codeAny (model Y.prog Y.w) Y.A (.compLoop (.ListComp aD [⟨t0,i0,[],0⟩,⟨t1,i1,cs,0⟩] aB pos) 1 (.ref it1) (.ref ac) Y.env)
     (λr z7=>∃f,r=.ok f/\∃m',m'<n/\∃i Z' H' ks,Inv Y [] Z' H' z7/\Ext (qi ts.length ix Z) Z'/\tn i z7.heap/\(∀b∈fp,H' b=none)/\H' ac=none/\LiA ac ks z7.heap/\W i m' ks H') z6:=by
    refine adu one (λn s'=>∃j Z' H' ks,Inv Y [] Z' H' s'/\Ext Z8 Z'/\tn1 j s'.heap/\(∀b∈fp1,H' b=none)/\(∀b∈fp,∀o,s7.heap.get? b=some o->s'.heap.get? b=some o/\H' b=none)/\H' ac=none/\LiA ac ks s'.heap/\V j n ks H') ?_ n0
     ⟨0,_,H9,ks,I9.unpinned',⟨rfl,λ_ _ z=>z⟩,st9,λb hb=>(f9 b hb).1,λb hb=>pin9 b (List.mem_cons_of_mem _ hb),(pin9 ac (by simp) _ ac7).2,S9,v0⟩
    rintro k a5 ⟨j,τ5,G5,ks5,Q5,y5,t5,e5,o5,c5,d5,v5⟩
    have Q5':Inv Y [] Z8 G5 a5:=Q5.weak y5.1.symm y5.2;have fp5:∀b∈fp,G5 b=none:=λb hb=>by
     obtain⟨o,e,_⟩:=T.obj _ _ st7 b hb;exact(o5 b hb o e).2
    have dob:∃o,a5.heap.get? ac=some o/\∀v,o.data≠.cell v:=by
     obtain⟨its,k,ho,_⟩:=d5;exact⟨_,ho,λv z=>by cases z⟩
    have objs:∀b∈ac::fp,∃o,a5.heap.get? b=some o/\∀v,o.data≠.cell v:=λb hb=>by
     rcases List.mem_cons.mp hb with e|e
     .subst e;exact dob
     .obtain⟨o,e',d⟩:=T.obj _ _ st7 b e;exact⟨o,(o5 b e o e').1,d⟩
    have Q5p:Inv Y (xj (ac::fp) a5.heap) Z8 G5 a5:=by
     refine Inv.pinned (aA:=[]) (fp:=ac::fp) Q5' (λb hb=>?_) objs
     rcases List.mem_cons.mp hb with e|e
     .subst e;exact statA c5
     .exact stat fp5 b e
    have FF:∀b∈fp1,FpOk Y (xj (ac::fp) a5.heap) G5 b:=λb hb=>(f9 b hb).onL Yn (e5 b hb) (apart b hb);obtain⟨bo,hbo1,hbo2⟩:=dob;have keep6:∀{G6:Hp} {τ:St} {a6:Shared} {P:List (Addr×Obj)},Inv Y (xj (ac::fp) a5.heap++P) τ G6 a6->(∀b∈fp,∀o,s7.heap.get? b=some o->a6.heap.get? b=some o/\G6 b=none)/\G6 ac=none/\LiA ac ks5 a6.heap:=λ{G6 τ a6 P} I6=>by
     refine⟨λb hb o e=>?_,?_,?_⟩
     .obtain⟨z1,z2,_⟩:=I6.pin (b,o) (List.mem_append_right _ (List.mem_append_left _ (jw (List.mem_cons_of_mem _ hb) (o5 b hb o e).1)));exact⟨z1,z2⟩
     .exact(I6.pin (ac,bo) (List.mem_append_right _ (List.mem_append_left _ (jw (by simp) hbo1)))).2.1
     .exact d5.keep λo ho=>by
       rw[hbo1]at ho;cases ho
       exact(I6.pin (ac,bo) (List.mem_append_right _ (List.mem_append_left _ (jw (by simp) hbo1)))).1
    rcases turn1 j k ks5 G5 v5 with⟨stop1,m',hm',w6⟩|⟨go1,step1⟩
    .refine thn (T1.done Y rfl rfl rfl Yc j _ a5 _ G5 _ Q5p FF t5 stop1) λr a6 ⟨hr,Q6⟩=>?_;subst hr;obtain⟨kk1,kk2,kk3⟩:=keep6 (P:=[]) (by rw[List.append_nil];exact Q6)
     refine⟨_,rfl,m',hm',i+1,Z8,G5,ks5,Q6.unpinned',x8,?_,fp5,c5,kk3,w6⟩;exact T.keep _ _ _ st7 λb hb o e=>(kk1 b hb o e).1
    .refine thn (T1.item Y rfl rfl rfl Yc j _ a5 _ G5 _ Q5p FF t5 go1) λr a6 ⟨u1,hr,h6'⟩=>?_;subst hr;refine thn h6' λ_ a7 ⟨y,G7,Q7,ry,yy,t7,e7⟩=>?_;obtain⟨p1,p2,p3⟩:=keep6 (P:=[]) (by rw[List.append_nil];exact Q7)
     have Q7p:Inv Y (xj (ac::fp) a5.heap++xj fp1 a7.heap) Z8 G7 a7:=by
      refine Inv.pinned (fp:=fp1) Q7 (λb hb=>(f9 b hb).onL Yn (e7 b hb) (apart b hb)) (T1.obj _ _ t7)
     refine wpAny_mono (YG1 _ a7 _ G7 y u1 _ Q7p ry (step1 y G7 yy)) (λ_ a8 ⟨τ8,G8,Q8,z8,q8'⟩=>?_) (λ_ _ z=>by rw[Yx]at z;exact z)
     refine wpAny_mono (YT _ a8 _ G8 _ Q8 q8') (λok b8 ⟨G8',Q8',q9⟩=>?_) (λ_ _ z=>by rw[Yx]at z;exact z)
     cases ok with
     |false =>
      rw[if_neg Bool.false_ne_true]at q9 ⊢;obtain⟨n',hn',v9⟩:=q9;obtain⟨r1,r2,r3⟩:=keep6 Q8';refine⟨n',hn',j+1,τ8,G8',_,Q8'.unpinned',z8,?_,?_,r1,r2,r3,v9⟩
      .exact T1.keep _ _ _ t7 λb hb o e=>(Q8'.pin (b,o) (List.mem_append_right _ (List.mem_append_right _ (jw hb e)))).1
      .intro b hb
       obtain⟨o,e,_⟩:=T1.obj _ _ t7 b hb;exact(Q8'.pin (b,o) (List.mem_append_right _ (List.mem_append_right _ (jw hb e)))).2.1
     |true =>
      rw[if_pos rfl]at q9 ⊢;refine wpAny_mono (YE _ b8 _ G8' _ Q8' q9) (λyv a9 ⟨z,G9,Q9,rz,few,n',hn',v9⟩=>?_) (λ_ _ z=>by rw[Yx]at z;exact z)
      obtain⟨r1,r2,its,k5,ac9,rv5,hz5⟩:=keep6 Q9;have hl:=rv5.length;refine call_meets F.slot_list_append ⟨_,ac9,rfl⟩ F.entry_list_append (F.args_list_append_2 _ _) (PySem.list_append ac its.toArray k5 yv (by rw[List.size_toArray];omega)) ⟨ac9,?_⟩
      have q:=PySem.IsL.update ac9 (λa=>a.push yv);have qo:∀b o,b≠ac->a9.heap.get? b=some o->(a9.heap.update ac (Obj.mapSeq (λa=>a.push yv))).get? b=some o:=λb o hb e=>(Heap.get?_update_other a9.heap _ (Ne.symm hb)).trans e;obtain⟨k9,q9'⟩:∃k,(a9.heap.update ac (Obj.mapSeq (λa=>a.push yv))).get? ac=some {cls:=.type "list",data:=.seq (its++[yv]).toArray k}:=⟨_,by rw[q];simp;rfl⟩
      obtain⟨a0,a1,a2,a3,a4,a5'⟩:=statA (show G9 ac=none from r2)
      have nac:∀b∈fp,b≠ac:=λb hb z=>accF (z ▸ hb);have nac1:∀b∈fp1,b≠ac:=λb hb z=>apart b hb (by rw[z];simp)
      refine⟨n',hn',j+1,τ8,G9,_,(Q9.unpinned').turned qo a0 a1 a3 a4 a5',z8,?_,?_,?_,r2,⟨_,k9,q9',rv5.append (.cons rz .nil),by rw[List.length_append,List.length_singleton];omega⟩,v9⟩
      .exact T1.keep _ _ _ t7 λb hb o e=>qo b o (nac1 b hb) (Q9.pin (b,o) (List.mem_append_right _ (List.mem_append_right _ (jw hb e)))).1
      .intro b hb
       obtain⟨o,e,_⟩:=T1.obj _ _ t7 b hb;exact(Q9.pin (b,o) (List.mem_append_right _ (List.mem_append_right _ (jw hb e)))).2.1
      .intro b hb o e
       obtain⟨z1,z2⟩:=r1 b hb o e;exact⟨qo b o (nac b hb) z1,z2⟩
   exact ab5 inner (T1.self _ 0 _ _ _ st9 inner)
 exact a9r (loop _ rfl) (T.self _ 0 _ _ _ st4 (loop _ rfl))
end
end L2
namespace MI
open L2
open Classical in
noncomputable def agy(ck:Hd->Prop)(c:ST)(fe:SE)(x:D)(rd:Sd):List D->List D->Hd->R (List D)
 |[],zs,h=>if ck h then .ok zs h else .no
 |y::ys,zs,h=>if ck h then (c (some x::some y::rd) h).bind λb h1=>if b=true then ((fe (some x::some y::rd) h1).bind λd h2=>if zs.length+1<=LINE then agy ck c fe x rd ys (zs++[d]) h2 else .no) else agy ck c fe x rd ys zs h1 else .no
open Classical in
noncomputable def a6f(ck:Hd->Prop)(fj:SI)(c:ST)(fe:SE)(rd:Sd):List D->List D->Hd->R (List D)
 |[],zs,h=>if ck h then .ok zs h else .no
 |x::xs,zs,h=>if ck h then (fj (some x::none::rd) h).bind λjt h1=>(agy jt.ck c fe x rd jt.xs zs h1).bind λzs1 h2=>a6f ck fj c fe rd xs zs1 h2 else .no
noncomputable def agz(fi fj:SI)(c:ST)(fe:SE)(ix:List Nat):SE:=λτ h=>(fi τ h).bind λit h1=>(a6f it.ck fj c fe (frs' ix τ) it.xs [] h1).bind (a8s [])
noncomputable def amg:ST:=λ_ h=>.ok true h
theorem azt{K:Fg}{E:XD}{J:It}{jt:Itm}{c:ST}{fe:SE}{x:D}{vx:V}{r:St}{rd:Sd}{k1:List D->Hd->R D}{U0:List Addr}{H0:Hp}{h0:Hd}{Q:VK}{M:List V->Hp->Prop}{ks0:List V}{zs0:List D}
  (ir:ajf K U0 H0 J jt) (rx:Rep K U0 H0 vx x) (S:SRep K U0 H0 r rd) (Rh:HRep K U0 H0 h0) (rz:Reps K U0 H0 ks0 zs0) (o:out K E (xm K) U0 H0 ((agy jt.ck c fe x rd jt.xs zs0 h0).bind k1) Q)
  (fin:∀ks zs U H h,Gr U0 H0 U H->HRep K U H h->Reps K U H ks zs->out K E (xm K) U H (k1 zs h) Q->M ks H) :
  ∃V':Nat->Nat->List V->Hp->Prop,(∃n,V' 0 n ks0 H0)/\∀j n ks H,V' j n ks H->
   (J.stop j H/\M ks H) \/
   (J.go j H/\∀y H',J.yld j H y H'->a1w 1 y (some vx::none::r) H' λZ3 H4=>L2.Ext (some vx::none::r) Z3/\lift K E aec c Z3 H4 λok H4'=>if ok=true then lift K E (xm K) fe Z3 H4' (λz H5=>ks.length<sizeLine/\∃n',n'<n/\V' (j+1) n' (ks++[z]) H5) else ∃n',n'<n/\V' (j+1) n' ks H4'):=by
 refine⟨λj n ks H=>n=jt.xs.length-j/\j<=jt.xs.length/\∃U h zs,Gr U0 H0 U H/\HRep K U H h/\Reps K U H ks zs/\out K E (xm K) U H ((agy jt.ck c fe x rd (jt.xs.drop j) zs h).bind k1) Q,⟨_,rfl,Nat.zero_le _,U0,h0,zs0,.refl _ _,Rh,rz,o⟩,?_⟩
 rintro j n ks H ⟨rfl,hj,U,h,zs,g0,Rh,rz,o⟩
 by_cases hlt:j<jt.xs.length
 .rw[List.drop_eq_getElem_cons hlt,agy]at o
  by_cases hc:jt.ck h
  .rw[if_pos hc,R.bind_assoc]at o;obtain⟨go,yl⟩:=(ir U H h g0 Rh hc).1 j _ (List.getElem?_eq_getElem hlt);refine .inr ⟨go,λy H' yy=>?_⟩;obtain⟨g1,r1,hr1⟩:=yl y H' yy;have o':=a0e o g1;have st:∀{U':List Addr} {H'':Hp},Gr U H' U' H''->SRep K U' H'' (some vx::some y::r) (some x::some jt.xs[j]::rd):=λg=>zp ((rx.mono (g0.trans g1)).mono g) (zp (r1.mono g) ((S.mono (g0.trans g1)).mono g));refine⟨⟨rfl,λi v e=>?_⟩,U,some x::some jt.xs[j]::rd,h,st (.refl _ _),hr1,bw o' λok h1 U1 H1 u g2 r2 hr2 o2=>?_⟩
   .match i,e with
    |0,e=>exact e
    |1,e=>simp at e
    |i+2,e=>simpa using e
   .have r2:u=ok:=r2;subst r2
    cases u with
    |false =>
     rw[if_neg Bool.false_ne_true]at o2 ⊢;exact⟨jt.xs.length-(j+1),by omega,rfl,hlt,U1,h1,zs,(g0.trans g1).trans g2,hr2,rz.mono (g1.trans g2),o2⟩
    |true =>
     rw[if_pos rfl]at o2 ⊢;rw[R.bind_assoc]at o2;refine⟨U1,_,h1,st g2,hr2,bw o2 λd h2 U2 H2 z g3 r3 hr3 o3=>?_⟩
     by_cases h6:zs.length+1<=LINE
     .rw[if_pos h6]at o3;have few:ks.length<sizeLine:=by have:=ll h6;rw[<-rz.len]at this;omega
      exact⟨few,jt.xs.length-(j+1),by omega,rfl,hlt,U2,h2,zs++[d],((g0.trans g1).trans g2).trans g3,hr3,(rz.mono ((g1.trans g2).trans g3)).app (.cons r3 .nil),o3⟩
     .rw[if_neg h6]at o3;exact o3.elim
  .rw[if_neg hc]at o;exact o.elim
 .have e:j=jt.xs.length:=by omega
  subst e;rw[List.drop_eq_nil_of_le (Nat.le_refl _),agy]at o
  by_cases hc:jt.ck h
  .rw[if_pos hc]at o;exact .inl ⟨(ir U H h g0 Rh hc).2,fin ks zs U H h g0 Rh rz o⟩
  .rw[if_neg hc]at o;exact o.elim
theorem avv{K:Fg}{E:XD}{J:It}{it:Itm}{fj:SI}{c:ST}{fe:SE}{r:St}{rd:Sd}{U0:List Addr}{H0:Hp}{h0:Hd}{Q:VK}
  (ir:ajf K U0 H0 J it) (S:SRep K U0 H0 r rd) (Rh:HRep K U0 H0 h0) (o:out K E (xm K) U0 H0 ((a6f it.ck fj c fe rd it.xs [] h0).bind (a8s [])) Q) :
  b0u (lift K E (arf K) fj) (List.replicate 2 none++r) (a1w 0) (a1w 1) (lift K E aec c) (lift K E (xm K) fe) Q J H0:=by
 refine⟨λi m ks H=>m=it.xs.length-i/\i<=it.xs.length/\∃U h zs,Gr U0 H0 U H/\HRep K U H h/\Reps K U H ks zs/\out K E (xm K) U H ((a6f it.ck fj c fe rd (it.xs.drop i) zs h).bind (a8s [])) Q,⟨_,rfl,Nat.zero_le _,U0,h0,[],.refl _ _,Rh,.nil,o⟩,?_⟩
 rintro i m ks H ⟨rfl,hi,U,h,zs,g0,Rh,rz,o⟩
 by_cases hlt:i<it.xs.length
 .rw[List.drop_eq_getElem_cons hlt,a6f]at o
  by_cases hc:it.ck h
  .rw[if_pos hc,R.bind_assoc]at o;obtain⟨go,yl⟩:=(ir U H h g0 Rh hc).1 i _ (List.getElem?_eq_getElem hlt);refine .inr ⟨go,λx H' y=>?_⟩;obtain⟨g1,r1,hr1⟩:=yl x H' y;have o':=a0e o g1;refine⟨⟨rfl,λk v e=>?_⟩,U,some it.xs[i]::none::rd,h,zp r1 ?_,hr1,bw o' λjt h1 U1 H1 J1 g2 r2 hr2 o2=>?_⟩
   .match k,e with
    |0,e=>simp at e
    |1,e=>simp at e
    |k+2,e=>simpa using e
   .have S':=S.mono (g0.trans g1);refine⟨by simp[S'.len],λk d e=>?_⟩
    cases k with
    |zero=>simp at e
    |succ k=>simpa using S'.val k d (by simpa using e)
   .rw[R.bind_assoc]at o2;refine azt (k1:=λks1 h2=>(a6f it.ck fj c fe rd (it.xs.drop (i+1)) ks1 h2).bind (a8s [])) r2 (r1.mono g2) (S.mono ((g0.trans g1).trans g2)) hr2 (rz.mono (g1.trans g2)) o2 λks' zs' U3 H3 h3 g3 hr3 rz3 o3=>?_;exact⟨it.xs.length-(i+1),by omega,rfl,hlt,U3,h3,zs',((g0.trans g1).trans g2).trans g3,hr3,rz3,o3⟩
  .rw[if_neg hc]at o;exact o.elim
 .have e:i=it.xs.length:=by omega
  subst e;rw[List.drop_eq_nil_of_le (Nat.le_refl _),a6f]at o
  by_cases hc:it.ck h
  .rw[if_pos hc]at o;have o1:out K E (xm K) U H (.ok (.ref h.length) (h++[.lst ([]++zs)])) Q:=o;rw[List.nil_append]at o1;exact .inl ⟨(ir U H h g0 Rh hc).2,vo (E:=E) rz Rh o1⟩
  .rw[if_neg hc]at o;exact o.elim
section
variable{X:Cx}{E:XD}{aD t0 i0 t1 i1 cn:Expr}{aB:Scope}{pos:Pos}{cl:List (Str×Addr)}{a b:Str}{fr:List Str}{ix:List Nat}{fi fj:SI}{fe:SE}{c:ST}
theorem aq6{Z:St}{H:Hp}{Q:VK}(h:lift X.K E (xm X.K) (agz fi fj c fe ix) Z H Q):avu (lift X.K E (arf X.K) fi) (lift X.K E (arf X.K) fj) (qi 2 ix) (a1w 0) (a1w 1) (lift X.K E aec c) (lift X.K E (xm X.K) fe) Z H Q:=by
 obtain⟨U,τ,h,Sr,Rh,o⟩:=h;refine⟨U,τ,h,Sr,Rh,bw o λit h1 U1 H1 J g1 r1 hr1 o1=>?_⟩;exact avv r1 (a5j (Sr.mono g1) ix) hr1 o1
theorem aq7:PCn X [] (lift X.K E aec amg):=λaA s Z H Q I ⟨U,τ,h,_,Rh,o⟩=>avt aA s Z H Q I (o U H true (.refl _ _) rfl Rh)
theorem aq8(hc:X.calm=true)(S:CSc X aB cl [a,b] fr ix)(hi:MI X E t0 i0 fi)
  (hg0:∀C fp s H,PG (cxC X ([a,b]++fr) aB cl C fp s H) t0 (a1w 0)) (hj:∀C fp s H,MI (cxC X ([a,b]++fr) aB cl C fp s H) E t1 i1 fj) (hg1:∀C fp s H,PG (cxC X ([a,b]++fr) aB cl C fp s H) t1 (a1w 1)) (he:∀C fp s H,ME (cxC X ([a,b]++fr) aB cl C fp s H) E aD fe)
  (hs0:∀x,foldedSetIterable i0 X.env x=pure x:=by intro _;rfl) (hs1:∀env x,foldedSetIterable i1 env x=pure x:=by intro _ _;rfl) :
  ME X E (.ListComp aD [⟨t0,i0,[],0⟩,⟨t1,i1,[],0⟩] aB pos) (agz fi fj amg fe ix):=by
 intro aA s Z H Q I h
 rw[eval_ListComp];exact aq5 (.inl rfl) hc S hi hg0 hj hg1 (λ_ _ _ _=>aq7) he hs0 hs1 none I (aq6 h) abv
end
end MI
namespace MI
open L2 ZP
noncomputable def ah0(x y:D)(h:Hd):R D:=match am9 x y h with
 |some r=>.ok (r.getD .non) h
 |none=>.no
noncomputable def ah1(f g:SE):SE:=λτ h=>(f τ h).bind λx h1=>match x with
 |.rod _ _=>(g τ h1).bind λy h2=>ah0 x y h2
 |.rdT _ _=>(g τ h1).bind λy h2=>ah0 x y h2
 |_=>.no
theorem aq9{X:Cx}(hu:X.A.units+64<cLine)(ha:ME X E o f)(hb:ME X E e g)(m:M1 X o "get" apos e cpos):ME X E (.Call (.Attribute o "get" apos) [e] [] cpos) (ah1 f g):=by
 refine PE.weak (aj5 (u1 hu) ha hb m) ?_
 rintro Z H Q ⟨U,τ,h,S,Rh,o⟩
 refine⟨U,τ,h,S,Rh,bw o λd h1 U1 H1 v g1 r1 hr1 o1=>?_⟩;have go:∀{a:Addr} {dd:D},IsD H1 a->Rep X.K U1 H1 (.ref a) dd->out X.K E (xm X.K) U1 H1 ((g τ h1).bind λy h2=>ah0 dd y h2) Q->∃a',V.ref a=V.ref a'/\IsD H1 a'/\lift X.K E (xm X.K) g Z H1 λy H2=>∃o,aeb H2 a' y o/\Q (o.getD V.non) H2:=λ{a dd} isd r1 o1=>⟨a,rfl,isd,U1,τ,h1,S.mono g1,hr1,bw o1 λd2 h2 U2 H2 u g2 r2 hr2 o2=>by
  have r1':=r1.mono g2;unfold ah0 at o2
  split at o2
  .rename_i r e;obtain⟨a',ea,q⟩:=a84 r1' r2 hr2 e;cases ea
   cases r with
   |none=>exact⟨none,q,ans o2 .non hr2⟩
   |some d=>obtain⟨w,q1,q2⟩:=q;exact⟨some w,q1,ans o2 q2 hr2⟩
  .exact o2.elim⟩
 cases r1 with
 |@rod a ob us ks xs hp ek rs=>exact go (.inl ⟨us,.inr ⟨ob,hp⟩⟩) (.rod hp ek rs) o1
 |@rdT a ob us ks xs hp ek rs=>exact go (.inr ⟨us,.inr ⟨ob,hp⟩⟩) (.rdT hp ek rs) o1
 |_=>exact o1.elim
end MI
namespace MI
open L2
section
variable{env:Env}{es xs ys:List Expr}{a b:Expr}{pos:Pos}
theorem adv{c}{k}:starEach (.Constant c k pos::es) env=(false,eval (.Constant c k pos) env)::starEach es env:=rfl
theorem ah2:starEach (.List xs pos::es) env=(false,eval (.List xs pos) env)::starEach es env:=rfl
theorem adw{k}:starEach (.Tuple xs k pos::es) env=(false,eval (.Tuple xs k pos) env)::starEach es env:=rfl
theorem aqa{o}:starEach (.UnaryOp o a pos::es) env=(false,eval (.UnaryOp o a pos) env)::starEach es env:=rfl
theorem akn{o}:starEach (.BinOp a o b pos::es) env=(false,eval (.BinOp a o b pos) env)::starEach es env:=rfl
theorem ah3{ks}:starEach (.Dict ks ys pos::es) env=(false,eval (.Dict ks ys pos) env)::starEach es env:=rfl
theorem ah4{ks}:starEach (.Call a xs ks pos::es) env=(false,eval (.Call a xs ks pos) env)::starEach es env:=rfl
theorem ah5{x}:starEach (.Name x pos::es) env=(false,eval (.Name x pos) env)::starEach es env:=rfl
end
section
variable{env:Env}{es xs ys:List Expr}{a b:Expr}{pos:Pos}
theorem ah6:starEach (.Subscript a b pos::es) env=(false,eval (.Subscript a b pos) env)::starEach es env:=rfl
end
end MI
namespace L2
open PyProof.Rows
section
variable{X:Cx}{aA:List (Addr×Obj)}{s:Shared}{Z:St}{H:Hp}{A:Around}{E:Value->Shared->Prop}
theorem avw{Q:Value->Shared->Prop}{a:Addr}{kvs:List (List Key×V)}(I:Inv X aA Z H s)(e:Rd H a (.dT kvs))(h:∀t s',Inv X aA Z H s'->Q (.int kvs.length t) s'):wpAny (model X.prog X.w) A (call (.builtin "len") [.ref a]) Q E s:=by
 obtain⟨z,hd,xs,rel,dd⟩:=a99 I.hok e;have lx:kvs.length=xs.length:=Paired.length rel;obtain⟨o,es,ep,ho,hc,hdat,he,_⟩:=dd;have les:es.size=xs.length:=by rw[<-Array.length_toList,he,List.length_map]
 have hn:=a3j;refine call_len_slot (T := "dict") (n:=(kvs.length:Int)) ⟨o,ho,hc.1⟩ F.slot_dict_len (λQ' h'=>?_) (by omega) (by omega) (h _ _ (I.tok _))
 refine call_meetsIn (S:=λ_ R s'=>s'=s/\R (.ok (.ret (.int kvs.length s.toks))) {s with toks:=s.toks+1}) F.slot_dict_len ⟨o,ho,hc.1⟩ F.entry_dict_len (F.args_dict_len_1 _) (.of_wp λA' R s' ⟨es',hr⟩=>?_) ⟨rfl,h'⟩
 subst es';show wpAny _ _ (dictSize a>>=_) _ _ _;unfold dictSize;refine wpAny_bind (wpAny_bind (wpAny_dictEntries ho hdat (wpAny_pure ?_)));show wpAny _ _ (Builtin.Dict.pendingCount a>>=_) _ _ _;refine wpAny_bind (wpAny_pendingCount_other hd (wpAny_ret_mkInt ?_));rw[Nat.add_zero,les,<-lx];exact hr
end
theorem adx{X:Cx}:CallR X (.builtin "len") (λxs H Q=>∃a,xs=[.ref a]/\((∃kvs,Rd H a (.dK kvs)/\Q (.int kvs.length) H)\/∃kvs,Rd H a (.dT kvs)/\Q (.int kvs.length) H)):=by
 intro aA s Z H xs us Q I r h
 obtain⟨a,rfl,h⟩:=h;obtain⟨u,rfl,rx⟩:=vals1 r;cases rx
 rcases h with⟨kvs,e,q⟩|⟨kvs,e,q⟩
 .exact az6 I e λt s' I'=>⟨.int kvs.length,H,I',⟨t,rfl⟩,q⟩
 .exact avw I e λt s' I'=>⟨.int kvs.length,H,I',⟨t,rfl⟩,q⟩
end L2
namespace MI
open L2
noncomputable def amh:SE:=λ_ h=>.ok (.ref h.length) (h++[.dT []])
theorem ako{X:Cx}{E:XD}{pos:Pos}:ME X E (.Dict [] [] pos) amh:=by
 refine PE.weak aj3 λZ H Q ⟨U,τ,h,S,Rh,o⟩=>λp hp=>?_;exact o (U++[p]) _ _ (a9f hp _) (.ref (by rw[List.getElem?_append_right (by rw[Rh.len];exact Nat.le_refl _),Rh.len];simp)) (Rh.add hp ⟨[],lw,rfl,.nil⟩)
noncomputable def a89:List D->Hd->R D
 |[.ref i],h=>(match h[i]? with|some (.dK kvs)=>.ok (.int kvs.length) h|some (.dT kvs)=>.ok (.int kvs.length) h|_=>.no)
 |_,_=>.no
theorem akp{K:Fg}:adi K a89 (λxs H Q=>∃a,xs=[.ref a]/\((∃kvs,Rd H a (.dK kvs)/\Q (.int kvs.length) H)\/∃kvs,Rd H a (.dT kvs)/\Q (.int kvs.length) H)):=by
 intro E U H h xs ds Q r hr o
 cases r with
 |nil=>exact o.elim
 |cons r rs =>
  cases rs with
  |cons _ _=>exact(show False by cases r<;>exact o).elim
  |nil =>
   cases r with
   |@ref p j hp =>
    obtain⟨ob,e1,e2⟩:=hr.at hp
    cases ob with
    |dK kvs=>simp only[a89,e1]at o;obtain⟨us,h3,h4⟩:=e2;exact⟨p,rfl,.inl ⟨us,.inl h3,by rw[show us.length=kvs.length by simpa using congrArg List.length h4.1];exact ans o (.int _) hr⟩⟩
    |dT kvs=>simp only[a89,e1]at o;obtain⟨us,h3,h4⟩:=e2;exact⟨p,rfl,.inr ⟨us,.inl h3,by rw[show us.length=kvs.length by simpa using congrArg List.length h4.1];exact ans o (.int _) hr⟩⟩
    |lst _=>simp only[a89,e1]at o;exact o.elim
    |ins _ _=>simp only[a89,e1]at o;exact o.elim
   |_=>exact o.elim
theorem ami{h:Hd}{i:Nat}{kvs:List (List Key×D)}(e:h[i]? = some (.dT kvs)):a89 [.ref i] h=.ok (.int kvs.length) h:=by unfold a89;simp only[e]
end MI
namespace K30
open L2 MI
noncomputable def a0k:SE :=
 (sA uc (aa (sV 0) (aa (sV 1) au)))
noncomputable def zy:SS :=
 (cj (j7 1 (sA m9 (aa (s2 gIx (sV 0) (sI 1)) au)))
 (mq (agz (sRg a0a (aa (sV 1) au)) (sRg a1c (aa (s2 dw (sV 0) (sI 1)) (aa (sV 2) au))) amg a0k [1])))
noncomputable def yp(jf:SF)(dq:SF)(iy:SF)(bx:SF)(iw:SF):SE :=
 (sA (dj false 2 dq) (aa (s2 gIx (sV 1) (sI 0)) (aa (sV 0) au)))
noncomputable def yq(jf:SF)(dq:SF)(iy:SF)(bx:SF)(iw:SF):SE :=
 (sA (dj false 3 bx) (aa (sV 1) (aa (sI 0) (aa (sV 0) au))))
noncomputable def yr(jf:SF)(dq:SF)(iy:SF)(bx:SF)(iw:SF):SE :=
 (sA (dj false 3 iy) (aa (sV 2) (aa (sV 0) (aa (sV 1) au))))
noncomputable def vz(jf:SF)(dq:SF)(iy:SF)(bx:SF)(iw:SF):SS :=
 (cj (j7 3 (sA m9 (aa (s2 gIx (sV 0) (sI 1)) au)))
 (cj (sIf (sOr (a3c (a2h (sA (dj false 3 jf) (aa (sV 1) (aa (sV 3) (aa (sV 3) au)))))) (a3c (a2h (sA aee (aa (sZ (vg (sIt (sV 1)) t1 (yp jf dq iy bx iw) [0])) au)))))
 (mq (sC (.bl false)))
 sNx)
 (cj (sIf (sT (s2 (avo true) (sZ (vg (sIt (sV 1)) t1 (yq jf dq iy bx iw) [0])) (sZ (sA a9n (aa (sV 3) au)))))
 (mq (sC (.bl false)))
 sNx)
 (cj (j7 4 (sA (dj false 1 iw) (aa (sV 0) au)))
 (cj (sIf (a3c (a2h (sA (dj false 3 jf) (aa (sV 2) (aa (sA m9 (aa (sV 4) au)) (aa (sA m9 (aa (sV 4) au)) au))))))
 (mq (sC (.bl false)))
 sNx)
 (mq (sA aee (aa (sZ (vg (aef (sV 4) (sV 2)) (tN 2) (yr jf dq iy bx iw) [0])) au))))))))
noncomputable def a00(qy:SF)(jf:SF)(dq:SF)(bx:SF):SS :=
 (cj (a8r (sV 0) (a3h 3 (jb (kN 3) (jb (kN 4) (jb (kN 5) a3m)))))
 (cj (sIf (sOr (a3c (a2h (sA (dj false 3 jf) (aa (sV 2) (aa (sI 3) (aa (sI 3) au)))))) (sOr (a3c (a2h (sA (dj false 1 qy) (aa (s2 gIx (sV 2) (sI 0)) au)))) (a3c (a2h (sA (dj false 1 qy) (aa (s2 gIx (sV 2) (sI 1)) au))))))
 (mq (sC (.bl false)))
 sNx)
 (cj (sIf (sOr (sT (s2 hNe (a1e (sV 2) oN (oS (sI 2))) (sV 1))) (a3c (a2h (sA (dj false 2 dq) (aa (sV 3) (aa (s2 gIx (sV 2) (sI 2)) au))))))
 (mq (sC (.bl false)))
 sNx)
 (mq (s2 hNe (s2 gIx (sV 5) (sA (dj false 3 bx) (aa (sV 0) (aa (s2 gIx (sV 1) (sI 0)) (aa (s2 gIx (sV 2) (sI 2)) au))))) (s2 gIx (sV 5) (sA (dj false 3 bx) (aa (sV 0) (aa (s2 gIx (sV 1) (sI 1)) (aa (s2 gIx (sV 2) (sI 2)) au))))))))))
noncomputable def a0l(aj:SF):SE :=
 (sV 0)
noncomputable def ul(aj:SF):ST :=
 (sT (s2 hEq (sV 1) (sV 2)))
noncomputable def qb(aj:SF):SS :=
 (cj (j7 7 (sZ (a1x (a3e (sV 3)) (tN 2) (ul aj) (a0l aj) [6])))
 (sIf (sOr (sT (s2 hEq (sA m9 (aa (sV 7) au)) (sI 0))) (adl (sT (s2 gLe (s2 dw (sA m9 (aa (sV 3) au)) (sA m9 (aa (sV 1) au))) (sI 32))) (sT (s2 hEq (sA (dj false 2 aj) (aa (sV 0) (aa (sI 4) au))) (sI 0)))))
 (cj (yf (sML a4b (sV 5) (aa (sA m9 (aa (sV 3) au)) au)))
 (yf (sML a4b (sV 3) (aa (sV 6) au))))
 (yf (sML a4b (sV 5) (aa (s2 gIx (sV 7) (sA (dj false 2 aj) (aa (sV 0) (aa (sA m9 (aa (sV 7) au)) au)))) au)))))
noncomputable def xu(aj:SF):ST :=
 (sT (s2 gLt (sA m9 (aa (sV 4) au)) (sA m9 (aa (sV 3) au))))
noncomputable def xx(aj:SF):SS :=
 (cj (j7 5 (sA a1o au))
 (cj (a2w (sIt (s2 gIx (sV 1) (s2 gIx (sV 3) (sA m9 (aa (sV 4) au))))) (kN 6) (qb aj))
 (yf (sML a4b (sV 4) (aa (sV 5) au)))))
noncomputable def a0m(aj:SF):SE :=
 (s2 gIx (sV 1) (sV 0))
noncomputable def a01(aj:SF):SS :=
 (cj (j7 3 (sA a1o (aa (sI 0) au)))
 (cj (j7 4 (sA a1o au))
 (cj (sWh (xu aj) (xx aj) 100000)
 (mq (sA uc (aa (sV 4) (aa (sZ (vg (sIt (sV 3)) t1 (a0m aj) [2])) au)))))))
noncomputable def yh(jy:SF)(jq:SF)(dz:SF)(qz:SF)(aj:SF)(j9:SF):SS :=
 (cj (j7 1 (sA (dj false 1 j9) (aa (sV 0) au)))
 (cj (j7 2 (s2 dw (sI 1) (sA (dj false 2 aj) (aa (sV 0) (aa (sI 5) au)))))
 (cj (sIf (sT (s2 hEq (sA (dj false 2 aj) (aa (sV 0) (aa (sI 6) au))) (sI 0)))
 (j7 2 (s2 dw (sI 1) (sA (dj false 2 aj) (aa (sV 0) (aa (sI 32) au)))))
 sNx)
 (cj (a8r (sA (dj false 3 qz) (aa (sV 0) (aa (sA (dj false 3 jy) (aa (sV 0) (aa (sA m9 (aa (sV 1) au)) (aa (sV 2) au)))) (aa (sA (dj false 2 jq) (aa (sV 0) (aa (sV 2) au))) au)))) (a3h 2 (jb (kN 3) (jb (kN 4) a3m))))
 (cj (a8r (sA (dj false 3 dz) (aa (sV 0) (aa (sV 3) (aa (sV 4) au)))) (a3h 2 (jb (kN 5) (jb (kN 6) a3m))))
 (mq (sA uc (aa (sV 1) (aa (sV 5) (aa (sV 6) au))))))))))
noncomputable def v7:SS :=
 (j7 1 (s2 gIx (s2 gIx (s2 gIx (sV 0) (sI 1)) (sV 1)) (sMS afz (s2 gIx (sV 0) (sI 0)) (aa (sV 3) au))))
noncomputable def a02:SS :=
 (cj (a2w (sIt (sV 2)) (kN 3) v7)
 (mq (sV 1)))
noncomputable def wu:SS :=
 (sIf (sT (s2 (aae true) (sV 5) (sV 1)))
 (cj (a6s (s2 dw (s2 a5b (sV 1) (s2 gIx (sV 2) (sV 3))) (sV 4)) (sV 1) (sV 5))
 (yf (sML a4b (sV 2) (aa (sV 5) au))))
 sNx)
noncomputable def zf:ST :=
 (sT (s2 gLt (sV 3) (sA m9 (aa (sV 2) au))))
noncomputable def zg:SS :=
 (cj (a2w (aef (s2 gIx (sV 0) (sI 0)) (s2 gIx (s2 gIx (sV 0) (sI 1)) (s2 gIx (sV 2) (sV 3)))) (a3h 2 (jb (kN 4) (jb (kN 5) a3m))) wu)
 (afj 3 a80 (sI 1)))
noncomputable def a3v:SE :=
 (s2 a5b (sV 1) (sV 0))
noncomputable def a0w:SS :=
 (cj (j7 1 (s2 gD1 (sI 0) (sC (.str ""))))
 (cj (j7 2 (sA a1o (aa (sI 0) au)))
 (cj (j7 3 (sI 0))
 (cj (sWh zf zg 100000)
 (mq (vg (sRg a0a (aa (sA m9 (aa (sV 2) au)) au)) t1 a3v [1]))))))
noncomputable def zj:SS :=
 (sIf (sT (s2 (aae false) (sA uc (aa (sA a2q (aa (sV 4) (aa (sV 5) au))) (aa (sA a2p (aa (sV 4) (aa (sV 5) au))) au))) (sV 1)))
 (mq (sC (.bl true)))
 sNx)
noncomputable def a0x:SS :=
 (cj (a2w (aef (s2 gIx (sV 0) (sV 2)) (s2 gIx (sV 0) (sV 3))) (a3h 2 (jb (kN 4) (jb (kN 5) a3m))) zj)
 (mq (sC (.bl false))))
noncomputable def um(bf:SF):SS :=
 (cj (yf (sML a4b (sV 3) (aa (sA uc (aa (sV 4) (aa (sV 5) au))) au)))
 (sIf (sT (s2 hNe (s2 gIx (sV 1) (sV 4)) (s2 gIx (sV 1) (sV 5))))
 (a6s (sI 0) (sV 2) (sA uc (aa (sV 4) (aa (sV 5) au))))
 sNx))
noncomputable def uo(bf:SF):SS :=
 (a2w (sRg a1c (aa (s2 dw (sV 4) (sI 1)) (aa (sA m9 (aa (sV 0) au)) au))) (kN 5) (um bf))
noncomputable def a0n(bf:SF):SE :=
 (sV 0)
noncomputable def uq(bf:SF):ST :=
 (sT (s2 (aae true) (sV 0) (sV 1)))
noncomputable def a0o(bf:SF):SE :=
 (sV 0)
noncomputable def ur(bf:SF):ST :=
 (a2h (sA (dj false 4 bf) (aa (sV 1) (aa (sV 2) (aa (s2 gIx (sV 0) (sI 0)) (aa (s2 gIx (sV 0) (sI 1)) au))))))
noncomputable def yc(bf:SF):SS :=
 (a6s (sV 6) (sV 2) (sV 9))
noncomputable def ye(bf:SF):ST :=
 (sT (s2 gLt (sV 7) (sA a89 (aa (sV 2) au))))
noncomputable def ut(bf:SF):SS :=
 (cj (j7 7 (sA a89 (aa (sV 2) au)))
 (cj (afj 6 a80 (sI 1))
 (cj (j7 3 (a1x (sIt (sV 3)) t1 (uq bf) (a0n bf) [2]))
 (cj (j7 8 (sZ (a1x (sIt (sV 3)) t1 (ur bf) (a0o bf) [0,2])))
 (a2w (sIt (sV 8)) (kN 9) (yc bf))))))
noncomputable def a03(bf:SF):SS :=
 (cj (j7 2 amh)
 (cj (j7 3 (sA a1o au))
 (cj (a2w (sRg a0a (aa (sA m9 (aa (sV 0) au)) au)) (kN 4) (uo bf))
 (cj (j7 6 (sI 0))
 (cj (j7 7 (s1 aab (sI 1)))
 (cj (sWh (ye bf) (ut bf) 100000)
 (mq (sV 2))))))))
noncomputable def pq:SS :=
 (cj (j7 11 (s2 gIx (s2 gIx (sV 5) (sV 2)) (sV 9)))
 (cj (j7 12 (s2 gIx (s2 gIx (sV 5) (sV 3)) (sV 9)))
 (sIf (sT (s2 hEq (ah1 (sV 1) (sA uc (aa (sA a2q (aa (sV 11) (aa (sV 12) au))) (aa (sA a2p (aa (sV 11) (aa (sV 12) au))) au)))) (s2 a6u (sV 8) (sI 1))))
 (cj (j7 7 (s2 dw (sV 7) (sV 10)))
 (cj (j7 2 (sV 11))
 (cj (j7 3 (sV 12))
 sBk)))
 sNx)))
noncomputable def uy:SS :=
 (a2w (a3e (sV 4)) (a3h 2 (jb (kN 9) (jb (kN 10) a3m))) pq)
noncomputable def wy:SS :=
 (cj (a8r (sV 0) (a3h 3 (jb (kN 4) (jb (kN 5) (jb (kN 6) a3m)))))
 (cj (sIf (sT (s2 (aae true) (sA uc (aa (sA a2q (aa (sV 2) (aa (sV 3) au))) (aa (sA a2p (aa (sV 2) (aa (sV 3) au))) au))) (sV 1)))
 (mq (sC .non))
 sNx)
 (cj (j7 7 (sC (.str "")))
 (cj (a2w (sRg ab3 (aa (s2 a5b (sV 1) (sA uc (aa (sA a2q (aa (sV 2) (aa (sV 3) au))) (aa (sA a2p (aa (sV 2) (aa (sV 3) au))) au)))) (aa (sI 0) (aa (s1 aab (sI 1)) au)))) (kN 8) uy)
 (mq (sV 7))))))
noncomputable def yj:SS :=
 (mq (a0q (sA ph (aa (sV 0) (aa (sC (.ty "int")) au))) (a0q (a5a (sA ph (aa (sV 0) (aa (sC (.ty "bool")) au)))) (sCh gLe gLe (sV 1) (sV 0) (sV 2)))))
noncomputable def a04(jy:SF)(jq:SF)(dz:SF)(aj:SF)(j9:SF):SS :=
 (cj (j7 1 (sA (dj false 1 j9) (aa (sV 0) au)))
 (cj (j7 2 (s2 dw (sI 1) (sA (dj false 2 aj) (aa (sV 0) (aa (sI 6) au)))))
 (cj (sIf (sT (s2 hEq (sA (dj false 2 aj) (aa (sV 0) (aa (sI 4) au))) (sI 0)))
 (j7 2 (s2 dw (sI 1) (sA (dj false 2 aj) (aa (sV 0) (aa (sI 32) au)))))
 sNx)
 (cj (a8r (sA (dj false 3 dz) (aa (sV 0) (aa (sA (dj false 3 jy) (aa (sV 0) (aa (sA m9 (aa (sV 1) au)) (aa (sV 2) au)))) (aa (sA (dj false 2 jq) (aa (sV 0) (aa (sV 2) au))) au)))) (a3h 2 (jb (kN 3) (jb (kN 4) a3m))))
 (mq (sA uc (aa (sV 1) (aa (sV 3) (aa (sV 4) au)))))))))
noncomputable def qe(aj:SF)(nu:SF):SS :=
 (cj (j7 6 (sA (dj false 2 aj) (aa (sV 0) (aa (sA m9 (aa (s2 gIx (sV 1) (sI 0)) au)) au))))
 (cj (j7 3 (s2 gIx (s2 gIx (s2 gIx (sV 1) (sI 1)) (sV 3)) (sV 6)))
 (cj (j7 4 (s2 dw (sV 4) (s2 gIx (s2 gIx (sV 1) (sI 0)) (sV 6))))
 (a8q (sV 4) (sV 2) (sV 3)))))
noncomputable def qu(aj:SF)(nu:SF):SS :=
 (cj (j7 2 (sA (dj true 1 nu) (aa (sV 1) au)))
 (cj (j7 3 (sI 0))
 (cj (j7 4 (sC (.str "")))
 (cj (a2w (sRg a0a (aa (sA (dj false 2 aj) (aa (sV 0) (aa (sI 20) au))) au)) (kN 5) (qe aj nu))
 (mq (sA yw (aa (sV 2) au)))))))
noncomputable def m8(di:SF)(jg:SF)(aj:SF):SS :=
 (cj (j7 6 (sA (dj false 2 aj) (aa (sV 0) (aa (sA m9 (aa (s2 gIx (sV 1) (sI 0)) au)) au))))
 (cj (j7 7 (sA (dj false 4 di) (aa (sV 1) (aa (sV 2) (aa (sV 4) (aa (sV 5) au))))))
 (cj (j7 8 (sA (dj false 4 di) (aa (sV 1) (aa (sV 2) (aa (s2 gIx (s2 gIx (s2 gIx (sV 1) (sI 1)) (sV 4)) (sV 6)) (aa (s2 gIx (s2 gIx (s2 gIx (sV 1) (sI 1)) (sV 5)) (sV 6)) au))))))
 (cj (sIf (sOr (sT (s2 gIs (sV 7) (sC .non))) (adl (sT (s2 ac3 (sV 8) (sC .non))) (sT (s2 hEq (sA (dj false 2 aj) (aa (sV 0) (aa (sI 3) au))) (sI 0)))))
 (cj (sIf (sT (s2 gIs (sV 8) (sC .non)))
 (j7 8 (sC (.str "")))
 sNx)
 (j7 7 (s2 dw (s2 gIx (s2 gIx (sV 1) (sI 0)) (sV 6)) (sV 8))))
 sNx)
 (yf (sML a4b (sV 3) (aa (sA uc (aa (sV 4) (aa (sV 5) (aa (sV 7) au)))) au)))))))
noncomputable def qg(di:SF)(jg:SF)(aj:SF):SS :=
 (a2w (sRg a1c (aa (s2 dw (sV 4) (sI 1)) (aa (sA m9 (aa (s2 gIx (sV 1) (sI 1)) au)) au))) (kN 5) (m8 di jg aj))
noncomputable def qw(di:SF)(jg:SF)(aj:SF):SS :=
 (cj (j7 2 (sA (dj false 2 jg) (aa (s2 gIx (sV 1) (sI 1)) (aa (s2 gIx (sV 1) (sI 2)) au))))
 (cj (j7 3 (sA a1o au))
 (cj (a2w (sRg a0a (aa (sA m9 (aa (s2 gIx (sV 1) (sI 1)) au)) au)) (kN 4) (qg di jg aj))
 (mq (sA yw (aa (sV 3) au))))))
noncomputable def a1q:SE :=
 (s2 (gIn false) (sV 0) (sV 1))
noncomputable def a1h:SS :=
 (mq (a0q (sA ph (aa (sV 1) (aa (sC (.ty "str")) au))) (sA aee (aa (sZ (vg (sIt (sV 1)) t1 a1q [0])) au))))
noncomputable def sr(fu:SF)(j5:SF):SS :=
 (sIf (sOr (a3c (a2h (sA (dj false 2 fu) (aa (s2 gIx (sV 0) (sI 0)) (aa (sV 3) au))))) (sT (s2 hNe (sA (dj false 3 j5) (aa (sV 0) (aa (sI 0) (aa (sV 3) au)))) (sV 2))))
 (mq (sC (.bl false)))
 sNx)
noncomputable def uv(fu:SF)(j5:SF):SS :=
 (cj (sIf (sOr (a3c (a2h (sA ph (aa (sV 1) (aa (sC (.ty "tuple")) au))))) (sT (s2 hNe (sA m9 (aa (sV 1) au)) (sA m9 (aa (s2 gIx (sV 0) (sI 1)) au)))))
 (mq (sC (.bl false)))
 sNx)
 (cj (a2w (a3e (sV 1)) (a3h 2 (jb (kN 2) (jb (kN 3) a3m))) (sr fu j5))
 (mq (sC (.bl true)))))
noncomputable def wz(fu:SF)(j5:SF)(oh:SF):SS :=
 (cj (sIf (sOr (a3c (a2h (sA ph (aa (sV 1) (aa (sC (.ty "tuple")) au))))) (sOr (sT (s2 hNe (sA m9 (aa (sV 1) au)) (sI 3))) (a3c (a2h (sA (dj false 2 fu) (aa (s2 gIx (sV 0) (sI 0)) (aa (s2 gIx (sV 1) (sI 2)) au)))))))
 (mq (sC (.bl false)))
 sNx)
 (cj (sIf (sOr (a3c (a2h (sA (dj false 3 oh) (aa (s2 gIx (sV 1) (sI 0)) (aa (sV 2) (aa (sV 2) au)))))) (a3c (a2h (sA (dj false 3 oh) (aa (s2 gIx (sV 1) (sI 1)) (aa (sV 3) (aa (sV 3) au)))))))
 (mq (sC (.bl false)))
 sNx)
 (mq (s2 hNe (s2 gIx (s2 gIx (sV 0) (sI 2)) (sA (dj false 3 j5) (aa (sV 0) (aa (sV 2) (aa (s2 gIx (sV 1) (sI 2)) au))))) (s2 gIx (s2 gIx (sV 0) (sI 2)) (sA (dj false 3 j5) (aa (sV 0) (aa (sV 3) (aa (s2 gIx (sV 1) (sI 2)) au)))))))))
noncomputable def u5(g8:SF):SS :=
 (cj (sIf (a3c (a2h (sA (dj false 4 g8) (aa (sV 0) (aa (s2 gIx (sV 1) (sV 3)) (aa (sV 4) (aa (sV 5) au)))))))
 (mq (sC (.bl false)))
 sNx)
 (afj 3 a80 (sI 1)))
noncomputable def u6(g8:SF):SS :=
 (a2w (sRg a1c (aa (s2 dw (sV 4) (sI 1)) (aa (sV 2) au))) (kN 5) (u5 g8))
noncomputable def uw(g8:SF):SS :=
 (cj (j7 2 (sA m9 (aa (s2 gIx (sV 0) (sI 1)) au)))
 (cj (sIf (sOr (a3c (a2h (sA ph (aa (sV 1) (aa (sC (.ty "tuple")) au))))) (sT (s2 hNe (sA m9 (aa (sV 1) au)) (s2 a69 (s2 a1u (sV 2) (s2 a6u (sV 2) (sI 1))) (sI 2)))))
 (mq (sC (.bl false)))
 sNx)
 (cj (j7 3 (sI 0))
 (cj (a2w (sRg a0a (aa (sV 2) au)) (kN 4) (u6 g8))
 (mq (sC (.bl true)))))))
noncomputable def a05:SS :=
 (cj (j7 1 (sZ (sA a1o (aa (sC .non) (aa (sC (.str "")) (aa (sC (.bl true)) (aa (sC (.bl false)) (aa (sI 0) (aa (sI 1) (aa (sZ (sA a1o au)) (aa (sA uc au) (aa (sZ (sA a1o (aa (sC (.str "a")) au))) (aa (sA uc (aa (sC (.str "a")) au)) (aa (sZ ajp) (aa (sC (.str "\t")) (aa (sA uc (aa (sI 0) (aa (sI 1) au))) (aa (sA uc (aa (sI 0) (aa (sI 1) (aa (sC (.str "")) au)))) (aa (sZ (sA a1o (aa (sI 0) (aa (sI 1) (aa (sC (.str "a")) au))))) (aa (sC (.str "ab")) au)))))))))))))))))))
 (mq (s2 gIx (sV 1) (s2 a2i (sV 0) (sA m9 (aa (sV 1) au))))))
noncomputable def xq:SS :=
 (mq (s2 dw (s2 dw (a1e (sV 0) oN (oS (sV 1))) (sA uc (aa (sV 2) au))) (a1e (sV 0) (oS (s2 dw (sV 1) (sI 1))) oN)))
noncomputable def jz(j8:SF):SS :=
 (cj (j7 3 (s2 a2i (s2 a69 (sV 2) (sI 3)) (s2 dw (sA m9 (aa (sV 1) au)) (sI 1))))
 (cj (j7 4 (s2 gIx (s2 dw (sV 0) (sA (dj false 0 j8) au)) (s2 a2i (s2 a69 (sV 2) (sI 7)) (s2 dw (sA m9 (aa (sV 0) au)) (sI 95)))))
 (cj (sIf (sT (s2 hEq (s2 a2i (sV 2) (sI 3)) (sI 0)))
 (mq (s2 dw (s2 dw (a1e (sV 1) oN (oS (sV 3))) (sV 4)) (a1e (sV 1) (oS (sV 3)) oN)))
 sNx)
 (cj (sIf (sT (s2 hEq (s2 a2i (sV 2) (sI 3)) (sI 1)))
 (mq (s2 dw (a1e (sV 1) oN (oS (sV 3))) (a1e (sV 1) (oS (s2 dw (sV 3) (sI 1))) oN)))
 sNx)
 (mq (s2 dw (s2 dw (a1e (sV 1) oN (oS (sV 3))) (sV 4)) (a1e (sV 1) (oS (s2 dw (sV 3) (sI 1))) oN)))))))
noncomputable def vf(ik:SF)(lq:SF)(du:SF):SS :=
 (cj (sIf (sT (s2 hEq (sV 2) (sI 1)))
 (mq (sA a3p (aa (sV 1) au)))
 sNx)
 (cj (sIf (sT (s2 hEq (sV 2) (sI 2)))
 (mq (sA (dj false 1 lq) (aa (sV 4) au)))
 sNx)
 (cj (sIf (sT (s2 hEq (sV 2) (sI 3)))
 (mq (s2 dw (sV 1) (sA uc (aa (sA (dj false 1 lq) (aa (sV 4) au)) au))))
 sNx)
 (cj (sIf (sOr (sT (s2 hEq (sA m9 (aa (sV 1) au)) (sI 0))) (sT (s2 hEq (sV 2) (sI 0))))
 (mq (sV 1))
 sNx)
 (cj (j7 5 (s2 a2i (sV 3) (sA m9 (aa (sV 1) au))))
 (cj (sIf (sT (s2 hEq (sV 2) (sI 4)))
 (mq (s2 dw (a1e (sV 1) oN (oS (sV 5))) (a1e (sV 1) (oS (s2 dw (sV 5) (sI 1))) oN)))
 sNx)
 (cj (sIf (sT (s2 hEq (sV 2) (sI 5)))
 (mq (s2 dw (s2 dw (a1e (sV 1) oN (oS (sV 5))) (a1e (sV 1) (oS (sV 5)) (oS (s2 dw (sV 5) (sI 1))))) (a1e (sV 1) (oS (sV 5)) oN)))
 sNx)
 (cj (sIf (sT (s2 hEq (sV 2) (sI 6)))
 (mq (sA (dj false 3 du) (aa (sA (dj false 3 du) (aa (sV 1) (aa (sV 5) (aa (s2 gIx (sV 1) (s2 a2i (sV 4) (sA m9 (aa (sV 1) au)))) au)))) (aa (s2 a2i (sV 4) (sA m9 (aa (sV 1) au))) (aa (s2 gIx (sV 1) (sV 5)) au)))))
 sNx)
 (cj (sIf (sT (s2 hEq (sV 2) (sI 7)))
 (mq (sA (dj false 3 du) (aa (sV 1) (aa (sV 5) (aa (sA (dj false 1 lq) (aa (sV 4) au)) au)))))
 sNx)
 (cj (j7 6 (s2 gIx (sV 1) (sV 5)))
 (cj (sIf (a2h (sA ph (aa (sV 6) (aa (sC (.ty "str")) au))))
 (mq (sA (dj false 3 du) (aa (sV 1) (aa (sV 5) (aa (sA (dj false 3 ik) (aa (sV 0) (aa (sV 6) (aa (sV 4) au)))) au)))))
 sNx)
 (cj (sIf (sT (s2 hEq (sV 2) (sI 8)))
 (mq (sA (dj false 3 du) (aa (sV 1) (aa (sV 5) (aa (sA uc (aa (s2 gIx (sV 6) (sI 1)) (aa (s2 gIx (sV 6) (sI 0)) (aa (s2 gIx (sV 6) (sI 2)) au)))) au)))))
 sNx)
 (cj (sIf (sT (s2 hEq (sV 2) (sI 9)))
 (mq (sA (dj false 3 du) (aa (sV 1) (aa (sV 5) (aa (sZ (sA a3p (aa (sV 6) au))) au)))))
 sNx)
 (cj (sIf (sT (s2 hEq (sV 2) (sI 10)))
 (mq (sA (dj false 3 du) (aa (sV 1) (aa (sV 5) (aa (sA (dj false 3 du) (aa (sV 6) (aa (s2 a2i (sV 4) (sI 3)) (aa (sA (dj false 1 lq) (aa (s2 a69 (sV 4) (sI 3)) au)) au)))) au)))))
 sNx)
 (cj (sIf (sT (s2 hEq (sV 2) (sI 11)))
 (mq (sA (dj false 3 du) (aa (sV 1) (aa (sV 5) (aa (sA (dj false 3 du) (aa (sV 6) (aa (s2 a2i (sV 4) (sI 2)) (aa (s2 hEq (s2 gIx (sV 6) (s2 a2i (sV 4) (sI 2))) (sI 1)) au)))) au)))))
 sNx)
 (mq (sA (dj false 3 du) (aa (sV 1) (aa (sV 5) (aa (sA uc (aa (s2 gIx (sV 6) (sI 0)) (aa (s2 gIx (sV 6) (sI 1)) (aa (sA (dj false 3 ik) (aa (sV 0) (aa (s2 gIx (sV 6) (sI 2)) (aa (sV 4) au)))) au)))) au))))))))))))))))))))
noncomputable def a5n(ji:SF)(gq:SF)(gm:SF)(nj:SF)(kh:SF)(jd:SF)(ig:SF)(aj:SF)(jc:SF)(ju:SF):SS :=
 (cj (j7 14 (sA (dj false 3 ju) (aa (sV 6) (aa (sV 12) (aa (sV 13) au)))))
 (sIf (sOr (a3c (a2h (sA ph (aa (sV 14) (aa (sC (.ty "bool")) au))))) (sT (s2 hNe (sV 14) (a0q (sA (dj false 2 jc) (aa (sV 6) (aa (sV 12) au))) (sA (dj false 2 jd) (aa (sV 6) (aa (sV 13) au)))))))
 b0q
 sNx))
noncomputable def ah7(ji:SF)(gq:SF)(gm:SF)(nj:SF)(kh:SF)(jd:SF)(ig:SF)(aj:SF)(jc:SF)(ju:SF):SS :=
 (cj (j7 1 (sA (dj true 1 nj) (aa (sV 0) au)))
 (cj (j7 2 (sA (dj false 2 aj) (aa (sV 1) (aa (sI 14) au))))
 (cj (j7 3 (sA (dj false 2 aj) (aa (sV 1) (aa (sI 2) au))))
 (cj (j7 4 (sA (dj false 2 aj) (aa (sV 1) (aa (sI 1000003) au))))
 (cj (j7 5 (sA (dj false 2 aj) (aa (sV 1) (aa (sI 100003) au))))
 (cj (j7 6 (sA (dj false 1 kh) (aa (sV 1) au)))
 (cj (sIf (sT (s2 hEq (sA (dj false 2 aj) (aa (sV 1) (aa (sI 3) au))) (sI 0)))
 (j7 6 (sA (dj false 1 ji) (aa (sV 1) au)))
 sNx)
 (cj (j7 7 (sA (dj false 2 gm) (aa (sV 1) (aa (sV 6) au))))
 (cj (j7 8 (sA (dj false 2 gq) (aa (sV 1) (aa (sV 6) au))))
 (cj (j7 9 (sV 7))
 (cj (j7 10 (sV 8))
 (cj (sIf (sT (s2 hEq (sV 3) (sI 0)))
 (j7 9 (sA (dj false 5 ig) (aa (s2 gIx (sV 6) (sI 0)) (aa (sV 7) (aa (sV 2) (aa (sV 4) (aa (sV 5) au)))))))
 (j7 10 (sA (dj false 5 ig) (aa (s2 gIx (sV 6) (sI 0)) (aa (sV 8) (aa (sV 2) (aa (sV 4) (aa (sV 5) au))))))))
 (cj (j7 11 (sA ab4 (aa (sA uc (aa (sV 9) (aa (sV 10) au))) au)))
 (cj (a2w (sIt (sZ (sA a1o (aa (sA uc (aa (sV 9) (aa (sV 10) au))) (aa (sA uc (aa (sV 7) (aa (sV 8) au))) (aa (sA uc (aa (sV 9) (aa (sV 10) au))) au)))))) (a3h 2 (jb (kN 12) (jb (kN 13) a3m))) (a5n ji gq gm nj kh jd ig aj jc ju))
 (mq (s2 hEq (sA ab4 (aa (sA uc (aa (sV 9) (aa (sV 10) au))) au)) (sV 11)))))))))))))))))
end K30
namespace MI
open L2
theorem avx(ha:ME X E a fa)(hb:ME X E b fb)(hp:a7i b:=by with_unfolding_all exact λ_ _=>rfl):ME X E (.Subscript a b pos) (s2 gIx fa fb):=aot ha hb hp
theorem azu(i:Nat)(hN:X.N.Nodup)(he:ME X E e fa)(hi:X.N[i]? = some x:=by rfl)(hx:Loc X.env.scope x:=by with_unfolding_all first|exact Or.inl rfl|exact Or.inr rfl)(hs:swapsWith e (some (.Name x pos')) pos.line X.env=pure false:=by rfl)(hf:Hf X x:=by with_unfolding_all first|exact .inl rfl|exact .inr rfl|assumption) :
  MS X E (.Assign [.Name x pos'] e pos) (j7 i fa):=aua hN hi hx he hs hf
theorem azv{X:Cx}(G:Dn X.prog X.w X.K X.mg X.base k x ps (v4 X.K n F) f fd)(hr:Room k' X.A)(hk:k<=k')(ha:MA X X0 (e::es) ka)(hg:Gl X x:=by rfl)
  (hdb:(x == ("__debug__" : Str))=false:=by decide) (he:starEach (e::es) X.env=(false,eval e X.env)::starEach es X.env:=by rfl) (hpl:(backTo pos (starEach es X.env)).any (·.1)=false:=by rfl):ME X X0 (.Call (.Name x p) (e::es) [] pos) (sA (dj false n F) ka):=acd false G (hr.mono hk) hg ha hdb he hpl
theorem avy(hm:X.mg "len" = none)(ha:MA X E [e] ka)(hg:Gl X "len":=by rfl)(he:starEach [e] X.env=(false,eval e X.env)::starEach [] X.env:=by rfl)(hpl:(backTo pos (starEach [] X.env)).any (·.1)=false:=by rfl):ME X E (.Call (.Name "len" p) [e] [] pos) (sA m9 ka) :=
 a9g (L2.CallR.or a92 a93) aox hg hm alx ha (by decide) (by decide) he hpl
theorem a4t(ho:OpR X (compareOp op) r)(hs:a2g X.K g r)(ha:ME X E a fa)(hb:ME X E b fb)(hm:behindInMarks op b=false:=by exact abm _):MT X E (.Compare a [op] [b] pos) (sT (s2 g fa fb)):=a7u ho hs ha hb hm
theorem avz(hu:X.A.units+64<cLine)(ha:ME X E a fa)(hb:ME X E b fb):MT X E (.Compare a [.Eq] [b] pos) (sT (s2 hEq fa fb)):=a7u (am5 hu) ag2 ha hb (abm _)
theorem pgn(i:Nat)(hN:N.Nodup:=by decide +kernel)(hi:N[i]? = some x:=by rfl)(hx:∀C fp s H,Loc (cxC X N aB cl C fp s H).env.scope x:=by with_unfolding_all exact λ_ _ _ _=>Or.inl rfl)(hf:∀C fp s H,(cxC X N aB cl C fp s H).fn x=true\/(cxC X N aB cl C fp s H).env.scope.names.lookup x=some .local:=by with_unfolding_all exact λ_ _ _ _=>.inr rfl) :
  ∀C fp s H,PG (cxC X N aB cl C fp s H) (.Name x pos) (a1w i):=λC fp s H=>aai (X:=cxC X N aB cl C fp s H) hN hi (hx C fp s H) (hf C fp s H)
theorem pgm(i:Nat)(hN:N.Nodup:=by decide +kernel)(hi:N[i]? = some x:=by rfl)(hx:Loc (cxC X N aB cl C fp s H).env.scope x:=by with_unfolding_all exact Or.inl rfl)(hf:(cxC X N aB cl C fp s H).fn x=true\/(cxC X N aB cl C fp s H).env.scope.names.lookup x=some .local:=by with_unfolding_all exact .inr rfl) :
  PG (cxC X N aB cl C fp s H) (.Name x pos) (a1w i):=aai (X:=cxC X N aB cl C fp s H) hN hi hx hf
def allP(P:α->Prop):List α->Prop
 |[]=>True
 |a::l=>P a/\allP P l
theorem allP.mem{P:α->Prop}:∀{l:List α},allP P l->∀a∈l,P a
 |b::l,h,a,m=>by
  rcases List.mem_cons.mp m with rfl|m
  .exact h.1
  .exact h.2.mem a m
theorem a5c{X:Cx}(ts fr:List Str)(ix:List Nat)(clos:closureFor aB X.env=pure cl:=by rfl)(kind:aB.kind=.function:=by rfl)
  (nocell:(aB.names.all λp=>p.2 != .cell)=true:=by rfl) (names:(aB.names.all λp=>p.2 != .local || aB.names.lookup p.1 == some .local)=true:=by rfl) (sub:allP (λp=>X.env.cells.lookup p.1=some p.2) cl:=by with_unfolding_all repeat' constructor)
  (has:((relabel aB X.env).names.all λp => !(p.2 == .cell || p.2 == .free) || (cl.lookup p.1).isSome)=true:=by rfl) (nofn:(ts.all λy=>(relabel aB X.env).names.lookup y == some .local)=true:=by rfl)
  (len:ix.length=fr.length:=by rfl) (vis:((fr.zip ix).all λp=>X.N[p.2]? == some p.1 && (X.env.kindOf p.1 == some .cell || X.env.kindOf p.1 == some .free) && ((relabel aB X.env).names.lookup p.1 == some .cell || (relabel aB X.env).names.lookup p.1 == some .free))=true:=by rfl) :
  CSc X aB cl ts fr ix:=.of clos kind nocell names sub.mem has nofn len vis
theorem aw0{aB:Scope}(ts:List Str)(kind:aB.kind=.function:=by rfl)(h:∀y∈aB.names,y.2≠.cell/\y.2≠.free:=by decide +kernel)(names:∀y∈aB.names,y.2=.local->aB.names.lookup y.1=some .local:=by decide +kernel)
  (ht:∀y∈ts,aB.names.lookup y=some .local:=by decide +kernel):CSc X aB [] ts [] []:=.noFree kind h names ht
section
variable{α:Type}{us:List α}
theorem len0{P:List α->Prop}(h:us.length=0)(k:P []):P us:=by cases us with|nil=>exact k|cons _ _=>cases h
theorem ady{P:List α->Prop}(h:us.length=n+1)(k:∀a vs,vs.length=n->P (a::vs)):P us:=by cases us with|nil=>cases h|cons a vs=>exact k a vs (Nat.succ.inj h)
theorem b0v{P:List α->Prop}(h:us.length=1)(k:∀a,P [a]):P us:=ady h λa _ h=>len0 (P:=λus=>P (a::us)) h (k a)
theorem b0w{P:List α->Prop}(h:us.length=2)(k:∀a b,P [a,b]):P us:=ady h λa _ h=>b0v (P:=λus=>P (a::us)) h (k a)
theorem aw1{P:List α->Prop}(h:us.length=3)(k:∀a b c,P [a,b,c]):P us:=ady h λa _ h=>b0w (P:=λus=>P (a::us)) h (k a)
theorem b0x{P:List α->Prop}(h:us.length=4)(k:∀a b c d,P [a,b,c,d]):P us:=ady h λa _ h=>aw1 (P:=λus=>P (a::us)) h (k a)
theorem b0y{P:List α->Prop}(h:us.length=5)(k:∀a b c d e,P [a,b,c,d,e]):P us:=ady h λa _ h=>b0x (P:=λus=>P (a::us)) h (k a)
theorem b2c{P:List α->Prop}(h:us.length=6)(k:∀a b c d e f,P [a,b,c,d,e,f]):P us:=ady h λa _ h=>b0y (P:=λus=>P (a::us)) h (k a)
end
end MI
namespace K30
open L2 MI
noncomputable def top(i:Nat):Stmt:=PySem.Challenge.pw_nearreach_k30_least_looked_at.main.body.getD i (.Pass ⟨0,0,0,0⟩)
structure Nm (mg:Str->Option Value):Prop where
 abs:mg "abs" = none
 all:mg "all" = none
 bool:mg "bool" = none
 enumerate:mg "enumerate" = none
 int:mg "int" = none
 isinstance:mg "isinstance" = none
 len:mg "len" = none
 list:mg "list" = none
 max:mg "max" = none
 min:mg "min" = none
 range:mg "range" = none
 repr:mg "repr" = none
 str:mg "str" = none
 tuple:mg "tuple" = none
 zip:mg "zip" = none
section
variable{P:Program}{w:World}{K:Fg}{mg:Str->Option Value}{base:Heap}{f:Addr}
def MD(P:Program)(w:World)(K:Fg)(mg:Str->Option Value)(base:Heap)(f:Addr)(k:Nat)(N:List Str)(x:Str)(t:Stmt)(b:SS):Prop:=∀(cdv:Value) (A:Around) (outer:List Env) (s:Shared) (H:Hp) (E:XK),Room k (A.deeper (PyProof.Rows.envOfC x (bj t) s.heap.objs.size f cdv))->MSs (aif CX0 P w K mg base N x (bj t) f cdv A outer s H E).nox X0 (ym t) b
set_option hygiene false
local macro_rules|`(tactic|rfl) => `(tactic|with_unfolding_all exact Eq.refl _)
local macro_rules|`(tactic|exists $e) => `(tactic|with_unfolding_all exact $e)
local macro_rules|`(tactic|ac_rfl) => `(tactic|with_unfolding_all assumption)
local macro_rules|`(tactic|walk_at "d") => `(tactic|with_reducible repeat' first
 |(show PE _ _ _;first|refine b2b ?_|(show PE _ (.Name _ _) _;first|exact b26 _|exact aja (by rfl) (by exists M.tuple) abx|exact aja (by rfl) (by exists M.bool) ap6|exact aja (by rfl) (by exists M.str) atn|exact aja (by rfl) (by exists M.int) atq)|(show PE _ (.Constant _ _ _) _;first|exact atu|exact aze|exact atv|exact atw)|(show PE _ (.Call _ _ _ _) _;first|refine azv (by ac_rfl) (by exists hr) (by ac_rfl) ?_|refine avy (by exists M.len) ?_|refine a9g (L2.CallR.or aar a9q) akc (by rfl) (by exists M.isinstance) a7q ?_|refine afi (L2.CallR.or a7l (a9c (by rfl))) ag1 (by rfl) (by exists M.tuple) abx ?_|refine a9g (aas (by rfl)) ap4 (by rfl) (by exists M.all) ato ?_|refine a9g (aev (by rfl)) ajj (by rfl) (by exists M.min) av6 ?_|refine a9g (aeu (by rfl)) aji (by rfl) (by exists M.max) av5 ?_|refine afi (L2.CallR.or a94 (aat (by rfl))) ajl (by rfl) (by exists M.list) aaw ?_|refine a9g aiu aoy (by rfl) (by exists M.abs) atp ?_|refine a9g adx akp (by rfl) (by exists M.len) alx ?_|refine acd true (by ac_rfl) (by exists hr.mono (by assumption)) (by rfl) ?_|refine a9g (agw (by exists hr.gd) (by exists hr.u)) akb (by rfl) (by exists M.repr) apy ?_|refine aq9 (by exists hr.u) ?_ ?_ ⟨rfl,rfl,rfl,rfl⟩)|(show PE _ (.Subscript _ _ _) _;first|refine avx ?_ ?_|refine agg ?_ ?_ ?_|refine aps (by exists hr.u) ?_ ?_ (by exists λ_ _=>rfl))|(show PE _ (.BinOp _ _ _ _) _;first|refine apo ?_ ?_|refine aun ?_ ?_|refine auo ?_ ?_|refine apq ?_ ?_|refine aum ?_ ?_|refine aup ?_ ?_)|refine au6 ?_|refine au7 ?_|(show PE _ (.BoolOp _ _ _) _;first|refine au3 ?_ ?_|refine au2 ?_)|refine ap1 PySem.F.slot_list_append PySem.F.type_list_append (by exists af4) ap2 ?_ ?_|(show PE _ (.UnaryOp _ _ _) _;first|refine auq ?_|refine au4 ?_)|(show PE _ (.ListComp _ _ _ _) _;first|refine a1z (by rfl) (a5c ["word"] ["table"] [0]) ?_ (pgn _) a1y (λ_ _ _ _=>?_)|refine a1z (by rfl) (a5c ["sign"] ["tongue"] [0]) ?_ (pgn _) a1y (λ_ _ _ _=>?_)|refine a1z (by rfl) (a5c ["pair","row"] ["table"] [0]) ?_ (λ_ _ _ _=>(ael (by rfl) (a3i (pgm _) (a3i (pgm _) aaj)))) am1 (λ_ _ _ _=>?_)|refine a1z (by rfl) (a5c ["_law_k"] ["_law_room"] [6]) ?_ (pgn _) a1y (λ_ _ _ _=>?_)|refine a1z (by rfl) (a5c ["_law_to"] ["_law_places"] [4]) ?_ (pgn _) a1y (λ_ _ _ _=>?_)|refine a1z (by rfl) (a5c ["_law_one"] ["_law_kinds_here"] [2]) ?_ (pgn _) a1y (λ_ _ _ _=>?_)|refine a1z (by rfl) (a5c ["_law_room"] ["_law_words"] [1]) ?_ (pgn _) a1y (λ_ _ _ _=>?_)|refine a1z (by rfl) (a5c ["_law_sign"] ["_law_tongue_here"] [0]) ?_ (pgn _) a1y (λ_ _ _ _=>?_))|(show PE _ (.Compare _ _ _ _) _;first|refine ajb (ank.or a5z) (ank.or a5z) afs afs ?_ ?_ ?_|refine aaz (aob.or af2) aow ?_ ?_ (by with_unfolding_all rfl)|refine aaz (am6 (by exists hr.u)) ag3 ?_ ?_ (abm _)|refine aaz (am5 (by exists hr.u)) ag2 ?_ ?_ (abm _))|(show PE _ (.Dict _ _ _) _;first|refine azn ?_ ?_|exact ako|exact ap5)|exact agd false (by ac_rfl) (by exists hr.mono (by assumption)) (by rfl)|refine ap1 PySem.F.slot_list_pop PySem.F.type_list_pop (by exists aiz) afy ?_ ?_|refine av3 PySem.F.slot_str_index PySem.F.type_str_index (by exists aj9) ag0 ?_ ?_|refine aq8 (by rfl) (a5c ["one","other"] ["rooms"] [1]) ?_ (pgn _) (λ_ _ _ _=>?_) (pgn _) (λ_ _ _ _=>?_)|refine ak6 (by rfl) (by rfl) (by exists M.list) (by rfl) (by exists M.range) ?_|refine ap1 PySem.F.slot_list_extend PySem.F.type_list_extend (by exists MtR.or adq adh) ak0 ?_ ?_|refine ak5 (by rfl) (by rfl) (by exists M.list) (by rfl) (by exists M.range) ?_|refine av3 PySem.F.slot_str_find PySem.F.type_str_find (by exists aoc) ajk ?_ ?_)
 |(show PSs _ _ _;first|exact avc|refine abz ?_ ?_|refine afk ?_|exact aoh)
 |(show PA _ _ _;first|refine a0i ?_ ?_ ah5|exact au5|refine a0i ?_ ?_ adv|refine a0i ?_ ?_ ah6|refine a0i ?_ ?_ ah4|refine a0i ?_ ?_ adw|refine a0i ?_ ?_ akn|refine a0i ?_ ?_|refine a0i ?_ ?_ ah2|refine a0i ?_ ?_ aqa|refine a0i ?_ ?_ ah3)
 |(show PS _ _ _;first|refine azu _ (by exists SC.nd) ?_|refine au9 ?_|refine azi ?_ ?_ ?_|(show PS _ (.For _ _ _ _ _) _;first|refine auh PassesOwn.never (by rfl) ?_ ?_ ?_)|(show PS _ (.Assign _ _ _) _;first|refine auc ?_ ?_ ?_|refine aue ?_ ?_|refine apt (by exists hr.u) ?_ ?_ ?_)|refine aoi ?_|refine ajd _ PassesOwn.never ?_ ?_|refine aub (by exists SC.nd) (by rfl) (by exists Or.inl rfl) (aer.or a5u) ac8 ?_|refine agf (by exists SC.nd) (by rfl) (by exists Or.inl rfl) (by rfl) (aw0 ["_law_room"]) ?_ (pgn _) a1y (λ_ _ _ _=>?_)|refine aph ?_ ?_ ?_ (aer.or a5u) ac8|refine agf (by exists SC.nd) (by rfl) (by exists Or.inl rfl) (by rfl) (aw0 ["_law_at"]) ?_ (pgn _) a1y (λ_ _ _ _=>?_)|refine acf (by exists SC.nd) (by rfl) (by exists Or.inl rfl) (by rfl) (a5c ["_law_room","_law_one"] ["_law_to"] [6]) ?_ (λ_ _ _ _=>(ael (by rfl) (a3i (pgm _) (a3i (pgm _) aaj)))) am1 (λ_ _ _ _=>?_) (λ_ _ _ _=>?_)|refine apd (by exists SC.nd) (by rfl) (by exists Or.inl rfl) (by rfl) (a5c ["_law_pair"] ["_law_sizes_here"] [2]) ?_ (pgn _) a1y (λ_ _ _ _=>?_) (λ_ _ _ _=>?_)|refine acf (by exists SC.nd) (by rfl) (by exists Or.inl rfl) (by rfl) (a5c ["_law_pair"] ["_law_goes_here","_law_sizes_here"] [0,2]) ?_ (pgn _) a1y (λ_ _ _ _=>?_) (λ_ _ _ _=>?_)|exact ajc)
 |(show PT _ _ _;first|(show PT _ (.Compare _ _ _ _) _;first|refine avz (by exists hr.u) ?_ ?_|refine a4t (am6 (by exists hr.u)) ag3 ?_ ?_|refine a4t (ayt.or aes) aur ?_ ?_|refine a4t ayu aus ?_ ?_|refine a7u (agl (by exists hr.u)) adt ?_ ?_ (by with_unfolding_all rfl)|refine a4t (asr.or aj6) auu ?_ ?_|refine a4t (avn (by exists hr.u)) (aq2 true) ?_ ?_|refine a4t ayv aut ?_ ?_|refine a4t (ank.or a5z) afs ?_ ?_|refine a7u (avj (by exists hr.u)) apr ?_ ?_ (by with_unfolding_all rfl)|refine a4t (anl.or aaq) afv ?_ ?_)|refine aty ?_|refine au1 ?_|refine PW.pt ?_)
 |(show PG _ _ _;first|exact afn (by exists SC.nd) (by rfl) (by exists Or.inl rfl)|refine aud (by rfl) ?_|exact afn (by exists SC.nd) (by rfl) (by exists Or.inr rfl))
 |(show PGs _ _ _;first|refine ajq ?_ ?_|exact aok)
 |(show PI _ _ _ _;first|refine auf ?_|refine aol (by rfl) (by exists M.range) ?_|refine aom (by rfl) (by exists M.range) ?_|refine apv (by rfl) (by exists M.enumerate) ?_|refine av8 (by rfl) (by exists M.zip) av9 ?_ ?_|refine apx (by rfl) (by exists M.range) ?_)
 |(show PO _ _ _;first|refine aov ?_|exact aou)
 |(show PW _ _ _;first|refine azh ?_ ?_|refine atz ?_|refine au0 ?_ ?_|refine aog ?_)
 |(with_unfolding_all first|refine abz ?_ ?_|refine afk ?_))
local macro_rules|`(tactic|walk_at "sc") => `(tactic|exact⟨rfl,rfl,rfl,by decide +kernel,rfl,by decide +kernel,by decide +kernel⟩)
theorem b0z:FnScope ["thing"] ["thing"] (bj (top 1)):=by walk_at "sc"
theorem m_0(M:Nm mg):MD P w K mg base f k ["thing"] "is_number" (top 1) (K40.zx):=by
 intro cdv A outer s H E hr
 have SC:=b0z;unfold K40.zx
 walk_at "d"
theorem b11:FnScope ["thing","low","high"] ["thing","low","high"] (bj (top 2)):=by walk_at "sc"
theorem m_1(M:Nm mg):MD P w K mg base f k ["thing","low","high"] "is_row" (top 2) (K40.a3u):=by
 intro cdv A outer s H E hr
 have SC:=b11;unfold K40.a3u
 walk_at "d"
theorem b12:FnScope ["tongue","thing"] ["tongue","thing"] (bj (top 4)):=by walk_at "sc"
theorem m_2(M:Nm mg):MD P w K mg base f k ["tongue","thing"] "is_text" (top 4) (STP.qt):=by
 intro cdv A outer s H E hr
 have SC:=b12;unfold STP.qt STP.v6
 walk_at "d"
theorem b13:FnScope ["table","room","word"] ["table","room","word"] (bj (top 6)):=by walk_at "sc"
theorem m_3(D_4:Dn P w K mg base k_4 "rooms_along" ["table","room","word"] (v4 K 3 F_4) a_4 d_4)(h_4:k_4<=k):MD P w K mg base f k ["table","room","word"] "room_from" (top 6) (STP.uz F_4):=by
 intro cdv A outer s H E hr
 have SC:=b13;unfold STP.uz
 walk_at "d"
theorem b14:FnScope ["table","room","word","tongue","goes","kinds","rooms","sign"] ["table","room","word"] (bj (top 7)):=by walk_at "sc"
theorem m_4:MD P w K mg base f k ["table","room","word","tongue","goes","kinds","rooms","sign"] "rooms_along" (top 7) (STP.p7):=by
 intro cdv A outer s H E hr
 have SC:=b14;unfold STP.p7 STP.m7
 walk_at "d"
theorem b15:FnScope ["table","rooms"] ["table"] (bj (top 9)):=by walk_at "sc"
theorem m_5(M:Nm mg):MD P w K mg base f k ["table","rooms"] "two_rooms" (top 9) (zy):=by
 intro cdv A outer s H E hr
 have SC:=b15;unfold zy a0k
 walk_at "d"
theorem b16:FnScope ["table","ways","rows","rooms","pairs"] ["table","ways","rows"] (bj (top 10)):=by walk_at "sc"
theorem m_6(M:Nm mg)(D_1:Dn P w K mg base k_1 "is_row" ["thing","low","high"] (v4 K 3 F_1) a_1 d_1)(h_1:k_1<=k)(D_2:Dn P w K mg base k_2 "is_text" ["tongue","thing"] (v4 K 2 F_2) a_2 d_2)(h_2:k_2<=k)(D_7:Dn P w K mg base k_7 "parts_two" ["table","pair","row"] (v4 K 3 F_7) a_7 d_7)(h_7:k_7<=k)(D_3:Dn P w K mg base k_3 "room_from" ["table","room","word"] (v4 K 3 F_3) a_3 d_3)(h_3:k_3<=k)(D_5:Dn P w K mg base k_5 "two_rooms" ["table"] (v4 K 1 F_5) a_5 d_5)(h_5:k_5<=k):MD P w K mg base f k ["table","ways","rows","rooms","pairs"] "least_holds" (top 10) (vz F_1 F_2 F_7 F_3 F_5):=by
 intro cdv A outer s H E hr
 have SC:=b16;unfold vz yr yq yp
 walk_at "d"
theorem b17:FnScope ["table","pair","row","tongue","goes","kinds"] ["table","pair","row"] (bj (top 11)):=by walk_at "sc"
theorem m_7(D_0:Dn P w K mg base k_0 "is_number" ["thing"] (v4 K 1 F_0) a_0 d_0)(h_0:k_0<=k)(D_1:Dn P w K mg base k_1 "is_row" ["thing","low","high"] (v4 K 3 F_1) a_1 d_1)(h_1:k_1<=k)(D_2:Dn P w K mg base k_2 "is_text" ["tongue","thing"] (v4 K 2 F_2) a_2 d_2)(h_2:k_2<=k)(D_3:Dn P w K mg base k_3 "room_from" ["table","room","word"] (v4 K 3 F_3) a_3 d_3)(h_3:k_3<=k):MD P w K mg base f k ["table","pair","row","tongue","goes","kinds"] "parts_two" (top 11) (a00 F_0 F_1 F_2 F_3):=by
 intro cdv A outer s H E hr
 have SC:=b17;unfold a00
 walk_at "d"
theorem b18:FnScope ["_law_script"] ["_law_script"] (bj (top 13)):=by walk_at "sc"
theorem m_8(M:Nm mg):MD P w K mg base f k ["_law_script"] "_law_hand" (top 13) (HND.a2n):=by
 intro cdv A outer s H E hr
 have SC:=b18;unfold HND.a2n
 walk_at "d"
theorem b19:FnScope ["_law_hand_here","_law_many","_law_cell","_law_told"] ["_law_hand_here","_law_many"] (bj (top 14)):=by walk_at "sc"
theorem m_9(M:Nm mg):MD P w K mg base f k ["_law_hand_here","_law_many","_law_cell","_law_told"] "_law_take" (top 14) (HND.a2o):=by
 intro cdv A outer s H E hr
 have SC:=b19;unfold HND.a2o
 walk_at "d"
theorem aw2:FnScope ["_law_some"] [] (bj (top 15)):=by walk_at "sc"
theorem b2d:MD P w K mg base f k ["_law_some"] "_law_signs" (top 15) (HND.a1g):=by
 intro cdv A outer s H E hr
 have SC:=aw2;unfold HND.a1g
 walk_at "d"
theorem aw3:FnScope ["_law_hand_here","_law_rest","_law_tongue_here","_law_turn","_law_at"] ["_law_hand_here"] (bj (top 16)):=by walk_at "sc"
theorem b2e(M:Nm mg)(D_10:Dn P w K mg base k_10 "_law_signs" [] (v4 K 0 F_10) a_10 d_10)(h_10:k_10<=k)(D_9:Dn P w K mg base k_9 "_law_take" ["_law_hand_here","_law_many"] (v4 K 2 F_9) a_9 d_9)(h_9:k_9<=k):MD P w K mg base f k ["_law_hand_here","_law_rest","_law_tongue_here","_law_turn","_law_at"] "_law_tongue" (top 16) (HND.a0g F_10 F_9):=by
 intro cdv A outer s H E hr
 have SC:=aw3;unfold HND.a0g HND.qp
 walk_at "d"
theorem aw4:FnScope ["_law_hand_here","_law_size","_law_rooms","_law_manner","_law_free","_law_goes_here","_law_room","_law_pick","_law_one","_law_at"] ["_law_hand_here","_law_size","_law_rooms"] (bj (top 17)):=by walk_at "sc"
theorem b2f(M:Nm mg)(D_9:Dn P w K mg base k_9 "_law_take" ["_law_hand_here","_law_many"] (v4 K 2 F_9) a_9 d_9)(h_9:k_9<=k):MD P w K mg base f k ["_law_hand_here","_law_size","_law_rooms","_law_manner","_law_free","_law_goes_here","_law_room","_law_pick","_law_one","_law_at"] "_law_goes" (top 17) (HND.a0t F_9):=by
 intro cdv A outer s H E hr
 have SC:=aw4;unfold HND.a0t HND.vy HND.vq HND.zc HND.zb
 walk_at "d"
theorem aw5:FnScope ["_law_hand_here","_law_rooms","_law_manner","_law_kinds_here","_law_room","_law_kind"] ["_law_hand_here","_law_rooms"] (bj (top 18)):=by walk_at "sc"
theorem b2g(M:Nm mg)(D_9:Dn P w K mg base k_9 "_law_take" ["_law_hand_here","_law_many"] (v4 K 2 F_9) a_9 d_9)(h_9:k_9<=k):MD P w K mg base f k ["_law_hand_here","_law_rooms","_law_manner","_law_kinds_here","_law_room","_law_kind"] "_law_kinds" (top 18) (HND.zu F_9):=by
 intro cdv A outer s H E hr
 have SC:=aw5;unfold HND.zu HND.ug
 walk_at "d"
theorem aw6:FnScope ["_law_hand_here","_law_goes_here","_law_kinds_here","_law_rest","_law_places","_law_rows","_law_told","_law_room","_law_row"] ["_law_hand_here","_law_goes_here","_law_kinds_here"] (bj (top 19)):=by walk_at "sc"
theorem b2h(M:Nm mg)(D_9:Dn P w K mg base k_9 "_law_take" ["_law_hand_here","_law_many"] (v4 K 2 F_9) a_9 d_9)(h_9:k_9<=k):MD P w K mg base f k ["_law_hand_here","_law_goes_here","_law_kinds_here","_law_rest","_law_places","_law_rows","_law_told","_law_room","_law_row"] "_law_shuffled" (top 19) (HND.uh F_9):=by
 intro cdv A outer s H E hr
 have SC:=aw6;unfold HND.uh HND.n8 HND.xn HND.a0v HND.a0u HND.n6 HND.rm
 walk_at "d"
theorem aw7:FnScope ["_law_hand_here","_law_goes_here","_law_kinds_here","_law_bases","_law_rows","_law_row","_law_to","_law_some"] ["_law_hand_here","_law_goes_here","_law_kinds_here"] (bj (top 20)):=by walk_at "sc"
theorem b2j(M:Nm mg)(D_9:Dn P w K mg base k_9 "_law_take" ["_law_hand_here","_law_many"] (v4 K 2 F_9) a_9 d_9)(h_9:k_9<=k):MD P w K mg base f k ["_law_hand_here","_law_goes_here","_law_kinds_here","_law_bases","_law_rows","_law_row","_law_to","_law_some"] "_law_split" (top 20) (a01 F_9):=by
 intro cdv A outer s H E hr
 have SC:=aw7;unfold a01 a0m xx xu qb ul a0l
 walk_at "d"
theorem aw8:FnScope ["_law_hand_here","_law_tongue_here","_law_rooms","_law_rows","_law_some","_law_goes_here","_law_kinds_here"] ["_law_hand_here"] (bj (top 21)):=by walk_at "sc"
theorem b2k(M:Nm mg)(D_12:Dn P w K mg base k_12 "_law_goes" ["_law_hand_here","_law_size","_law_rooms"] (v4 K 3 F_12) a_12 d_12)(h_12:k_12<=k)(D_13:Dn P w K mg base k_13 "_law_kinds" ["_law_hand_here","_law_rooms"] (v4 K 2 F_13) a_13 d_13)(h_13:k_13<=k)(D_14:Dn P w K mg base k_14 "_law_shuffled" ["_law_hand_here","_law_goes_here","_law_kinds_here"] (v4 K 3 F_14) a_14 d_14)(h_14:k_14<=k)(D_15:Dn P w K mg base k_15 "_law_split" ["_law_hand_here","_law_goes_here","_law_kinds_here"] (v4 K 3 F_15) a_15 d_15)(h_15:k_15<=k)(D_9:Dn P w K mg base k_9 "_law_take" ["_law_hand_here","_law_many"] (v4 K 2 F_9) a_9 d_9)(h_9:k_9<=k)(D_11:Dn P w K mg base k_11 "_law_tongue" ["_law_hand_here"] (v4 K 1 F_11) a_11 d_11)(h_11:k_11<=k):MD P w K mg base f k ["_law_hand_here","_law_tongue_here","_law_rooms","_law_rows","_law_some","_law_goes_here","_law_kinds_here"] "_law_copied" (top 21) (yh F_12 F_13 F_14 F_15 F_9 F_11):=by
 intro cdv A outer s H E hr
 have SC:=aw8;unfold yh
 walk_at "d"
theorem aw9:FnScope ["_law_table","_law_room","_law_word","_law_sign"] ["_law_table","_law_room","_law_word"] (bj (top 22)):=by walk_at "sc"
theorem b2l:MD P w K mg base f k ["_law_table","_law_room","_law_word","_law_sign"] "_law_led" (top 22) (a02):=by
 intro cdv A outer s H E hr
 have SC:=aw9;unfold a02 v7
 walk_at "d"
theorem awa:FnScope ["_law_table","_law_words","_law_rooms","_law_at","_law_sign","_law_to"] ["_law_table"] (bj (top 23)):=by walk_at "sc"
theorem b2m(M:Nm mg):MD P w K mg base f k ["_law_table","_law_words","_law_rooms","_law_at","_law_sign","_law_to"] "_law_ways" (top 23) (a0w):=by
 intro cdv A outer s H E hr
 have SC:=awa;unfold a0w a3v zg zf wu
 walk_at "d"
theorem awb:FnScope ["_law_goes_here","_law_sizes_here","_law_one","_law_other","_law_a","_law_b"] ["_law_goes_here","_law_sizes_here","_law_one","_law_other"] (bj (top 24)):=by walk_at "sc"
theorem b2n(M:Nm mg):MD P w K mg base f k ["_law_goes_here","_law_sizes_here","_law_one","_law_other","_law_a","_law_b"] "_law_near" (top 24) (a0x):=by
 intro cdv A outer s H E hr
 have SC:=awb;unfold a0x zj
 walk_at "d"
theorem awc:FnScope ["_law_goes_here","_law_kinds_here","_law_sizes_here","_law_twos","_law_one","_law_other","_law_size","_law_many","_law_found","_law_pair"] ["_law_goes_here","_law_kinds_here"] (bj (top 25)):=by walk_at "sc"
theorem b2o(M:Nm mg)(D_19:Dn P w K mg base k_19 "_law_near" ["_law_goes_here","_law_sizes_here","_law_one","_law_other"] (v4 K 4 F_19) a_19 d_19)(h_19:k_19<=k):MD P w K mg base f k ["_law_goes_here","_law_kinds_here","_law_sizes_here","_law_twos","_law_one","_law_other","_law_size","_law_many","_law_found","_law_pair"] "_law_sizes" (top 25) (a03 F_19):=by
 intro cdv A outer s H E hr
 have SC:=awc;unfold a03 ut ye yc ur a0o uq a0n uo um
 walk_at "d"
theorem awd:FnScope ["_law_table","_law_sizes_here","_law_one","_law_other","_law_tongue_here","_law_goes_here","_law_kinds_here","_law_word","_law_size","_law_at","_law_sign","_law_a","_law_b"] ["_law_table","_law_sizes_here","_law_one","_law_other"] (bj (top 26)):=by walk_at "sc"
theorem b2p(M:Nm mg):MD P w K mg base f k ["_law_table","_law_sizes_here","_law_one","_law_other","_law_tongue_here","_law_goes_here","_law_kinds_here","_law_word","_law_size","_law_at","_law_sign","_law_a","_law_b"] "_law_parting" (top 26) (wy):=by
 intro cdv A outer s H E hr
 have SC:=awd;unfold wy uy pq
 walk_at "d"
theorem awe:FnScope ["_law_thing_here","_law_low","_law_high"] ["_law_thing_here","_law_low","_law_high"] (bj (top 27)):=by walk_at "sc"
theorem b2q(M:Nm mg):MD P w K mg base f k ["_law_thing_here","_law_low","_law_high"] "_law_number" (top 27) (yj):=by
 intro cdv A outer s H E hr
 have SC:=awe;unfold yj
 walk_at "d"
theorem awf:FnScope ["_law_hand_here","_law_tongue_here","_law_rooms","_law_goes_here","_law_kinds_here"] ["_law_hand_here"] (bj (top 28)):=by walk_at "sc"
theorem b2r(M:Nm mg)(D_12:Dn P w K mg base k_12 "_law_goes" ["_law_hand_here","_law_size","_law_rooms"] (v4 K 3 F_12) a_12 d_12)(h_12:k_12<=k)(D_13:Dn P w K mg base k_13 "_law_kinds" ["_law_hand_here","_law_rooms"] (v4 K 2 F_13) a_13 d_13)(h_13:k_13<=k)(D_14:Dn P w K mg base k_14 "_law_shuffled" ["_law_hand_here","_law_goes_here","_law_kinds_here"] (v4 K 3 F_14) a_14 d_14)(h_14:k_14<=k)(D_9:Dn P w K mg base k_9 "_law_take" ["_law_hand_here","_law_many"] (v4 K 2 F_9) a_9 d_9)(h_9:k_9<=k)(D_11:Dn P w K mg base k_11 "_law_tongue" ["_law_hand_here"] (v4 K 1 F_11) a_11 d_11)(h_11:k_11<=k):MD P w K mg base f k ["_law_hand_here","_law_tongue_here","_law_rooms","_law_goes_here","_law_kinds_here"] "_law_plain" (top 28) (a04 F_12 F_13 F_14 F_9 F_11):=by
 intro cdv A outer s H E hr
 have SC:=awf;unfold a04
 walk_at "d"
theorem awg:FnScope ["_law_hand_here","_law_table","_law_words","_law_room","_law_word","_law_turn","_law_at"] ["_law_hand_here","_law_table"] (bj (top 29)):=by walk_at "sc"
theorem b2s(M:Nm mg)(D_9:Dn P w K mg base k_9 "_law_take" ["_law_hand_here","_law_many"] (v4 K 2 F_9) a_9 d_9)(h_9:k_9<=k)(D_18:Dn P w K mg base k_18 "_law_ways" ["_law_table"] (v4 K 1 F_18) a_18 d_18)(h_18:k_18<=k):MD P w K mg base f k ["_law_hand_here","_law_table","_law_words","_law_room","_law_word","_law_turn","_law_at"] "_law_good_ways" (top 29) (qu F_9 F_18):=by
 intro cdv A outer s H E hr
 have SC:=awg;unfold qu qe
 walk_at "d"
theorem awh:FnScope ["_law_hand_here","_law_table","_law_sizes_here","_law_rows","_law_one","_law_other","_law_at","_law_word","_law_more"] ["_law_hand_here","_law_table"] (bj (top 30)):=by walk_at "sc"
theorem b2t(M:Nm mg)(D_21:Dn P w K mg base k_21 "_law_parting" ["_law_table","_law_sizes_here","_law_one","_law_other"] (v4 K 4 F_21) a_21 d_21)(h_21:k_21<=k)(D_20:Dn P w K mg base k_20 "_law_sizes" ["_law_goes_here","_law_kinds_here"] (v4 K 2 F_20) a_20 d_20)(h_20:k_20<=k)(D_9:Dn P w K mg base k_9 "_law_take" ["_law_hand_here","_law_many"] (v4 K 2 F_9) a_9 d_9)(h_9:k_9<=k):MD P w K mg base f k ["_law_hand_here","_law_table","_law_sizes_here","_law_rows","_law_one","_law_other","_law_at","_law_word","_law_more"] "_law_good_rows" (top 30) (qw F_21 F_20 F_9):=by
 intro cdv A outer s H E hr
 have SC:=awh;unfold qw qg m8
 walk_at "d"
theorem awi:FnScope ["_law_tongue_here","_law_thing_here"] ["_law_tongue_here","_law_thing_here"] (bj (top 31)):=by walk_at "sc"
theorem b2u(M:Nm mg):MD P w K mg base f k ["_law_tongue_here","_law_thing_here"] "_law_is_word" (top 31) (a1h):=by
 intro cdv A outer s H E hr
 have SC:=awi;unfold a1h a1q
 walk_at "d"
theorem awj:FnScope ["_law_table","_law_ways_here","_law_room","_law_word"] ["_law_table","_law_ways_here"] (bj (top 32)):=by walk_at "sc"
theorem b2v(M:Nm mg)(D_26:Dn P w K mg base k_26 "_law_is_word" ["_law_tongue_here","_law_thing_here"] (v4 K 2 F_26) a_26 d_26)(h_26:k_26<=k)(D_17:Dn P w K mg base k_17 "_law_led" ["_law_table","_law_room","_law_word"] (v4 K 3 F_17) a_17 d_17)(h_17:k_17<=k):MD P w K mg base f k ["_law_table","_law_ways_here","_law_room","_law_word"] "_law_ways_due" (top 32) (uv F_26 F_17):=by
 intro cdv A outer s H E hr
 have SC:=awj;unfold uv sr
 walk_at "d"
theorem awk:FnScope ["_law_table","_law_row","_law_one","_law_other"] ["_law_table","_law_row","_law_one","_law_other"] (bj (top 33)):=by walk_at "sc"
theorem b2w(M:Nm mg)(D_26:Dn P w K mg base k_26 "_law_is_word" ["_law_tongue_here","_law_thing_here"] (v4 K 2 F_26) a_26 d_26)(h_26:k_26<=k)(D_17:Dn P w K mg base k_17 "_law_led" ["_law_table","_law_room","_law_word"] (v4 K 3 F_17) a_17 d_17)(h_17:k_17<=k)(D_22:Dn P w K mg base k_22 "_law_number" ["_law_thing_here","_law_low","_law_high"] (v4 K 3 F_22) a_22 d_22)(h_22:k_22<=k):MD P w K mg base f k ["_law_table","_law_row","_law_one","_law_other"] "_law_row_due" (top 33) (wz F_26 F_17 F_22):=by
 intro cdv A outer s H E hr
 have SC:=awk;unfold wz
 walk_at "d"
theorem awl:FnScope ["_law_table","_law_rows","_law_many","_law_at","_law_one","_law_other"] ["_law_table","_law_rows"] (bj (top 34)):=by walk_at "sc"
theorem b2x(M:Nm mg)(D_28:Dn P w K mg base k_28 "_law_row_due" ["_law_table","_law_row","_law_one","_law_other"] (v4 K 4 F_28) a_28 d_28)(h_28:k_28<=k):MD P w K mg base f k ["_law_table","_law_rows","_law_many","_law_at","_law_one","_law_other"] "_law_rows_due" (top 34) (uw F_28):=by
 intro cdv A outer s H E hr
 have SC:=awl;unfold uw u6 u5
 walk_at "d"
theorem awm:FnScope ["_law_which","_law_some"] ["_law_which"] (bj (top 35)):=by walk_at "sc"
theorem b2y(M:Nm mg):MD P w K mg base f k ["_law_which","_law_some"] "_law_thing" (top 35) (a05):=by
 intro cdv A outer s H E hr
 have SC:=awm;unfold a05
 walk_at "d"
theorem awn:FnScope ["_law_row","_law_at","_law_thing_here"] ["_law_row","_law_at","_law_thing_here"] (bj (top 36)):=by walk_at "sc"
theorem b2z:MD P w K mg base f k ["_law_row","_law_at","_law_thing_here"] "_law_with" (top 36) (xq):=by
 intro cdv A outer s H E hr
 have SC:=awn;unfold xq
 walk_at "d"
theorem awo:FnScope ["_law_tongue_here","_law_word","_law_where","_law_at","_law_sign"] ["_law_tongue_here","_law_word","_law_where"] (bj (top 37)):=by walk_at "sc"
theorem b30(M:Nm mg)(D_10:Dn P w K mg base k_10 "_law_signs" [] (v4 K 0 F_10) a_10 d_10)(h_10:k_10<=k):MD P w K mg base f k ["_law_tongue_here","_law_word","_law_where","_law_at","_law_sign"] "_law_other_word" (top 37) (jz F_10):=by
 intro cdv A outer s H E hr
 have SC:=awo;unfold jz
 walk_at "d"
theorem awp:FnScope ["_law_tongue_here","_law_paper","_law_which","_law_where","_law_what","_law_at","_law_row"] ["_law_tongue_here","_law_paper","_law_which","_law_where","_law_what"] (bj (top 38)):=by walk_at "sc"
theorem b31(M:Nm mg)(D_32:Dn P w K mg base k_32 "_law_other_word" ["_law_tongue_here","_law_word","_law_where"] (v4 K 3 F_32) a_32 d_32)(h_32:k_32<=k)(D_30:Dn P w K mg base k_30 "_law_thing" ["_law_which"] (v4 K 1 F_30) a_30 d_30)(h_30:k_30<=k)(D_31:Dn P w K mg base k_31 "_law_with" ["_law_row","_law_at","_law_thing_here"] (v4 K 3 F_31) a_31 d_31)(h_31:k_31<=k):MD P w K mg base f k ["_law_tongue_here","_law_paper","_law_which","_law_where","_law_what","_law_at","_law_row"] "_law_spoilt" (top 38) (vf F_32 F_30 F_31):=by
 intro cdv A outer s H E hr
 have SC:=awp;unfold vf
 walk_at "d"
theorem awq:FnScope ["_law_script","_law_hand_here","_law_which","_law_whose","_law_where","_law_what","_law_table","_law_ways_here","_law_rows","_law_other","_law_more","_law_shown","_law_one","_law_two","_law_found"] ["_law_script"] (bj (top 39)):=by walk_at "sc"
theorem b32(M:Nm mg)(D_16:Dn P w K mg base k_16 "_law_copied" ["_law_hand_here"] (v4 K 1 F_16) a_16 d_16)(h_16:k_16<=k)(D_25:Dn P w K mg base k_25 "_law_good_rows" ["_law_hand_here","_law_table"] (v4 K 2 F_25) a_25 d_25)(h_25:k_25<=k)(D_24:Dn P w K mg base k_24 "_law_good_ways" ["_law_hand_here","_law_table"] (v4 K 2 F_24) a_24 d_24)(h_24:k_24<=k)(D_8:Dn P w K mg base k_8 "_law_hand" ["_law_script"] (v4 K 1 F_8) a_8 d_8)(h_8:k_8<=k)(D_23:Dn P w K mg base k_23 "_law_plain" ["_law_hand_here"] (v4 K 1 F_23) a_23 d_23)(h_23:k_23<=k)(D_29:Dn P w K mg base k_29 "_law_rows_due" ["_law_table","_law_rows"] (v4 K 2 F_29) a_29 d_29)(h_29:k_29<=k)(D_33:Dn P w K mg base k_33 "_law_spoilt" ["_law_tongue_here","_law_paper","_law_which","_law_where","_law_what"] (v4 K 5 F_33) a_33 d_33)(h_33:k_33<=k)(D_9:Dn P w K mg base k_9 "_law_take" ["_law_hand_here","_law_many"] (v4 K 2 F_9) a_9 d_9)(h_9:k_9<=k)(D_27:Dn P w K mg base k_27 "_law_ways_due" ["_law_table","_law_ways_here"] (v4 K 2 F_27) a_27 d_27)(h_27:k_27<=k)(D_6:Dn P w K mg base k_6 "least_holds" ["table","ways","rows"] (v4 K 3 F_6) a_6 d_6)(h_6:k_6<=k):MD P w K mg base f k ["_law_script","_law_hand_here","_law_which","_law_whose","_law_where","_law_what","_law_table","_law_ways_here","_law_rows","_law_other","_law_more","_law_shown","_law_one","_law_two","_law_found"] "law" (top 39) (ah7 F_16 F_25 F_24 F_8 F_23 F_29 F_33 F_9 F_27 F_6):=by
 intro cdv A outer s H E hr
 have SC:=awq;unfold ah7 a5n
 walk_at "d"
end
end K30
namespace MI
open L2
noncomputable abbrev S(l:List Nat):Str:=⟨l.toArray⟩
theorem a1i(l:List Nat):(S l).cps.toList=l:=by simp
theorem adz(l:List Nat):(S l).length=l.length:=by simp[Str.length]
theorem ah8(x:Str):S x.cps.toList=x:=by cases x;simp
theorem azw(a b:List Nat):S a++S b=S (a++b):=by rw[<-ah8 (S a++S b),azc]
section
variable{h:Hd}{a b l:List Nat}{i:Nat}{c:Nat}
theorem ay0(hl:l.length<=LINE)(e:l[i]? = some c):gIx (.str (S l)) (.int (i:Nat)) h=.ok (.str (S [c])) h:=by
 unfold gIx;simp only[adz,if_pos hl,a1i,vh e]
theorem a5d(hl:a.length+b.length<=LINE):dw (.str (S a)) (.str (S b)) h=.ok (.str (S (a++b))) h:=by
 unfold dw;simp only[adz,if_pos hl,azw]
theorem ab7(hl:l.length<=LINE):m9 [.str (S l)] h=.ok (.int l.length) h:=by
 unfold m9;simp only[adz,if_pos hl]
theorem b1a(k:Nat)(hl:l.length<=LINE):a8t (.str (S l)) none (some (k:Int)) h=.ok (.str (S (l.take k))) h:=by
 show gSl (.str (S l)) none (some (k:Int)) h=_;unfold gSl;simp only[adz,if_pos hl,a1i,a7r]
theorem ah9(k:Nat)(hl:l.length<=LINE):a8t (.str (S l)) (some (k:Int)) none h=.ok (.str (S (l.drop k))) h:=by
 show gSl (.str (S l)) (some (k:Int)) none h=_;unfold gSl;simp only[adz,if_pos hl,a1i,a67]
end
section
variable{h:Hd}{i j:Int}{xs ys:List D}
theorem a5x:gIx (.tup xs) (.int i) h=(match atI xs i with|some d=>.ok d h|none=>.no):=rfl
theorem a74:gIx (.rol xs) (.int i) h=(match atI xs i with|some d=>.ok d h|none=>.no):=rfl
theorem a6g:gIx (.ref k) (.int i) h=(match zq (.ref k) h with|some xs=>(match atI xs i with|some d=>.ok d h|none=>.no)|none=>.no):=rfl
theorem p8:m9 [.tup xs] h=.ok (.int xs.length) h:=rfl
theorem a1j:m9 [.rol xs] h=.ok (.int xs.length) h:=rfl
theorem yt:m9 [.ref k] h=(match zq (.ref k) h with|some xs=>.ok (.int xs.length) h|none=>.no):=rfl
theorem ux:dw (.int i) (.int j) h=.ok (.int (i+j)) h:=rfl
theorem a8a:a80 (.int i) (.int j) h=.ok (.int (i+j)) h:=rfl
open Classical in
theorem a9s:a1u (.int i) (.int j) h=if CMul i j then .ok (.int (i*j)) h else .no:=by unfold a1u;rfl
theorem m5(b:Bool):tru (.bl b) h=.ok b h:=rfl
theorem a8b:tru (.int i) h=.ok (i != 0) h:=rfl
theorem a8c:tru (.rol xs) h=.ok (!xs.isEmpty) h:=rfl
theorem a8d:tru (.tup xs) h=.ok (!xs.isEmpty) h:=rfl
theorem a8e:tru .non h=.ok false h:=rfl
theorem a9t:hEq (.int i) (.int j) h=.ok (.bl (i == j)) h:=rfl
theorem ae0:hNe (.int i) (.int j) h=.ok (.bl (!(i == j))) h:=rfl
theorem azx(a b:Str):hEq (.str a) (.str b) h=.ok (.bl (a == b)) h:=rfl
theorem akq(a b:Bool):hEq (.bl a) (.bl b) h=.ok (.bl (a == b)) h:=rfl
theorem aha(a b:Bool):hNe (.bl a) (.bl b) h=.ok (.bl (!(a == b))) h:=rfl
theorem a9u(x:D):gIs x .non h=.ok (.bl (a6a x)) h:=by cases x<;>rfl
theorem a06(x:D):ac3 x .non h=.ok (.bl (!a6a x)) h:=by cases x<;>rfl
theorem akr(a b:Bool):gIs (.bl a) (.bl b) h=.ok (.bl (a == b)) h:=rfl
theorem a5o(a b:Bool):ac3 (.bl a) (.bl b) h=.ok (.bl (a != b)) h:=rfl
theorem ay1:a6a (.int i)=false:=rfl
theorem ay2(x:Str):a6a (.str x)=false:=rfl
theorem ay3:a6a .non=true:=rfl
theorem ay4:a6a (.tup xs)=false:=rfl
end
end MI
namespace HND
open L2 MI AT
local macro_rules|`(tactic|walk_at "ev") => `(tactic|simp only[p6,yg,acj,a9o,ack,j7,afj,ab1,sIf,mq,yf,a8q,put,a6s,a8r,a3h,jb,a3m,kN,sV,sC,s2,s1,sA,aa,au,sNx,sT,asB,a2h,m5,a8b,a8c,a8d,a8e,adl,sOr,a3c,a0q,axx,a5a,sCh,axy,az,yz,MI.a5x,MI.a74,MI.a6g,apf,zq,gLt,gGt,gGe,gLe,a9t,ae0,akq,aha,a9u,a06,akr,a5o,ay1,ay2,ay3,ay4,ux,MI.a6u,a2i,a69,a9s,AT.akl,AT.p18,p8,a1j,yt,axz,a8a,aab,a2q,a2p,MI.uc,MI.a1o,sML,isL,a4b,oN,oS,a1e,a0c,sIt,afo,sRg,List.length_map,List.length_cons,List.length_nil,List.length_append,List.getElem?_cons_zero,List.getElem?_cons_succ,List.set_cons_zero,List.set_cons_succ,List.nil_append,List.cons_append,AT.akd,AT.ake,AT.akf,AT.akg,AT.akh,AT.aki,AT.akj,AT.akk,AT.x10,AT.x20,AT.x21,AT.x30,AT.x31,AT.x32,AT.x40,AT.x41,AT.x42,AT.x43,AT.x50,AT.x51,AT.x52,AT.x53,AT.x54,AT.x60,AT.x61,AT.x62,AT.x63,AT.x64,AT.x65,AT.x70,AT.x71,AT.x72,AT.x73,AT.x74,AT.x75,AT.x76,decide_true,decide_false,reduceIte,Bool.true_and,Bool.and_self,Bool.not_true,Bool.not_false,and_self,true_and,and_true,beq_self_eq_true,Nat.reduceAdd,Nat.reduceLeDiff,Nat.reduceLT,Nat.reducePow,Int.reduceLT,Int.reduceLE,Int.reduceNeg,Int.reduceEq,Int.reduceBEq,Bool.false_eq_true,Bool.true_eq_false,ite_true,ite_false,if_true,if_false, *])
structure Hand (o:O) (N:Nat):Prop where
 ex:∃(cells:List Int) (a l s c:Int),o=.lst [.rol (cells.map D.int),.int a,.int l,.int s,.int c]/\0<=a/\0<=l/\0<=s/\s<2147483647/\0<=c/\c<=N/\cells.length<=63
theorem Hand.clo(P:Hand o N):a1p 0 o:=by
 obtain⟨cells,a,l,s,c,rfl,_⟩:=P.ex;exact bh (ud (bz λx _=>bc x)) (bh (bc _) (bh (bc _) (bh (bc _) (bh (bc _) j6))))
theorem Hand.up(P:Hand o N)(h:N<=M):Hand o M:=by
 obtain⟨cells,a,l,s,c,e,h1,h2,h3,h4,h5,h6,h7⟩:=P.ex;exact⟨cells,a,l,s,c,e,h1,h2,h3,h4,h5,by omega,h7⟩
noncomputable def aj:SF:=kj a2o 4
theorem ahb(P:Hand o N)(hN:N<=1000000000)(m0:0<m)(m1:m<1073741824):∃r o',aj [.ref 0,.int m] [o]=.ok (.int r) [o']/\0<=r/\r<m/\Hand o' (N+1):=by
 obtain⟨cells,a,l,s,c,rfl,a0,l0,s0,s1,c0,c1,c63⟩:=P.ex;unfold aj;rw[dh];unfold a2o a2x;simp only[List.map_cons,List.map_nil,List.length_cons,List.length_nil,Nat.reduceSub,Nat.reduceAdd,List.replicate,List.cons_append,List.nil_append]
 by_cases h2:m<2
 .refine⟨0,_,?_,by omega,by omega,⟨cells,a,l,s,c,rfl,a0,l0,s0,s1,c0,by omega,c63⟩⟩
  walk_at "ev"
 .have k2:decide (m<2)=false:=decide_eq_false h2;have k3:(0<m/\m<1073741824)=True:=by simp[m0,m1]
  have k3':(0<m)=True:=by simp[m0]
  have draw:∀s':Int,0<=s'->s'<2147483647->∃r,0<=r/\r<m/\(s'+7368787*(c+1))^(5:Int).toNat%2147483647 / 1009%m=r/\CMul 7368787 (c+1)/\∀h,afr (.int (s'+7368787*(c+1))) (.int 5) h=.ok (.int ((s'+7368787*(c+1))^(5:Int).toNat)) h:=λs' h0 h1 =>
   ⟨_,Int.emod_nonneg _ (by omega),Int.emod_lt_of_pos _ m0,rfl,.inl ⟨by decide,by decide⟩,λh=>azs ⟨by decide,by decide,by omega⟩⟩
  by_cases hA:l=0/\a<(cells.length:Int)
  .obtain⟨rfl,ha⟩:=hA;obtain⟨j,rfl⟩:=Int.eq_ofNat_of_zero_le a0;have hj:j<cells.length:=by omega
   have hat:atI (cells.map D.int) (j:Int)=some (.int cells[j]):=vh (by simp[hj])
   have ka:decide ((j:Int)<(cells.length:Int))=true:=decide_eq_true ha;have cm:CMul s 48271:=.inr ⟨by decide,by decide⟩
   have s2:0<=(s*48271+cells[j])%2147483647:=Int.emod_nonneg _ (by decide)
   have s3:(s*48271+cells[j])%2147483647<2147483647:=Int.emod_lt_of_pos _ (by decide)
   generalize hs':(s*48271+cells[j])%2147483647=s' at s2 s3
   generalize hx:cells[j]=x at *
   by_cases hB:(1000000000000000000:Int)<=amd x
   .have kb:decide ((1000000000000000000:Int)<=amd x)=true:=decide_eq_true hB;have pos:0<amd x:=by omega
    have kc:decide (0<amd x)=true:=decide_eq_true pos;refine⟨amd x%m,_,?_,Int.emod_nonneg _ (by omega),Int.emod_lt_of_pos _ m0,⟨cells,(j:Int)+1,amd x / m,s',c,rfl,by omega,Int.ediv_nonneg (by omega) (by omega),s2,s3,c0,by omega,c63⟩⟩
    walk_at "ev"
   .have kb:decide ((1000000000000000000:Int)<=amd x)=false:=decide_eq_false hB;obtain⟨r,r0,r1,er,d1,d2⟩:=draw s' s2 s3;refine⟨r,_,?_,r0,r1,⟨cells,(j:Int)+1,0,s',c+1,rfl,by omega,by omega,s2,s3,by omega,by omega,c63⟩⟩
    walk_at "ev"
  .by_cases hC:0<l
   .have kc:decide (0<l)=true:=decide_eq_true hC;have kd:(l == 0)=false:=by simp;omega
    refine⟨l%m,_,?_,Int.emod_nonneg _ (by omega),Int.emod_lt_of_pos _ m0,⟨cells,a,l / m,s,c,rfl,a0,Int.ediv_nonneg (by omega) (by omega),s0,s1,c0,by omega,c63⟩⟩
    walk_at "ev"
   .have:l=0:=by omega
    subst this;have ka:decide (a<(cells.length:Int))=false:=decide_eq_false λz=>hA ⟨rfl,z⟩;obtain⟨r,r0,r1,er,d1,d2⟩:=draw s s0 s1;refine⟨r,_,?_,r0,r1,⟨cells,a,0,s,c+1,rfl,a0,by omega,s0,s1,by omega,by omega,c63⟩⟩
    walk_at "ev"
theorem jm(P:Hand o N)(hN:N<=1000000000)(m0:0<m)(m1:m<1073741824):∃r o',Dr aj 2 [.int m] o (.int r) o'/\0<=r/\r<m/\Hand o' (N+1):=by
 obtain⟨r,o',e,r0,r1,P'⟩:=ahb P hN m0 m1;refine⟨r,o',Dr.of rfl (by simp[bc]) P.clo e (j4 (bc _) ?_) (bc _) P'.clo,r0,r1,P'⟩
 intro u hu
 simp at hu
 subst hu;exact qj (by omega) P'.clo
end HND
namespace HND
open L2 MI AT
local macro_rules|`(tactic|walk_at "ev") => `(tactic|simp only[p6,yg,acj,a9o,ack,j7,afj,ab1,sIf,mq,yf,a8q,put,a6s,a8r,a3h,jb,a3m,kN,sV,sC,s2,s1,sA,aa,au,sNx,sT,asB,a2h,m5,a8b,a8c,a8d,a8e,adl,sOr,a3c,a0q,axx,a5a,sCh,axy,az,yz,MI.a5x,MI.a74,MI.a6g,apf,zq,gLt,gGt,gGe,gLe,a9t,ae0,akq,aha,a9u,a06,akr,a5o,ay1,ay2,ay3,ay4,ux,MI.a6u,a2i,a69,a9s,AT.akl,AT.p18,p8,a1j,yt,axz,a8a,aab,a2q,a2p,MI.uc,MI.a1o,sML,isL,a4b,oN,oS,a1e,a0c,sIt,afo,sRg,a2w,a0a,a1c,ab3,a3e,ab2,aef,apa,srcOf,  List.length_map,List.length_cons,List.length_nil,List.length_append,List.getElem?_cons_zero,List.getElem?_cons_succ,List.set_cons_zero,List.set_cons_succ,List.nil_append,List.cons_append,AT.akd,AT.ake,AT.akf,AT.akg,AT.akh,AT.aki,AT.akj,AT.akk,AT.x10,AT.x20,AT.x21,AT.x30,AT.x31,AT.x32,AT.x40,AT.x41,AT.x42,AT.x43,AT.x50,AT.x51,AT.x52,AT.x53,AT.x54,AT.x60,AT.x61,AT.x62,AT.x63,AT.x64,AT.x65,AT.x70,AT.x71,AT.x72,AT.x73,AT.x74,AT.x75,AT.x76,decide_true,decide_false,reduceIte,Bool.true_and,Bool.and_self,Bool.not_true,Bool.not_false,and_self,true_and,and_true,beq_self_eq_true,Nat.reduceAdd,Nat.reduceLeDiff,Nat.reduceLT,Nat.reducePow,Int.reduceLT,Int.reduceLE,Int.reduceNeg,Int.reduceEq,Int.reduceBEq,Bool.false_eq_true,Bool.true_eq_false,ite_true,ite_false,if_true,if_false, *])
noncomputable def nj:SF:=kj a2n 1
theorem aqb(ns:List Int)(h:Hd):∃o,Hand o 0/\dj true 1 nj [.scr (ns.map D.int)] h=.ok (.ref h.length) (h++[o]):=by
 have cl:clos 0 ((ns.take 63).map D.int):=bz λx _=>bc x;have z1:sZ (a1e (sV 0) oN (oS (sI 63))) [some (.scr (ns.map D.int))] []=.ok (.rol ((ns.take 63).map D.int)) []:=by
  refine a1f (by
   show gSl (.scr (ns.map D.int)) none (some ((63:Nat):Int)) []=_;unfold gSl;simp only[a7r,List.map_take]) cl (by simp)
 have z2:sZ (sA a3p (aa (sZ (a1e (sV 0) oN (oS (sI 63)))) au)) [some (.scr (ns.map D.int))] []=.ok (.rol ((ns.take 63).map D.int)) []:=by
  refine a1f (by
   simp only[sA,aa,au,z1,az]
   rfl) cl (by simp)
 have e:nj [.scr (ns.map D.int)] []=.ok (.ref 0) [.lst [.rol ((ns.take 63).map D.int),.int 0,.int 0,.int 7,.int 0]]:=by
  unfold nj;rw[dh];unfold a2n a2x;simp only[List.map_cons,List.map_nil,List.length_cons,List.length_nil,Nat.reduceSub,Nat.reduceAdd,List.replicate,List.append_nil];simp only[mq,sA,aa,au,sC,az,yz]at z2 ⊢;simp only[z2,az];rfl
 have P:Hand (.lst [.rol ((ns.take 63).map D.int),.int 0,.int 0,.int 7,.int 0]) 0:=⟨ns.take 63,0,0,7,0,rfl,by decide,by decide,by decide,by decide,by decide,by decide,by simp;omega⟩
 exact⟨_,P,amb rfl (by simpa[clo] using (bz λx _=>bc x:clos 0 (ns.map D.int))) e rfl P.clo h⟩
noncomputable def ay5:Str := " !\"#$&'()*+,-./0123456789:;<=>?@ABCDEFGHIJKLMNOPQRSTUVWXYZ[\\]^_`"
noncomputable def ay6:Str := "abcdefghijklmnopqrstuvwxyz{|}~\n"
noncomputable def sig:List Nat:=ay5.cps.toList++ay6.cps.toList
theorem ahc:sig.length=95:=by decide +kernel
theorem awr:sig.Nodup:=by decide +kernel
noncomputable def j8:SF:=kj a1g 1
theorem lits{h:Hd}:dw (.str ay5) (.str ay6) h=.ok (.str (S sig)) h:=by
 rw[<-ah8 ay5,<-ah8 ay6,a5d (by decide +kernel)]
 rfl
theorem acl:Pu j8 0 [] (.str (S sig)):=by
 refine Pu.of rfl (by simp) (r:=.ok (.str (S sig)) []) ?_ (by rw[j4 (jk _) (by simp)];rfl) (jk _)
 unfold j8;rw[dh];unfold a1g;have e:=@lits [];unfold ay5 ay6 at e;show toR (cj (j7 0 _) _ [none] [])=_;simp only[p6,j7,sC,yz,yg,mq,s2,sV,List.set_cons_zero,List.getElem?_cons_zero,az,e,a9o]
structure Tongue (l:List Nat):Prop where
 lo:1<=l.length
 hi:l.length<=6
 nd:l.Nodup
 sub:∀c∈l,c∈sig
noncomputable def j9:SF:=kj (a0g j8 aj) 5
theorem a9v(a r:List Nat)(i:Nat)(c:Nat)(e:r[i]? = some c):List.Perm (a++r) ((a++[c])++(r.take i++r.drop (i+1))):=by
 obtain⟨hi,e⟩:=List.getElem?_eq_some_iff.mp e;have:r=r.take i++c::r.drop (i+1):=by rw[<-e];simp
 rw[List.append_assoc];refine List.Perm.append_left a ?_;rw[List.singleton_append]
 conv=>lhs;rw[this]
 exact List.perm_middle
theorem a9w(P:Hand o N)(hN:N<=999999000):∃l o',Tongue l/\Dr j9 1 [] o (.str (S l)) o'/\Hand o' (N+7):=by
 obtain⟨r0,o1,e1,r0a,r0b,P1⟩:=jm (m:=6) P (by omega) (by decide) (by decide)
 have lo:=my (g:=kN 3) (b:=qp j8 aj) (λi:Nat=>D.int (0+(i:Nat)))
  (λpre τ h=>∃(aG told:List Nat) (u:O) (t3 t4:Option D),τ=[some (.ref 0),some (.str (S aG)),some (.str (S told)),t3,t4]/\h=[u]/\Hand u (N+1+pre.length)/\told.length=pre.length/\(told++aG).length=95/\(told++aG).Nodup/\∀c∈told++aG,c∈sig)
  (List.range (1+r0).toNat) [some (.ref 0),some (.str (S sig)),some (.str (S [])),none,none] [o1] ?_
  ⟨sig,[],o1,none,none,rfl,rfl,P1,rfl,by simp[ahc],by simpa using awr,by simp⟩
 .obtain⟨τ',h',e2,aG,told,u,t3,t4,rfl,rfl,P2,l1,l2,nd,sb⟩:=lo;rw[List.length_range]at P2 l1;have T:Tongue told:=⟨by omega,by omega,(List.nodup_append.mp nd).1,λc hc=>sb c (List.mem_append_left _ hc)⟩
  refine⟨told,u,T,Dr.of rfl (by simp) P.clo (r:=.ok (.str (S told)) [u]) ?_ (j4 (jk _) (by simpa using qj (by omega) P2.clo)) (jk _) P2.clo,P2.up (by omega)⟩
  unfold j9;rw[dh];unfold a0g a2x;simp only[List.map_cons,List.map_nil,List.length_cons,List.length_nil,Nat.reduceSub,Nat.reduceAdd,List.replicate,List.cons_append,List.nil_append];have c1:=acl [o];have c2:=e1 0 [o] rfl;have em:("" : Str)=S []:=rfl;have bd:B62 (1+r0):=by unfold B62;omega
  have e2:forL (λ_=>True) (kN 3) (qp j8 aj) (rng 0 (1+r0).toNat) [some (D.ref 0),some (D.str (S sig)),some (D.str (S [])),none,none] [o1]=_:=e2
  walk_at "ev"
 .rintro pre i post τ h all ⟨aG,told,u,t3,t4,rfl,rfl,P2,l1,l2,nd,sb⟩
  have aH:pre.length<(1+r0).toNat:=by
   have:=congrArg List.length all
   simp at this;omega
  rw[List.length_append]at l2;obtain⟨r,u',e2,ra,rb,P3⟩:=jm (m:=(aG.length:Nat)) P2 (by omega) (by omega) (by omega)
  obtain⟨j,rfl⟩:=Int.eq_ofNat_of_zero_le ra;have hj:j<aG.length:=by omega
  have gx:aG[j]? = some aG[j]:=List.getElem?_eq_getElem hj;have pp:=a9v told aG j aG[j] gx;refine⟨_,_,rfl,_,_,?_,aG.take j++aG.drop (j+1),told++[aG[j]],u',some (.int (0+(i:Nat))),some (.int (j:Nat)),rfl,rfl,by simpa[Nat.add_assoc] using P3,by simp[l1],?_,pp.nodup_iff.mp nd,λc hc=>sb c (pp.mem_iff.mpr hc)⟩
  .unfold qp;have L:∀n:Nat,n<=95->n<=LINE:=λn hn=>by show n<=16777216;omega
   have c2:=e2 0 [u] rfl;have x1:∀h,gIx (.str (S aG)) (.int (j:Nat)) h=.ok (.str (S [aG[j]])) h:=λh=>ay0 (L _ (by omega)) gx
   have x2:∀h,m9 [.str (S aG)] h=.ok (.int aG.length) h:=λh=>ab7 (L _ (by omega))
   have x3:∀h,dw (.str (S told)) (.str (S [aG[j]])) h=.ok (.str (S (told++[aG[j]]))) h:=λh=>a5d (L _ (by simp;omega))
   have x4:∀h,a8t (.str (S aG)) none (some (j:Int)) h=.ok (.str (S (aG.take j))) h:=λh=>b1a j (L _ (by omega))
   have x5:∀h,a8t (.str (S aG)) (some ((j:Int)+1)) none h=.ok (.str (S (aG.drop (j+1)))) h:=λh=>ah9 (j+1) (L _ (by omega))
   have x6:∀h,dw (.str (S (aG.take j))) (.str (S (aG.drop (j+1)))) h=.ok (.str (S (aG.take j++aG.drop (j+1)))) h:=λh=>a5d (L _ (by simp;omega))
   clear all aH
   walk_at "ev"
  .rw[<-pp.length_eq];simpa using l2
end HND
namespace HND
open L2 MI AT
theorem acn{ck:Hd->Prop}{g:SG}{b:SS}{α:Type}(f:α->D)(I:List α->Sd->Hd->Prop)(c:∀pre τ h,I pre τ h->ck h):∀(xs pre:List α) (τ:Sd) (h:Hd),
  (∀pre' x post τ h,pre++xs=pre'++x::post->I pre' τ h->∃τ1 h1,g (f x) τ h=.nx τ1 h1/\∃τ2 h2,b τ1 h1=.nx τ2 h2/\I (pre'++[x]) τ2 h2)->I pre τ h->∃τ' h',forL ck g b (xs.map f) τ h=.nx τ' h'/\I (pre++xs) τ' h'
 |[],pre,τ,h,_,i0=>⟨τ,h,by rw[List.map_nil,forL,if_pos (c _ _ _ i0)],by simpa using i0⟩
 |x::xs,pre,τ,h,st,i0=>by
  obtain⟨τ1,h1,e1,τ2,h2,e2,i2⟩:=st pre x xs τ h rfl i0;obtain⟨τ',h',e3,i3⟩:=acn f I c xs (pre++[x]) τ2 h2 (λpre' y post τ h e=>st pre' y post τ h (by simpa using e)) i2
  refine⟨τ',h',?_,by simpa using i3⟩
  rw[List.map_cons,forL,if_pos (c _ _ _ i0),e1];dsimp only;rw[e2];exact e3
noncomputable abbrev a2s(p:Nat×Nat):D:=.tup [.int (p.1:Nat),.int (p.2:Nat)]
noncomputable abbrev ail(r:List Int):O:=.lst (r.map D.int)
noncomputable def a5e(k:Nat):List D:=.ref 2::(List.range k).map λj=>.ref (4+j)
noncomputable def HP(u:O)(free:List (Nat×Nat))(r0:List Int)(rows:List (List Int)):Hd:=u::.lst (free.map a2s)::ail r0::.lst (a5e rows.length)::rows.map ail
noncomputable def adr(j:Nat):Nat:=if j=0 then 2 else 3+j
theorem aqc(h:j<=k):(a5e k)[j]? = some (.ref (adr j)):=by
 unfold a5e adr
 cases j with
 |zero=>rfl
 |succ j =>
  rw[List.getElem?_cons_succ,List.getElem?_map,List.getElem?_range (by omega),if_neg (by omega)]
  simp;omega
theorem aks(k:Nat):(a5e k).length=k+1:=by simp[a5e]
noncomputable def a75(r0:List Int)(rows:List (List Int))(a b:Nat)(v:Int):List Int×List (List Int):=if a=0 then (r0.set b v,rows) else (r0,rows.set (a-1) ((rows.getD (a-1) []).set b v))
theorem ab8(h:k<n):ixN n (k:Int)=some k:=by unfold ixN;rw[if_pos (by omega),if_pos (by omega)];simp
theorem amj{r0:List Int}{rows:List (List Int)}(ha:a<=rows.length)(hb:b<s)(l0:r0.length=s)(l1:∀r∈rows,r.length=s) :
  put (.ref (adr a)) (.int (b:Nat)) (.int v) (HP u free r0 rows)=some (HP u free (a75 r0 rows a b v).1 (a75 r0 rows a b v).2):=by
 unfold HP adr a75
 by_cases h0:a=0
 .subst h0;simp only[if_true,put,List.getElem?_cons_succ,List.getElem?_cons_zero,List.length_map,l0,ab8 hb,List.set_cons_succ,List.set_cons_zero,List.map_set,ail]
 .obtain⟨j,rfl⟩:∃j,a=j+1:=⟨a-1,by omega⟩
  have hj:j<rows.length:=by omega
  have lr:=l1 rows[j] (List.getElem_mem hj);simp only[if_neg h0,put,show 3+(j+1)=j+1+1+1+1 by omega,List.getElem?_cons_succ,List.getElem?_map,List.getElem?_eq_getElem hj,Option.map_some,List.length_map,lr,ab8 hb,List.set_cons_succ,Nat.add_sub_cancel,List.length_set,List.map_set,List.getD_eq_getElem?_getD,Option.getD_some,ail]
theorem ahd{r0:List Int}{rows:List (List Int)}(ha:a<=rows.length)(v0:0<=v)(v1:v<n)(h0:r0.length=s/\∀x∈r0,0<=x/\x<n)(h1:∀r∈rows,r.length=s/\∀x∈r,0<=x/\x<n) :
  ((a75 r0 rows a b v).1.length=s/\∀x∈(a75 r0 rows a b v).1,0<=x/\x<n)/\(a75 r0 rows a b v).2.length=rows.length/\∀r∈(a75 r0 rows a b v).2,r.length=s/\∀x∈r,0<=x/\x<n:=by
 have ins:∀{r:List Int} {k:Nat},(∀x∈r,0<=x/\x<n)->∀x∈r.set k v,0<=x/\x<n:=λhr x hx=>by
  rcases List.mem_or_eq_of_mem_set hx with hx|rfl
  .exact hr x hx
  .exact⟨v0,v1⟩
 unfold a75
 by_cases z:a=0
 .rw[if_pos z];exact⟨⟨by simp[h0.1],ins h0.2⟩,rfl,h1⟩
 .rw[if_neg z];refine⟨h0,by simp,λr hr=>?_⟩
  rcases List.mem_or_eq_of_mem_set hr with hr|rfl
  .exact h1 r hr
  .have hj:a-1<rows.length:=by omega
   have:=h1 rows[a-1] (List.getElem_mem hj)
   rw[List.getD_eq_getElem?_getD,List.getElem?_eq_getElem hj,Option.getD_some];exact⟨by simp[this.1],ins this.2⟩
theorem aqd:zq (.ref 3) (HP u free r0 rows)=some (a5e rows.length):=rfl
theorem aqe:zq (.ref 1) (HP u free r0 rows)=some (free.map a2s):=rfl
theorem amk{rows:List (List Int)}(ha:a<=rows.length):gIx (.ref 3) (.int (a:Nat)) (HP u free r0 rows)=.ok (.ref (adr a)) (HP u free r0 rows):=by
 rw[a6g,aqd];simp only[vh (aqc ha)]
noncomputable def jy:SF:=kj (a0t aj) 10
theorem akt{u:O}{free:List (Nat×Nat)}{r0:List Int}{rows:List (List Int)}:a1d 1 (HP u free r0 rows) FU (.ref 3)=some (.rol ((r0::rows).map λr=>.rol (r.map D.int))):=by
 have one:∀(i:Nat) (r:List Int),1<=i->(HP u free r0 rows)[i]? = some (ail r)->a1d 1 (HP u free r0 rows) 19 (.ref i)=some (.rol (r.map D.int)):=λi r hi e=>a86 hi e (bz λx _=>bc x);have all:a0b (a1d 1 (HP u free r0 rows) 19) (a5e rows.length)=some ((r0::rows).map λr=>.rol (r.map D.int)):=by
  unfold a5e;rw[List.map_cons];refine a2a (one 2 r0 (by omega) rfl) ?_
  have go:∀(k:Nat) (rs:List (List Int)),(∀j r,rs[j]? = some r->rows[k+j]? = some r)->a0b (a1d 1 (HP u free r0 rows) 19) ((List.range' k rs.length).map λj=>D.ref (4+j))=some (rs.map λr=>.rol (r.map D.int)):=by
   intro k rs
   induction rs generalizing k with
   |nil=>intro _;rfl
   |cons r rs ih =>
    intro hk
    rw[List.length_cons,List.range'_succ,List.map_cons,List.map_cons];refine a2a (one (4+k) r (by omega) ?_) (ih (k+1) λj r' e=>?_)
    .have:=hk 0 r rfl
     unfold HP;rw[show 4+k=k+1+1+1+1 by omega]
     simp only[List.getElem?_cons_succ,List.getElem?_map];rw[show k+0=k by omega]at this
     rw[this];rfl
    .have:=hk (j+1) r' (by simpa using e)
     rw[show k+1+j=k+(j+1) by omega];exact this
  have:=go 0 rows (λj r e=>by simpa using e)
  rw[<-List.range_eq_range']at this;exact this
 unfold FU a1d;rw[if_neg (by simp only[clo];omega)]
 have e3:(HP u free r0 rows)[3]? = some (.lst (a5e rows.length)):=rfl;simp only[e3,all,Option.map_some]
end HND
namespace MI
open L2
theorem azy(n:Nat):rng 0 n=(List.range n).map λi:Nat=>D.int (i:Nat):=by
 unfold rng;exact List.map_congr_left λi _=>by rw[Int.zero_add]
theorem azz(a:Int)(n:Nat):rng a n=(List.range n).map λi:Nat=>D.int (a+(i:Nat)):=rfl
theorem ab9(h:n<=LINE):B62 (n:Int):=by
 have:n<=16777216:=h
 unfold B62;omega
theorem ahe(h : -16777216<=n)(h':n<=16777216):B62 n:=by unfold B62;omega
theorem aml(h:Hd)(z:n<=LINE):a0a [.int (n:Nat)] h=.ok ⟨(List.range n).map λi:Nat=>D.int (i:Nat),λ_=>True⟩ h:=by
 unfold a0a;simp only[ab9 z,if_true,Int.toNat_natCast,azy]
theorem aws(h:Hd)(za:a<=LINE)(z:n<=LINE):a1c [.int (a:Nat),.int (n:Nat)] h=.ok ⟨(List.range (n-a)).map λi:Nat=>D.int ((a+i:Nat)),λ_=>True⟩ h:=by
 unfold a1c;simp only[ab9 z,ab9 za,and_self,if_true,azz];rw[show((n:Int)-(a:Int)).toNat=n-a by omega]
 congr 2
theorem b00(e:f τ h=.ok d h):aa f au τ h=.ok [d] h:=by unfold aa au;rw[e];rfl
theorem aqf(e:f τ h=.ok c h)(e':g τ h=.ok d h):aa f (aa g au) τ h=.ok [c,d] h:=by unfold aa;rw[e,az,e',az];rfl
theorem a3f(e:f τ h=.ok (.int (n:Nat)) h)(z:n<=LINE):sRg a0a (aa f au) τ h=.ok ⟨(List.range n).map λi:Nat=>D.int (i:Nat),λ_=>True⟩ h:=by
 unfold sRg;rw[b00 e,az];exact aml h z
theorem a4l(e':g τ h=.ok (.int (a:Nat)) h)(e:f τ h=.ok (.int (n:Nat)) h)(za:a<=LINE)(z:n<=LINE):sRg a1c (aa g (aa f au)) τ h=.ok ⟨(List.range (n-a)).map λi:Nat=>D.int ((a+i:Nat)),λ_=>True⟩ h:=by
 unfold sRg;rw[aqf e' e,az];exact aws h za z
theorem aq(e:τ[i]? = some (some d)):sV i τ h=.ok d h:=by unfold sV;rw[e]
theorem xf{fi:SI}{t:D->Option Sd}{fe:SE}{ix:List Nat}{τ:Sd}{h:Hd}{α:Type}(g F:α->D)(xs:List α)(e:fi τ h=.ok ⟨xs.map g,λ_=>True⟩ h)(z:xs.length<=LINE)
  (st:∀x∈xs,a7w t fe (frs' ix τ) (g x) h=.ok (F x) h):vg fi t fe ix τ h=.ok (.ref h.length) (h++[.lst (xs.map F)]):=by
 unfold vg;rw[e,az];dsimp only;rw[if_pos (by rw[List.length_map];exact z),a9p g F st]
 rfl
theorem a2b(fe:SE)(r:Sd)(x:D)(h:Hd):a7w t1 fe r x h=fe (some x::r) h:=rfl
theorem ahf(c:ST)(fe:SE)(r:Sd)(x:D)(h:Hd):a9h t1 c fe r x h=(c (some x::r) h).bind λb h1=>if b=true then (fe (some x::r) h1).bind λy h2=>.ok (some y) h2 else .ok none h1:=rfl
theorem a3w(i:Nat)(ix:List Nat)(τ:Sd):frs' (i::ix) τ=(τ[i]?).join::frs' ix τ:=rfl
theorem a6h(τ:Sd):frs' [] τ=[]:=rfl
end MI
namespace HND
open L2 MI AT
theorem a2c(h:List.range k=pre++i::post):i=pre.length/\i<k:=by
 have h1:=congrArg (λl=>l[pre.length]?) h;have h2:=congrArg List.length h;simp at h1 h2;have:pre.length<k:=by omega
 rw[List.getElem?_range this]at h1;simp at h1;omega
abbrev a1k(s n:Nat)(r:List Int):Prop:=r.length=s/\∀x∈r,0<=x/\x<(n:Int)
theorem amm:(HP u free r0 rows).length=4+rows.length:=by simp[HP];omega
theorem amn(c:a1p 0 u):∀o∈HP u free r0 rows,a1p (HP u free r0 rows).length o:=by
 intro o ho
 rw[amm];have rw1:∀r:List Int,a1p (4+rows.length) (ail r):=λr=>bz λx _=>bc x
 rcases List.mem_cons.mp ho with rfl|ho
 .exact qj (by omega) c
 rcases List.mem_cons.mp ho with rfl|ho
 .exact bz λx _=>jj (bh (bc _) (bh (bc _) j6))
 rcases List.mem_cons.mp ho with rfl|ho
 .exact rw1 _
 rcases List.mem_cons.mp ho with rfl|ho
 .show clos _ (a5e rows.length);refine bh (by simp only[clo];omega) ?_
  rw[jx]
  intro x hx
  obtain⟨j,hj,rfl⟩:=List.mem_map.mp hx;rw[List.mem_range]at hj;simp only[clo];omega
 .obtain⟨r,_,rfl⟩:=List.mem_map.mp ho;exact rw1 r
theorem a6i{α β:Type}(f:α->β):∀(l:List α) (k:Nat),(l.eraseIdx k).map f=(l.map f).eraseIdx k
 |[],_=>rfl
 |_::_,0=>rfl
 |x::l,k+1=>by simp[List.eraseIdx,a6i f l k]
theorem aku(e:free[k]? = some p)(z:free.length<=LINE):a3o (.ref 1) [.int (k:Nat)] (HP u free r0 rows)=.ok (a2s p) (HP u (free.eraseIdx k) r0 rows):=by
 have hk:k<free.length:=(List.getElem?_eq_some_iff.mp e).1;have e1:(HP u free r0 rows)[1]? = some (.lst (free.map a2s)):=rfl;unfold a3o;simp only[e1,List.length_map,ab8 hk,List.getElem?_map,e,Option.map_some,if_pos z,<-a6i];rfl
theorem akv{free more:List (Nat×Nat)}(z:free.length+more.length<=LINE):agh (.ref 1) [.rol (more.map a2s)] (HP u free r0 rows)=.ok .non (HP u (free++more) r0 rows):=by
 have e1:(HP u free r0 rows)[1]? = some (.lst (free.map a2s)):=rfl;unfold agh;simp only[e1,a0c,List.length_map,if_pos z,<-List.map_append];rfl
theorem aqg{rows:List (List Int)}(z:rows.length+1<LINE):a4b (.ref 3) [.ref (HP u free r0 rows).length] (HP u free r0 rows++[ail r])=.ok .non (HP u free r0 (rows++[r])):=by
 have e1:(HP u free r0 rows++[ail r])[3]? = some (.lst (a5e rows.length)):=rfl;unfold a4b;simp only[e1,aks,if_pos z];rw[amm];unfold HP;simp[a5e,List.range_succ]
theorem mul_zero(z:s<=LINE):a1u (.rol [.int 0]) (.int (s:Nat)) h=.ok (.ref h.length) (h++[ail (List.replicate s 0)]):=by
 unfold a1u;have z':s<=16777216:=z;simp only[a0c,List.length_cons,List.length_nil,Int.toNat_natCast];rw[if_pos ⟨⟨by omega,by omega⟩,by show _<=16777216;omega⟩]
 congr 3
 simp[ail]
theorem ahg(c:a1p 0 u)(z:s<=LINE)(z6:s<=6)(t1':τ[1]? = some (some (.int (s:Nat))))(t6:τ[6]? = some (some (.int (room:Nat)))) :
  sZ (vg (sRg a0a (aa (sV 1) au)) t1 (zc aj) [6]) τ (HP u free r0 rows)=.ok (.rol (((List.range s).map λj=>(room,j)).map a2s)) (HP u free r0 rows):=by
 refine a1f ?_ (bz λx _=>jj (bh (bc _) (bh (bc _) j6))) (amn c);rw[List.map_map];refine xf (λi:Nat=>D.int (i:Nat)) (λj:Nat=>a2s (room,j)) (List.range s) ?_ (by rw[List.length_range];exact z) λx _=>?_
 .exact a3f (aq t1') z
 .rw[a2b,a3w,a6h,t6];unfold zc;simp only[Option.join_some,sA,aa,au,sV,List.getElem?_cons_zero,List.getElem?_cons_succ,az,MI.uc,List.length_cons,List.length_nil,Nat.reduceAdd,if_pos (show(2:Nat)<=LINE by decide)]
end HND
namespace MI
open L2
section
variable{f k f1 f2 f3:SE}{c c1 c2:ST}{g p q:SS}{τ τ1:Sd}{h h1 h2 h3 h4:Hd}{a b d v:D}{i:Nat}{t u:Bool}
theorem a5f(d:D)(τ:Sd)(h:Hd):sC d τ h=.ok d h:=rfl
theorem b1b(e3:G [] h=.ok v h1):sA G au τ h=.ok v h1:=e3
theorem ue(e1:f τ h=.ok a h1)(e3:G [a] h1=.ok v h2):sA G (aa f au) τ h=.ok v h2:=by
 have:aa f au τ h=.ok [a] h1:=by unfold aa;rw[e1];rfl
 unfold sA;rw[this,az,e3]
theorem o9(e1:f τ h=.ok a h1)(e2:k τ h1=.ok b h2)(e3:G [a,b] h2=.ok v h3):sA G (aa f (aa k au)) τ h=.ok v h3:=by
 have:aa f (aa k au) τ h=.ok [a,b] h2:=by unfold aa;rw[e1,az,e2];rfl
 unfold sA;rw[this,az,e3]
theorem a1l(e0:f1 τ h=.ok d h1)(e1:f τ h1=.ok a h2)(e2:k τ h2=.ok b h3)(e3:G [d,a,b] h3=.ok v h4):sA G (aa f1 (aa f (aa k au))) τ h=.ok v h4:=by
 have:aa f1 (aa f (aa k au)) τ h=.ok [d,a,b] h3:=by unfold aa;rw[e0,az,e1,az,e2];rfl
 unfold sA;rw[this,az,e3]
theorem jo(e:f τ h=.ok d h1):cj (j7 i f) g τ h=g (τ.set i (some d)) h1:=by
 rw[p6];unfold j7;rw[e];rfl
theorem ahh(e:f τ h=.ok d h1):j7 i f τ h=.nx (τ.set i (some d)) h1:=by
 unfold j7;rw[e];rfl
theorem xr(e:p τ h=.nx τ1 h1):cj p g τ h=g τ1 h1:=by rw[p6,e];rfl
theorem a07(e:p τ h=.rt d h1):cj p g τ h=.rt d h1:=by rw[p6,e];rfl
theorem ifT(e:c τ h=.ok true h1):sIf c p q τ h=p τ h1:=by unfold sIf;rw[e];rfl
theorem ifF(e:c τ h=.ok false h1):sIf c p q τ h=q τ h1:=by unfold sIf;rw[e];rfl
theorem ifN(e:c τ h=.ok false h1):cj (sIf c p sNx) g τ h=g τ h1:=by rw[p6,ifF e];rfl
theorem tof(e:f τ h=.ok (.bl t) h1):sT f τ h=.ok t h1:=by unfold sT;rw[e];rfl
theorem zm(e:f τ h=.ok d h1)(e':tru d h1=.ok t h2):a2h f τ h=.ok t h2:=by unfold a2h;rw[e,az,e']
theorem ark(e:c1 τ h=.ok true h1)(e':c2 τ h1=.ok t h2):adl c1 c2 τ h=.ok t h2:=by unfold adl;rw[e,az,if_pos rfl,e']
theorem ay7(e:c1 τ h=.ok false h1):adl c1 c2 τ h=.ok false h1:=by unfold adl;rw[e,az,if_neg (by simp)]
theorem orT(e:c1 τ h=.ok true h1):sOr c1 c2 τ h=.ok true h1:=by unfold sOr;rw[e,az,if_pos rfl]
theorem orF(e:c1 τ h=.ok false h1)(e':c2 τ h1=.ok t h2):sOr c1 c2 τ h=.ok t h2:=by unfold sOr;rw[e,az,if_neg (by simp),e']
theorem a4m(e:c τ h=.ok t h1):a3c c τ h=.ok (!t) h1:=by unfold a3c;rw[e];rfl
theorem arl(e:c τ h=.ok true h1):a3c c τ h=.ok false h1:=a4m e
theorem ay8(e:c τ h=.ok false h1):a3c c τ h=.ok true h1:=a4m e
theorem jr(e:f τ h=.ok d h1):mq f τ h=.rt d h1:=by unfold mq;rw[e];rfl
theorem akx(e:f τ h=.ok (.bl true) h1)(e':k τ h1=.ok d h2):a0q f k τ h=.ok d h2:=by unfold a0q;rw[e,az];exact e'
theorem a1r(e1:f τ h=.ok d h1)(l:isL d h1=true)(e2:A τ h1=.ok ds h2)(e3:G d ds h2=.ok v h3):yf (sML G f A) τ h=.nx τ h3:=by
 unfold yf sML;rw[e1,az,if_pos l,e2,az,e3];rfl
theorem awt(e1:f τ h=.ok d h1)(l:isL d h1=true)(e2:A τ h1=.ok ds h2)(e3:G d ds h2=.ok v h3):sML G f A τ h=.ok v h3:=by
 unfold sML;rw[e1,az,if_pos l,e2,az,e3]
theorem arg1(e:f τ h=.ok d h1):aa f au τ h=.ok [d] h1:=by unfold aa au;rw[e];rfl
theorem gh(e1:f τ h=.ok a h1)(e2:k τ h1=.ok b h2)(e3:G a b h2=.ok v h3):s2 G f k τ h=.ok v h3:=by
 unfold s2;rw[e1,az,e2,az,e3]
theorem aaf(e:τ[i]? = some (some a))(e3:G a d h=.ok v h3):s2 G (sV i) (sC d) τ h=.ok v h3:=gh (aq e) (a5f _ _ _) e3
theorem ckk:sC d τ h=.ok d h:=rfl
theorem tvc(e:τ[i]? = some (some a))(e3:G a d h=.ok (.bl t) h3):sT (s2 G (sV i) (sC d)) τ h=.ok t h3:=tof (gh (aq e) (a5f _ _ _) e3)
theorem t2s(e1:f τ h=.ok a h1)(e2:k τ h1=.ok b h2)(e3:G a b h2=.ok (.bl t) h3):sT (s2 G f k) τ h=.ok t h3:=tof (gh e1 e2 e3)
theorem ifr(e:c τ h=.ok true h1)(e2:f τ h1=.ok d h2):sIf c (mq f) q τ h=.rt d h2:=Eq.trans (ifT e) (jr e2)
theorem ets{rr:R D}(e:f τ h=.ok d h1)(e2:toR (g (τ.set i (some d)) h1)=rr):toR (cj (j7 i f) g τ h)=rr:=by rw[jo e,e2]
theorem eti{rr:R D}(e:c τ h=.ok false h1)(e2:toR (g τ h1)=rr):toR (cj (sIf c p sNx) g τ h)=rr:=by rw[ifN e,e2]
theorem etr{fa fb:Fl}{rr:R D}(e:fa=fb)(e2:toR fb=rr):toR fa=rr:=by rw[e,e2]
theorem awu(e1:f τ h=.ok a h1)(e3:G a h1=.ok v h2):s1 G f τ h=.ok v h2:=by
 unfold s1;rw[e1,az,e3]
theorem aqh(ht:τ[i]? = some (some a))(e:f τ h=.ok b h1)(e2:G a b h1=.ok d h2):afj i G f τ h=.nx (τ.set i (some d)) h2:=by
 unfold afj;rw[ht];dsimp only;rw[e,yz,e2];rfl
theorem ae1(e:f τ h=.ok d h1)(e2:G d τ h1=.nx τ1 h2):a8r f G τ h=.nx τ1 h2:=by
 unfold a8r;rw[e,yz,e2]
theorem aqi(e1:f1 τ h=.ok v h1)(e2:f2 τ h1=.ok a h2)(e3:f3 τ h2=.ok b h3)(e4:put a b v h3=some h4):a8q f1 f2 f3 τ h=.nx τ h4:=by
 unfold a8q;rw[e1,yz,e2,yz,e3,yz,e4]
theorem ahi(e1:f1 τ h=.ok v h1)(e2:f2 τ h1=.ok a h2)(e3:f3 τ h2=.ok b h3)(e4:ama a b v h3=some h4):a6s f1 f2 f3 τ h=.nx τ h4:=by
 unfold a6s;rw[e1,yz,e2,yz,e3,yz,e4]
theorem a2t{fi:SI}{G:SG}{b:SS}{xs:List D}{ck:Hd->Prop}(e:fi τ h=.ok ⟨xs,ck⟩ h1):cj (a2w fi G b) g τ h=thn (forL ck G b xs τ h1) g:=by
 rw[p6];unfold a2w;rw[e];rfl
theorem aco(e:f τ h=.ok d h1)(e2:afo d h1=.ok ⟨xs,ck⟩ h1):sIt f τ h=.ok ⟨xs,ck⟩ h1:=by
 unfold sIt;rw[e,az,e2]
theorem a2y(e:h[i]? = some (.lst xs))(z:xs.length<LINE):a4b (.ref i) [a] h=.ok .non (h.set i (.lst (xs++[a]))):=by
 unfold a4b;simp only[e,if_pos z]
theorem aqj(e:h[i]? = some (.lst xs))(hj:j<xs.length):put (.ref i) (.int (j:Nat)) v h=some (h.set i (.lst (xs.set j v))):=by
 have:ixN xs.length (j:Int)=some j:=by unfold ixN;rw[if_pos (by omega),if_pos (by omega)];simp
 unfold put;simp only[e,this]
theorem aqk(e:h[i]? = some (.lst xs))(hj:xs[j]? = some y)(z:xs.length<=LINE):a3o (.ref i) [.int (j:Nat)] h=.ok y (h.set i (.lst (xs.eraseIdx j))):=by
 have lt:j<xs.length:=(List.getElem?_eq_some_iff.mp hj).1;have:ixN xs.length (j:Int)=some j:=by unfold ixN;rw[if_pos (by omega),if_pos (by omega)];simp
 unfold a3o;simp only[e,this,hj,if_pos z]
theorem a9x(e:h[i]? = some (.lst xs))(hj:xs[j]? = some y):gIx (.ref i) (.int (j:Nat)) h=.ok y h:=by
 rw[a6g];unfold zq;simp only[e,vh hj]
theorem awv(hj:xs[j]? = some y):gIx (.rol xs) (.int (j:Nat)) h=.ok y h:=by
 rw[a74];simp only[vh hj]
theorem a1v(hj:xs[j]? = some y):gIx (.tup xs) (.int (j:Nat)) h=.ok y h:=by
 rw[a5x];simp only[vh hj]
theorem aba(e:h[i]? = some (.lst xs)):m9 [.ref i] h=.ok (.int (xs.length:Nat)) h:=by
 rw[yt];unfold zq;simp only[e]
theorem a8f(e:h[i]? = some (.lst xs)):yw [.ref i] h=.ok (.tup xs) h:=by
 unfold yw zq;simp only[e]
theorem div_ii(c:0<y/\y<1073741824):a69 (.int x) (.int y) h=.ok (.int (x / y)) h:=by unfold a69;exact if_pos c
theorem a4u(c:0<y):a2i (.int x) (.int y) h=.ok (.int (x%y)) h:=by unfold a2i;exact if_pos c
theorem b1c(c:y<x):gGt (.int x) (.int y) h=.ok (.bl true) h:=by unfold gGt;simp only[c,decide_true]
theorem b1d(c:¬ y<x):gGt (.int x) (.int y) h=.ok (.bl false) h:=by unfold gGt;simp only[c,decide_false]
theorem a0y(c:x=y):hEq (.int x) (.int y) h=.ok (.bl true) h:=by rw[a9t,c,beq_self_eq_true]
theorem a08(c:¬ x=y):hEq (.int x) (.int y) h=.ok (.bl false) h:=by rw[a9t,beq_eq_false_iff_ne.mpr c]
theorem aww(c:x=y):hNe (.int x) (.int y) h=.ok (.bl false) h:=by rw[ae0,c,beq_self_eq_true];rfl
theorem awx(c:¬ x=y):hNe (.int x) (.int y) h=.ok (.bl true) h:=by rw[ae0,beq_eq_false_iff_ne.mpr c];rfl
theorem ahj(x:Int):aab (.int x) h=.ok (.int (-x)) h:=rfl
theorem a76(x y:Int):MI.a6u (.int x) (.int y) h=.ok (.int (x-y)) h:=rfl
theorem dm(h:n<=1000000):n<=LINE:=by show n<=16777216;omega
theorem a0z(h:n<=1000000):n<LINE:=by show n<16777216;omega
theorem ae2:MI.uc [a,b] h=.ok (.tup [a,b]) h:=by unfold MI.uc;rw[if_pos (dm (by simp))]
theorem arn:MI.uc [a,b,v] h=.ok (.tup [a,b,v]) h:=by unfold MI.uc;rw[if_pos (dm (by simp))]
end
end MI
namespace HND
open L2 MI AT
theorem b1e:isL (.ref 1) (HP u free r0 rows)=true:=rfl
theorem b33:isL (.ref 3) (HP u free r0 rows)=true:=rfl
theorem b1f{u:O}{free:List (Nat×Nat)}{r0:List Int}{rows:List (List Int)}:m9 [.ref 1] (HP u free r0 rows)=.ok (.int (free.length:Nat)) (HP u free r0 rows):=by
 rw[yt,aqe];simp only[List.length_map]
def Slt(L:List (List Int))(p k r:Nat):Prop:=∃row,L[p]? = some row/\row[k]? = some ((r:Nat):Int)
def Tre(L:List (List Int))(free:List (Nat×Nat))(m:Nat):Prop:=∀r,1<=r->r<m->∃p k,p<r/\Slt L p k r/\(p,k)∉free
theorem ahk{r0:List Int}{rows:List (List Int)}{v:Int}{p k r:Nat}(ne:(p,k)≠(a,b))(h:Slt (r0::rows) p k r):Slt ((a75 r0 rows a b v).1::(a75 r0 rows a b v).2) p k r:=by
 obtain⟨row,h1,h2⟩:=h;unfold a75
 by_cases ha:a=0
 .subst ha;rw[if_pos rfl]
  cases p with
  |zero =>
   cases h1
   exact⟨_,rfl,by rw[List.getElem?_set_ne (λz=>ne (by rw[z]))];exact h2⟩
  |succ p=>exact⟨row,h1,h2⟩
 .rw[if_neg ha]
  cases p with
  |zero=>exact⟨row,h1,h2⟩
  |succ p =>
   rw[List.getElem?_cons_succ]at h1
   by_cases e:a-1=p
   .refine⟨((rows.getD (a-1) []).set b v),?_,?_⟩
    .rw[List.getElem?_cons_succ,e,List.getElem?_set_self (List.getElem?_eq_some_iff.mp h1).1]
    .rw[List.getElem?_set_ne (λz=>ne (by rw[z,<-e];congr 1;omega)),e,List.getD_eq_getElem?_getD,h1]
     exact h2
   .exact⟨row,by rw[List.getElem?_cons_succ,List.getElem?_set_ne e];exact h1,h2⟩
theorem aql{r0:List Int}{rows:List (List Int)}{r:Nat}(ha:a<=rows.length)(hb:b<s)(l0:r0.length=s)(l1:∀r∈rows,r.length=s):Slt ((a75 r0 rows a b (r:Nat)).1::(a75 r0 rows a b (r:Nat)).2) a b r:=by
 unfold a75
 cases a with
 |zero=>exact⟨_,rfl,by show(r0.set b _)[b]? = _;rw[List.getElem?_set_self (by omega)]⟩
 |succ a =>
  rw[if_neg (by omega),Nat.add_sub_cancel]
  have hl:a<rows.length:=by omega
  refine⟨_,by rw[List.getElem?_cons_succ,List.getElem?_set_self hl],?_⟩
  rw[List.getElem?_set_self];rw[List.getD_eq_getElem?_getD,List.getElem?_eq_getElem hl];show b<rows[a].length;rw[l1 _ (List.getElem_mem hl)];exact hb
theorem ahl{L M:List (List Int)}(h:Slt L p k r):Slt (L++M) p k r:=by
 obtain⟨row,h1,h2⟩:=h;exact⟨row,by rw[List.getElem?_append_left (List.getElem?_eq_some_iff.mp h1).1];exact h1,h2⟩
theorem ahm{free:List (Nat×Nat)}{rows:List (List Int)}{t6:Option D}(P:Hand o N)(hN:N<=999999000)(s1:1<=s)(s6:s<=6)(n32:n<=32)(hi:1+i<n)(lr:rows.length=i)(f1:s<=free.length)(f2:free.length<=1000)(ff:∀p∈free,p.1<=i/\p.2<s)(q0:a1k s n r0)(q1:∀r∈rows,a1k s n r)(fr:free.Nodup)(tr:Tre (r0::rows) free (1+i)) :
  ∃(u:O) (free':List (Nat×Nat)) (r0':List Int) (rows':List (List Int)) (z7 z8 z9:Option D),vq aj [some (.ref 0),some (.int (s:Nat)),some (.int (n:Nat)),some (.int m),some (.ref 1),some (.ref 3),some (.int ((1+i:Nat))),t7,t8,t9] (HP o free r0 rows)=.nx [some (.ref 0),some (.int (s:Nat)),some (.int (n:Nat)),some (.int m),some (.ref 1),some (.ref 3),some (.int ((1+i:Nat))),z7,z8,z9] (HP u free' r0' rows')
   /\ Hand u (N+2)/\rows'.length=i+1/\s<=free'.length/\free'.length<=free.length+s/\(∀p∈free',p.1<=i+1/\p.2<s)/\a1k s n r0'/\(∀r∈rows',a1k s n r)/\free'.Nodup/\Tre (r0'::rows') free' (2+i):=by
 obtain⟨x,o1,e1,x0,x1,P1⟩:=jm (m:=(s:Nat)) P (by omega) (by omega) (by omega)
 obtain⟨y,o2,e2,y0,y1,P2⟩:=jm (m:=(free.length:Nat)) P1 (by omega) (by omega) (by omega)
 obtain⟨k,u,hk,Pu,ek⟩:∃(k:Nat) (u:O),k<free.length/\Hand u (N+2)/\∀τ:Sd,∀τ':Sd,τ=[some (.ref 0),some (.int (s:Nat)),some (.int (n:Nat)),some (.int m),some (.ref 1),some (.ref 3),some (.int ((1+i:Nat))),t7,t8,t9]->τ'=[some (.ref 0),some (.int (s:Nat)),some (.int (n:Nat)),some (.int m),some (.ref 1),some (.ref 3),some (.int ((1+i:Nat))),some (.int (k:Nat)),t8,t9]->∀g:SS,
   (cj (j7 7 (s2 a6u (s2 a6u (sA m9 (aa (sV 4) au)) (sI 1)) (sA (dj false 2 aj) (aa (sV 0) (aa (sV 1) au)))))
 (cj (sIf (sT (s2 hEq (sV 3) (sI 0)))
 (j7 7 (sA (dj false 2 aj) (aa (sV 0) (aa (sA m9 (aa (sV 4) au)) au))))
 sNx) g)) τ (HP o free r0 rows)=g τ' (HP u free r0 rows):=by
  have c1:dj false 2 aj [.ref 0,.int (s:Nat)] (HP o free r0 rows)=.ok (.int x) (HP o1 free r0 rows):=e1 0 _ rfl;have c2:dj false 2 aj [.ref 0,.int (free.length:Nat)] (HP o1 free r0 rows)=.ok (.int y) (HP o2 free r0 rows):=e2 0 _ rfl;have l1:=@b1f o free r0 rows;have l2:=@b1f o1 free r0 rows
  by_cases hm:m=0
  .obtain⟨k,rfl⟩:=Int.eq_ofNat_of_zero_le y0;refine⟨k,o2,by omega,P2,λτ τ' eτ eτ' g=>?_⟩
   subst eτ eτ' hm;simp only[p6,yg,j7,sIf,sV,sC,s2,sA,aa,au,sNx,sT,asB,az,yz,MI.a6u,a9t,l1,l2,c1,c2,List.getElem?_cons_zero,List.getElem?_cons_succ,List.set_cons_zero,List.set_cons_succ,beq_self_eq_true,if_true,a2h,m5]
  .have hb:(m == 0)=false:=by simpa using hm
   refine⟨(free.length-1-x).toNat,o1,by omega,P1.up (by omega),λτ τ' eτ eτ' g=>?_⟩
   subst eτ eτ';rw[show(((free.length:Int)-1-x).toNat:Int)=(free.length:Int)-1-x by omega]
   simp only[p6,yg,j7,sIf,sV,sC,s2,sA,aa,au,sNx,sT,asB,az,yz,MI.a6u,a9t,l1,l2,c1,c2,List.getElem?_cons_zero,List.getElem?_cons_succ,List.set_cons_zero,List.set_cons_succ,hb,Bool.false_eq_true,if_false,a2h,m5]
 have gk:free[k]? = some free[k]:=List.getElem?_eq_getElem hk;obtain⟨fa,fb⟩:=ff free[k] (List.getElem_mem hk);have pn:free[k]∉free.eraseIdx k:=λz=>by
  obtain⟨j,_,ne,e⟩:=List.mem_eraseIdx_iff_getElem.mp z;exact ne ((List.getElem_inj fr).mp e)
 generalize free[k]=p at gk fa fb pn
 have l0:=dm (n:=free.length) (by omega)
 have so:=ahd (b:=p.2) (v:=((1+i:Nat):Int)) (by omega:p.1<=rows.length) (by omega) (by omega:((1+i:Nat):Int)<(n:Int)) q0 q1
 refine⟨u,free.eraseIdx k++(List.range s).map (λj=>(1+i,j)),(a75 r0 rows p.1 p.2 ((1+i:Nat):Int)).1,(a75 r0 rows p.1 p.2 ((1+i:Nat):Int)).2++[List.replicate s 0],some (.int (k:Nat)),some (.int (p.1:Nat)),some (.int (p.2:Nat)),?_,Pu,?_,?_,?_,?_,so.1,?_,?_,?_⟩
 .unfold vq;rw[ek _ _ rfl rfl];rw[p6];have st1:∀τ:Sd,τ=[some (.ref 0),some (.int (s:Nat)),some (.int (n:Nat)),some (.int m),some (.ref 1),some (.ref 3),some (.int ((1+i:Nat))),some (.int (k:Nat)),t8,t9]->a8r (sML a3o (sV 4) (aa (sV 7) au)) (a3h 2 (jb (kN 8) (jb (kN 9) a3m))) τ (HP u free r0 rows)=.nx [some (.ref 0),some (.int (s:Nat)),some (.int (n:Nat)),some (.int m),some (.ref 1),some (.ref 3),some (.int ((1+i:Nat))),some (.int (k:Nat)),some (.int (p.1:Nat)),some (.int (p.2:Nat))] (HP u (free.eraseIdx k) r0 rows):=by
   rintro τ rfl
   unfold a8r;rw[awt (aq rfl) b1e (arg1 (aq rfl)) (aku gk l0)];rfl
  rw[st1 _ rfl,yg,p6]
  generalize HT:([some (.ref 0),some (.int (s:Nat)),some (.int (n:Nat)),some (.int m),some (.ref 1),some (.ref 3),some (.int ((1+i:Nat))),some (.int (k:Nat)),some (.int (p.1:Nat)),some (.int (p.2:Nat))]:Sd)=τ
  have pa:=amj (u:=u) (free:=free.eraseIdx k) (v:=((1+i:Nat):Int)) (by omega:p.1<=rows.length) fb q0.1 λr hr=>(q1 r hr).1
  have st2:a8q (sV 6) (s2 gIx (sV 5) (sV 8)) (sV 9) τ (HP u (free.eraseIdx k) r0 rows)=.nx τ (HP u (free.eraseIdx k) (a75 r0 rows p.1 p.2 ((1+i:Nat):Int)).1 (a75 r0 rows p.1 p.2 ((1+i:Nat):Int)).2):=by
   subst HT;unfold a8q;rw[aq rfl,yz,gh (aq rfl) (aq rfl) (amk (by omega)),yz,aq rfl,yz,pa]
  rw[st2,yg,p6]
  generalize (a75 r0 rows p.1 p.2 ((1+i:Nat):Int)).1=r0' at so
  generalize (a75 r0 rows p.1 p.2 ((1+i:Nat):Int)).2=rows' at so
  have st3:yf (sML a4b (sV 5) (aa (s2 a1u (sZ (sA a1o (aa (sI 0) au))) (sV 1)) au)) τ (HP u (free.eraseIdx k) r0' rows')=.nx τ (HP u (free.eraseIdx k) r0' (rows'++[List.replicate s 0])):=by
   subst HT;exact a1r (aq rfl) b33 (arg1 (gh (a1f (xs:=[.int 0]) rfl (bh (bc _) j6) (amn Pu.clo)) (aq rfl) (mul_zero (dm (by omega))))) (aqg (by have:=so.2.1;have:=dm (n:=rows'.length+2) (by omega);omega))
  rw[st3,yg];subst HT;refine a1r (aq rfl) b1e (arg1 (ahg Pu.clo (dm (by omega)) s6 rfl rfl)) (akv (dm ?_))
  simp only[List.length_eraseIdx,List.length_map,List.length_range]
  split<;>omega
 .rw[List.length_append,so.2.1,lr];rfl
 .simp only[List.length_append,List.length_eraseIdx,List.length_map,List.length_range]
  split<;>omega
 .simp only[List.length_append,List.length_eraseIdx,List.length_map,List.length_range]
  split<;>omega
 .intro q hq
  rcases List.mem_append.mp hq with h|h
  .have:=ff q (List.mem_of_mem_eraseIdx h)
   omega
  .obtain⟨j,hj,rfl⟩:=List.mem_map.mp h;rw[List.mem_range]at hj;exact⟨by simp only[];omega,hj⟩
 .intro r hr
  rcases List.mem_append.mp hr with h|h
  .exact so.2.2 r h
  .rw[List.mem_singleton]at h;subst h;exact⟨by simp,λx hx=>by rw[List.eq_of_mem_replicate hx];omega⟩
 .refine List.nodup_append.mpr ⟨fr.sublist (List.eraseIdx_sublist ..),List.nodup_range.map _ |> λz=>z λa b ne e=>ne (congrArg Prod.snd e),λq hq q' hq' e=>?_⟩
  subst e;obtain⟨j,_,rfl⟩:=List.mem_map.mp hq';have:=ff _ (List.mem_of_mem_eraseIdx hq);simp only at this;omega
 .have nw:∀{a c:Nat},a<1+i->(a,c)∉free.eraseIdx k->(a,c)∉free.eraseIdx k++(List.range s).map λj=>(1+i,j):=λha hn z=>by
   rcases List.mem_append.mp z with z|z
   .exact hn z
   .obtain⟨j,_,e⟩:=List.mem_map.mp z;have:=congrArg Prod.fst e;simp only at this;omega
  intro r r1 r2
  rw[<-List.cons_append]
  by_cases e:r=1+i
  .subst e;exact⟨p.1,p.2,by omega,ahl (aql (by omega) fb q0.1 λr hr=>(q1 r hr).1),nw (by omega) pn⟩
  .obtain⟨a,c,h1,h2,h3⟩:=tr r r1 (by omega)
   exact⟨a,c,h1,ahl (ahk (λz=>h3 (by rw[z];exact List.mem_of_getElem? gk)) h2),nw (by omega) λz=>h3 (List.mem_of_mem_eraseIdx z)⟩
theorem ahn{o:O}{N s n:Nat}{p:Nat×Nat}{free:List (Nat×Nat)}{r0:List Int}{rows:List (List Int)}{t3 t6 t7:Option D}(P:Hand o N)(hN:N<=999999000)(n1:1<=n)(n32:n<=32)(pa:p.1<=rows.length)(pb:p.2<s)(q0:a1k s n r0)(q1:∀r∈rows,a1k s n r) :
  ∃(u:O) (r0':List Int) (rows':List (List Int)),vy aj [some (.ref 0),some (.int (s:Nat)),some (.int (n:Nat)),t3,some (.ref 1),some (.ref 3),t6,t7,some (.int (p.1:Nat)),some (.int (p.2:Nat))] (HP o free r0 rows)=.nx [some (.ref 0),some (.int (s:Nat)),some (.int (n:Nat)),t3,some (.ref 1),some (.ref 3),t6,t7,some (.int (p.1:Nat)),some (.int (p.2:Nat))] (HP u free r0' rows')
   /\ Hand u (N+1)/\rows'.length=rows.length/\a1k s n r0'/\(∀r∈rows',a1k s n r)/\∀q c r,(q,c)≠p->Slt (r0::rows) q c r->Slt (r0'::rows') q c r:=by
 obtain⟨x,o1,e1,x0,x1,P1⟩:=jm (m:=(n:Nat)) P (by omega) (by omega) (by omega)
 have so:=ahd (b:=p.2) pa x0 x1 q0 q1;have pa':=amj (u:=o1) (free:=free) (v:=x) pa pb q0.1 λr hr=>(q1 r hr).1;refine⟨o1,_,_,?_,P1,so.2.1,so.1,so.2.2,λq c r ne h=>ahk ne h⟩;have c1:dj false 2 aj [.ref 0,.int (n:Nat)] (HP o free r0 rows)=.ok (.int x) (HP o1 free r0 rows):=e1 0 _ rfl;unfold vy a8q
 generalize HT:([some (.ref 0),some (.int (s:Nat)),some (.int (n:Nat)),t3,some (.ref 1),some (.ref 3),t6,t7,some (.int (p.1:Nat)),some (.int (p.2:Nat))]:Sd)=τ
 have a1:(sA (dj false 2 aj) (aa (sV 0) (aa (sV 2) au))) τ (HP o free r0 rows)=.ok (.int x) (HP o1 free r0 rows):=by
  subst HT;unfold sA;rw[aqf (aq rfl) (aq rfl),az,c1]
 rw[a1,yz];subst HT;rw[gh (aq rfl) (aq rfl) (amk pa),yz,aq rfl,yz,pa']
theorem acp(P:Hand o N)(hN:N<=999990000)(s1:1<=s)(s6:s<=6)(n1:1<=n)(n32:n<=32) :
  ∃(rows:List (List Int)) (o':O),rows.length=n/\(∀r∈rows,a1k s n r)/\Dr jy 3 [.int (s:Nat),.int (n:Nat)] o (.rol (rows.map λr=>.rol (r.map D.int))) o'/\Hand o' (N+1000)/\∀r,1<=r->r<n->∃p k,p<r/\Slt rows p k r:=by
 obtain⟨m,o1,e1,m0,m1,P1⟩:=jm (m:=2) P (by omega) (by omega) (by omega)
 have z:a1k s n (List.replicate s 0):=⟨by simp,λx hx=>by rw[List.eq_of_mem_replicate hx];omega⟩
 have lo:=my (g:=kN 6) (b:=vq aj) (λi:Nat=>D.int ((1+i:Nat)))
  (λpre τ h=>∃(u:O) (free:List (Nat×Nat)) (r0:List Int) (rows:List (List Int)) (t6 t7 t8 t9:Option D),τ=[some (.ref 0),some (.int (s:Nat)),some (.int (n:Nat)),some (.int m),some (.ref 1),some (.ref 3),t6,t7,t8,t9]/\h=HP u free r0 rows/\Hand u (N+1+2*pre.length)/\rows.length=pre.length/\s<=free.length/\free.length<=s+s*pre.length/\(∀p∈free,p.1<=pre.length/\p.2<s)/\a1k s n r0/\(∀r∈rows,a1k s n r)/\free.Nodup/\Tre (r0::rows) free (1+pre.length))
  (List.range (n-1)) [some (.ref 0),some (.int (s:Nat)),some (.int (n:Nat)),some (.int m),some (.ref 1),some (.ref 3),none,none,none,none] (HP o1 ((List.range s).map λj=>(0,j)) (List.replicate s 0) []) ?_
  ⟨o1,_,_,[],none,none,none,none,rfl,rfl,P1,rfl,by simp,by simp,λp hp=>by
   obtain⟨j,hj,rfl⟩:=List.mem_map.mp hp;rw[List.mem_range]at hj;exact⟨Nat.le_refl _,hj⟩,z,by simp,List.nodup_range.map _ |> (λz=>z λa b ne e=>ne (congrArg Prod.snd e)),λr r1 r2=>absurd r2 (by show ¬ r<1+0;omega)⟩
 .obtain⟨τ',h',e2,u,free,r0,rows,t6,t7,t8,t9,rfl,rfl,P2,l1,l2,l3,ff,q0,q1,fr,tr⟩:=lo;rw[List.length_range]at P2 l1 l3 ff tr;have f31:s*(n-1)<=6*31:=Nat.mul_le_mul s6 (by omega)
  have lo2:=acn (g:=a3h 2 (jb (kN 8) (jb (kN 9) a3m))) (b:=vy aj) (ck:=λh=>h[1]? = some (.lst (free.map a2s))) a2s
   (λpre τ h=>∃(u:O) (r0:List Int) (rows:List (List Int)) (t8 t9:Option D),τ=[some (.ref 0),some (.int (s:Nat)),some (.int (n:Nat)),some (.int m),some (.ref 1),some (.ref 3),t6,t7,t8,t9]/\h=HP u free r0 rows/\Hand u (N+1+2*(n-1)+pre.length)/\rows.length=n-1/\a1k s n r0/\(∀r∈rows,a1k s n r)/\Tre (r0::rows) free (1+(n-1)))
   (λpre τ h ⟨u,r0,rows,_,_,_,e,_⟩=>by rw[e];rfl) free [] [some (.ref 0),some (.int (s:Nat)),some (.int (n:Nat)),some (.int m),some (.ref 1),some (.ref 3),t6,t7,t8,t9] (HP u free r0 rows) ?_ ⟨u,r0,rows,t8,t9,rfl,rfl,P2,l1,q0,q1,tr⟩
  .obtain⟨τ',h',e3,u',r0',rows',t8',t9',rfl,rfl,P3,l1',q0',q1',tr'⟩:=lo2;rw[List.nil_append]at P3;refine⟨r0'::rows',u',by rw[List.length_cons];omega,λr hr=>by
    rcases List.mem_cons.mp hr with rfl|h
    .exact q0'
    .exact q1' r h,?_,P3.up (by omega),λr r1 r2=>let ⟨p,k,h1,h2,_⟩:=tr' r r1 (by omega); ⟨p,k,h1,h2⟩⟩
   refine Dr.of rfl (by intro x hx;simp only[List.mem_cons,List.not_mem_nil,or_false]at hx;rcases hx with rfl|rfl<;>exact bc _) P.clo (r:=.ok (.ref 3) (HP u' free r0' rows')) ?_ (a4k akt (by intro x hx;rw[show List.take 1 (HP u' free r0' rows')=[u'] from rfl,List.mem_singleton]at hx;subst hx;exact qj (by omega) P3.clo)) (ud (bz λx _=>ud (bz λy _=>bc y))) P3.clo
   unfold jy;rw[dh];show toR (a0t aj [some (.ref 0),some (.int (s:Nat)),some (.int (n:Nat)),none,none,none,none,none,none,none] [o])=_;unfold a0t;have c1:dj false 2 aj [.ref 0,.int 2] [o]=.ok (.int m) [o1]:=e1 0 _ rfl;rw[jo (o9 (aq rfl) ckk c1)];simp only[List.set_cons_zero,List.set_cons_succ];have z6:=dm (n:=s) (by omega)
   have c2:∀τ:Sd,τ[1]? = some (some (.int (s:Nat)))->vg (sRg a0a (aa (sV 1) au)) t1 (zb aj) [] τ [o1]=.ok (.ref 1) ([o1]++[.lst ((List.range s).map λj=>a2s (0,j))]):=λτ ht=>by
    refine xf (λi:Nat=>D.int (i:Nat)) (λj:Nat=>a2s (0,j)) (List.range s) (a3f (aq ht) z6) (by rw[List.length_range];exact z6) λx _=>?_
    rw[a2b,a6h];unfold zb;simp only[sA,aa,au,sV,sC,List.getElem?_cons_zero,az,MI.uc,List.length_cons,List.length_nil,Nat.reduceAdd,if_pos (show(2:Nat)<=LINE by decide)]
    rfl
   rw[jo (c2 _ rfl)];simp only[List.set_cons_zero,List.set_cons_succ,List.cons_append,List.nil_append];have cl:∀x∈[o1,O.lst ((List.range s).map λj=>a2s (0,j))],a1p 2 x:=by
    intro x hx
    simp only[List.mem_cons,List.not_mem_nil,or_false]at hx
    rcases hx with rfl|rfl
    .exact qj (by omega) P1.clo
    .exact bz λx _=>jj (bh (bc _) (bh (bc _) j6))
   have c3:∀τ:Sd,τ[1]? = some (some (.int (s:Nat)))->sA a1o (aa (s2 a1u (sZ (sA a1o (aa (sI 0) au))) (sV 1)) au) τ [o1,O.lst ((List.range s).map λj=>a2s (0,j))]=.ok (.ref 3) (HP o1 ((List.range s).map λj=>(0,j)) (List.replicate s 0) []):=λτ ht=>by
    refine ue (gh (a1f (xs:=[.int 0]) rfl (bh (bc _) j6) cl) (aq ht) (mul_zero z6)) ?_;unfold MI.a1o HP;simp only[List.map_map,List.length_nil,List.map_nil];rfl
   rw[jo (c3 _ rfl)];simp only[List.set_cons_zero,List.set_cons_succ];have i2:∀(τ:Sd) (h:Hd),τ[2]? = some (some (.int (n:Nat)))->sRg a1c (aa (sI 1) (aa (sV 2) au)) τ h=.ok ⟨(List.range (n-1)).map λi:Nat=>D.int ((1+i:Nat)),λ_=>True⟩ h:=λτ h ht=>a4l (a:=1) ckk (aq ht) (dm (by omega)) (dm (by omega))
   rw[a2t (i2 _ _ rfl),e2,yg];have i3:∀τ:Sd,τ[4]? = some (some (.ref 1))->sIt (sV 4) τ (HP u free r0 rows)=.ok ⟨free.map a2s,λh=>h[1]? = some (.lst (free.map a2s))⟩ (HP u free r0 rows):=λτ ht=>by
    unfold sIt;rw[aq ht,az];rfl
   rw[a2t (i3 _ rfl),e3,yg];rfl
  .rintro pre p post τ h all ⟨u,r0,rows,t8,t9,rfl,rfl,P3,l1',q0',q1',tr'⟩
   rw[List.nil_append]at all;have hp:p∈free:=by rw[all];simp
   have hl:pre.length<free.length:=by rw[all];simp
   obtain⟨fa,fb⟩:=ff p hp;obtain⟨u',r0',rows',e4,P4,l4,q4,q5,q6⟩:=ahn (t3:=some (.int m)) (t6:=t6) (t7:=t7) (free:=free) P3 (by omega) n1 n32 (by omega:p.1<=rows.length) fb q0' q1'
   exact⟨_,_,rfl,_,_,e4,u',r0',rows',_,_,rfl,rfl,by simpa[Nat.add_assoc] using P4,by omega,q4,q5,λr r1 r2=>let ⟨a,c,h1,h2,h3⟩:=tr' r r1 r2; ⟨a,c,h1,q6 a c r (λz=>h3 (by rw[z];exact hp)) h2,h3⟩⟩
 .rintro pre i post τ h all ⟨u,free,r0,rows,t6,t7,t8,t9,rfl,rfl,P2,l1,l2,l3,ff,q0,q1,fr,tr⟩
  obtain⟨hi,hk⟩:=a2c all;have f31:s*pre.length<=6*31:=Nat.mul_le_mul s6 (by omega)
  obtain⟨u',free',r0',rows',z7,z8,z9,e3,P3,l4,l5,l6,f',q3,q4,fr',tr'⟩:=ahm (m:=m) (t6:=t6) (t7:=t7) (t8:=t8) (t9:=t9) (i:=i) P2 (by omega) s1 s6 n32 (by omega) (by omega:rows.length=i) l2 (by omega) (λp hp=>by have:=ff p hp;omega) q0 q1 fr (by rw[hi];exact tr)
  refine⟨_,_,rfl,_,_,e3,u',free',r0',rows',_,z7,z8,z9,rfl,rfl,P3.up (by rw[List.length_append,List.length_singleton];omega),by rw[List.length_append,List.length_singleton];omega,l5,?_,λp hp=>by rw[List.length_append,List.length_singleton];have:=f' p hp;omega,q3,q4,fr',by rw[List.length_append,List.length_singleton,show 1+(pre.length+1)=2+i by omega];exact tr'⟩
  rw[List.length_append,List.length_singleton,Nat.mul_add];omega
theorem aqm(P:Hand o N)(hN:N<=999990000)(s1:1<=s)(s6:s<=6)(n1:1<=n)(n32:n<=32) :
  ∃(rows:List (List Int)) (o':O),rows.length=n/\(∀r∈rows,a1k s n r)/\Dr jy 3 [.int (s:Nat),.int (n:Nat)] o (.rol (rows.map λr=>.rol (r.map D.int))) o'/\Hand o' (N+1000) :=
 let ⟨rows,o',a,b,c,d,_⟩:=acp P hN s1 s6 n1 n32
 ⟨rows,o',a,b,c,d⟩
noncomputable def jq:SF:=kj (zu aj) 6
abbrev KOk(k:Int):Prop := -1<=k/\k<=5
theorem ae3{ks:List Int}(P:Hand o N)(hN:N<=999999000)(l:ks.length<=100) :
  ∃(u:O) (k:Int),ug aj [some (.ref 0),some (.int n),some (.int m),some (.ref 1),some (.int room),t5] [o,.lst (ks.map D.int)]=.nx [some (.ref 0),some (.int n),some (.int m),some (.ref 1),some (.int room),some (.int k)] [u,.lst ((ks++[k]).map D.int)]/\Hand u (N+2)/\KOk k:=by
 obtain⟨x,o1,e1,x0,x1,P1⟩:=jm (m:=7) P (by omega) (by omega) (by omega)
 obtain⟨y,o2,e2,y0,y1,P2⟩:=jm (m:=3) P1 (by omega) (by omega) (by omega)
 have c1:dj false 2 aj [.ref 0,.int 7] [o,.lst (ks.map D.int)]=.ok (.int x) [o1,.lst (ks.map D.int)]:=e1 0 _ rfl;have c2:dj false 2 aj [.ref 0,.int 3] [o1,.lst (ks.map D.int)]=.ok (.int y) [o2,.lst (ks.map D.int)]:=e2 0 _ rfl;have fin:∀(u:O) (k:Int),yf (sML a4b (sV 3) (aa (sV 5) au)) [some (.ref 0),some (.int n),some (.int m),some (.ref 1),some (.int room),some (.int k)] [u,.lst (ks.map D.int)]=.nx [some (.ref 0),some (.int n),some (.int m),some (.ref 1),some (.int room),some (.int k)] [u,.lst ((ks++[k]).map D.int)]:=λu k=>by
  rw[List.map_append];exact a1r (aq rfl) rfl (arg1 (aq rfl)) (a2y (xs:=ks.map D.int) rfl (by rw[List.length_map];exact a0z (by omega)))
 unfold ug
 by_cases h1:m=1
 .subst h1;refine⟨o1,(x-1) / 5,?_,P1.up (by omega),by omega⟩
  refine Eq.trans (jo (gh (o9 (aq rfl) ckk c1) ckk (a76 _ _))) ?_;refine Eq.trans (xr (Eq.trans (ifT (tvc rfl (a0y rfl))) (ahh (aaf rfl (div_ii (by decide)))))) ?_
  refine Eq.trans (ifN (ay7 (tvc rfl (a08 (by decide))))) ?_
  exact fin _ _
 .by_cases h2:m=2
  .subst h2
   by_cases hy:0<y
   .refine⟨o2,-1,?_,P2,by decide⟩
    refine Eq.trans (jo (gh (o9 (aq rfl) ckk c1) ckk (a76 _ _))) ?_;refine Eq.trans (ifN (tvc rfl (a08 h1))) ?_;refine Eq.trans (xr (Eq.trans (ifT (ark (tvc rfl (a0y rfl)) (t2s (o9 (aq rfl) ckk c2) ckk (b1c hy)))) (ahh (awu ckk (ahj _))))) ?_;exact fin _ _
   .refine⟨o2,x-1,?_,P2,by omega⟩
    refine Eq.trans (jo (gh (o9 (aq rfl) ckk c1) ckk (a76 _ _))) ?_;refine Eq.trans (ifN (tvc rfl (a08 h1))) ?_;refine Eq.trans (ifN (ark (tvc rfl (a0y rfl)) (t2s (o9 (aq rfl) ckk c2) ckk (b1d hy)))) ?_;exact fin _ _
  .refine⟨o1,x-1,?_,P1.up (by omega),by omega⟩
   refine Eq.trans (jo (gh (o9 (aq rfl) ckk c1) ckk (a76 _ _))) ?_;refine Eq.trans (ifN (tvc rfl (a08 h1))) ?_;refine Eq.trans (ifN (ay7 (tvc rfl (a08 h2)))) ?_;exact fin _ _
theorem kinds_ok(P:Hand o N)(hN:N<=999990000)(n1:1<=n)(n32:n<=32) :
  ∃(ks:List Int) (o':O),ks.length=n/\ks[0]? = some (-1)/\(∀k∈ks,KOk k)/\Dr jq 2 [.int (n:Nat)] o (.rol (ks.map D.int)) o'/\Hand o' (N+1000):=by
 obtain⟨m,o1,e1,m0,m1,P1⟩:=jm (m:=3) P (by omega) (by omega) (by omega)
 have lo:=my (g:=kN 4) (b:=ug aj) (λi:Nat=>D.int ((1+i:Nat)))
  (λpre τ h=>∃(u:O) (ks:List Int) (t4 t5:Option D),τ=[some (.ref 0),some (.int (n:Nat)),some (.int m),some (.ref 1),t4,t5]/\h=[u,.lst (ks.map D.int)]/\Hand u (N+1+2*pre.length)/\ks.length=1+pre.length/\ks[0]? = some (-1)/\∀k∈ks,KOk k)
  (List.range (n-1)) [some (.ref 0),some (.int (n:Nat)),some (.int m),some (.ref 1),none,none] [o1,.lst ([-1].map D.int)] ?_
  ⟨o1,[-1],none,none,rfl,rfl,P1,rfl,rfl,by intro k hk;rw[List.mem_singleton]at hk;subst hk;decide⟩
 .obtain⟨τ',h',e2,u,ks,t4,t5,rfl,rfl,P2,l1,k0,kk⟩:=lo;rw[List.length_range]at P2 l1;refine⟨ks,u,by omega,k0,kk,?_,P2.up (by omega)⟩
  refine Dr.of rfl (by intro x hx;simp only[List.mem_cons,List.not_mem_nil,or_false]at hx;rw[hx];exact bc _) P.clo (r:=.ok (.ref 1) [u,.lst (ks.map D.int)]) ?_ (a3t (Nat.le_refl _) rfl (bz λx _=>bc x) (by intro x hx;rw[show List.take 1 [u,O.lst (ks.map D.int)]=[u] from rfl,List.mem_singleton]at hx;subst hx;exact qj (by omega) P2.clo)) (ud (bz λy _=>bc y)) P2.clo
  unfold jq;rw[dh];show toR (zu aj [some (.ref 0),some (.int (n:Nat)),none,none,none,none] [o])=_;unfold zu;have c1:dj false 2 aj [.ref 0,.int 3] [o]=.ok (.int m) [o1]:=e1 0 _ rfl;rw[jo (o9 (aq rfl) ckk c1),jo (d:=.ref 1) (h1:=[o1,.lst ([-1].map D.int)]) rfl];simp only[List.set_cons_zero,List.set_cons_succ];have i2:∀(τ:Sd) (h:Hd),τ[1]? = some (some (.int (n:Nat)))->sRg a1c (aa (sI 1) (aa (sV 1) au)) τ h=.ok ⟨(List.range (n-1)).map λi:Nat=>D.int ((1+i:Nat)),λ_=>True⟩ h:=λτ h ht=>a4l (a:=1) ckk (aq ht) (dm (by omega)) (dm (by omega))
  rw[a2t (i2 _ _ rfl),e2,yg];rfl
 .rintro pre i post τ h all ⟨u,ks,t4,t5,rfl,rfl,P2,l1,k0,kk⟩
  obtain⟨hi,hk⟩:=a2c all;obtain⟨u',k,e3,P3,hk3⟩:=ae3 (n:=n) (m:=m) (room:=((1+i:Nat):Int)) (t5:=t5) P2 (by omega) (by omega:ks.length<=100)
  refine⟨_,_,rfl,_,_,e3,u',ks++[k],_,_,rfl,rfl,P3.up (by rw[List.length_append,List.length_singleton];omega),by rw[List.length_append,List.length_append,List.length_singleton,List.length_singleton];omega,?_,λq hq=>?_⟩
  .rw[List.getElem?_append_left (by omega)];exact k0
  .rcases List.mem_append.mp hq with h|h
   .exact kk q h
   .rw[List.mem_singleton]at h;subst h;exact hk3
noncomputable abbrev ak(i:Nat):D:=.int (i:Nat)
noncomputable def dz:SF:=kj (uh aj) 9
theorem qx(l:List Nat):clos k (l.map ak):=bz λx _=>bc _
theorem aho(P:Hand o N)(hN:N<=999990000)(n1:1<=n)(n32:n<=32) :
  ∃(pl:List Nat) (u:O),sWh (rm aj) (n6 aj) 100000 [some (.ref 0),some d1,some d2,some (.ref 1),some (.ref 2),t5,t6,t7,t8] [o,.lst (((List.range (n-1)).map (1+·)).map ak),.lst ([0].map ak)]=.nx [some (.ref 0),some d1,some d2,some (.ref 1),some (.ref 2),t5,t6,t7,t8] [u,.lst [],.lst (pl.map ak)]
   /\ List.Perm pl (List.range n)/\pl[0]? = some 0/\Hand u (N+32):=by
 have w:=aka (c:=rm aj) (f:=n6 aj)
  (λm τ h=>∃(u:O) (pl aG:List Nat),τ=[some (.ref 0),some d1,some d2,some (.ref 1),some (.ref 2),t5,t6,t7,t8]/\h=[u,.lst (aG.map ak),.lst (pl.map ak)]/\m=aG.length/\List.Perm (pl++aG) (List.range n)/\pl[0]? = some 0/\Hand u (N+pl.length))
  (λτ h=>∃(u:O) (pl:List Nat),τ=[some (.ref 0),some d1,some d2,some (.ref 1),some (.ref 2),t5,t6,t7,t8]/\h=[u,.lst [],.lst (pl.map ak)]/\List.Perm pl (List.range n)/\pl[0]? = some 0/\Hand u (N+32))
  (λ_ _=>False) ?_ (n-1) 100000 [some (.ref 0),some d1,some d2,some (.ref 1),some (.ref 2),t5,t6,t7,t8] [o,.lst (((List.range (n-1)).map (1+·)).map ak),.lst ([0].map ak)] (by omega)
  ⟨o,[0],(List.range (n-1)).map (1+·),rfl,rfl,by simp,?_,rfl,P.up (by omega)⟩
 .rcases w with⟨τ',h',e,u,pl,rfl,rfl,a,b,c⟩|⟨_,_,_,z⟩
  .exact⟨pl,u,e,a,b,c⟩
  .exact z.elim
 .rintro m τ h ⟨u,pl,aG,rfl,rfl,rfl,pm,p0,Pu⟩
  have ln:(pl++aG).length=n:=by rw[pm.length_eq,List.length_range]
  rw[List.length_append]at ln
  cases aG with
  |nil =>
   refine .inl ⟨_,?_,u,pl,rfl,rfl,by simpa using pm,p0,Pu.up (by omega)⟩
   exact t2s (ue (aq rfl) (aba rfl)) ckk (b1d (by simp))
  |cons r0 rs =>
   refine .inr ⟨_,t2s (ue (aq rfl) (aba rfl)) ckk (b1c (by simp)),.inl ?_⟩
   generalize hr:r0::rs=aG at *
   have rl:0<aG.length:=by rw[<-hr];simp
   obtain⟨x,u',e1,x0,x1,P1⟩:=jm (m:=(aG.length:Nat)) Pu (by omega) (by omega) (by omega)
   obtain⟨j,rfl⟩:=Int.eq_ofNat_of_zero_le x0;have hj:j<aG.length:=by omega
   have gx:aG[j]? = some aG[j]:=List.getElem?_eq_getElem hj;have pp:=a9v pl aG j aG[j] gx;rw[<-List.eraseIdx_eq_take_drop_succ]at pp;have c1:dj false 2 aj [.ref 0,.int ((aG.map ak).length:Nat)] [u,.lst (aG.map ak),.lst (pl.map ak)]=.ok (.int (j:Nat)) [u',.lst (aG.map ak),.lst (pl.map ak)]:=by
    rw[List.length_map];exact e1 0 _ rfl
   refine⟨_,[u',.lst ((aG.eraseIdx j).map ak),.lst ((pl++[aG[j]]).map ak)],(aG.eraseIdx j).length,?_,?_,u',pl++[aG[j]],aG.eraseIdx j,rfl,rfl,rfl,pp.symm.trans pm,?_,?_⟩
   .unfold n6;refine a1r (v:=.non) (aq rfl) rfl (arg1 (awt (aq rfl) rfl (arg1 (o9 (aq rfl) (ue (aq rfl) (aba rfl)) c1)) (aqk (xs:=aG.map ak) rfl (y:=ak aG[j]) (by rw[List.getElem?_map,gx];rfl) (by rw[List.length_map];exact dm (by omega))))) ?_
    rw[<-a6i,List.map_append];exact a2y (xs:=pl.map ak) rfl (by rw[List.length_map];exact a0z (by omega))
   .rw[List.length_eraseIdx,if_pos hj];omega
   .have:0<pl.length:=by
     cases pl with
     |nil=>simp at p0
     |cons a b=>simp
    rw[List.getElem?_append_left this];exact p0
   .rw[List.length_append,List.length_singleton];exact P1
 .obtain⟨k,rfl⟩:∃k,n=k+1:=⟨n-1,by omega⟩
  rw[List.range_succ_eq_map,show k+1-1=k by omega]
  refine List.Perm.of_eq ?_;show 0::_=_
  congr 1
  exact List.map_congr_left λi _=>by simp[Nat.succ_eq_add_one,Nat.add_comm]
theorem ahp{α:Type}{xs:List α}{pre post:List (Nat×α)}{x:Nat×α}(h:(List.range xs.length).zip xs=pre++x::post):x.1=pre.length/\xs[pre.length]? = some x.2:=by
 have h1:=congrArg (λl=>l[pre.length]?) h;have h2:=congrArg List.length h;simp at h1 h2;have hl:pre.length<xs.length:=by omega
 rw[List.getElem?_eq_getElem (by simpa using hl)]at h1
 simp at h1
 rw[List.getElem?_eq_getElem hl,<-h1];exact⟨rfl,rfl⟩
theorem all_map{α:Type}(f:α->D)(P:α->Prop):∀(l:List D),(∀x∈l,∃r,P r/\x=f r)->∃G:List α,l=G.map f/\∀r∈G,P r
 |[],_=>⟨[],rfl,by simp⟩
 |x::l,h=>by
  obtain⟨r,pr,rfl⟩:=h _ List.mem_cons_self;obtain⟨G,rfl,pG⟩:=all_map f P l λy hy=>h y (List.mem_cons_of_mem _ hy);exact⟨r::G,rfl,λq hq=>by
   rcases List.mem_cons.mp hq with rfl|h
   .exact pr
   .exact pG q h⟩
noncomputable abbrev a3x(r:List Nat):D:=.tup (r.map ak)
noncomputable abbrev a2d(r:List Int):D:=.rol (r.map D.int)
abbrev aqn(s n:Nat)(r:List Nat):Prop:=r.length=s/\∀x∈r,x<n
theorem aky{a b:List Nat}(e:a3x a=a3x b):a=b:=by
 have e:=D.tup.inj e;exact(List.map_inj_right λx y h=>by have:=D.int.inj h;omega).mp e
theorem ahq{N s n i q:Nat}{pl:List Nat}{ks ts:List Int}{rs:List D}{k:Int}(Pu:Hand u N)(n32:n<=32)(s6:s<=6)(pm:List.Perm pl (List.range n))(hq:pl[i]? = some q)(hk:ks[i]? = some k)(hr:a1k s n r)(lr:rs.length=n)(lt:ts.length=n)(cr:∀x∈rs,clo 0 x) :
  ∃r':List Nat,r'=(r.map λx=>(pl[x.toNat]?).getD 0)/\aqn s n r'/\n8 aj [some (.ref 0),some d1,some (.rol (ks.map D.int)),some (.ref 1),some (.ref 2),some (.ref 3),some (.ref 4),some (ak i),some (a2d r)] [u,.lst [],.lst (pl.map ak),.lst rs,.lst (ts.map D.int)]=.nx [some (.ref 0),some d1,some (.rol (ks.map D.int)),some (.ref 1),some (.ref 2),some (.ref 3),some (.ref 4),some (ak i),some (a2d r)] [u,.lst [],.lst (pl.map ak),.lst (rs.set q (a3x r')),.lst ((ts.set q k).map D.int)]:=by
 have pln:pl.length=n:=by rw[pm.length_eq,List.length_range]
 have at':∀x:Int,x∈r->∃(j:Nat),x=j/\∃y:Nat,y<n/\pl[j]? = some y:=λx hx=>by
  obtain⟨a,b⟩:=hr.2 x hx;obtain⟨j,rfl⟩:=Int.eq_ofNat_of_zero_le a;have hj:j<pl.length:=by omega
  exact⟨j,rfl,pl[j],by have:=pm.mem_iff.mp (List.getElem_mem hj);simpa using this,List.getElem?_eq_getElem hj⟩
 have qn:q<n:=by
  have:=List.mem_of_getElem? hq
  simpa using pm.mem_iff.mp this
 refine⟨r.map λx=>(pl[x.toNat]?).getD 0,rfl,⟨by simp[hr.1],λy hy=>?_⟩,?_⟩
 .obtain⟨x,hx,rfl⟩:=List.mem_map.mp hy;obtain⟨j,rfl,y,yn,e⟩:=at' x hx;simpa[e] using yn
 .have cl:∀o∈[u,O.lst [],.lst (pl.map ak),.lst rs,.lst (ts.map D.int)],a1p 5 o:=by
   intro o ho
   simp only[List.mem_cons,List.not_mem_nil,or_false]at ho
   rcases ho with rfl|rfl|rfl|rfl|rfl
   .exact qj (by omega) Pu.clo
   .exact(j6:clos 5 [])
   .exact qx _
   .exact jx.mpr λx hx=>a4s (by omega) (cr x hx)
   .exact bz λx _=>bc x
  have cz:sZ (vg (sIt (sV 8)) t1 (xn aj) [4]) [some (.ref 0),some d1,some (.rol (ks.map D.int)),some (.ref 1),some (.ref 2),some (.ref 3),some (.ref 4),some (ak i),some (a2d r)] [u,.lst [],.lst (pl.map ak),.lst rs,.lst (ts.map D.int)]=.ok (.rol (r.map λx=>ak ((pl[x.toNat]?).getD 0))) [u,.lst [],.lst (pl.map ak),.lst rs,.lst (ts.map D.int)]:=by
   refine a1f (xf D.int (λx=>ak ((pl[x.toNat]?).getD 0)) r (aco (aq rfl) rfl) (dm ?_) λx hx=>?_) (bz λx _=>bc _) cl
   .have:=hr.1
    omega
   .obtain⟨j,rfl,y,yn,e⟩:=at' x hx;rw[a2b];refine(gh (aq rfl) (aq rfl) (a9x (xs:=pl.map ak) rfl (y:=ak y) (by rw[List.getElem?_map,e];rfl))).trans ?_
    simp[e]
  unfold n8;have ip:∀(h:Hd),h[2]? = some (.lst (pl.map ak))->gIx (.ref 2) (ak i) h=.ok (ak q) h:=λh hh=>a9x hh (by rw[List.getElem?_map,hq];rfl)
  refine Eq.trans (xr (aqi (ue cz rfl) (aq rfl) (gh (aq rfl) (aq rfl) (ip _ rfl)) (aqj (xs:=rs) rfl (by omega)))) ?_
  rw[List.map_set];refine Eq.trans (aqi (gh (aq rfl) (aq rfl) (awv (by rw[List.getElem?_map,hk];rfl))) (aq rfl) (gh (aq rfl) (aq rfl) (ip _ rfl)) (aqj (xs:=ts.map D.int) rfl (by rw[List.length_map];omega))) ?_
  simp only[List.set_cons_succ,List.set_cons_zero,a3x,List.map_map];rfl
theorem a4v{N s n:Nat}{rows:List (List Int)}{ks:List Int}(P:Hand o N)(hN:N<=999990000)(n1:1<=n)(n32:n<=32)(s6:s<=6)(lr:rows.length=n)(qr:∀r∈rows,a1k s n r)(lk:ks.length=n)(k0:ks[0]? = some (-1))(kk:∀k∈ks,KOk k) :
  ∃(G:List (List Nat)) (ts:List Int) (o':O),G.length=n/\(∀r∈G,aqn s n r)/\ts.length=n/\ts[0]? = some (-1)/\(∀k∈ts,KOk k)/\Dr dz 3 [.rol (rows.map a2d),.rol (ks.map D.int)] o (.tup [.tup (G.map a3x),.tup (ts.map D.int)]) o'/\Hand o' (N+32)/\∃pl:List Nat,List.Perm pl (List.range n)/\pl[0]? = some 0/\∀(j q:Nat) (row:List Int),pl[j]? = some q->rows[j]? = some row->G[q]? = some (row.map λx=>(pl[x.toNat]?).getD 0):=by
 obtain⟨pl,u,e1,pm,p0,Pu⟩:=aho (d1:=.rol (rows.map a2d)) (d2:=.rol (ks.map D.int)) (t5:=none) (t6:=none) (t7:=none) (t8:=none) P hN n1 n32;have pln:pl.length=n:=by rw[pm.length_eq,List.length_range]
 have pnd:pl.Nodup:=pm.nodup_iff.mpr List.nodup_range;have lo:=my (g:=a3h 2 (jb (kN 7) (jb (kN 8) a3m))) (b:=n8 aj) (λp:Nat×D=>D.tup [.int (p.1:Nat),p.2])
  (λpre τ h=>∃(rs:List D) (ts:List Int) (t7 t8:Option D),τ=[some (.ref 0),some (.rol (rows.map a2d)),some (.rol (ks.map D.int)),some (.ref 1),some (.ref 2),some (.ref 3),some (.ref 4),t7,t8]/\h=[u,.lst [],.lst (pl.map ak),.lst rs,.lst (ts.map D.int)]/\rs.length=n/\ts.length=n/\(∀x∈rs,clo 0 x)/\(∀j q,j<pre.length->pl[j]? = some q->∃r':List Nat,(∀row:List Int,rows[j]? = some row->r'=row.map λx=>(pl[x.toNat]?).getD 0)/\aqn s n r'/\rs[q]? = some (a3x r'))/\(∀k∈ts,KOk k)/\(0<pre.length->ts[0]? = some (-1)))
  ((List.range (rows.map a2d).length).zip (rows.map a2d)) [some (.ref 0),some (.rol (rows.map a2d)),some (.rol (ks.map D.int)),some (.ref 1),some (.ref 2),some (.ref 3),some (.ref 4),none,none] [u,.lst [],.lst (pl.map ak),.lst (rows.map λ_=>.tup []),.lst ((rows.map λ_=>(-1:Int)).map D.int)] ?_
  ⟨_,_,none,none,rfl,rfl,by simpa using lr,by simpa using lr,λx hx=>by
   obtain⟨_,_,rfl⟩:=List.mem_map.mp hx;exact jj j6,λj q hj=>by simp at hj,λk hk=>by
   obtain⟨_,_,rfl⟩:=List.mem_map.mp hk
   decide,λz=>by simp at z⟩
 .obtain⟨τ',h',e2,rs,ts,t7,t8,rfl,rfl,l1,l2,c1,full,tk,t0⟩:=lo;have zl:((List.range (rows.map a2d).length).zip (rows.map a2d)).length=n:=by simp[lr]
  rw[zl]at full t0;obtain⟨G,rfl,hG⟩:=all_map a3x (aqn s n) rs λx hx=>by
   obtain⟨q,hq,rfl⟩:=List.mem_iff_getElem.mp hx;have:q∈pl:=pm.mem_iff.mpr (by simp;omega)
   obtain⟨j,hj,ej⟩:=List.mem_iff_getElem.mp this;obtain⟨r',_,a,b⟩:=full j q (by omega) (by rw[List.getElem?_eq_getElem hj,ej])
   rw[List.getElem?_eq_getElem hq]at b;exact⟨r',a,Option.some.inj b⟩
  refine⟨G,ts,u,by simpa using l1,hG,l2,t0 (by omega),tk,?_,Pu,pl,pm,p0,λj q row hq hr=>?_⟩
  rotate_left
  .have jn:j<n:=by have:=(List.getElem?_eq_some_iff.mp hr).1;omega
   obtain⟨r',e,_,b⟩:=full j q jn hq;rw[List.getElem?_map]at b;obtain⟨g,hg,eg⟩:=Option.map_eq_some_iff.mp b;rw[hg,<-e row hr,aky eg]
  have cd:clo 0 (.tup [.tup (G.map a3x),.tup (ts.map D.int)]):=jj (bh (jj (jx.mpr c1)) (bh (jj (bz λx _=>bc x)) j6));refine Dr.of rfl (by
   intro x hx;simp only[List.mem_cons,List.not_mem_nil,or_false]at hx
   rcases hx with rfl|rfl
   .exact ud (bz λx _=>ud (bz λy _=>bc y))
   .exact ud (bz λy _=>bc y)) P.clo (r:=.ok (.tup [.tup (G.map a3x),.tup (ts.map D.int)]) [u,.lst [],.lst (pl.map ak),.lst (G.map a3x),.lst (ts.map D.int)]) ?_ (j4 (a4s (by omega) cd) (by intro x hx;rw[show List.take 1 [u,O.lst [],.lst (pl.map ak),.lst (G.map a3x),.lst (ts.map D.int)]=[u] from rfl,List.mem_singleton]at hx;subst hx;exact qj (by omega) Pu.clo)) cd Pu.clo
  unfold dz;rw[dh];show toR (uh aj [some (.ref 0),some (.rol (rows.map a2d)),some (.rol (ks.map D.int)),none,none,none,none,none,none] [o])=_;unfold uh;have r1:a9m [.int 1,.int ((rows.map a2d).length:Nat)] [o]=.ok (.ref 1) [o,.lst (((List.range (n-1)).map (1+·)).map ak)]:=by
   rw[List.length_map,lr];unfold a9m;dsimp only;rw[if_pos ⟨⟨ahe (by omega) (by omega),ahe (by omega) (by omega)⟩,dm (by omega)⟩,show((n:Int)-1).toNat=n-1 by omega]
   simp only[rng,List.map_map];rfl
  refine ets (o9 ckk (ue (aq rfl) a1j) r1) ?_;refine etr (jo (d:=.ref 2) (h1:=[o,.lst (((List.range (n-1)).map (1+·)).map ak),.lst ([0].map ak)]) rfl) ?_;refine etr (xr e1) ?_;have zr:(rows.length:Nat)<=LINE:=dm (by omega)
  refine ets (xf a2d (λ_=>.tup []) rows (aco (aq rfl) rfl) zr λx _=>rfl) ?_;refine ets (xf a2d (λ_=>.int (-1)) rows (aco (aq rfl) rfl) zr λx _=>rfl) ?_;have en:∀(τ:Sd) (h:Hd),τ[1]? = some (some (.rol (rows.map a2d)))->a3e (sV 1) τ h=.ok ⟨((List.range (rows.map a2d).length).zip (rows.map a2d)).map λp=>.tup [.int (p.1:Nat),p.2],λ_=>True⟩ h:=λτ h ht=>by
   unfold a3e;rw[aq ht,az];rfl
  refine etr (a2t (en _ _ rfl)) ?_;rw[show((rows.map λ_=>(-1:Int)).map D.int)=rows.map λ_=>.int (-1) from by rw[List.map_map];rfl]at e2
  refine Eq.trans (congrArg (λz=>toR (thn z _)) e2) ?_;rw[yg];refine etr (jr (o9 (ue (aq rfl) (a8f rfl)) (ue (aq rfl) (a8f rfl)) ae2)) ?_;rfl
 .rintro pre x post τ h all ⟨rs,ts,t7,t8,rfl,rfl,l1,l2,c1,full,tk,t0⟩
  obtain⟨hi,hx⟩:=ahp all;obtain⟨i,d⟩:=x;simp only at hi hx;subst hi;rw[List.getElem?_map]at hx;obtain⟨r,hr,rfl⟩:=Option.map_eq_some_iff.mp hx;have hlt:pre.length<n:=by have:=(List.getElem?_eq_some_iff.mp hr).1;omega
  have hq:pl[pre.length]? = some pl[pre.length]:=List.getElem?_eq_getElem (by omega)
  have hk:ks[pre.length]? = some ks[pre.length]:=List.getElem?_eq_getElem (by omega)
  generalize pl[pre.length]=q at hq
  generalize ks[pre.length]=k at hk
  have qn:q<n:=by simpa using pm.mem_iff.mp (List.mem_of_getElem? hq)
  obtain⟨r',er',hr',e3⟩:=ahq (d1:=.rol (rows.map a2d)) Pu n32 s6 pm hq hk (qr r (List.mem_of_getElem? hr)) l1 l2 c1;have kq:=kk k (List.mem_of_getElem? hk);refine⟨_,_,rfl,_,_,e3,_,_,_,_,rfl,rfl,by simpa using l1,by simpa using l2,λy hy=>?_,λj q' hj hq'=>?_,λy hy=>?_,λ_=>?_⟩
  .rcases List.mem_or_eq_of_mem_set hy with h|rfl
   .exact c1 y h
   .exact jj (qx _)
  .by_cases eq:q'=q
   .subst eq;refine⟨r',λrow hrow=>?_,hr',by rw[List.getElem?_set_self (by omega)]⟩
    have:j=pre.length:=by
     have h1:=List.getElem?_eq_some_iff.mp hq;have h2:=List.getElem?_eq_some_iff.mp hq';obtain⟨a1,b1⟩:=h1;obtain⟨a2,b2⟩:=h2;exact(List.getElem_inj pnd).mp (b2.trans b1.symm)
    rw[this,hr]at hrow;cases hrow
    exact er'
   .rw[List.length_append,List.length_singleton]at hj
    by_cases ej:j=pre.length
    .subst ej;rw[hq]at hq';exact(eq (Option.some.inj hq').symm).elim
    .rw[List.getElem?_set_ne (Ne.symm eq)];exact full j q' (by omega) hq'
  .rcases List.mem_or_eq_of_mem_set hy with h|rfl
   .exact tk y h
   .exact kq
  .by_cases z:pre.length=0
   .rw[z]at hq hk;rw[p0]at hq;rw[k0]at hk;cases hq
    cases hk
    rw[List.getElem?_set_self (by omega)]
   .have:q≠0:=λe=>by
     subst e;have h1:=List.getElem?_eq_some_iff.mp hq;have h0:=List.getElem?_eq_some_iff.mp p0;obtain⟨a1,b1⟩:=h1;obtain⟨a0,b0⟩:=h0;exact z ((List.getElem_inj pnd).mp (b1.trans b0.symm))
    rw[List.getElem?_set_ne this];exact t0 (by omega)
structure Table where
 tg:List Nat
 go:List (List Nat)
 ks:List Int
noncomputable def Table.d(T:Table):D:=.tup [.str (S T.tg),.tup (T.go.map a3x),.tup (T.ks.map D.int)]
structure Table.Ok (T:Table):Prop where
 tong:Tongue T.tg
 n1:1<=T.go.length
 n32:T.go.length<=32
 row:∀r∈T.go,aqn T.tg.length T.go.length r
 kl:T.ks.length=T.go.length
 k0:T.ks[0]? = some (-1)
 kk:∀k∈T.ks,KOk k
theorem Table.clo{T:Table}:clo 0 T.d:=jj (bh (jk _) (bh (jj (bz λx _=>jj (qx _))) (bh (jj (bz λx _=>bc x)) j6)))
end HND
namespace EVX
open L2 MI
section
variable{i:Nat}{cs:Str->Bool}{fb fs p g:SS}{τ τ1 τ2:Sd}{h h1 h2:Hd}{c:Str}{f:SE}{ka:SA}{ds:List D}{F:SF}{n:Nat}
theorem awy(e:f τ h=.ok (.bl b) h1):a5a f τ h=.ok (.bl (!b)) h1:=by unfold a5a;rw[e];rfl
end
end EVX
namespace PN
open L2 MI AT HND EVX
end PN
namespace MI
open L2
theorem amo{R:PyData->Prop}:∀{ws:List D},(∀d∈ws,∃q,toPy d=some q/\R q)->∃qs,a87 ws=some qs/\qs.length=ws.length/\∀q∈qs,R q
 |[],_=>⟨[],rfl,rfl,by simp⟩
 |d::ws,h=>by
  obtain⟨q,e,r⟩:=h d List.mem_cons_self;obtain⟨qs,es,l,rs⟩:=amo λx hx=>h x (List.mem_cons_of_mem _ hx);refine⟨q::qs,by simp only[a87,e,es],by simp[l],λx hx=>?_⟩
  rcases List.mem_cons.mp hx with rfl|hx
  .exact r
  .exact rs x hx
theorem a8g:∀{ws:List D},(∀d∈ws,noL d=true)->aq0 ws=true
 |[],_=>rfl
 |d::ws,h=>by
  show(noL d && aq0 ws)=true;rw[h d List.mem_cons_self,a8g λx hx=>h x (List.mem_cons_of_mem _ hx)];rfl
theorem a5p:∀{qs:List PyData},(∀q∈qs,q.showable=true)->PyData.showableAll qs=true
 |[],_=>rfl
 |d::ws,h=>by
  show(PyData.showable d && PyData.showableAll ws)=true;rw[h d List.mem_cons_self,a5p λx hx=>h x (List.mem_cons_of_mem _ hx)];rfl
theorem a5q:∀{qs:List PyData},(∀q∈qs,q.hasDict=false)->PyData.hasDictAll qs=false
 |[],_=>rfl
 |d::ws,h=>by
  show(PyData.hasDict d || PyData.hasDictAll ws)=false
  rw[h d List.mem_cons_self,a5q λx hx=>h x (List.mem_cons_of_mem _ hx)];rfl
theorem a3y:∀{qs:List PyData},(∀q∈qs,q.depth<=k)->PyData.depthAll qs<=k
 |[],_=>Nat.zero_le _
 |d::ws,h=>by
  have h1:=h d List.mem_cons_self;have h2:=a3y (k:=k) (qs:=ws) λx hx=>h x (List.mem_cons_of_mem _ hx);simp only[PyData.depthAll];omega
theorem a8h:∀{qs:List PyData},(∀q∈qs,q.shown.length<=k)->piled (PyData.shownAll qs)<=qs.length*(k+2)
 |[],_=>Nat.zero_le _
 |d::ws,h=>by
  have h1:=h d List.mem_cons_self;have h2:=a8h (k:=k) (qs:=ws) λx hx=>h x (List.mem_cons_of_mem _ hx);have e:piled (PyData.shownAll (d::ws))=d.shown.length+2+piled (PyData.shownAll ws):=by
   simp[PyData.shownAll,piled]
  rw[e,List.length_cons,Nat.add_mul,Nat.one_mul];omega
theorem ahr(ts:List Str):(Str.join ", " ts).length<=piled ts:=by
 cases ts with
 |nil=>exact Nat.zero_le _
 |cons t ts=>have:=join_length_add (t::ts) (by simp);omega
theorem a4w(ts:List Str):(tupleText ts).length<=piled ts+3:=by
 have:=ahr ts
 unfold tupleText;rw[Str.length_append,Str.length_append];have e1:("(" : Str).length=1:=rfl;have e2:(Str.ofString (if ts.length == 1 then ",)" else ")")).length<=2:=by split<;>decide
 omega
theorem abb(ts:List Str):(listText ts).length<=piled ts+2:=by
 have:=ahr ts
 rw[listText_eq_join,Str.length_append,Str.length_append];have e1:("[" : Str).length=1:=rfl;have e2:("]" : Str).length=1:=rfl;omega
end MI
namespace PAP
open L2 MI AT HND
theorem aro(xs:List D)(lo hi:Option Int)(h:Hd):a8t (.tup xs) lo hi h=.ok (.tup (a4z xs lo hi)) h:=by
 unfold a8t;dsimp only
 split
 .rename_i w;obtain⟨a,b⟩:=w
  congr 2
  unfold a4z;rw[a,b,List.drop_zero,List.take_of_length_le (by omega)]
 .rfl
theorem ay9(xs:List D)(k:Nat)(h:Hd):a8t (.tup xs) none (some (k:Int)) h=.ok (.tup (xs.take k)) h:=by rw[aro,a7r]
theorem acq(xs:List D)(k:Nat)(h:Hd):a8t (.tup xs) (some (k:Int)) none h=.ok (.tup (xs.drop k)) h:=by rw[aro,a67]
theorem abd{xs ys:List D}(z:xs.length+ys.length<=1000000):dw (.tup xs) (.tup ys) h=.ok (.tup (xs++ys)) h:=by
 cases xs with
 |nil=>rfl
 |cons x xs =>
  show(if (x::xs).length+ys.length<=LINE then R.ok (D.tup (x::xs++ys)) h else .no)=_
  rw[if_pos (dm z)]
theorem aya:MI.uc [a] h=.ok (.tup [a]) h:=by unfold MI.uc;rw[if_pos (dm (by simp))]
theorem b34:MI.uc [] h=.ok (.tup []) h:=by unfold MI.uc;rw[if_pos (dm (by simp))]
theorem awz(e:f τ h=.ok d h1)(e2:k τ h1=.ok ds h2):aa f k τ h=.ok (d::ds) h2:=by
 unfold aa;rw[e,az,e2,az]
theorem aof(e:k τ h=.ok ds h1)(e2:G ds h1=.ok v h2):sA G k τ h=.ok v h2:=by
 unfold sA;rw[e,az,e2]
end PAP
def aoo:=@PAP.aof
def cns:=@PAP.awz
namespace SRC
open L2 MI AT HND EVX
theorem ax0(c:x<=y):gLe (.int x) (.int y) h=.ok (.bl true) h:=by
 show R.ok (D.bl (decide (x<=y))) h=_;rw[decide_eq_true c]
theorem ax1(c:¬ x<=y):gLe (.int x) (.int y) h=.ok (.bl false) h:=by
 show R.ok (D.bl (decide (x<=y))) h=_;rw[decide_eq_false c]
end SRC
namespace BF
noncomputable def walk(step:Nat->Nat->Nat)(r:Nat):List Nat->Nat
 |[]=>r
 |c::p=>step (walk step r p) c
theorem acr:∀(n:Nat) (l:List Nat),l.Nodup->(∀x∈l,x<n)->l.length<=n
 |0,l,_,h=>by
  cases l with
  |nil=>exact Nat.le_refl _
  |cons x l=>exact absurd (h x List.mem_cons_self) (by omega)
 |n+1,l,nd,h=>by
  have:=acr n (l.erase n) (nd.erase n) λx hx=>by
   have h1:=h x (List.mem_of_mem_erase hx);have h2:x≠n:=λz=>by subst z;exact(List.Nodup.not_mem_erase nd) hx
   omega
  have:=List.length_erase (a:=n) (l:=l)
  split at this<;>omega
end BF
namespace SRC
open L2 MI AT HND EVX
theorem b1g{ck:Hd->Prop}{f:D->Hd->R D}{α:Type}(g F:α->D){h:Hd}(c:ck h):∀{xs:List α},(∀x∈xs,f (g x) h=.ok (F x) h)->mapR ck f (xs.map g) h=.ok (xs.map F) h
 |[],_=>by rw[List.map_nil,mapR,if_pos c];rfl
 |x::xs,st=>by
  rw[List.map_cons,mapR,if_pos c,st x List.mem_cons_self];show(mapR _ f (xs.map g) h).bind _=_;rw[b1g g F c λy hy=>st y (List.mem_cons_of_mem _ hy)];rfl
theorem b01{fi:SI}{t:D->Option Sd}{fe:SE}{ix:List Nat}{τ:Sd}{h:Hd}{α:Type}{ck:Hd->Prop}(g F:α->D)(xs:List α)(c:ck h)(e:fi τ h=.ok ⟨xs.map g,ck⟩ h)(z:xs.length<=LINE)
  (st:∀x∈xs,a7w t fe (frs' ix τ) (g x) h=.ok (F x) h):vg fi t fe ix τ h=.ok (.ref h.length) (h++[.lst (xs.map F)]):=by
 unfold vg;rw[e,az];dsimp only;rw[if_pos (by rw[List.length_map];exact z),b1g g F c st]
 rfl
noncomputable abbrev cst(l:List Nat):List Int:=l.map λx:Nat=>(x:Int)
theorem ahs(l:List Nat):l.map ak=(cst l).map D.int:=by unfold cst;rw[List.map_map];rfl
noncomputable def pos(m:List Nat)(x:Nat):Nat:=(ixI (x:Int) (cst m)).getD 0
end SRC
namespace K21
open L2 MI
noncomputable def v6:SE :=
 (s2 (gIn false) (sV 0) (sV 1))
noncomputable def qt:SS :=
 (mq (a0q (sA ph (aa (sV 1) (aa (sC (.ty "str")) au))) (sA aee (aa (sZ (vg (sIt (sV 1)) t1 v6 [0])) au))))
end K21
namespace K23
open L2 MI
noncomputable def v6:SE :=
 (s2 (gIn false) (sV 0) (sV 1))
noncomputable def qt:SS :=
 (mq (a0q (sA ph (aa (sV 1) (aa (sC (.ty "str")) au))) (sA aee (aa (sZ (vg (sIt (sV 1)) t1 v6 [0])) au))))
noncomputable def uz(je:SF):SS :=
 (mq (s2 gIx (sA (dj false 3 je) (aa (sV 0) (aa (sV 1) (aa (sV 2) au)))) (s1 aab (sI 1))))
noncomputable def m7:SS :=
 (yf (sML a4b (sV 6) (aa (s2 gIx (s2 gIx (sV 4) (s2 gIx (sV 6) (s1 aab (sI 1)))) (sMS a9i (sV 3) (aa (sV 7) au))) au)))
noncomputable def p7:SS :=
 (cj (a8r (sV 0) (a3h 3 (jb (kN 3) (jb (kN 4) (jb (kN 5) a3m)))))
 (cj (j7 6 (sA a1o (aa (sV 1) au)))
 (cj (a2w (sIt (sV 2)) (kN 7) m7)
 (mq (sV 6)))))
noncomputable def v7:SS :=
 (j7 1 (s2 gIx (s2 gIx (s2 gIx (sV 0) (sI 1)) (sV 1)) (sMS afz (s2 gIx (sV 0) (sI 0)) (aa (sV 3) au))))
noncomputable def a02:SS :=
 (cj (a2w (sIt (sV 2)) (kN 3) v7)
 (mq (sV 1)))
noncomputable def xq:SS :=
 (mq (s2 dw (s2 dw (a1e (sV 0) oN (oS (sV 1))) (sA uc (aa (sV 2) au))) (a1e (sV 0) (oS (s2 dw (sV 1) (sI 1))) oN)))
end K23
namespace K22
open L2 MI AT HND
section
variable(T:Table)
noncomputable def stp(r c:Nat):Nat:=(((T.go[r]?).getD [])[c]?).getD 0
noncomputable def knd(r:Nat):Bool:=decide ((T.ks[r]?).getD (-1) ≠ -1)
noncomputable def tgA(c:Nat):Nat:=(T.tg[c]?).getD 0
def hit(r0:Nat)(w:List Nat):Prop:=w≠[]/\knd T (BF.walk (stp T) r0 w)=true
end
section
variable{T:Table}(h:T.Ok)
theorem xg(h:T.Ok)(r c:Nat):stp T r c<T.go.length:=by
 have h1:=h.n1;unfold stp
 cases e:T.go[r]? with
 |none=>simp;omega
 |some row =>
  simp only[Option.getD_some]
  cases e2:row[c]? with
  |none=>simp;omega
  |some x=>simp only[Option.getD_some];exact(h.row row (List.mem_of_getElem? e)).2 x (List.mem_of_getElem? e2)
theorem amq(h:T.Ok)(hr:r<T.go.length):∃row:List Nat,T.go[r]? = some row/\row.length=T.tg.length/\(∀x∈row,x<T.go.length)/\∀c,c<T.tg.length->row[c]? = some (stp T r c):=by
 refine⟨T.go[r],List.getElem?_eq_getElem hr,(h.row _ (List.getElem_mem hr)).1,(h.row _ (List.getElem_mem hr)).2,λc hc=>?_⟩;have l:=(h.row _ (List.getElem_mem hr)).1;unfold stp;rw[List.getElem?_eq_getElem hr,Option.getD_some,List.getElem?_eq_getElem (by omega),Option.getD_some]
theorem b02(h:T.Ok)(hr:r<T.go.length):∃k:Int,T.ks[r]? = some k /\ -1<=k/\knd T r=decide (k ≠ -1):=by
 have l:r<T.ks.length:=by rw[h.kl];exact hr
 refine⟨T.ks[r],List.getElem?_eq_getElem l,(h.kk _ (List.getElem_mem l)).1,?_⟩;unfold knd;rw[List.getElem?_eq_getElem l,Option.getD_some]
theorem a6t(hc:c<T.tg.length):T.tg[c]? = some (tgA T c):=by
 unfold tgA;rw[List.getElem?_eq_getElem hc,Option.getD_some]
end
theorem aqo{T:Table}{row:List Nat}(l:row.length=T.tg.length)(at':∀c,c<T.tg.length->row[c]? = some (stp T r c)) :
  ((a0f (S T.tg)).zip (row.map ak)).map (λp=>D.tup [p.1,p.2])=(List.range T.tg.length).map λc=>.tup [.str (S [tgA T c]),ak (stp T r c)]:=by
 refine List.ext_getElem? λi=>?_;unfold a0f;rw[a1i]
 by_cases hi:i<T.tg.length
 .have hx:=at' i hi;have ht:=a6t (T:=T) hi;rw[List.getElem?_map,List.getElem?_map,List.getElem?_range hi,List.getElem?_zip_eq_some (z:=(D.str (S [tgA T i]),ak (stp T r i))).mpr ⟨by rw[List.getElem?_map,ht];rfl,by rw[List.getElem?_map,hx];rfl⟩]
  rfl
 .rw[List.getElem?_eq_none (by simp;omega),List.getElem?_eq_none (by simp;omega)]
section
variable{T:Table}
theorem ax2(h:T.Ok)(hr:r<T.go.length):T.go[r]? = some ((List.range T.tg.length).map (stp T r)):=by
 obtain⟨row,e,l,_,at'⟩:=amq h hr;rw[e]
 congr 1
 refine List.ext_getElem? λi=>?_
 by_cases hi:i<T.tg.length
 .rw[at' i hi,List.getElem?_map,List.getElem?_range hi];rfl
 .rw[List.getElem?_eq_none (by omega),List.getElem?_eq_none (by simp;omega)]
noncomputable def kI(T:Table)(r:Nat):Int:=(T.ks[r]?).getD (-1)
noncomputable abbrev b1h(T:Table)(r:Nat):D:=a3x ((List.range T.tg.length).map (stp T r))
theorem aht{α:Type}(l:List α)(x:α):atI (l++[x]) (-1)=some x:=by
 have:ixN (l++[x]).length (-1)=some l.length:=by
  unfold ixN;rw[if_neg (by decide),List.length_append,List.length_singleton]
  rw[if_pos (by omega)]
  congr 1
  omega
 unfold atI;rw[this];simp
end
section
variable{T:Table}
theorem amr(h:T.Ok)(hr:r<T.go.length)(hh:Hd):gIx (.tup (T.go.map a3x)) (ak r) hh=.ok (b1h T r) hh:=a1v (by rw[List.getElem?_map,ax2 h hr];rfl)
end
end K22
namespace K23
open L2 MI AT HND K22
section
variable{T:Table}
def Pln:D->Prop
 |.non=>True|.bl _=>True|.int _=>True|.str x=>x.cps.toList.length<=1000|.tup xs=>clos 0 xs|.rol xs=>clos 0 xs|.rod _ xs=>clos 0 xs|_=>False
theorem Pln.clo(p:Pln d):clo 0 d:=by
 cases d<;>first|(simp only[Pln]at p;done)|(simp only[Pln]at p;simpa[MI.clo] using p)|simp[MI.clo]
noncomputable def isStr:D->Bool|.str _=>true|_=>false
noncomputable def isTup:D->Bool|.tup _=>true|_=>false
theorem ax3(p:Pln d):ph [d,.ty "str"] h=.ok (.bl (isStr d)) h:=by
 cases d<;>first|(simp only[Pln]at p;done)|simp[ph,aij,tyD,aed,isStr]
theorem ae4(p:Pln d):ph [d,.ty "tuple"] h=.ok (.bl (isTup d)) h:=by
 cases d<;>first|(simp only[Pln]at p;done)|simp[ph,aij,tyD,aed,isTup]
theorem b03:ph [.bl b,.ty "bool"] h=.ok (.bl true) h:=by simp[ph,aij,tyD,aed]
noncomputable def psn(T:Table)(c:Nat):Nat:=(a3l (S T.tg) c).toNat
noncomputable def ldw(T:Table)(r:Nat):List Nat->Nat
 |[]=>r
 |c::l=>ldw T (stp T r (psn T c)) l
theorem acs(hc:c∈T.tg):a3l (S T.tg) c=(psn T c:Nat)/\psn T c<T.tg.length:=by
 obtain⟨i,e1,e2,_⟩:=a7s (T:=S T.tg) (c:=c) (by rw[a1i];exact hc)
 rw[a1i]at e2;unfold psn;rw[e1];exact⟨by simp,by simpa using (List.getElem?_eq_some_iff.mp e2).1⟩
theorem a6j(h:T.Ok):∀(l:List Nat) {r:Nat},r<T.go.length->ldw T r l<T.go.length
 |[],_,hr=>hr
 |c::l,r,_=>a6j h l (xg h r _)
theorem a5r(c:Nat):∀(l:List Nat) (r:Nat),ldw T r (l++[c])=stp T (ldw T r l) (psn T c)
 |[],_=>rfl
 |d::l,r=>a5r c l _
theorem b04(l:List Nat)(h:Hd):afo (.str (S l)) h=.ok ⟨l.map λc=>.str (S [c]),λ_=>True⟩ h:=by
 show R.ok (⟨a0f (S l),λ_=>True⟩:Itm) _=_;unfold a0f;rw[a1i]
theorem ax4(hc:c∈T.tg)(h:Hd):afz (.str (S T.tg)) [.str (S [c])] h=.ok (ak (psn T c)) h:=by
 show R.ok (D.int (a3l (S T.tg) c)) h=_;rw[(acs hc).1]
theorem aqp(hc:c∈T.tg)(h:Hd):a9i (.str (S T.tg)) [.str (S [c])] h=.ok (ak (psn T c)) h:=by
 show(if c∈(S T.tg).cps.toList then R.ok (D.int (a3l (S T.tg) c)) h else .no)=_
 rw[if_pos (by rw[a1i];exact hc),(acs hc).1]
theorem b1i(e1:f τ h=.ok (.str z) h1)(e2:k τ h1=.ok ds h2)(e3:g (.str z) ds h2=.ok v h3):sMS g f k τ h=.ok v h3:=by
 unfold sMS;rw[e1,az];dsimp only;rw[e2,az,e3]
theorem ax5(h:T.Ok)(hc:c<T.tg.length)(hh:Hd):gIx (b1h T r) (ak c) hh=.ok (ak (stp T r c)) hh:=a1v (by rw[List.getElem?_map,List.getElem?_map,List.getElem?_range hc];rfl)
theorem aqq(hd:clo 0 d)(he:clo 0 e):∀x∈[T.d,d,e],clo 0 x:=by
 intro x hx
 simp only[List.mem_cons,List.not_mem_nil,or_false]at hx
 rcases hx with rfl|rfl|rfl
 .exact Table.clo
 .exact hd
 .exact he
noncomputable def j5:SF:=kj a02 4
theorem a9y(h:T.Ok)(hr:r<T.go.length)(hl:∀c∈l,c∈T.tg):Pu j5 3 [T.d,ak r,.str (S l)] (ak (ldw T r l)):=by
 refine Pu.of rfl (aqq (bc _) (jk _)) (r:=.ok (ak (ldw T r l)) []) ?_ (j4 (bc _) (by simp)) (bc _)
 unfold j5;rw[dh];show toR (a02 [some T.d,some (ak r),some (.str (S l)),none] [])=_;unfold a02;refine etr (a2t (aco (aq rfl) (b04 l _))) ?_;have lp:=my (g:=kN 3) (b:=v7) (λc:Nat=>D.str (S [c]))
  (λpre τ hh=>∃t3:Option D,τ=[some T.d,some (ak (ldw T r pre)),some (.str (S l)),t3]/\hh=[]) l [some T.d,some (ak r),some (.str (S l)),none] [] ?_ ⟨none,rfl,rfl⟩
 .obtain⟨τ',h',e,t3,rfl,rfl⟩:=lp;refine Eq.trans (congrArg (λz=>toR (thn z _)) e) ?_;rfl
 .rintro pre c post τ hh all ⟨t3,rfl,rfl⟩
  have hc:=hl c (by rw[all];simp)
  refine⟨_,_,rfl,[some T.d,some (ak (ldw T r (pre++[c]))),some (.str (S l)),some (.str (S [c]))],[],?_,_,rfl,rfl⟩;rw[a5r];unfold v7;exact ahh (gh (gh (aaf rfl (a1v (j:=1) rfl)) (aq rfl) (amr h (a6j h pre hr) _)) (b1i (aaf rfl (a1v (j:=0) rfl)) (arg1 (aq rfl)) (ax4 hc _)) (ax5 h (acs hc).2 _))
noncomputable def je:SF:=kj p7 8
noncomputable def bx:SF:=kj (uz je) 3
noncomputable def rms(T:Table)(r:Nat)(l:List Nat):List Nat:=(List.range (l.length+1)).map λi=>ldw T r (l.take i)
theorem akz(r c:Nat)(l:List Nat):rms T r (l++[c])=rms T r l++[ldw T r (l++[c])]:=by
 unfold rms;rw[List.length_append,List.length_singleton,List.range_succ (n:=l.length+1),List.map_append,List.map_singleton]
 congr 1
 .refine List.map_congr_left λi hi=>?_;rw[List.mem_range]at hi;rw[List.take_append_of_le_length (by omega)]
 .rw[List.take_of_length_le (by simp)]
theorem acu(r:Nat)(l:List Nat):∃p,rms T r l=p++[ldw T r l]:=by
 unfold rms;rw[List.range_succ,List.map_append,List.map_singleton];exact⟨_,by rw[List.take_of_length_le (Nat.le_refl _)]⟩
theorem al0(h:T.Ok)(hr:r<T.go.length)(hl:∀c∈l,c∈T.tg)(ll:l.length<=1000):Pu je 3 [T.d,ak r,.str (S l)] (.rol ((rms T r l).map ak)):=by
 refine Pu.of rfl (aqq (bc _) (jk _)) (r:=.ok (.ref 0) [.lst ((rms T r l).map ak)]) ?_ (a3t (Nat.le_refl _) rfl (qx _) (by simp)) (ud (qx _))
 unfold je;rw[dh];show toR (p7 [some T.d,some (ak r),some (.str (S l)),none,none,none,none,none] [])=_;unfold p7;refine etr (xr (ae1 (aq rfl) rfl)) ?_;refine etr (jo (d:=.ref 0) (h1:=[.lst ((rms T r []).map ak)]) rfl) ?_;refine etr (a2t (aco (aq rfl) (b04 l _))) ?_;have lp:=my (g:=kN 7) (b:=m7) (λc:Nat=>D.str (S [c]))
  (λpre τ hh=>∃t7:Option D,τ=[some T.d,some (ak r),some (.str (S l)),some (.str (S T.tg)),some (.tup (T.go.map a3x)),some (.tup (T.ks.map D.int)),some (.ref 0),t7]/\hh=[.lst ((rms T r pre).map ak)]) l
  [some T.d,some (ak r),some (.str (S l)),some (.str (S T.tg)),some (.tup (T.go.map a3x)),some (.tup (T.ks.map D.int)),some (.ref 0),none] [.lst ((rms T r []).map ak)] ?_ ⟨none,rfl,rfl⟩
 .obtain⟨τ',h',e,t7,rfl,rfl⟩:=lp;refine Eq.trans (congrArg (λz=>toR (thn z _)) e) ?_;rfl
 .rintro pre c post τ hh all ⟨t7,rfl,rfl⟩
  have hc:=hl c (by rw[all];simp)
  have pl:pre.length<=l.length:=by rw[all];simp
  refine⟨_,_,rfl,[some T.d,some (ak r),some (.str (S l)),some (.str (S T.tg)),some (.tup (T.go.map a3x)),some (.tup (T.ks.map D.int)),some (.ref 0),some (.str (S [c]))],[.lst ((rms T r (pre++[c])).map ak)],?_,_,rfl,rfl⟩;unfold m7;obtain⟨p,ep⟩:=acu (T:=T) r pre;have last:∀hh:Hd,hh[0]? = some (.lst ((rms T r pre).map ak))->gIx (.ref 0) (.int (-1)) hh=.ok (ak (ldw T r pre)) hh:=λhh e0=>by
   rw[a6g];unfold zq;simp only[e0];rw[ep,List.map_append,List.map_singleton,aht]
  refine Eq.trans (a1r (v:=.non) (aq rfl) rfl (arg1 (gh (gh (aq rfl) (gh (aq rfl) (awu ckk (ahj _)) (last _ rfl)) (amr h (a6j h pre hr) _)) (b1i (aq rfl) (arg1 (aq rfl)) (aqp hc _)) (ax5 h (acs hc).2 _))) (a2y (xs:=(rms T r pre).map ak) rfl (a0z (by simp[rms];omega)))) ?_
  rw[akz,List.map_append,a5r];rfl
theorem aqr(h:T.Ok)(hr:r<T.go.length)(hl:∀c∈l,c∈T.tg)(ll:l.length<=1000):Pu bx 3 [T.d,ak r,.str (S l)] (ak (ldw T r l)):=by
 refine Pu.of rfl (aqq (bc _) (jk _)) (r:=.ok (ak (ldw T r l)) []) ?_ (j4 (bc _) (by simp)) (bc _)
 unfold bx;rw[dh];show toR (uz je [some T.d,some (ak r),some (.str (S l))] [])=_;unfold uz;obtain⟨p,ep⟩:=acu (T:=T) r l;refine congrArg toR (jr (gh (a1l (aq rfl) (aq rfl) (aq rfl) (al0 h hr hl ll _)) (awu ckk (ahj _)) ?_));rw[a74,ep,List.map_append,List.map_singleton,aht]
noncomputable def dq:SF:=kj qt 2
noncomputable def inT(T:Table)(l:List Nat):Bool:=l.all λc=>decide (c∈T.tg)
theorem ams(bs:List Bool)(h:Hd):aee [.rol (bs.map D.bl)] h=.ok (.bl (bs.all id)) h:=by
 unfold aee;simp only[ajm]
theorem al1{l:List Nat}(ll:l.length<=1000)(hce:∀c:Nat,ce [some (.str (S [c])),some (.str (S T.tg))] []=.ok (.bl (decide (c∈T.tg))) [])(h1:τ[1]? = some (some (.str (S l))))(h0:τ[0]? = some (some (.str (S T.tg)))) :
  sA aee (aa (sZ (vg (sIt (sV 1)) t1 ce [0])) au) τ []=.ok (.bl (inT T l)) []:=by
 have cz:sZ (vg (sIt (sV 1)) t1 ce [0]) τ []=.ok (.rol ((l.map λc=>decide (c∈T.tg)).map D.bl)) []:=by
  rw[List.map_map];refine a1f (xf (λc:Nat=>D.str (S [c])) (λc=>.bl (decide (c∈T.tg))) l (aco (aq h1) (b04 l _)) (dm (by omega)) λc _=>?_) (bz λc _=>qd _) (by simp)
  rw[a2b,a3w,a6h,h0];exact hce c
 refine ue cz ?_;rw[ams]
 congr 2
 unfold inT;rw[List.all_map];rfl
theorem aqs(c:Nat)(h:Hd):gIn false (.str (S [c])) (.str (S T.tg)) h=.ok (.bl (decide (c∈T.tg))) h:=by
 show R.ok (D.bl (decide (c∈(S T.tg).cps.toList))) h=_;rw[a1i]
theorem ahu{l:List Nat}(ll:l.length<=1000):Pu dq 2 [.str (S T.tg),.str (S l)] (.bl (inT T l)):=by
 refine Pu.of rfl (by intro x hx;simp only[List.mem_cons,List.not_mem_nil,or_false]at hx;rcases hx with rfl|rfl<;>exact jk _) (r:=.ok (.bl (inT T l)) []) ?_ (j4 (qd _) (by simp)) (qd _)
 unfold dq;rw[dh];show toR (qt [some (.str (S T.tg)),some (.str (S l))] [])=_;unfold qt;exact congrArg toR (jr (akx (o9 (aq rfl) ckk (ax3 (d:=.str (S l)) (by simp only[Pln,a1i];exact ll))) (al1 ll (λc=>gh (aq rfl) (aq rfl) (aqs c _)) rfl rfl)))
theorem aqt(e:f τ h=.ok (.bl false) h1):a0q f k τ h=.ok (.bl false) h1:=by unfold a0q;rw[e,az]
theorem ahv(p:Pln d)(ns:isStr d=false):Pu dq 2 [.str (S T.tg),d] (.bl false):=by
 refine Pu.of rfl (by intro x hx;simp only[List.mem_cons,List.not_mem_nil,or_false]at hx;rcases hx with rfl|rfl;exact jk _;exact p.clo) (r:=.ok (.bl false) []) ?_ (j4 (qd _) (by simp)) (qd _)
 unfold dq;rw[dh];show toR (qt [some (.str (S T.tg)),some d] [])=_;unfold qt;exact congrArg toR (jr (aqt (o9 (aq rfl) ckk (by rw[ax3 p,ns]))))
end
end K23
namespace K21
open L2 MI AT HND K22 K23 EVX
section
variable{T:Table}
noncomputable def dq:SF:=kj qt 2
noncomputable def txt(T:Table):D->Bool
 |.str x=>inT T x.cps.toList
 |_=>false
theorem abe(l:List Nat):txt T (.str (S l))=inT T l:=by simp only[txt,a1i]
theorem ae5(p:Pln d):Pu dq 2 [.str (S T.tg),d] (.bl (txt T d)):=by
 by_cases sd:isStr d=true
 .obtain⟨x,rfl⟩:∃x,d=.str x:=by cases d<;>first|exact⟨_,rfl⟩|(simp[isStr]at sd)
  have ll:x.cps.toList.length<=1000:=p;rw[<-ah8 x]at ll ⊢;rw[a1i]at ll;rw[abe];exact K23.ahu ll
 .have sd':isStr d=false:=by simpa using sd
  have:txt T d=false:=by cases d<;>first|rfl|(simp[isStr]at sd)
  rw[this];exact K23.ahv p sd'
theorem aqf(ha:MI.clo 0 a)(hb:MI.clo 0 b):∀x∈[a,b],MI.clo 0 x:=by
 intro x hx
 simp only[List.mem_cons,List.not_mem_nil,or_false]at hx
 rcases hx with rfl|rfl
 .exact ha
 .exact hb
theorem a2e(ha:MI.clo 0 a)(hb:MI.clo 0 b)(hc:MI.clo 0 c):∀x∈[a,b,c],MI.clo 0 x:=by
 intro x hx
 simp only[List.mem_cons,List.not_mem_nil,or_false]at hx
 rcases hx with rfl|rfl|rfl
 .exact ha
 .exact hb
 .exact hc
theorem a77(h:T.Ok)(hr:r<T.go.length)(hh:Hd):gIx (.tup (T.ks.map D.int)) (ak r) hh=.ok (.int (kI T r)) hh:=by
 obtain⟨k,e,_⟩:=b02 h hr;exact a1v (by rw[List.getElem?_map,e];simp[kI,e])
end
section
variable{T:Table}
theorem a3z(e:f τ h=.ok (.int i) h1):oS f τ h=.ok (some i) h1:=by unfold oS;rw[e];rfl
theorem a4n(e:f τ h=.ok d h1)(e1:lo τ h1=.ok a h2)(e2:hi τ h2=.ok b h3)(e3:a8t d a b h3=.ok v h4):a1e f lo hi τ h=.ok v h4:=by
 unfold a1e;rw[e,az,e1,az,e2,az,e3]
end
end K21
namespace PN
open L2 MI AT HND EVX K22 K23 K21
end PN
namespace PN
open L2 MI AT HND EVX K22 K23 K21
section
variable{g:Hd}{n tu:Nat}{tg:List Nat}{rows:List (List Nat)}{ks:List Int}
def Rch(rows:List (List Nat))(r:Nat):Prop:=∀Q:Nat->Prop,Q 0->(∀r,Q r->∀x∈(rows[r]?).getD [],Q x)->Q r
theorem Rch.zero(rows:List (List Nat)):Rch rows 0:=λ_ q _=>q
theorem Rch.step(h:Rch rows r)(hx:x∈(rows[r]?).getD []):Rch rows x:=λQ q0 qs=>qs r (h Q q0 qs) x hx
end
end PN
namespace HND
theorem al2{n:Nat}{rows:List (List Int)}{G:List (List Nat)}{pl:List Nat}(lr:rows.length=n)(pm:List.Perm pl (List.range n))(p0:pl[0]? = some 0)
  (mp:∀(j q:Nat) (row:List Int),pl[j]? = some q->rows[j]? = some row->G[q]? = some (row.map λx=>(pl[x.toNat]?).getD 0))
  (tr:∀r,1<=r->r<n->∃(p:Nat) (row:List Int),p<r/\rows[p]? = some row/\((r:Nat):Int)∈row):∀r,r<n->PN.Rch G r:=by
 have pln:pl.length=n:=by rw[pm.length_eq,List.length_range]
 have go:∀j q:Nat,pl[j]? = some q->PN.Rch G q:=by
  intro j
  induction j using Nat.strongRecOn with
  |_ j ih =>
   intro q hq
   by_cases j0:j=0
   .subst j0;rw[p0]at hq;cases hq;exact PN.Rch.zero G
   have jn:j<n:=by have:=(List.getElem?_eq_some_iff.mp hq).1;omega
   obtain⟨p,row,pj,hr,hm⟩:=tr j (by omega) jn
   have hp:pl[p]? = some pl[p]:=List.getElem?_eq_getElem (by omega)
   have hG:=mp p _ row hp hr;refine(ih p pj _ hp).step (x:=q) ?_;rw[hG];exact List.mem_map.mpr ⟨_,hm,by rw[Int.toNat_natCast,hq];rfl⟩
 intro r hr
 have:r∈pl:=pm.mem_iff.mpr (List.mem_range.mpr hr)
 obtain⟨j,hj,e⟩:=List.getElem_of_mem this;exact go j r (by rw[List.getElem?_eq_getElem hj,e])
end HND
namespace K40
open L2 MI AT HND EVX K22 K23 K21
section
variable{τ:Sd}{h h1 h2:Hd}{c1 c2:ST}{f g k:SE}{p q:SS}
theorem orB(e1:c1 τ h=.ok a h)(e2:a=false->c2 τ h=.ok b h):sOr c1 c2 τ h=.ok (a || b) h:=by
 cases a with
 |true=>rw[orT e1];rfl
 |false=>rw[orF e1 (e2 rfl)];rfl
theorem a5g(e1:f τ h=.ok (.bl a) h)(e2:a=true->k τ h=.ok (.bl b) h):a0q f k τ h=.ok (.bl (a && b)) h:=by
 cases a with
 |true=>rw[akx e1 (e2 rfl)];rfl
 |false=>unfold a0q;rw[e1,az];rfl
theorem amt(x y:Int):hEq (.int x) (.int y) h=.ok (.bl (decide (x=y))) h:=by
 by_cases c:x=y
 .rw[a0y c,decide_eq_true c]
 .rw[a08 c,decide_eq_false c]
theorem aeg(x y:Int):hNe (.int x) (.int y) h=.ok (.bl (decide (x≠y))) h:=by
 by_cases c:x=y
 .rw[aww c,decide_eq_false (by simpa using c)]
 .rw[awx c,decide_eq_true c]
theorem amu(e1:f τ h=.ok (.int x) h)(e2:g τ h=.ok (.int y) h)(e3:k τ h=.ok (.int z) h):sCh gLe gLe f g k τ h=.ok (.bl (decide (x<=y/\y<=z))) h:=by
 unfold sCh;rw[e1,az,e2,az]
 by_cases c:x<=y
 .rw[SRC.ax0 c,az];dsimp only;rw[e3,az]
  by_cases c2:y<=z
  .rw[SRC.ax0 c2,decide_eq_true ⟨c,c2⟩]
  .rw[SRC.ax1 c2,decide_eq_false λw=>c2 w.2]
 .rw[SRC.ax1 c,az];rw[decide_eq_false λw=>c w.1]
end
theorem a9z(ha:MI.clo 0 a)(hb:MI.clo 0 b)(hc:MI.clo 0 c)(hd:MI.clo 0 d):∀x∈[a,b,c,d],MI.clo 0 x:=by
 intro x hx
 simp only[List.mem_cons,List.not_mem_nil,or_false]at hx
 rcases hx with rfl|rfl|rfl|rfl
 .exact ha
 .exact hb
 .exact hc
 .exact hd
section
variable{T:Table}
noncomputable def rw'(T:Table)(r:Nat):List Nat:=(T.go[r]?).getD []
theorem a4o(h:T.Ok)(hr:r<T.go.length):T.go[r]? = some (rw' T r)/\(rw' T r).length<=6/\∀x∈rw' T r,x<T.go.length:=by
 have e:T.go[r]? = some (rw' T r):=by unfold rw';rw[List.getElem?_eq_getElem hr];rfl
 obtain⟨a,b⟩:=h.row _ (List.mem_of_getElem? e);exact⟨e,by have:=h.tong.hi;omega,b⟩
theorem a1a(h:T.Ok)(hr:r<T.go.length)(hh:Hd):gIx (.tup (T.go.map a3x)) (ak r) hh=.ok (a3x (rw' T r)) hh:=a1v (by rw[List.getElem?_map,(a4o h hr).1];rfl)
theorem go1(h:Hd):gIx T.d (.int 1) h=.ok (.tup (T.go.map a3x)) h:=a1v (j:=1) rfl
end
section
variable{T:Table}
noncomputable def isI:D->Bool|.int _=>true|_=>false
noncomputable def isB:D->Bool|.bl _=>true|_=>false
theorem aa0(p:Pln d):ph [d,.ty "int"] h=.ok (.bl (isI d || isB d)) h:=by
 cases d<;>first|(simp only[Pln]at p;done)|simp[ph,aij,tyD,aed,isI,isB]
theorem a4x(p:Pln d):ph [d,.ty "bool"] h=.ok (.bl (isB d)) h:=by
 cases d<;>first|(simp only[Pln]at p;done)|simp[ph,aij,tyD,aed,isB]
structure Th (d:D):Prop where
 p:Pln d
 el:∀xs,d=.tup xs->xs.length<=1000/\∀x∈xs,Pln x
theorem b05(ha:MI.clo 0 a):∀x∈[a],MI.clo 0 x:=by intro x hx;rw[List.mem_singleton]at hx;subst hx;exact ha
noncomputable def qy:SF:=kj zx 1
theorem a4y(p:Pln x):Pu qy 1 [x] (.bl (isI x)):=by
 refine Pu.of rfl (b05 p.clo) (r:=.ok (.bl (isI x)) []) ?_ (j4 (qd _) (by simp)) (qd _)
 unfold qy;rw[dh];show toR (zx [some x] [])=_;unfold zx;have e:=a5g (f:=sA ph (aa (sV 0) (aa (sC (.ty "int")) au))) (k:=a5a (sA ph (aa (sV 0) (aa (sC (.ty "bool")) au)))) (τ:=[some x]) (h:=[]) (o9 (aq rfl) ckk (aa0 p)) λ_=>awy (o9 (aq rfl) ckk (a4x p));refine(congrArg toR (jr e)).trans ?_;show R.ok (D.bl _) []=_
 congr 2
 cases x<;>rfl
noncomputable def a78(n:Nat):D->Bool|.tup xs=>decide (xs.length=n)|_=>false
noncomputable def jf:SF:=kj a3u 3
theorem yx(p:Pln d):Pu jf 3 [d,ak n,ak n] (.bl (a78 n d)):=by
 refine Pu.of rfl (a2e p.clo (bc _) (bc _)) (r:=.ok (.bl (a78 n d)) []) ?_ (j4 (qd _) (by simp)) (qd _)
 unfold jf;rw[dh];show toR (a3u [some d,some (ak n),some (ak n)] [])=_;unfold a3u
 by_cases t:isTup d=true
 .obtain⟨xs,rfl⟩:∃xs,d=.tup xs:=by cases d<;>first|exact⟨_,rfl⟩|(simp[isTup]at t)
  refine(congrArg toR (jr (akx (o9 (aq rfl) ckk ((ae4 p).trans (by rw[t]))) (amu (aq rfl) (ue (aq rfl) p8) (aq rfl))))).trans ?_
  show R.ok (D.bl _) []=R.ok (D.bl (decide (xs.length=n))) []
  congr 2
  rw[decide_eq_decide];omega
 .have t':isTup d=false:=by simpa using t
  have e:a78 n d=false:=by cases d<;>first|rfl|(simp[isTup]at t)
  rw[e];exact congrArg toR (jr ((a5g (o9 (aq rfl) ckk (ae4 p)) (b:=false) λz=>absurd (t'.symm.trans z) (by simp)).trans (by rw[t'];rfl)))
end
theorem aa1(e:fi τ h=.ok ⟨xs,ck⟩ h1):a2w fi G b τ h=forL ck G b xs τ h1:=by
 unfold a2w;rw[e];rfl
end K40
namespace RCH
open L2 MI AT HND EVX K22 K23 K21 K40
noncomputable def cnt(n:Nat)(p:Nat->Bool):Nat:=((List.range n).filter p).length
theorem a6k:∀{l:List Nat},(∀x∈l,p x=true->q x=true)->(∃x∈l,q x=true/\p x=false)->(l.filter p).length<(l.filter q).length
 |[],_,⟨_,h,_⟩=>by simp at h
 |x::l,h,⟨y,hy,q1,p1⟩=>by
  have le:(l.filter p).length<=(l.filter q).length:=by
   clear hy q1 p1 y
   induction l with
   |nil=>simp
   |cons z l ih =>
    have ih:=ih λy hy=>h y (by simp only[List.mem_cons]at hy ⊢;rcases hy with e|e<;>simp[e])
    have hz:=h z (by simp)
    rw[List.filter_cons,List.filter_cons]
    cases e1:p z with
    |true=>rw[hz e1];simp only[if_true,List.length_cons];omega
    |false=>cases q z<;>simp<;>omega
  rw[List.filter_cons,List.filter_cons]
  rcases List.mem_cons.mp hy with rfl|hy
  .rw[q1,p1];simp only[if_true,Bool.false_eq_true,if_false,List.length_cons];omega
  .have lt:=a6k (l:=l) (λz hz=>h z (List.mem_cons_of_mem _ hz)) ⟨y,hy,q1,p1⟩
   cases e1:p x with
   |true=>rw[h x List.mem_cons_self e1];simp only[if_true,List.length_cons];omega
   |false=>cases q x<;>simp<;>omega
theorem aG{n:Nat}{P:Nat->Nat->Bool}(anti:∀k x,x<n->P (k+1) x=true->P k x=true)(det:∀k,(∀x,x<n->P k x=P (k+1) x)->∀x,x<n->P (k+1) x=P (k+2) x):∀k x,x<n->P n x=true->P (n+k) x=true:=by
 have key:∀k,cnt n (P k)<=n-k\/∃j,j<=k/\∀x,x<n->P j x=P (j+1) x:=by
  intro k
  induction k with
  |zero=>exact .inl (by unfold cnt;exact Nat.le_trans (List.length_filter_le _ _) (by simp))
  |succ k ih =>
   rcases ih with ih|⟨j,hj,e⟩
   .by_cases c:∃x∈List.range n,P k x=true/\P (k+1) x=false
    .have:=a6k (p:=P (k+1)) (q:=P k) (l:=List.range n) (λx hx=>anti k x (List.mem_range.mp hx)) c
     exact .inl (by unfold cnt at ih ⊢;omega)
    .refine .inr ⟨k,Nat.le_succ _,λx hx=>?_⟩
     cases e1:P k x with
     |true =>
      cases e2:P (k+1) x with
      |true=>rfl
      |false=>exact(c ⟨x,List.mem_range.mpr hx,e1,e2⟩).elim
     |false =>
      cases e2:P (k+1) x with
      |true=>rw[anti k x hx e2]at e1;cases e1
      |false=>rfl
   .exact .inr ⟨j,Nat.le_succ_of_le hj,e⟩
 have stay:∀j,(∀x,x<n->P j x=P (j+1) x)->∀k x,x<n->P (j+k) x=P j x:=by
  intro j e k
  have step:∀k x,x<n->P (j+k) x=P (j+k+1) x:=by
   intro k
   induction k with
   |zero=>exact e
   |succ k ih=>exact det _ ih
  induction k with
  |zero=>intro x _;rfl
  |succ k ih=>intro x hx;rw[<-ih x hx];exact(step k x hx).symm
 intro k x hx h
 rcases key n with z|⟨j,hj,e⟩
 .have:x∈(List.range n).filter (P n):=List.mem_filter.mpr ⟨List.mem_range.mpr hx,h⟩
  have:=List.length_pos_of_mem this
  unfold cnt at z;omega
 .have e1:=stay j e (n-j) x hx;have e2:=stay j e (n-j+k) x hx;rw[show j+(n-j)=n by omega]at e1
  rw[show j+(n-j+k)=n+k by omega]at e2
  rw[e2,<-e1];exact h
section
variable{T:Table}
theorem yx(h:T.Ok)(hr:r<T.go.length):rw' T r=(List.range T.tg.length).map (stp T r):=by unfold rw';rw[ax2 h hr];rfl
theorem a09(h:T.Ok)(hr:r<T.go.length):x∈rw' T r↔∃c,c<T.tg.length/\stp T r c=x:=by
 rw[yx h hr,List.mem_map];exact⟨λ⟨c,hc,e⟩=>⟨c,List.mem_range.mp hc,e⟩,λ⟨c,hc,e⟩=>⟨c,List.mem_range.mpr hc,e⟩⟩
end
end RCH
namespace K30
open L2 MI AT HND EVX
open SRC (ax0 ax1)
theorem ax6{ck:Hd->Prop}{f:D->Hd->R (Option D)}{α:Type}(g:α->D)(F:α->Option D){h:Hd}(c:ck h):∀{xs:List α},(∀x∈xs,f (g x) h=.ok (F x) h)->aih ck f (xs.map g) h=.ok (xs.filterMap F) h
 |[],_=>by rw[List.map_nil,aih,if_pos c];rfl
 |x::xs,st=>by
  rw[List.map_cons,aih,if_pos c,st x List.mem_cons_self];show(aih _ f (xs.map g) h).bind _=_;rw[ax6 g F c λy hy=>st y (List.mem_cons_of_mem _ hy)];show R.ok ((F x).toList++_) h=_;rw[List.filterMap_cons]
  cases F x<;>rfl
theorem ahw{fi:SI}{t:D->Option Sd}{c:ST}{fe:SE}{ix:List Nat}{τ:Sd}{h:Hd}{α:Type}{ck:Hd->Prop}(g:α->D)(F:α->Option D)(xs:List α)(hc:ck h)(e:fi τ h=.ok ⟨xs.map g,ck⟩ h)(z:xs.length<=LINE)
  (st:∀x∈xs,a9h t c fe (frs' ix τ) (g x) h=.ok (F x) h):a1x fi t c fe ix τ h=.ok (.ref h.length) (h++[.lst (xs.filterMap F)]):=by
 unfold a1x;rw[e,az];dsimp only;rw[if_pos (by rw[List.length_map];exact z),ax6 g F hc st]
 rfl
noncomputable abbrev ax7(r:List Nat):O:=.lst (r.map ak)
noncomputable def refs(k:Nat):List D:=(List.range k).map λj=>.ref (3+j)
noncomputable def HS(u:O)(bs:List Nat)(k:Nat)(rs:List (List Nat)):Hd:=u::.lst (bs.map ak)::.lst (refs k)::rs.map ax7
variable{u:O}{bs:List Nat}{rs:List (List Nat)}{cur:List Nat}{k n s:Nat}
theorem amv:(HS u bs k rs).length=3+rs.length:=by simp[HS];omega
theorem arp:(HS u bs k rs)[1]? = some (.lst (bs.map ak)):=rfl
theorem b1k:(HS u bs k rs)[2]? = some (.lst (refs k)):=rfl
theorem ahx:(HS u bs k (rs++[cur]))[3+rs.length]? = some (ax7 cur):=by
 unfold HS;rw[show 3+rs.length=rs.length+1+1+1 by omega]
 simp
theorem amw:isL (.ref (3+rs.length)) (HS u bs k (rs++[cur]))=true:=by unfold isL;simp only[ahx]
theorem amx(c:List Nat):(HS u bs k (rs++[cur])).set (3+rs.length) (ax7 c)=HS u bs k (rs++[c]):=by
 unfold HS;rw[show 3+rs.length=rs.length+1+1+1 by omega]
 simp only[List.set_cons_succ,List.map_append,List.map_cons,List.map_nil];rw[show rs.length=(rs.map ax7).length by rw[List.length_map],List.set_append_right _ _ (Nat.le_refl _),Nat.sub_self]
 rfl
theorem amy(cu:a1p 0 u)(kl:k<=rs.length):∀o∈HS u bs k rs,a1p (HS u bs k rs).length o:=by
 intro o ho
 rw[amv];unfold HS at ho;simp only[List.mem_cons]at ho
 rcases ho with rfl|rfl|rfl|ho
 .exact qj (Nat.zero_le _) cu
 .exact qx _
 .exact jx.mpr λx hx=>by
   obtain⟨j,hj,rfl⟩:=List.mem_map.mp hx;have:=List.mem_range.mp hj;show 3+j<3+rs.length;omega
 .obtain⟨r,_,rfl⟩:=List.mem_map.mp ho;exact qx _
noncomputable def dist(n:Nat)(bs:List Nat):Nat:=RCH.cnt n λx=>decide (x∈bs)
structure Spl (n s:Nat) (bs:List Nat) (rs:List (List Nat)) (cur:List Nat):Prop where
 lt:∀b∈bs,b<n
 z:bs[0]? = some 0
 cn:bs.length+(n-dist n bs)<=32
 rw:∀r∈rs,aqn s bs.length r
 cu:∀x∈cur,x<bs.length
 tr:∀r,1<=r->r<bs.length->∃p row,p<r/\(rs++[cur])[p]? = some row/\r∈row
theorem abf:dist n bs<=n:=by
 unfold dist RCH.cnt;have:=List.length_filter_le (λx=>decide (x∈bs)) (List.range n)
 rwa[List.length_range]at this
theorem ae6{t:Nat}(ht:t<n)(nt:t∉bs):dist n bs<dist n (bs++[t]):=by
 unfold dist RCH.cnt;refine RCH.a6k (λx _ h=>decide_eq_true (List.mem_append_left _ (of_decide_eq_true h))) ⟨t,List.mem_range.mpr ht,decide_eq_true (by simp),decide_eq_false nt⟩
theorem acv{t:Nat}(ht:t<n)(h:t∈bs):0<dist n bs:=by
 unfold dist RCH.cnt;exact List.length_pos_of_mem (List.mem_filter.mpr ⟨List.mem_range.mpr ht,decide_eq_true h⟩)
theorem Spl.len(P:Spl n s bs rs cur):bs.length<=32:=by have:=P.cn;omega
theorem Spl.new(P:Spl n s bs rs cur){t:Nat}(ht:t<n)(kb:rs.length<bs.length)(c:t∉bs\/bs.length+n<=32):Spl n s (bs++[t]) rs (cur++[bs.length]):=by
 have cn:=P.cn;have dl:=abf (n:=n) (bs:=bs);refine⟨λb hb=>?_,?_,?_,λr hr=>⟨(P.rw r hr).1,λx hx=>?_⟩,λx hx=>?_,λr r1 r2=>?_⟩
 .rcases List.mem_append.mp hb with h|h
  .exact P.lt b h
  .rw[List.mem_singleton.mp h];exact ht
 .rw[List.getElem?_append_left (by omega)];exact P.z
 .rw[List.length_append,List.length_singleton]
  by_cases nt:t∉bs
  .have:=ae6 ht nt;have:=abf (n:=n) (bs:=bs++[t]);omega
  .have:=c.resolve_left nt
   have h0:=acv (bs:=bs++[t]) ht (by simp)
   omega
 .have:=(P.rw r hr).2 x hx;rw[List.length_append];omega
 .rw[List.length_append,List.length_singleton]
  rcases List.mem_append.mp hx with h|h
  .have:=P.cu x h;omega
  .rw[List.mem_singleton.mp h];omega
 .rw[List.length_append,List.length_singleton]at r2
  by_cases e:r=bs.length
  .exact⟨rs.length,cur++[bs.length],by omega,by simp,by rw[e];simp⟩
  .obtain⟨p,row,a,b,c⟩:=P.tr r r1 (by omega)
   by_cases ep:p<rs.length
   .exact⟨p,row,a,by rw[List.getElem?_append_left ep]at b ⊢;exact b,c⟩
   .have:p=rs.length:=by
     have:=(List.getElem?_eq_some_iff.mp b).1
     rw[List.length_append,List.length_singleton]at this;omega
    subst this;rw[List.getElem?_append_right (Nat.le_refl _),Nat.sub_self]at b;cases b
    exact⟨rs.length,cur++[bs.length],a,by simp,List.mem_append_left _ c⟩
theorem Spl.old(P:Spl n s bs rs cur){x:Nat}(hx:x<bs.length):Spl n s bs rs (cur++[x]):=by
 refine⟨P.lt,P.z,P.cn,P.rw,λy hy=>?_,λr r1 r2=>?_⟩
 .rcases List.mem_append.mp hy with h|h
  .exact P.cu y h
  .rw[List.mem_singleton.mp h];exact hx
 .obtain⟨p,row,a,b,c⟩:=P.tr r r1 r2
  by_cases ep:p<rs.length
  .exact⟨p,row,a,by rw[List.getElem?_append_left ep]at b ⊢;exact b,c⟩
  .have:p=rs.length:=by
    have:=(List.getElem?_eq_some_iff.mp b).1
    rw[List.length_append,List.length_singleton]at this;omega
   subst this;rw[List.getElem?_append_right (Nat.le_refl _),Nat.sub_self]at b;cases b
   exact⟨rs.length,cur++[x],a,by simp,List.mem_append_left _ c⟩
theorem Spl.done(P:Spl n s bs rs cur)(lc:cur.length=s):Spl n s bs (rs++[cur]) []:=by
 refine⟨P.lt,P.z,P.cn,λr hr=>?_,by simp,λr r1 r2=>?_⟩
 .rcases List.mem_append.mp hr with h|h
  .exact P.rw r h
  .rw[List.mem_singleton.mp h];exact⟨lc,P.cu⟩
 .obtain⟨p,row,a,b,c⟩:=P.tr r r1 r2;exact⟨p,row,a,by rw[List.getElem?_append_left (List.getElem?_eq_some_iff.mp b).1];exact b,c⟩
noncomputable abbrev τP(rows:List (List Int))(ks:List Int)(a b c:Option D):Sd:=[some (.ref 0),some (.rol (rows.map a2d)),some (.rol (ks.map D.int)),some (.ref 1),some (.ref 2),a,b,c]
noncomputable def smI(bs:List Nat)(t:Nat):List Nat:=(((List.range bs.length).zip bs).filter λp=>decide (p.2=t)).map (·.1)
theorem b06{t x:Nat}(h:x∈smI bs t):x<bs.length:=by
 obtain⟨p,hp,rfl⟩:=List.mem_map.mp h;exact List.mem_range.mp (List.of_mem_zip (List.mem_filter.mp hp).1).1
theorem aqu{t:Nat}(h:smI bs t=[]):t∉bs:=λm=>by
 obtain⟨j,hj,e⟩:=List.getElem_of_mem m;have:(j,bs[j])∈(List.range bs.length).zip bs:=List.mem_iff_getElem.mpr ⟨j,by simpa using hj,by simp⟩
 have:j∈smI bs t:=List.mem_map.mpr ⟨_,List.mem_filter.mpr ⟨this,decide_eq_true e⟩,rfl⟩
 rw[h]at this;cases this
theorem ax8{t:Nat}:(smI bs t).length<=bs.length:=by
 unfold smI;rw[List.length_map];have:=List.length_filter_le (λp:Nat×Nat=>decide (p.2=t)) ((List.range bs.length).zip bs);rw[List.length_zip,List.length_range,Nat.min_self]at this;exact this
theorem ae7{N:Nat}{rows:List (List Int)}{ks:List Int}{c7:Option D}{t:Nat}(P:Hand u N)(hN:N<=999999000)(S':Spl n s bs rs cur)(lr:rows.length=n)(cl:cur.length<=6)(kb:rs.length<bs.length)(ht:t<n) :
  ∃(u':O) (bs':List Nat) (x:Nat) (c7':Option D),qb aj (τP rows ks (some (.ref (3+rs.length))) (some (ak t)) c7) (HS u bs rs.length (rs++[cur]))=.nx (τP rows ks (some (.ref (3+rs.length))) (some (ak t)) c7') (HS u' bs' rs.length (rs++[cur++[x]]))/\Hand u' (N+2)/\Spl n s bs' rs (cur++[x])/\bs.length<=bs'.length:=by
 have bl:=S'.len;have sl:=ax8 (bs:=bs) (t:=t);obtain⟨y,o1,e1,y0,y1,P1⟩:=jm (m:=4) P (by omega) (by omega) (by omega)
 have c1:dj false 2 aj [.ref 0,.int 4] (HS u bs rs.length (rs++[cur]))=.ok (.int y) (HS o1 bs rs.length (rs++[cur])):=e1 0 _ rfl;have aw1:∀{u:O} {τ:Sd},τ[3]? = some (some (.ref 1))->sA m9 (aa (sV 3) au) τ (HS u bs rs.length (rs++[cur]))=.ok (ak bs.length) (HS u bs rs.length (rs++[cur])):=λh3=>by
  refine ue (aq h3) ?_;rw[yt];show R.ok (D.int ((bs.map ak).length:Nat)) _=_;rw[List.length_map]
 have cz:sZ (a1x (a3e (sV 3)) (tN 2) (ul aj) (a0l aj) [6]) (τP rows ks (some (.ref (3+rs.length))) (some (ak t)) c7) (HS u bs rs.length (rs++[cur]))=.ok (.rol ((smI bs t).map ak)) (HS u bs rs.length (rs++[cur])):=by
  have ef:(((List.range bs.length).zip bs).filterMap λp:Nat×Nat=>if p.2=t then some (ak p.1) else none)=(smI bs t).map ak:=by
   unfold smI;rw[List.map_map]
   induction (List.range bs.length).zip bs with
   |nil=>rfl
   |cons p l ih =>
    rw[List.filterMap_cons,List.filter_cons]
    by_cases e:p.2=t
    .simp only[e,decide_true,if_true,List.map_cons,ih];rfl
    .simp only[e,decide_false,if_false,ih,Bool.false_eq_true]
  rw[<-ef];refine a1f (ahw (ck:=λh=>h[1]? = some (.lst (bs.map ak))) (λp:Nat×Nat=>D.tup [.int (p.1:Nat),ak p.2]) (λp:Nat×Nat=>if p.2=t then some (ak p.1) else none) ((List.range bs.length).zip bs) arp ?_ (dm (by rw[List.length_zip,List.length_range,Nat.min_self];omega)) λp _=>?_) (by rw[ef];exact qx _) (amy P.clo (by simp))
  .unfold a3e;rw[aq rfl,az];unfold ab2 srcOf;simp only[arp]
   congr 2
   rw[List.length_map,List.zip_map_right,List.map_map];rfl
  .have q:∀h:Hd,hEq (ak p.2) (ak t) h=.ok (.bl (decide (p.2=t))) h:=λh=>by
    by_cases e:p.2=t
    .rw[decide_eq_true e,e];exact a0y rfl
    .rw[decide_eq_false e];exact a08 (by omega)
   unfold a9h;rw[show tN 2 (D.tup [.int (p.1:Nat),ak p.2])=some [some (.int (p.1:Nat)),some (ak p.2)] from rfl]
   show((ul aj) [some (.int (p.1:Nat)),some (ak p.2),some (ak t)] _).bind _=_;rw[show(ul aj) [some (.int (p.1:Nat)),some (ak p.2),some (ak t)] (HS u bs rs.length (rs++[cur]))=.ok (decide (p.2=t)) _ from t2s (aq rfl) (aq rfl) (q _),az]
   by_cases e:p.2=t
   .simp only[e,decide_true,if_true];rfl
   .simp only[e,decide_false,if_false,Bool.false_eq_true]
 have len7:∀{u:O} {τ:Sd},τ[7]? = some (some (.rol ((smI bs t).map ak)))->sA m9 (aa (sV 7) au) τ (HS u bs rs.length (rs++[cur]))=.ok (ak (smI bs t).length) (HS u bs rs.length (rs++[cur])):=λh7=>ue (aq h7) (by rw[a1j,List.length_map])
 have mk:∀{o:O},(t∉bs\/bs.length+n<=32)->Hand o (N+2)->∃(u':O) (bs':List Nat) (x:Nat) (c7':Option D),cj (yf (sML a4b (sV 5) (aa (sA m9 (aa (sV 3) au)) au))) (yf (sML a4b (sV 3) (aa (sV 6) au))) (τP rows ks (some (.ref (3+rs.length))) (some (ak t)) (some (.rol ((smI bs t).map ak)))) (HS o bs rs.length (rs++[cur]))=.nx (τP rows ks (some (.ref (3+rs.length))) (some (ak t)) c7') (HS u' bs' rs.length (rs++[cur++[x]]))/\Hand u' (N+2)/\Spl n s bs' rs (cur++[x])/\bs.length<=bs'.length:=λ{o} c Po=>by
  refine⟨o,bs++[t],bs.length,some (.rol ((smI bs t).map ak)),?_,Po,S'.new ht kb c,by simp⟩
  refine Eq.trans (xr (a1r (aq rfl) amw (arg1 (aw1 rfl)) (a2y ahx (by rw[List.length_map];exact a0z (by omega))))) ?_
  rw[show(cur.map ak++[ak bs.length])=(cur++[bs.length]).map ak by simp,amx]
  refine(a1r (aq rfl) rfl (arg1 (aq rfl)) (a2y arp (by rw[List.length_map];exact a0z (by omega)))).trans ?_
  rw[show(bs.map ak++[ak t])=(bs++[t]).map ak by simp]
  rfl
 unfold qb
 by_cases e0:smI bs t=[]
 .obtain⟨u',bs',x,c',e,r⟩:=mk (o:=u) (.inl (aqu e0)) (P.up (by omega))
  refine⟨u',bs',x,c',Eq.trans (jo cz) (Eq.trans (ifT (orT (t2s (len7 rfl) ckk (a0y (by rw[e0];rfl))))) e),r⟩
 have l0:(smI bs t).length≠0:=λz=>e0 (List.length_eq_zero_iff.mp z);have le1:∀{u:O} {τ:Sd},τ[3]? = some (some (.ref 1))->τ[1]? = some (some (.rol (rows.map a2d)))->s2 dw (sA m9 (aa (sV 3) au)) (sA m9 (aa (sV 1) au)) τ (HS u bs rs.length (rs++[cur]))=.ok (ak (bs.length+n)) (HS u bs rs.length (rs++[cur])):=λh3 h1=>(gh (aw1 h3) (ue (aq h1) (a1j.trans (by rw[List.length_map,lr]))) ux).trans rfl
 have ol:∀{o:O} {M:Nat},Hand o M->M+1<=N+2->∃(u':O) (bs':List Nat) (x:Nat) (c7':Option D),yf (sML a4b (sV 5) (aa (s2 gIx (sV 7) (sA (dj false 2 aj) (aa (sV 0) (aa (sA m9 (aa (sV 7) au)) au)))) au)) (τP rows ks (some (.ref (3+rs.length))) (some (ak t)) (some (.rol ((smI bs t).map ak)))) (HS o bs rs.length (rs++[cur]))=.nx (τP rows ks (some (.ref (3+rs.length))) (some (ak t)) c7') (HS u' bs' rs.length (rs++[cur++[x]]))/\Hand u' (N+2)/\Spl n s bs' rs (cur++[x])/\bs.length<=bs'.length:=λ{o M} Po hM=>by
  obtain⟨z,o2,e2,z0,z1,P2⟩:=jm (m:=((smI bs t).length:Nat)) Po (by omega) (by omega) (by omega)
  obtain⟨z,rfl⟩:=Int.eq_ofNat_of_zero_le z0;have hz:z<(smI bs t).length:=by omega
  have c2:dj false 2 aj [.ref 0,ak (smI bs t).length] (HS o bs rs.length (rs++[cur]))=.ok (ak z) (HS o2 bs rs.length (rs++[cur])):=e2 0 _ rfl;refine⟨o2,bs,(smI bs t)[z],some (.rol ((smI bs t).map ak)),?_,P2.up hM,S'.old (b06 (List.getElem_mem hz)),Nat.le_refl _⟩;refine(a1r (aq rfl) amw (arg1 (gh (aq rfl) (o9 (aq rfl) (len7 rfl) c2) (awv (by rw[List.getElem?_map,List.getElem?_eq_getElem hz];rfl)))) (a2y ahx (by rw[List.length_map];exact a0z (by omega)))).trans ?_
  rw[show(cur.map ak++[ak (smI bs t)[z]])=(cur++[(smI bs t)[z]]).map ak by simp,amx]
 have n0:∀{u:O} {τ:Sd},τ[7]? = some (some (.rol ((smI bs t).map ak)))->sT (s2 hEq (sA m9 (aa (sV 7) au)) (sI 0)) τ (HS u bs rs.length (rs++[cur]))=.ok false (HS u bs rs.length (rs++[cur])):=λh7=>t2s (len7 h7) ckk (a08 (by omega))
 by_cases e32:bs.length+n<=32
 .have t32:∀{τ:Sd},τ[3]? = some (some (.ref 1))->τ[1]? = some (some (.rol (rows.map a2d)))->sT (s2 gLe (s2 dw (sA m9 (aa (sV 3) au)) (sA m9 (aa (sV 1) au))) (sI 32)) τ (HS u bs rs.length (rs++[cur]))=.ok true (HS u bs rs.length (rs++[cur])):=λh3 h1=>t2s (le1 h3 h1) ckk (ax0 (by omega))
  by_cases hy:y=0
  .obtain⟨u',bs',x,c',e,r⟩:=mk (o:=o1) (.inr e32) (P1.up (by omega))
   exact⟨u',bs',x,c',Eq.trans (jo cz) (Eq.trans (ifT (orF (n0 rfl) (ark (t32 rfl rfl) (t2s (o9 (aq rfl) ckk c1) ckk (a0y hy))))) e),r⟩
  .obtain⟨u',bs',x,c',e,r⟩:=ol (o:=o1) P1 (by omega)
   exact⟨u',bs',x,c',Eq.trans (jo cz) (Eq.trans (ifF (orF (n0 rfl) (ark (t32 rfl rfl) (t2s (o9 (aq rfl) ckk c1) ckk (a08 hy))))) e),r⟩
 .obtain⟨u',bs',x,c',e,r⟩:=ol (o:=u) P (by omega)
  exact⟨u',bs',x,c',Eq.trans (jo cz) (Eq.trans (ifF (orF (n0 rfl) (ay7 (t2s (le1 rfl rfl) ckk (ax1 (by omega)))))) e),r⟩
end K30
namespace K30
open L2 MI AT HND EVX
open SRC (ax0 ax1 cst ahs)
section
variable{u:O}{bs:List Nat}{rs:List (List Nat)}{cur:List Nat}{k n s:Nat}
noncomputable def qz:SF:=kj (a01 aj) 8
theorem ax9:a1d 1 (HS u bs rs.length rs) 19 (.ref 2)=some (.rol (rs.map λr=>.rol (r.map ak))):=by
 have one:∀(i:Nat) (r:List Nat),1<=i->(HS u bs rs.length rs)[i]? = some (ax7 r)->a1d 1 (HS u bs rs.length rs) 18 (.ref i)=some (.rol (r.map ak)):=λi r hi e=>a86 hi e (qx _);have all:a0b (a1d 1 (HS u bs rs.length rs) 18) (refs rs.length)=some (rs.map λr=>.rol (r.map ak)):=by
  have go:∀(k:Nat) (xs:List (List Nat)),(∀j r,xs[j]? = some r->rs[k+j]? = some r)->a0b (a1d 1 (HS u bs rs.length rs) 18) ((List.range' k xs.length).map λj=>D.ref (3+j))=some (xs.map λr=>.rol (r.map ak)):=by
   intro k xs
   induction xs generalizing k with
   |nil=>intro _;rfl
   |cons r xs ih =>
    intro hk
    rw[List.length_cons,List.range'_succ,List.map_cons,List.map_cons];refine a2a (one (3+k) r (by omega) ?_) (ih (k+1) λj r' e=>?_)
    .have:=hk 0 r rfl
     unfold HS;rw[show 3+k=k+1+1+1 by omega]
     simp only[List.getElem?_cons_succ,List.getElem?_map];rw[show k+0=k by omega]at this
     rw[this];rfl
    .have:=hk (j+1) r' (by simpa using e)
     rw[show k+1+j=k+(j+1) by omega];exact this
  have:=go 0 rs (λj r e=>by simpa using e)
  rw[<-List.range_eq_range']at this;exact this
 unfold a1d;rw[if_neg (by simp only[MI.clo];omega)]
 simp only[b1k,all,Option.map_some]
theorem aqv{N:Nat}{rows:List (List Int)}{ks:List Int}{b c:Option D}(P:Hand u N)(hN:N<=999999000-12)(S0:Spl n s bs rs [])(lr:rows.length=n)(s6:s<=6)(kb:rs.length<bs.length){row:List Nat}(ls:row.length=s)(rn:∀x∈row,x<n) :
  ∃(u':O) (bs' cur':List Nat) (b' c':Option D),forL (λ_=>True) (kN 6) (qb aj) (row.map ak) (τP rows ks (some (.ref (3+rs.length))) b c) (HS u bs rs.length (rs++[[]]))=.nx (τP rows ks (some (.ref (3+rs.length))) b' c') (HS u' bs' rs.length (rs++[cur']))/\Hand u' (N+12)/\Spl n s bs' rs cur'/\cur'.length=s/\bs.length<=bs'.length:=by
 have lp:=my (g:=kN 6) (b:=qb aj) ak
  (λpre τ hh=>∃(u':O) (bs' cur':List Nat) (b' c':Option D),τ=τP rows ks (some (.ref (3+rs.length))) b' c'/\hh=HS u' bs' rs.length (rs++[cur'])/\Hand u' (N+2*pre.length)/\Spl n s bs' rs cur'/\cur'.length=pre.length/\bs.length<=bs'.length) row (τP rows ks (some (.ref (3+rs.length))) b c) (HS u bs rs.length (rs++[[]])) ?_
  ⟨u,bs,[],b,c,rfl,rfl,P,S0,rfl,Nat.le_refl _⟩
 .obtain⟨τ',h',e,u',bs',cur',b',c',rfl,rfl,P',S',lc,bb⟩:=lp;exact⟨u',bs',cur',b',c',e,P'.up (by omega),S',by omega,bb⟩
 .rintro pre t post τ hh all ⟨u1,bs1,cur1,b1,c1,rfl,rfl,P1,S1,lc,bb⟩
  have tn:t<n:=rn t (by rw[all];simp)
  have pl:pre.length<s:=by rw[<-ls,all];simp
  obtain⟨u2,bs2,x,c2,e,P2,S2,b2⟩:=ae7 (ks:=ks) (c7:=c1) P1 (by omega) S1 lr (by omega) (by omega) tn
  exact⟨_,_,rfl,_,_,e,u2,bs2,cur1++[x],_,_,rfl,rfl,P2.up (by rw[List.length_append,List.length_singleton];omega),S2,by rw[List.length_append,List.length_append,lc];rfl,by omega⟩
def b07(m:Nat)(rs:List (List Int)):Prop:=∀r,1<=r->r<m->∃(p:Nat) (row:List Int),p<r/\rs[p]? = some row/\((r:Nat):Int)∈row
theorem al3{o:O}{N:Nat}{rows:List (List Int)}{ks:List Int}(P:Hand o N)(hN:N<=999990000)(n1:1<=n)(n32:n<=32)(s6:s<=6)(lr:rows.length=n)(qr:∀r∈rows,a1k s n r)(lk:ks.length=n)(k0:ks[0]? = some (-1))(kk:∀k∈ks,KOk k) :
  ∃(m:Nat) (rs:List (List Int)) (ts:List Int) (o':O),1<=m/\m<=32/\rs.length=m/\(∀r∈rs,a1k s m r)/\ts.length=m/\ts[0]? = some (-1)/\(∀k∈ts,KOk k)/\b07 m rs/\Dr qz 3 [.rol (rows.map a2d),.rol (ks.map D.int)] o (.tup [.rol (rs.map a2d),.rol (ts.map D.int)]) o'/\Hand o' (N+400):=by
 have S0:Spl n s [0] [] []:=⟨by simp;omega,rfl,by
  have:=acv (n:=n) (bs:=[0]) (t:=0) (by omega) (by simp)
  have:=abf (n:=n) (bs:=[0])
  simp only[List.length_singleton];omega,by simp,by simp,λr r1 r2=>by simp at r2;omega⟩
 have w:=aka (c:=xu aj) (f:=xx aj)
  (λm τ hh=>∃(u:O) (bs:List Nat) (rs:List (List Nat)) (a b c:Option D),τ=τP rows ks a b c/\hh=HS u bs rs.length rs/\Hand u (N+12*rs.length)/\Spl n s bs rs []/\rs.length<=bs.length/\m=33-rs.length)
  (λτ hh=>∃(u:O) (bs:List Nat) (rs:List (List Nat)) (a b c:Option D),τ=τP rows ks a b c/\hh=HS u bs rs.length rs/\Hand u (N+12*rs.length)/\Spl n s bs rs []/\rs.length=bs.length)
  (λ_ _=>False) ?_ 33 100000 (τP rows ks none none none) (HS o [0] 0 []) (by omega) ⟨o,[0],[],none,none,none,rfl,rfl,P,S0,by simp,rfl⟩
 .rcases w with⟨τ',h',e,u,bs,rs,a,b,c,rfl,rfl,Pu,Sp,le⟩|⟨_,_,_,z⟩
  .have bl:=Sp.len;have b1:1<=bs.length:=by have:=(List.getElem?_eq_some_iff.mp Sp.z).1;omega
   have kg:∀b∈bs,∃k,ks[b]? = some k/\KOk k:=λb hb=>by
    have:=Sp.lt b hb
    have hl:b<ks.length:=by omega
    exact⟨ks[b],List.getElem?_eq_getElem hl,kk _ (List.getElem_mem hl)⟩
   let ts:List Int:=bs.map λb=>(ks[b]?).getD 0
   have cl:∀x∈[D.rol (rows.map a2d),.rol (ks.map D.int)],MI.clo 0 x:=λx hx=>by
    simp only[List.mem_cons,List.not_mem_nil,or_false]at hx
    rcases hx with rfl|rfl
    .exact ud (bz λx _=>ud (bz λy _=>bc y))
    .exact ud (bz λy _=>bc y)
   have cr:MI.clo 0 (.tup [.rol ((rs.map cst).map a2d),.rol (ts.map D.int)]):=jj (bh (ud (bz λx _=>ud (bz λy _=>bc y))) (bh (ud (bz λy _=>bc y)) j6));refine⟨bs.length,rs.map cst,ts,u,b1,bl,by rw[List.length_map,le],λr hr=>?_,List.length_map _,?_,λk hk=>?_,λr r1 r2=>?_,Dr.of rfl cl P.clo (r:=.ok (.tup [.ref 2,.rol (ts.map D.int)]) (HS u bs rs.length rs)) ?_ ?_ cr Pu.clo,Pu.up (by omega)⟩
   .obtain⟨r',hr',rfl⟩:=List.mem_map.mp hr;obtain⟨z1,z2⟩:=Sp.rw r' hr';refine⟨by rw[List.length_map,z1],λx hx=>?_⟩
    obtain⟨y,hy,rfl⟩:=List.mem_map.mp hx;have:=z2 y hy;omega
   .show(bs.map _)[0]? = _;rw[List.getElem?_map,Sp.z];show some ((ks[0]?).getD 0)=_;rw[k0];rfl
   .obtain⟨b,hb,rfl⟩:=List.mem_map.mp hk;obtain⟨k,e,q⟩:=kg b hb;rw[e];exact q
   .obtain⟨p,row,h1,h2,h3⟩:=Sp.tr r r1 r2;rw[List.getElem?_append_left (by omega)]at h2
    exact⟨p,cst row,h1,by rw[List.getElem?_map,h2];rfl,List.mem_map.mpr ⟨r,h3,rfl⟩⟩
   .unfold qz;rw[dh];show toR (a01 aj [some (.ref 0),some (.rol (rows.map a2d)),some (.rol (ks.map D.int)),none,none,none,none,none] [o])=_;unfold a01;refine etr (jo (d:=.ref 1) (h1:=[o,.lst [.int 0]]) rfl) ?_;refine etr (jo (d:=.ref 2) (h1:=HS o [0] 0 []) rfl) ?_;refine etr (xr e) ?_;have cz:sZ (vg (sIt (sV 3)) t1 (a0m aj) [2]) (τP rows ks a b c) (HS u bs rs.length rs)=.ok (.rol (ts.map D.int)) (HS u bs rs.length rs):=by
     have em:ts.map D.int=bs.map λb=>D.int ((ks[b]?).getD 0):=List.map_map ..;rw[em];refine a1f (SRC.b01 (ck:=λh=>h[1]? = some (.lst (bs.map ak))) ak (λb=>D.int ((ks[b]?).getD 0)) bs arp (aco (aq rfl) (by unfold afo;simp only[arp])) (dm (by omega)) λb hb=>?_) (bz λy _=>bc _) (amy Pu.clo (Nat.le_refl _))
     obtain⟨k,e,_⟩:=kg b hb;rw[a2b];refine(gh (aq rfl) (aq rfl) (awv (y:=.int k) (by rw[List.getElem?_map,e];rfl))).trans ?_
     rw[e];rfl
    exact congrArg toR (jr (o9 (aq rfl) cz ae2))
   .have ef:a1d 1 (HS u bs rs.length rs) FU (.tup [.ref 2,.rol (ts.map D.int)])=some (.tup [.rol ((rs.map cst).map a2d),.rol (ts.map D.int)]):=by
     have er:(rs.map cst).map a2d=rs.map λr=>D.rol (r.map ak):=by
      rw[List.map_map];exact List.map_congr_left λr _=>by show D.rol ((cst r).map D.int)=_;rw[<-ahs]
     rw[er];refine ak8 (k:=19) (a2a ax9 (a2a (a5l (ud (bz λy _=>bc y))) rfl)) ?_
     intro z
     have:=jx.mp z (.ref 2) List.mem_cons_self
     simp only[MI.clo]at this;omega
    exact a4k ef (by intro x hx;rw[show List.take 1 (HS u bs rs.length rs)=[u] from rfl,List.mem_singleton]at hx;subst hx;exact qj (by omega) Pu.clo)
  .exact z.elim
 .rintro m τ hh ⟨u,bs,rs,a,b,c,rfl,rfl,Pu,Sp,le,rfl⟩
  have bl:=Sp.len;have tc:xu aj (τP rows ks a b c) (HS u bs rs.length rs)=.ok (decide (rs.length<bs.length)) (HS u bs rs.length rs):=by
   have l4:sA m9 (aa (sV 4) au) (τP rows ks a b c) (HS u bs rs.length rs)=.ok (ak rs.length) (HS u bs rs.length rs):=ue (aq rfl) (by rw[yt];show R.ok (D.int ((refs rs.length).length:Nat)) _=_;unfold refs;rw[List.length_map,List.length_range])
   have l3:sA m9 (aa (sV 3) au) (τP rows ks a b c) (HS u bs rs.length rs)=.ok (ak bs.length) (HS u bs rs.length rs):=ue (aq rfl) (by rw[yt];show R.ok (D.int ((bs.map ak).length:Nat)) _=_;rw[List.length_map])
   refine(t2s l4 l3 rfl).trans ?_
   congr 1
   exact decide_eq_decide.mpr (by omega)
  by_cases q:rs.length<bs.length
  .rw[decide_eq_true q]at tc;refine .inr ⟨_,tc,.inl ?_⟩;obtain⟨b0,hb0⟩:∃x,bs[rs.length]? = some x:=⟨_,List.getElem?_eq_getElem q⟩;have bn:b0<n:=Sp.lt b0 (List.mem_of_getElem? hb0);obtain⟨row,hrow⟩:∃x,rows[b0]? = some x:=⟨_,List.getElem?_eq_getElem (by omega)⟩
   obtain⟨q1,q2⟩:=qr row (List.mem_of_getElem? hrow)
   let rn:List Nat:=row.map Int.toNat
   have en:row.map D.int=rn.map ak:=by
    show _=(row.map Int.toNat).map ak;rw[List.map_map];exact List.map_congr_left λx hx=>by have:=(q2 x hx).1;show D.int x=D.int ((x.toNat:Nat):Int);rw[Int.toNat_of_nonneg this]
   obtain⟨u',bs',cur',b',c',e,P',S',lc,bb⟩:=aqv (ks:=ks) (b:=b) (c:=c) Pu (by omega) Sp lr s6 q (row:=rn) (by show(row.map Int.toNat).length=s;rw[List.length_map,q1]) (λx hx=>by
    obtain⟨y,hy,rfl⟩:=List.mem_map.mp hx;have:=q2 y hy;omega)
   refine⟨τP rows ks (some (.ref (3+rs.length))) b' c',HS u' bs' (rs++[cur']).length (rs++[cur']),33-(rs++[cur']).length,?_,?_,u',bs',rs++[cur'],_,_,_,rfl,rfl,P'.up (by rw[List.length_append,List.length_singleton];omega),S'.done lc,by rw[List.length_append,List.length_singleton];omega,rfl⟩
   .unfold xx;have h5:j7 5 (sA MI.a1o au) (τP rows ks a b c) (HS u bs rs.length rs)=.nx (τP rows ks (some (.ref (3+rs.length))) b c) (HS u bs rs.length (rs++[[]])):=by
     refine(ahh (d:=.ref (3+rs.length)) (h1:=HS u bs rs.length (rs++[[]])) ?_).trans rfl;show R.ok (D.ref (HS u bs rs.length rs).length) (HS u bs rs.length rs++[.lst []])=_;rw[amv];unfold HS;simp
    refine Eq.trans (xr h5) ?_;have l4:sA m9 (aa (sV 4) au) (τP rows ks (some (.ref (3+rs.length))) b c) (HS u bs rs.length (rs++[[]]))=.ok (ak rs.length) (HS u bs rs.length (rs++[[]])):=ue (aq rfl) (by rw[yt];show R.ok (D.int ((refs rs.length).length:Nat)) _=_;unfold refs;rw[List.length_map,List.length_range])
    have it:sIt (s2 gIx (sV 1) (s2 gIx (sV 3) (sA m9 (aa (sV 4) au)))) (τP rows ks (some (.ref (3+rs.length))) b c) (HS u bs rs.length (rs++[[]]))=.ok ⟨rn.map ak,λ_=>True⟩ (HS u bs rs.length (rs++[[]])) :=
     aco (gh (aq rfl) (gh (aq rfl) l4 (a9x arp (by rw[List.getElem?_map,hb0];rfl))) (awv (y:=.rol (rn.map ak)) (by rw[List.getElem?_map,hrow];show some (D.rol (row.map D.int))=_;rw[en]))) rfl
    refine Eq.trans (a2t it) ?_;rw[e,yg];refine(a1r (aq rfl) rfl (arg1 (aq rfl)) (a2y b1k (by unfold refs;rw[List.length_map,List.length_range];exact a0z (by omega)))).trans ?_
    rw[show refs rs.length++[D.ref (3+rs.length)]=refs (rs++[cur']).length by
     unfold refs;rw[List.length_append,List.length_singleton,List.range_succ,List.map_append];rfl]
    rfl
   .rw[List.length_append,List.length_singleton];omega
  .rw[decide_eq_false q]at tc;exact .inl ⟨_,tc,u,bs,rs,a,b,c,rfl,rfl,Pu,Sp,by omega⟩
theorem acw{l:List Nat}{G:List (List Nat)}{ts:List Int}{pl:List Nat}{rows:List (List Int)}(Tl:Tongue l)(n1:1<=n)(n32:n<=32)(l7:G.length=n)(q7:∀r∈G,aqn l.length n r)(lt:ts.length=n)(t0:ts[0]? = some (-1))(tk:∀k∈ts,KOk k)(lr:rows.length=n)(pm:List.Perm pl (List.range n))(p0:pl[0]? = some 0)
  (mp:∀(j q:Nat) (row:List Int),pl[j]? = some q->rows[j]? = some row->G[q]? = some (row.map λx=>(pl[x.toNat]?).getD 0)) (tr:b07 n rows):Table.Ok ⟨l,G,ts⟩/\∀r,r<G.length->PN.Rch G r :=
 ⟨⟨Tl,(by omega:1<=G.length),(by omega:G.length<=32),by rw[l7];exact q7,(by omega:ts.length=G.length),t0,tk⟩,λr hr=>al2 lr pm p0 mp tr r (by omega)⟩
theorem axa{rows:List (List Int)}(h:∀r,1<=r->r<n->∃p k,p<r/\Slt rows p k r):b07 n rows:=λr r1 r2 =>
 let ⟨p,k,a,row,b,c⟩:=h r r1 r2
 ⟨p,row,a,b,List.mem_of_getElem? c⟩
noncomputable def kh:SF:=kj (a04 jy jq dz aj j9) 5
theorem al4{o:O}{N:Nat}(P:Hand o N)(hN:N<=999900000):∃(T:Table) (o':O),T.Ok/\(∀r,r<T.go.length->PN.Rch T.go r)/\Dr kh 1 [] o T.d o'/\Hand o' (N+4000):=by
 obtain⟨l,o1,T1,e1,P1⟩:=a9w P (by omega)
 obtain⟨x,o2,e2,x0,x1,P2⟩:=jm (m:=6) P1 (by omega) (by omega) (by omega)
 obtain⟨y,o3,e3,y0,y1,P3⟩:=jm (m:=4) P2 (by omega) (by omega) (by omega)
 obtain⟨z,o4,e4,z0,z1,P4⟩:=jm (m:=32) P3 (by omega) (by omega) (by omega)
 obtain⟨n,u,n1,n32,Pu,eu⟩:∃(n:Nat) (u:O),1<=n/\n<=32/\Hand u (N+10)/\∀g:SS,cj (j7 2 (s2 dw (sI 1) (sA (dj false 2 aj) (aa (sV 0) (aa (sI 6) au)))))
   (cj (sIf (sT (s2 hEq (sA (dj false 2 aj) (aa (sV 0) (aa (sI 4) au))) (sI 0)))
    (j7 2 (s2 dw (sI 1) (sA (dj false 2 aj) (aa (sV 0) (aa (sI 32) au)))))
    sNx) g) [some (.ref 0),some (.str (S l)),none,none,none] [o1]=g [some (.ref 0),some (.str (S l)),some (.int (n:Nat)),none,none] [u]:=by
  have c2:dj false 2 aj [.ref 0,.int 6] [o1]=.ok (.int x) [o2]:=e2 0 _ rfl;have c3:dj false 2 aj [.ref 0,.int 4] [o2]=.ok (.int y) [o3]:=e3 0 _ rfl;have c4:dj false 2 aj [.ref 0,.int 32] [o3]=.ok (.int z) [o4]:=e4 0 _ rfl
  by_cases hy:y=0
  .refine⟨(1+z).toNat,o4,by omega,by omega,P4,λg=>?_⟩
   rw[show(((1+z).toNat:Nat):Int)=1+z by omega]
   refine Eq.trans (jo (gh ckk (o9 (aq rfl) ckk c2) ux)) ?_;exact xr (Eq.trans (ifT (t2s (o9 (aq rfl) ckk c3) ckk (a0y hy))) (ahh (gh ckk (o9 (aq rfl) ckk c4) ux)))
  .refine⟨(1+x).toNat,o3,by omega,by omega,P3.up (by omega),λg=>?_⟩
   rw[show(((1+x).toNat:Nat):Int)=1+x by omega]
   refine Eq.trans (jo (gh ckk (o9 (aq rfl) ckk c2) ux)) ?_;exact ifN (t2s (o9 (aq rfl) ckk c3) ckk (a08 hy))
 obtain⟨rows,o5,l5,q5,e5,P5,tr⟩:=acp Pu (by omega) T1.lo T1.hi n1 n32
 obtain⟨ks,o6,l6,k0,kk,e6,P6⟩:=kinds_ok P5 (by omega) n1 n32
 obtain⟨G,ts,o7,l7,q7,lt,t0,tk,e7,P7,pl,pm,p0,mp⟩:=a4v P6 (by omega) n1 n32 T1.hi l5 q5 l6 k0 kk
 obtain⟨ok,rc⟩:=acw T1 n1 n32 l7 q7 lt t0 tk l5 pm p0 mp (axa tr);refine⟨⟨l,G,ts⟩,o7,ok,rc,?_,P7.up (by omega)⟩
 refine Dr.of rfl (by simp) P.clo (r:=.ok (Table.d ⟨l,G,ts⟩) [o7]) ?_ (j4 (a4s (by omega) Table.clo) (by simpa using qj (by omega) P7.clo)) Table.clo P7.clo
 unfold kh;rw[dh];show toR (a04 jy jq dz aj j9 [some (.ref 0),none,none,none,none] [o])=_;unfold a04;have c1:dj false 1 j9 [.ref 0] [o]=.ok (.str (S l)) [o1]:=e1 0 _ rfl;refine ets (ue (aq rfl) c1) ?_;refine etr (eu _) ?_;have c5:dj false 3 jy [.ref 0,.int (l.length:Nat),.int (n:Nat)] [u]=.ok (.rol (rows.map a2d)) [o5]:=e5 0 _ rfl;have c6:dj false 2 jq [.ref 0,.int (n:Nat)] [o5]=.ok (.rol (ks.map D.int)) [o6]:=e6 0 _ rfl;have c7:dj false 3 dz [.ref 0,.rol (rows.map a2d),.rol (ks.map D.int)] [o6]=.ok (.tup [.tup (G.map a3x),.tup (ts.map D.int)]) [o7]:=e7 0 _ rfl
 refine etr (xr (ae1 (a1l (aq rfl) (a1l (aq rfl) (ue (aq rfl) (ab7 (dm (by have:=T1.hi;omega)))) (aq rfl) c5) (o9 (aq rfl) (aq rfl) c6) c7) rfl)) ?_
 refine etr (jr (a1l (aq rfl) (aq rfl) (aq rfl) arn)) ?_;rfl
noncomputable def ji:SF:=kj (yh jy jq dz qz aj j9) 7
theorem ahy{o:O}{N:Nat}(P:Hand o N)(hN:N<=999900000):∃(T:Table) (o':O),T.Ok/\(∀r,r<T.go.length->PN.Rch T.go r)/\Dr ji 1 [] o T.d o'/\Hand o' (N+4000):=by
 obtain⟨l,o1,T1,e1,P1⟩:=a9w P (by omega)
 obtain⟨x,o2,e2,x0,x1,P2⟩:=jm (m:=5) P1 (by omega) (by omega) (by omega)
 obtain⟨y,o3,e3,y0,y1,P3⟩:=jm (m:=6) P2 (by omega) (by omega) (by omega)
 obtain⟨z,o4,e4,z0,z1,P4⟩:=jm (m:=32) P3 (by omega) (by omega) (by omega)
 obtain⟨n,u,n1,n32,Pu,eu⟩:∃(n:Nat) (u:O),1<=n/\n<=32/\Hand u (N+10)/\∀g:SS,cj (j7 2 (s2 dw (sI 1) (sA (dj false 2 aj) (aa (sV 0) (aa (sI 5) au)))))
   (cj (sIf (sT (s2 hEq (sA (dj false 2 aj) (aa (sV 0) (aa (sI 6) au))) (sI 0)))
    (j7 2 (s2 dw (sI 1) (sA (dj false 2 aj) (aa (sV 0) (aa (sI 32) au)))))
    sNx) g) [some (.ref 0),some (.str (S l)),none,none,none,none,none] [o1]=g [some (.ref 0),some (.str (S l)),some (.int (n:Nat)),none,none,none,none] [u]:=by
  have c2:dj false 2 aj [.ref 0,.int 5] [o1]=.ok (.int x) [o2]:=e2 0 _ rfl;have c3:dj false 2 aj [.ref 0,.int 6] [o2]=.ok (.int y) [o3]:=e3 0 _ rfl;have c4:dj false 2 aj [.ref 0,.int 32] [o3]=.ok (.int z) [o4]:=e4 0 _ rfl
  by_cases hy:y=0
  .refine⟨(1+z).toNat,o4,by omega,by omega,P4,λg=>?_⟩
   rw[show(((1+z).toNat:Nat):Int)=1+z by omega]
   refine Eq.trans (jo (gh ckk (o9 (aq rfl) ckk c2) ux)) ?_;exact xr (Eq.trans (ifT (t2s (o9 (aq rfl) ckk c3) ckk (a0y hy))) (ahh (gh ckk (o9 (aq rfl) ckk c4) ux)))
  .refine⟨(1+x).toNat,o3,by omega,by omega,P3.up (by omega),λg=>?_⟩
   rw[show(((1+x).toNat:Nat):Int)=1+x by omega]
   refine Eq.trans (jo (gh ckk (o9 (aq rfl) ckk c2) ux)) ?_;exact ifN (t2s (o9 (aq rfl) ckk c3) ckk (a08 hy))
 obtain⟨rows,o5,l5,q5,e5,P5⟩:=aqm Pu (by omega) T1.lo T1.hi n1 n32
 obtain⟨ks,o6,l6,k0,kk,e6,P6⟩:=kinds_ok P5 (by omega) n1 n32
 obtain⟨m,rs,us,o7,m1,m32,lr,qr,lu,u0,uk,tr,e7,P7⟩:=al3 P6 (by omega) n1 n32 T1.hi l5 q5 l6 k0 kk
 obtain⟨G,ts,o8,l8,q8,lt,t0,tk,e8,P8,pl,pm,p0,mp⟩:=a4v P7 (by omega) m1 m32 T1.hi lr qr lu u0 uk
 obtain⟨ok,rc⟩:=acw T1 m1 m32 l8 q8 lt t0 tk lr pm p0 mp tr;refine⟨⟨l,G,ts⟩,o8,ok,rc,?_,P8.up (by omega)⟩
 refine Dr.of rfl (by simp) P.clo (r:=.ok (Table.d ⟨l,G,ts⟩) [o8]) ?_ (j4 (a4s (by omega) Table.clo) (by simpa using qj (by omega) P8.clo)) Table.clo P8.clo
 unfold ji;rw[dh];show toR (yh jy jq dz qz aj j9 [some (.ref 0),none,none,none,none,none,none] [o])=_;unfold yh;have c1:dj false 1 j9 [.ref 0] [o]=.ok (.str (S l)) [o1]:=e1 0 _ rfl;refine ets (ue (aq rfl) c1) ?_;refine etr (eu _) ?_;have c5:dj false 3 jy [.ref 0,.int (l.length:Nat),.int (n:Nat)] [u]=.ok (.rol (rows.map a2d)) [o5]:=e5 0 _ rfl;have c6:dj false 2 jq [.ref 0,.int (n:Nat)] [o5]=.ok (.rol (ks.map D.int)) [o6]:=e6 0 _ rfl;have c7:dj false 3 qz [.ref 0,.rol (rows.map a2d),.rol (ks.map D.int)] [o6]=.ok (.tup [.rol (rs.map a2d),.rol (us.map D.int)]) [o7]:=e7 0 _ rfl
 have c8:dj false 3 dz [.ref 0,.rol (rs.map a2d),.rol (us.map D.int)] [o7]=.ok (.tup [.tup (G.map a3x),.tup (ts.map D.int)]) [o8]:=e8 0 _ rfl;refine etr (xr (ae1 (a1l (aq rfl) (a1l (aq rfl) (ue (aq rfl) (ab7 (dm (by have:=T1.hi;omega)))) (aq rfl) c5) (o9 (aq rfl) (aq rfl) c6) c7) rfl)) ?_
 refine etr (xr (ae1 (a1l (aq (i:=0) rfl) (aq (i:=3) rfl) (aq (i:=4) rfl) c8) rfl)) ?_;refine etr (jr (a1l (aq (i:=1) rfl) (aq (i:=5) rfl) (aq (i:=6) rfl) arn)) ?_;rfl
end
end K30
namespace RCH
open L2 MI AT HND EVX K22 K23 K21 K40
section
variable{T:Table}
end
end RCH
namespace STP
open L2 MI AT HND EVX K23 K21 RCH
open K22
open K40
section
variable{T:Table}
noncomputable def dq:SF:=kj qt 2
noncomputable def je:SF:=kj p7 8
noncomputable def bx:SF:=kj (uz STP.je) 3
theorem a8i(p:Pln d):Pu STP.dq 2 [.str (S T.tg),d] (.bl (txt T d)):=K21.ae5 p
theorem a8j(h:T.Ok)(hr:r<T.go.length)(hl:∀c∈l,c∈T.tg)(ll:l.length<=1000):Pu STP.bx 3 [T.d,ak r,.str (S l)] (ak (ldw T r l)):=K23.aqr h hr hl ll
theorem a1b(h:T.Ok){c:Nat}(hc:c<T.tg.length):psn T (tgA T c)=c:=by
 have hm:tgA T c∈T.tg:=List.mem_of_getElem? (a6t hc);obtain⟨i,e1,e2,_⟩:=a7s (T:=S T.tg) (c:=tgA T c) (by rw[a1i];exact hm)
 rw[a1i]at e2;have e3:psn T (tgA T c)=i:=by unfold psn;rw[e1];simp
 rw[e3];obtain⟨a,ea⟩:=List.getElem?_eq_some_iff.mp e2;obtain⟨b,eb⟩:=List.getElem?_eq_some_iff.mp (a6t hc);have pw:=List.pairwise_iff_getElem.mp h.tong.nd
 rcases Nat.lt_trichotomy i c with z|z|z
 .exact absurd (ea.trans eb.symm) (pw _ _ a b z)
 .exact z
 .exact absurd (eb.trans ea.symm) (pw _ _ b a z)
abbrev Ent:=Nat×List Nat
noncomputable def kvD(e:Ent):Key×D:=(.inl (e.1:Int),.str (S e.2))
variable{ps:Nat->Bool}{s:Nat}{es:List Ent}
theorem amz{x:Nat}(h:x∉es.map (·.1)):a6r (es.map kvD) (.inl (x:Int))=none/\∀d,putD (es.map kvD) (.inl (x:Int)) d=es.map kvD++[(.inl (x:Int),d)]:=by
 have no:∀kv∈es.map kvD,¬ decide (kv.1=(.inl (x:Int):Key))=true:=λkv hkv=>by
  obtain⟨e,he,rfl⟩:=List.mem_map.mp hkv;rw[decide_eq_true_iff]
  intro z
  have:(e.1:Int)=(x:Int):=Sum.inl.inj z
  exact h (List.mem_map.mpr ⟨e,he,by omega⟩)
 constructor
 .unfold a6r;rw[List.find?_eq_none.mpr no];rfl
 .intro d
  unfold putD;rw[if_neg]
  intro z
  obtain⟨kv,hkv,e⟩:=List.any_eq_true.mp z;exact no kv hkv e
theorem a4p:∀{es:List Ent} {e:Ent},e∈es->(es.map (·.1)).Nodup->a6r (es.map kvD) (.inl (e.1:Int))=some (.str (S e.2))
 |a::es,e,he,nd=>by
  unfold a6r;rw[List.map_cons,List.find?_cons]
  by_cases q:a=e
  .subst q;rw[show decide ((kvD a).1=(.inl (a.1:Int):Key))=true from decide_eq_true rfl]
   rfl
  .have he':e∈es:=(List.mem_cons.mp he).resolve_left λz=>q z.symm;have na:a.1≠e.1:=λz=>(List.nodup_cons.mp nd).1 (List.mem_map.mpr ⟨e,he',z.symm⟩);rw[show decide ((kvD a).1=(.inl (e.1:Int):Key))=false from decide_eq_false λz=>na (by have:(a.1:Int)=(e.1:Int):=Sum.inl.inj z;omega)]
   exact a4p he' (List.nodup_cons.mp nd).2
end
section
variable{T:Table}
noncomputable abbrev zpD(T:Table)(r c:Nat):D:=.tup [.str (S [tgA T c]),ak (stp T r c)]
theorem a0h(h:T.Ok){r:Nat}(hr:r<T.go.length){f g:SE}{τ:Sd}{hh:Hd}(e1:f τ hh=.ok (.str (S T.tg)) hh)(e2:g τ hh=.ok (a3x (rw' T r)) hh):aef f g τ hh=.ok ⟨(List.range T.tg.length).map (zpD T r),λ_=>True⟩ hh:=by
 obtain⟨row,er,lr,lx,at'⟩:=amq h hr;have e3:rw' T r=row:=by unfold rw';rw[er];rfl
 unfold aef;rw[e1,az,e2,az,e3,<-aqo lr at'];unfold apa;simp only[srcOf,and_self]
end
end STP
namespace PRS
open L2 MI AT HND EVX K22 K23
open STP (a0h zpD)
section
noncomputable def prs(n:Nat):List (Nat×Nat):=(List.range n).flatMap λa=>(List.range (n-(a+1))).map λj=>(a,a+1+j)
theorem aqw:∀n,n<=32->(prs n).length=n*(n-1) / 2:=by decide +kernel
theorem a3g{n:Nat}(hn:n<=32):(prs n).length<=496:=by
 have:∀n,n<=32->(prs n).length<=496:=by decide +kernel
 exact this n hn
theorem a0p{n a b:Nat}:(a,b)∈prs n↔a<b/\b<n:=by
 unfold prs;simp only[List.mem_flatMap,List.mem_map,List.mem_range,Prod.mk.injEq]
 constructor
 .rintro⟨x,hx,j,hj,rfl,rfl⟩;omega
 .rintro⟨h1,h2⟩;exact⟨a,by omega,b-(a+1),by omega,rfl,by omega⟩
theorem ahz(n:Nat):(prs n).Nodup:=by
 unfold prs;refine List.pairwise_flatMap.mpr ⟨λa _=>?_,?_⟩
 .exact List.Pairwise.map _ (λx y h e=>h (by have:=congrArg Prod.snd e;simp only at this;omega)) List.nodup_range
 .refine List.Pairwise.imp ?_ (List.nodup_range (n:=n))
  intro x y h p hp q hq e
  obtain⟨j,_,rfl⟩:=List.mem_map.mp hp;obtain⟨i,_,rfl⟩:=List.mem_map.mp hq;exact h (by have:=congrArg Prod.fst e;simpa using this)
theorem a4a{α:Type}[BEq α][LawfulBEq α]:∀{l t:List α},l.Nodup->(∀x∈l,x∈t)->l.length<=t.length
 |[],_,_,_=>Nat.zero_le _
 |a::l,t,nd,h=>by
  obtain⟨na,nl⟩:=List.nodup_cons.mp nd;have ha:=h a List.mem_cons_self;have:=a4a (t:=t.erase a) nl λx hx=>(List.mem_erase_of_ne (λe:x=a=>na (e ▸ hx))).mpr (h x (List.mem_cons_of_mem _ hx));rw[List.length_erase_of_mem ha]at this;have:=List.length_pos_of_mem ha;rw[List.length_cons];omega
noncomputable abbrev prD(p:Nat×Nat):D:=.tup [ak p.1,ak p.2]
noncomputable abbrev kk(p:Nat×Nat):List Key:=[.inl (p.1:Int),.inl (p.2:Int)]
theorem an0{p q:Nat×Nat}(h:kk p=kk q):p=q:=by
 simp only[kk,List.cons.injEq,Sum.inl.injEq]at h;exact Prod.ext (by omega) (by omega)
theorem ai0(p:Nat×Nat):ak1 (prD p)=some (kk p):=rfl
section
variable{α:Type}(f:α->D)
abbrev Es(α:Type):=List ((Nat×Nat)×α)
noncomputable def kvP(e:(Nat×Nat)×α):List Key×D:=(kk e.1,f e.2)
noncomputable def fnd(es:Es α)(p:Nat×Nat):Option α:=(es.find? λe=>decide (e.1=p)).map (·.2)
theorem axb(es:Es α)(p:Nat×Nat):a6r (es.map (kvP f)) (kk p)=(fnd es p).map f:=by
 unfold a6r fnd
 induction es with
 |nil=>rfl
 |cons e l ih =>
  rw[List.map_cons,List.find?_cons,List.find?_cons]
  by_cases h:e.1=p
  .rw[show decide ((kvP f e).1=kk p)=true from decide_eq_true (by rw[<-h];rfl),decide_eq_true h];rfl
  .rw[show decide ((kvP f e).1=kk p)=false from decide_eq_false λz=>h (an0 z),decide_eq_false h];exact ih
theorem a1m{es:Es α}{p:Nat×Nat}:fnd es p=none↔p∉es.map (·.1):=by
 unfold fnd;rw[Option.map_eq_none_iff,List.find?_eq_none]
 constructor
 .intro h m
  obtain⟨e,he,rfl⟩:=List.mem_map.mp m;exact h e he (decide_eq_true rfl)
 .intro h e he z
  exact h (List.mem_map.mpr ⟨e,he,of_decide_eq_true z⟩)
theorem a5s{es:Es α}(nd:(es.map (·.1)).Nodup){p:Nat×Nat}{v:α}:fnd es p=some v↔(p,v)∈es:=by
 induction es with
 |nil=>simp[fnd]
 |cons e l ih =>
  obtain⟨n1,n2⟩:=List.nodup_cons.mp nd;unfold fnd;rw[List.find?_cons]
  by_cases h:e.1=p
  .rw[decide_eq_true h];show some e.2=some v↔_
   constructor
   .intro z;cases z;rw[<-h];exact List.mem_cons_self
   .intro z
    rcases List.mem_cons.mp z with z|z
    .rw[<-z]
    .exact absurd (List.mem_map.mpr ⟨_,z,h.symm⟩) n1
  .rw[decide_eq_false h];refine(ih n2).trans ⟨List.mem_cons_of_mem _,λz=>?_⟩
   rcases List.mem_cons.mp z with z|z
   .exact absurd (by rw[<-z]) h
   .exact z
theorem b08{es:Es α}{p:Nat×Nat}(v:α)(h:fnd es p=none):putD (es.map (kvP f)) (kk p) (f v)=(es++[(p,v)]).map (kvP f):=by
 have:((es.map (kvP f)).any λkv=>decide (kv.1=kk p))=false:=by
  rw[List.any_eq_false]
  intro kv hk z
  obtain⟨e,he,rfl⟩:=List.mem_map.mp hk;exact a1m.mp h (List.mem_map.mpr ⟨e,he,an0 (of_decide_eq_true z)⟩)
 unfold putD;rw[this,if_neg (by simp),List.map_append]
 rfl
theorem b09(es:Es α):((es.map (kvP f)).map (·.1)).zip ((es.map (kvP f)).map (·.2))=es.map (kvP f):=by
 rw[List.map_map,List.map_map]
 induction es with
 |nil=>rfl
 |cons a l ih=>rw[List.map_cons,List.map_cons,List.zip_cons_cons,ih];rfl
noncomputable abbrev tbD(es:Es α):D:=.rdT ((es.map (kvP f)).map (·.1)) ((es.map (kvP f)).map (·.2))
theorem abg(es:Es α)(p:Nat×Nat)(h:Hd):am9 (tbD f es) (prD p) h=some ((fnd es p).map f):=by
 show(ak1 (prD p)).map _=_;rw[ai0,Option.map_some,b09,axb]
theorem ai1{h:Hd}{i:Nat}{es:Es α}(e:h[i]? = some (.dT (es.map (kvP f))))(p:Nat×Nat):am9 (.ref i) (prD p) h=some ((fnd es p).map f):=by
 unfold am9;simp only[e];show(ak1 (prD p)).map _=_;rw[ai0,Option.map_some,axb]
theorem ai2{h:Hd}{i:Nat}{es:Es α}(e:h[i]? = some (.dT (es.map (kvP f)))){p:Nat×Nat}{v:α}(nw:fnd es p=none)(l:es.length<LINE):ama (.ref i) (prD p) (f v) h=some (h.set i (.dT ((es++[(p,v)]).map (kvP f)))):=by
 unfold ama;simp only[e,ai0,b08 f v nw,List.length_map];rw[if_pos l]
theorem aqx{h:Hd}{n i k:Nat}{kvs:List (List Key×D)}(hi:n<=i)(e:h[i]? = some (.dT kvs))(c:clos n (kvs.map (·.2))):a1d n h (k+2) (.ref i)=some (.rdT (kvs.map (·.1)) (kvs.map (·.2))):=by
 unfold a1d;rw[if_neg (by simp only[MI.clo];omega)]
 simp only[e];rw[a85 λx hx=>a5l (jx.mp c x hx)];rfl
end
variable{T:Table}
noncomputable def Bq(T:Table):Nat->Nat->Nat->Bool
 |0,a,b=>decide (kI T a≠kI T b)
 |k+1,a,b=>Bq T k a b || (List.range T.tg.length).any λc=>Bq T k (stp T a c) (stp T b c)
theorem a6l:∀{k a b:Nat},Bq T k a b=Bq T k b a
 |0,a,b=>by unfold Bq;exact decide_eq_decide.mpr ⟨Ne.symm,Ne.symm⟩
 |k+1,a,b=>by
  unfold Bq;rw[a6l (k:=k) (a:=a)]
  congr 2
  funext c
  exact a6l
theorem a6m:∀{k a:Nat},Bq T k a a=false
 |0,a=>by unfold Bq;exact decide_eq_false λh=>h rfl
 |k+1,a=>by
  unfold Bq;rw[a6m,Bool.false_or,List.any_eq_false]
  intro c _
  rw[a6m];simp
theorem aqy{k a b:Nat}(h:Bq T k a b=true):Bq T (k+1) a b=true:=by unfold Bq;rw[h];rfl
theorem ae8{a b:Nat}:∀{j k:Nat},j<=k->Bq T j a b=true->Bq T k a b=true
 |j,0,hj,h=>by rw[show j=0 by omega]at h;exact h
 |j,k+1,hj,h=>by
  by_cases e:j=k+1
  .rw[<-e];exact h
  .exact aqy (ae8 (by omega) h)
def Lv(T:Table)(k a b:Nat):Prop:=Bq T k a b=true/\∀j,j<k->Bq T j a b=false
theorem an1{k j a b:Nat}(h:Lv T k a b)(g:Lv T j a b):k=j:=by
 rcases Nat.lt_trichotomy k j with q|q|q
 .have:=g.2 k q;rw[h.1]at this;cases this
 .exact q
 .have:=h.2 j q;rw[g.1]at this;cases this
theorem axc{k a b:Nat}:Lv T k a b↔Lv T k b a:=by
 unfold Lv;rw[a6l]
 constructor<;>exact λ⟨x,y⟩=>⟨x,λj hj=>by rw[a6l];exact y j hj⟩
theorem b0a{k a b:Nat}(h:Lv T k a b):a≠b:=λe=>by
 have:=h.1
 rw[e,a6m]at this;cases this
theorem aqz{k a b:Nat}(h:Lv T (k+1) a b):∃c,c<T.tg.length/\Lv T k (stp T a c) (stp T b c):=by
 have h1:=h.1;unfold Bq at h1;rw[h.2 k (by omega),Bool.false_or]at h1
 obtain⟨c,hc,e⟩:=List.any_eq_true.mp h1;refine⟨c,List.mem_range.mp hc,e,λj hj=>?_⟩
 cases z:Bq T j (stp T a c) (stp T b c) with
 |false=>rfl
 |true =>
  have:=h.2 (j+1) (by omega)
  unfold Bq at this;rw[Bool.or_eq_false_iff]at this;have:=List.any_eq_false.mp this.2 c hc;rw[z]at this;exact absurd rfl this
theorem ar0{n k:Nat}(hs:∀a c,a<n->c<T.tg.length->stp T a c<n)(st:∀a b,a<n->b<n->Bq T (k+1) a b=true->Bq T k a b=true):∀i a b,a<n->b<n->Bq T (k+i) a b=true->Bq T k a b=true:=by
 intro i
 induction i with
 |zero=>intro a b _ _ h;exact h
 |succ i ih =>
  intro a b ha hb h
  rw[show k+(i+1)=(k+i)+1 by omega]at h
  unfold Bq at h
  rcases Bool.or_eq_true_iff.mp h with h|h
  .exact ih a b ha hb h
  .obtain⟨c,hc,e⟩:=List.any_eq_true.mp h;have hc':=List.mem_range.mp hc;have:=ih _ _ (hs a c ha hc') (hs b c hb hc') e;refine st a b ha hb ?_;unfold Bq;rw[Bool.or_eq_true];exact .inr (List.any_eq_true.mpr ⟨c,hc,this⟩)
end
end PRS
namespace K30
open L2 MI AT HND EVX K22 K23 PRS
open STP (Ent kvD a4p amz a0h zpD a1b)
open K40 (rw' a4o a1a go1)
open RCH (a09)
section
variable{T:Table}
theorem an2{c:ST}{fe:SE}{x:D}{rd:Sd}{h:Hd}{α:Type}(g F:α->D):∀(ys:List α) (zs:List D),zs.length+ys.length<=1000000->(∀y∈ys,c (some x::some (g y)::rd) h=.ok true h/\fe (some x::some (g y)::rd) h=.ok (F y) h)->agy (λ_=>True) c fe x rd (ys.map g) zs h=.ok (zs++ys.map F) h
 |[],zs,_,_=>by rw[List.map_nil,agy,if_pos True.intro,List.map_nil,List.append_nil]
 |y::ys,zs,hz,st=>by
  obtain⟨e1,e2⟩:=st y (by simp)
  rw[List.length_cons]at hz;rw[List.map_cons,agy,if_pos True.intro,e1,az,if_pos rfl,e2,az,if_pos (dm (by omega)),an2 g F ys (zs++[F y]) (by rw[List.length_append];show zs.length+1+ys.length<=_;omega) λy hy=>st y (by simp[hy])]
  rw[List.append_assoc];rfl
theorem an3{fj:SI}{rd:Sd}{h:Hd}{ys:Nat->List Nat}:∀(xs:List Nat) (zs:List D),(∀x∈xs,(ys x).length<=100/\fj (some (ak x)::none::rd) h=.ok ⟨(ys x).map ak,λ_=>True⟩ h)->zs.length+xs.length*100<=1000000->a6f (λ_=>True) fj amg (sA uc (aa (sV 0) (aa (sV 1) au))) rd (xs.map ak) zs h=.ok (zs++(xs.flatMap λx=>(ys x).map λy=>(x,y)).map prD) h
 |[],zs,_,_=>by rw[List.map_nil,a6f,if_pos True.intro];show _=R.ok (zs++[]) h;rw[List.append_nil]
 |x::xs,zs,e,hz=>by
  rw[List.length_cons,Nat.succ_mul]at hz;obtain⟨el,ex⟩:=e x List.mem_cons_self;rw[List.map_cons,a6f,if_pos True.intro,ex,az];have:=an2 (c:=amg) (fe:=sA uc (aa (sV 0) (aa (sV 1) au))) (x:=ak x) (rd:=rd) (h:=h) ak (λy=>prD (x,y)) (ys x) zs (by omega) λy _=>⟨rfl,o9 (aq rfl) (aq rfl) ae2⟩
  show(agy (λ_=>True) amg _ (ak x) rd ((ys x).map ak) zs h).bind _=_;rw[this,az,an3 xs _ (λx hx=>e x (List.mem_cons_of_mem _ hx)) (by rw[List.length_append,List.length_map];omega)]
  rw[List.flatMap_cons,List.map_append,List.append_assoc,List.map_map];rfl
theorem a8k(n:Nat)(ps:List (Nat×Nat)):clos n (ps.map prD):=bz λ_ _=>jj (bh (bc _) (bh (bc _) j6))
noncomputable def iw:SF:=kj zy 2
theorem axd(h:T.Ok):Pu iw 1 [T.d] (.rol ((prs T.go.length).map prD)):=by
 have n32:=h.n32;refine Pu.of rfl (by intro x hx;rw[List.mem_singleton]at hx;subst hx;exact Table.clo) (r:=.ok (.ref 0) [.lst ((prs T.go.length).map prD)]) ?_ (a3t (Nat.le_refl _) rfl (a8k _ _) (by simp)) (ud (a8k _ _))
 unfold iw;rw[dh];show toR (zy [some T.d,none] [])=_;unfold zy;refine ets (ue (aaf rfl (go1 _)) (p8.trans (by rw[List.length_map]))) ?_
 have e1:sRg a0a (aa (sV 1) au) [some T.d,some (ak T.go.length)] []=.ok ⟨(List.range T.go.length).map ak,λ_=>True⟩ []:=a3f (aq rfl) (dm (by omega))
 have cz:agz (sRg a0a (aa (sV 1) au)) (sRg a1c (aa (s2 dw (sV 0) (sI 1)) (aa (sV 2) au))) amg a0k [1] [some T.d,some (ak T.go.length)] []=.ok (.ref 0) [.lst ((prs T.go.length).map prD)]:=by
  unfold agz;rw[e1,az];have:=an3 (fj:=sRg a1c (aa (s2 dw (sV 0) (sI 1)) (aa (sV 2) au))) (rd:=[some (ak T.go.length)]) (h:=[]) (ys:=λa=>(List.range (T.go.length-(a+1))).map λj=>a+1+j) (List.range T.go.length) [] (λa ha=>by
   have:=List.mem_range.mp ha
   refine⟨by rw[List.length_map,List.length_range];omega,?_⟩
   rw[List.map_map];exact a4l (a:=a+1) (n:=T.go.length) ((aaf rfl ux).trans rfl) (aq rfl) (dm (by omega)) (dm (by omega))) (by rw[List.length_range,List.length_nil];omega)
  show(a6f (λ_=>True) (sRg a1c (aa (s2 dw (sV 0) (sI 1)) (aa (sV 2) au))) amg (sA uc (aa (sV 0) (aa (sV 1) au))) [some (ak T.go.length)] ((List.range T.go.length).map ak) [] []).bind _=_;have em:((List.range T.go.length).flatMap λx=>((List.range (T.go.length-(x+1))).map λj=>x+1+j).map λy=>(x,y))=prs T.go.length:=by
   unfold prs;refine congrArg (λf=>(List.range T.go.length).flatMap f) (funext λa=>?_);rw[List.map_map];exact List.map_congr_left λj _=>rfl
  rw[this,az,List.nil_append,em];rfl
 exact congrArg toR (jr cz)
noncomputable def j5:SF:=kj a02 4
theorem a9y(h:T.Ok){r:Nat}{l:List Nat}(hr:r<T.go.length)(hl:∀c∈l,c∈T.tg):Pu j5 3 [T.d,ak r,.str (S l)] (ak (ldw T r l)):=K23.a9y (r:=r) h hr hl
noncomputable def a5h(T:Table)(e:Ent)(es:List Ent)(c:Nat):List Ent:=if stp T e.1 c∈es.map (·.1) then es else es++[(stp T e.1 c,e.2++[tgA T c])]
structure WyI (T:Table) (es:List Ent):Prop where
 h0:es[0]? = some (0,[])
 nd:(es.map (·.1)).Nodup
 lt:∀e∈es,e.1<T.go.length
 sg:∀e∈es,∀c∈e.2,c∈T.tg
 to:∀e∈es,ldw T 0 e.2=e.1
 ln:∀(i:Nat) (e:Ent),es[i]? = some e->e.2.length<=i
theorem WyI.few{es:List Ent}(W:WyI T es):es.length<=T.go.length:=by
 have:=BF.acr T.go.length (es.map (·.1)) W.nd λx hx=>by obtain⟨e,he,rfl⟩:=List.mem_map.mp hx;exact W.lt e he
 rwa[List.length_map]at this
theorem WyI.step(h:T.Ok){es:List Ent}(W:WyI T es){e:Ent}(he:e∈es){c:Nat}(hc:c<T.tg.length):WyI T (a5h T e es c):=by
 unfold a5h
 split
 .exact W
 .rename_i nw;obtain⟨i,hi,ei⟩:=List.getElem_of_mem he;have li:=W.ln i e (by rw[List.getElem?_eq_getElem hi,ei])
  refine⟨by rw[List.getElem?_append_left (List.getElem?_eq_some_iff.mp W.h0).1];exact W.h0,?_,λx hx=>?_,λx hx=>?_,λx hx=>?_,λj x hj=>?_⟩
  .rw[List.map_append,List.nodup_append];refine⟨W.nd,by simp,λa ha b hb z=>?_⟩
   rw[List.mem_map]at hb;obtain⟨y,hy,rfl⟩:=hb;rw[List.mem_singleton.mp hy]at z;have z:a=stp T e.1 c:=z;exact nw (by rw[<-z];exact ha)
  .rcases List.mem_append.mp hx with hx|hx
   .exact W.lt x hx
   .rw[List.mem_singleton.mp hx];exact xg h _ _
  .rcases List.mem_append.mp hx with hx|hx
   .exact W.sg x hx
   .rw[List.mem_singleton.mp hx]
    intro d hd
    rcases List.mem_append.mp hd with z|z
    .exact W.sg e he d z
    .rw[List.mem_singleton.mp z];exact List.mem_of_getElem? (a6t hc)
  .rcases List.mem_append.mp hx with hx|hx
   .exact W.to x hx
   .rw[List.mem_singleton.mp hx];show ldw T 0 (e.2++[tgA T c])=stp T e.1 c;rw[a5r,a1b h hc,W.to e he]
  .by_cases q:j<es.length
   .rw[List.getElem?_append_left q]at hj;exact W.ln j x hj
   .rw[List.getElem?_append_right (by omega)]at hj
    have:j-es.length=0:=by
     have:=(List.getElem?_eq_some_iff.mp hj).1
     rw[List.length_singleton]at this;omega
    rw[this]at hj;cases hj
    show(e.2++[tgA T c]).length<=j;rw[List.length_append,List.length_singleton];omega
theorem aa2{e:Ent}{es:List Ent}{c:Nat}:∃m,a5h T e es c=es++m:=by
 unfold a5h
 split
 .exact⟨[],(List.append_nil _).symm⟩
 .exact⟨_,rfl⟩
theorem al5{e:Ent}{es:List Ent}{c:Nat}:stp T e.1 c∈(a5h T e es c).map (·.1):=by
 unfold a5h
 split
 .assumption
 .rw[List.map_append];exact List.mem_append_right _ (by simp)
noncomputable def acx(T:Table)(es:List Ent)(e:Ent)(cs:List Nat):List Ent:=cs.foldl (a5h T e) es
theorem abh{e:Ent}:∀{cs:List Nat} {es:List Ent},∃m,acx T es e cs=es++m
 |[],es=>⟨[],(List.append_nil _).symm⟩
 |c::cs,es=>by
  obtain⟨m,hm⟩:=aa2 (T:=T) (e:=e) (es:=es) (c:=c);obtain⟨m',hm'⟩:=abh (cs:=cs) (es:=a5h T e es c);refine⟨m++m',?_⟩;show acx T (a5h T e es c) e cs=_;rw[hm',hm,List.append_assoc]
noncomputable def itW(T:Table):Nat->List Ent
 |0=>[(0,[])]
 |l+1=>match (itW T l)[l]? with
  |some e=>acx T (itW T l) e (List.range T.tg.length)
  |none=>itW T l
noncomputable abbrev hY(es:List Ent):Hd:=[.dK (es.map kvD),.lst (es.map λe=>ak e.1)]
noncomputable abbrev τY(T:Table)(l:Nat)(a b:Option D):Sd:=[some T.d,some (.ref 0),some (.ref 1),some (ak l),a,b]
theorem ai3(h:T.Ok){es:List Ent}{e:Ent}{l c:Nat}(W:WyI T es)(he:es[l]? = some e)(hc:c<T.tg.length) :
  wu (τY T l (some (.str (S [tgA T c]))) (some (ak (stp T e.1 c)))) (hY es)=.nx (τY T l (some (.str (S [tgA T c]))) (some (ak (stp T e.1 c)))) (hY (a5h T e es c)):=by
 have n32:=h.n32;have fw:=W.few;have le:=W.ln l e he;have lt:=(List.getElem?_eq_some_iff.mp he).1;have din:aae true (ak (stp T e.1 c)) (.ref 0) (hY es)=.ok (.bl (!(a6r (es.map kvD) (.inl ((stp T e.1 c:Nat):Int))).isSome)) (hY es):=rfl;unfold wu a5h
 by_cases sn:stp T e.1 c∈es.map (·.1)
 .obtain⟨e2,he2,q⟩:=List.mem_map.mp sn;rw[if_pos sn];refine(ifF (t2s (aq rfl) (aq rfl) (din.trans ?_))).trans rfl;rw[<-q,a4p he2 W.nd];rfl
 .rw[if_neg sn];obtain⟨v1,v2⟩:=amz sn;have ad:∀hh,dw (.str (S e.2)) (.str (S [tgA T c])) hh=.ok (.str (S (e.2++[tgA T c]))) hh:=λhh=>a5d (dm (by rw[List.length_singleton];omega))
  have gt:a5b (.ref 0) (ak e.1) (hY es)=.ok (.str (S e.2)) (hY es):=by
   unfold a5b;show(match (some (a6r (es.map kvD) (.inl ((e.1:Nat):Int))):Option (Option D)) with|some (some d)=>R.ok d _|_=>.no)=_
   rw[a4p (List.mem_of_getElem? he) W.nd]
  have p:ama (.ref 0) (ak (stp T e.1 c)) (.str (S (e.2++[tgA T c]))) (hY es)=some [.dK ((es++[(stp T e.1 c,e.2++[tgA T c])]).map kvD),.lst (es.map λe=>ak e.1)]:=by
   have lt:(es.map kvD).length<LINE:=a0z (by rw[List.length_map];omega)
   show(if (es.map kvD).length<LINE then some [O.dK (putD (es.map kvD) (.inl ((stp T e.1 c:Nat):Int)) (.str (S (e.2++[tgA T c])))),O.lst (es.map λe=>ak e.1)] else none)=_
   rw[if_pos lt,v2,List.map_append];rfl
  refine Eq.trans (ifT (t2s (aq rfl) (aq rfl) (din.trans (by rw[v1];rfl)))) ?_
  have ix:gIx (.ref 1) (ak l) (hY es)=.ok (ak e.1) (hY es):=a9x (xs:=es.map λe=>ak e.1) rfl (by rw[List.getElem?_map,he];rfl)
  refine Eq.trans (xr (ahi (gh (gh (aq rfl) (gh (aq rfl) (aq rfl) ix) gt) (aq rfl) (ad _)) (aq rfl) (aq rfl) p)) ?_;refine Eq.trans (a1r (aq rfl) rfl (arg1 (aq rfl)) (a2y (xs:=es.map λe=>ak e.1) rfl (a0z (by rw[List.length_map];omega)))) ?_
  rw[show(es.map λe=>ak e.1)++[ak (stp T e.1 c)]=(es++[(stp T e.1 c,e.2++[tgA T c])]).map λe=>ak e.1 by rw[List.map_append];rfl]
  rfl
noncomputable def nu:SF:=kj a0w 6
noncomputable def wyO(es:List Ent)(r:Nat):List Nat:=((es.find? λe=>decide (e.1=r)).map (·.2)).getD []
theorem an4{es:List Ent}(nd:(es.map (·.1)).Nodup){e:Ent}(he:e∈es):wyO es e.1=e.2:=by
 have h:=a4p he nd;unfold a6r at h;unfold wyO;rw[List.find?_map]at h;rw[show((λkv:Key×D=>decide (kv.1=(.inl (e.1:Int):Key))) ∘ kvD)=λx:Ent=>decide (x.1=e.1) from funext λx=>decide_eq_decide.mpr ⟨λz=>by have:(x.1:Int)=e.1:=Sum.inl.inj z;omega,λz=>by show Sum.inl _=Sum.inl _;rw[z]⟩]at h
 cases q:es.find? λx:Ent=>decide (x.1=e.1) with
 |none=>rw[q]at h;cases h
 |some y =>
  rw[q]at h;have:=D.str.inj (Option.some.inj h);show y.2=e.2;have:=congrArg (λs=>s.cps.toList) this;simpa[a1i] using this
noncomputable abbrev wsD(es:List Ent)(n:Nat):List D:=(List.range n).map λr=>.str (S (wyO es r))
structure WyA (T:Table) (es:List Ent):Prop extends WyI T es where
 all:∀r,r<T.go.length->r∈es.map (·.1)
 it:es=itW T es.length
theorem al6(h:T.Ok)(rc:∀r,r<T.go.length->PN.Rch T.go r):∃es,WyA T es/\nu [T.d] []=.ok (.ref 2) (hY es++[.lst (wsD es T.go.length)]):=by
 have n32:=h.n32;have n1:=h.n1;have w:=aka (c:=zf) (f:=zg)
  (λm τ hh=>∃(es:List Ent) (l:Nat) (a b:Option D),τ=τY T l a b/\hh=hY es/\WyI T es/\es=itW T l/\l<=es.length/\m=33-l/\∀(j:Nat) (e:Ent),j<l->es[j]? = some e->∀c,c<T.tg.length->stp T e.1 c∈es.map (·.1))
  (λτ hh=>∃(es:List Ent) (l:Nat) (a b:Option D),τ=τY T l a b/\hh=hY es/\WyI T es/\es=itW T l/\l=es.length/\∀(j:Nat) (e:Ent),j<l->es[j]? = some e->∀c,c<T.tg.length->stp T e.1 c∈es.map (·.1))
  (λ_ _=>False) ?_ 33 100000 (τY T 0 none none) (hY [(0,[])]) (by omega)
  ⟨[(0,[])],0,none,none,rfl,rfl,⟨rfl,by simp,by simpa using (by omega:0<T.go.length),by simp,by simp[ldw],λi e hi=>by
   have:i=0:=by have:=(List.getElem?_eq_some_iff.mp hi).1;simp at this;omega
   subst this;cases hi;simp⟩,rfl,by simp,rfl,λj e hj=>by omega⟩
 .rcases w with⟨τ',h',e,es,l,a,b,rfl,rfl,W,ei,el,cl⟩|⟨_,_,_,z⟩
  .have fw:=W.few;have all:∀r,r<T.go.length->r∈es.map (·.1):=λr hr=>by
    refine rc r hr (λx=>x∈es.map (·.1)) (List.mem_map.mpr ⟨_,List.mem_of_getElem? W.h0,rfl⟩) λx hx y hy=>?_;obtain⟨e0,he0,rfl⟩:=List.mem_map.mp hx;obtain⟨c,hc,rfl⟩:=(a09 h (W.lt e0 he0)).mp hy;obtain⟨j,hj,ej⟩:=List.getElem_of_mem he0;exact cl j e0 (by omega) (by rw[List.getElem?_eq_getElem hj,ej]) c hc
   have ln:es.length=T.go.length:=by
    have:=PRS.a4a (l:=List.range T.go.length) (t:=es.map (·.1)) List.nodup_range λx hx=>all x (List.mem_range.mp hx)
    rw[List.length_range,List.length_map]at this;omega
   refine⟨es,⟨W,all,by rw[<-el];exact ei⟩,?_⟩
   unfold nu;rw[dh];show toR (a0w [some T.d,none,none,none,none,none] [])=_;unfold a0w;refine etr (jo (d:=.ref 0) (h1:=[.dK [(.inl 0,.str (S []))]]) rfl) ?_;refine etr (jo (d:=.ref 1) (h1:=hY [(0,[])]) rfl) ?_;refine etr (jo ckk) ?_;refine etr (xr e) ?_;have gt:∀r,r<T.go.length->a5b (.ref 0) (ak r) (hY es)=.ok (.str (S (wyO es r))) (hY es):=λr hr=>by
    obtain⟨e1,he1,q⟩:=List.mem_map.mp (all r hr);unfold a5b;show(match (some (a6r (es.map kvD) (.inl ((r:Nat):Int))):Option (Option D)) with|some (some d)=>R.ok d _|_=>.no)=_
    rw[<-q,a4p he1 W.nd,an4 W.nd he1]
   refine congrArg toR (jr ?_);refine(xf ak (λr=>D.str (S (wyO es r))) (List.range T.go.length) (a3f (n:=T.go.length) (ue (aq rfl) (by rw[yt];show R.ok (D.int ((es.map λe=>ak e.1).length:Nat)) _=_;rw[List.length_map,ln])) (dm (by omega))) (by rw[List.length_range];exact dm (by omega)) λr hr=>?_).trans rfl
   rw[a2b];exact gh (aq rfl) (aq rfl) (gt r (List.mem_range.mp hr))
  .exact z.elim
 .rintro m τ hh ⟨es,l,a,b,rfl,rfl,W,ei,ll,rfl,cl⟩
  have fw:=W.few;have tc:zf (τY T l a b) (hY es)=.ok (decide (l<es.length)) (hY es):=by
   refine(t2s (aq rfl) (ue (aq rfl) (by rw[yt];show R.ok (D.int ((es.map λe=>ak e.1).length:Nat)) _=_;rw[List.length_map])) rfl).trans ?_
   congr 1
   exact decide_eq_decide.mpr (by omega)
  by_cases q:l<es.length
  .rw[decide_eq_true q]at tc;refine .inr ⟨_,tc,.inl ?_⟩;obtain⟨e,he⟩:∃e,es[l]? = some e:=⟨_,List.getElem?_eq_getElem q⟩;have hr:=W.lt e (List.mem_of_getElem? he);have lp:=my (g:=a3h 2 (jb (kN 4) (jb (kN 5) a3m))) (b:=wu) (zpD T e.1)
    (λpre τ hh=>∃(a b:Option D),τ=τY T l a b/\hh=hY (acx T es e pre)/\WyI T (acx T es e pre)/\∀c∈pre,stp T e.1 c∈(acx T es e pre).map (·.1)) (List.range T.tg.length) (τY T l a b) (hY es) ?_ ⟨a,b,rfl,rfl,W,by simp⟩
   .obtain⟨τ',h',el,a',b',rfl,rfl,W',cl'⟩:=lp;obtain⟨m,hm⟩:=abh (T:=T) (e:=e) (cs:=List.range T.tg.length) (es:=es);have gl:∀{j:Nat} {x:Ent},es[j]? = some x->(acx T es e (List.range T.tg.length))[j]? = some x:=λ{j x} hx=>by rw[hm,List.getElem?_append_left (List.getElem?_eq_some_iff.mp hx).1];exact hx
    refine⟨τY T (l+1) a' b',hY (acx T es e (List.range T.tg.length)),33-(l+1),?_,by omega,_,l+1,a',b',rfl,rfl,W',?_,?_,rfl,λj x hj hx c hc=>?_⟩
    .unfold zg;refine Eq.trans (a2t (a0h h hr (aaf rfl (a1v (j:=0) rfl)) (gh (aaf rfl (go1 _)) (gh (aq rfl) (aq rfl) (a9x (xs:=es.map λe=>ak e.1) rfl (by rw[List.getElem?_map,he];rfl))) (a1a h hr _)))) ?_
     rw[el,yg];exact aqh rfl ckk rfl
    .show _=(match (itW T l)[l]? with|some e=>acx T (itW T l) e (List.range T.tg.length)|none=>itW T l)
     rw[<-ei,he]
    .rw[hm,List.length_append];omega
    .by_cases q2:j=l
     .subst q2;rw[gl he]at hx;cases hx
      exact cl' c (List.mem_range.mpr hc)
     .have hj':j<es.length:=by omega
      have hx':es[j]? = some x:=by rw[hm,List.getElem?_append_left hj']at hx;exact hx
      have:=cl j x (by omega) hx' c hc
      rw[hm,List.map_append];exact List.mem_append_left _ this
   .rintro pre c post τ hh all ⟨a,b,rfl,rfl,W',cl'⟩
    have hc:c<T.tg.length:=List.mem_range.mp (by rw[all];simp)
    obtain⟨m,hm⟩:=abh (T:=T) (e:=e) (cs:=pre) (es:=es);have he':(acx T es e pre)[l]? = some e:=by rw[hm,List.getElem?_append_left q];exact he
    have ea:acx T es e (pre++[c])=a5h T e (acx T es e pre) c:=by unfold acx;rw[List.foldl_append];rfl
    refine⟨_,_,rfl,_,_,ai3 h W' he' hc,_,_,rfl,by rw[ea],by rw[ea];exact W'.step h (List.mem_of_getElem? he') hc,λd hd=>?_⟩
    rw[ea]
    rcases List.mem_append.mp hd with hd|hd
    .obtain⟨m',hm'⟩:=aa2 (T:=T) (e:=e) (es:=acx T es e pre) (c:=c);rw[hm',List.map_append];exact List.mem_append_left _ (cl' d hd)
    .rw[List.mem_singleton.mp hd];exact al5
  .rw[decide_eq_false q]at tc;exact .inl ⟨_,tc,es,l,a,b,rfl,rfl,W,ei,by omega,cl⟩
end
end K30
namespace K30
open L2 MI AT HND EVX K22 K23 PRS
open STP (a0h zpD a1b)
open K40 (rw' a4o a1a go1 aa1)
open RCH (a09)
section
variable{T:Table}
theorem ar3(i j:Nat)(hh:Hd):a2q [ak i,ak j] hh=.ok (ak (min i j)) hh:=by
 show R.ok (D.int (if (j:Int)<i then (j:Int) else i)) hh=_
 split<;>(congr 2;omega)
theorem ar4(i j:Nat)(hh:Hd):a2p [ak i,ak j] hh=.ok (ak (max i j)) hh:=by
 show R.ok (D.int (if (j:Int) > i then (j:Int) else i)) hh=_
 split<;>(congr 2;omega)
theorem ar5{F:SF}{a c e v:D}{o:O}(ca:MI.clo 0 a)(cc:MI.clo 0 c)(ce:MI.clo 0 e)(co:a1p 0 o)(ef:F [a,.ref 0,c,e] [o]=.ok v [o])(cv:MI.clo 0 v)(p:Nat)(h:Hd)(hp:h[p]? = some o):dj false 4 F [a,.ref p,c,e] h=.ok v h:=by
 have nr:∀{x:D},MI.clo 0 x->refOf x=none:=λ{x} cx=>by cases x<;>first|rfl|(simp only[MI.clo]at cx;omega)
 have e1:a2r [a,.ref p,c,e]=[p]:=by
  show[a,D.ref p,c,e].filterMap refOf=[p];rw[List.filterMap_cons,nr ca];show p::[c,e].filterMap refOf=_;rw[List.filterMap_cons,nr cc,List.filterMap_cons,nr ce];rfl
 have rn:∀{x:D} {n:Nat} {l:List D},MI.clo 0 x->a0j n (x::l)=x::a0j n l:=λ{x n l} cx=>by cases x<;>first|rfl|(simp only[MI.clo]at cx;omega)
 have e2:a0j 0 [a,.ref p,c,e]=[a,.ref 0,c,e]:=by
  rw[rn ca];show a::.ref 0::a0j 1 [c,e]=_;rw[rn cc,rn ce];rfl
 unfold dj;rw[if_pos (show[a,D.ref p,c,e].length=4 from rfl)]
 unfold ari;rw[e1];simp only[a0b,hp,List.length_singleton,Bool.false_eq_true,if_false];have all:∀y∈[a,D.ref p,c,e],MI.clo 0 y\/isRef y:=λy hy=>by
  simp only[List.mem_cons,List.not_mem_nil,or_false]at hy
  rcases hy with rfl|rfl|rfl|rfl
  .exact .inl ca
  .exact .inr ⟨p,rfl⟩
  .exact .inl cc
  .exact .inl ce
 have z:aad 1 (.ok v [o])=.ok v [o]:=j4 (a4s (Nat.zero_le 1) cv) (by intro u hu;rw[show([o]:Hd).take 1=[o] from rfl,List.mem_singleton]at hu;subst hu;exact qj (by omega) co)
 rw[if_pos ⟨by simp,all,λu hu=>by rw[List.mem_singleton.mp hu];exact co⟩,e2,ef,z]
 have es:h.set p o=h:=by
  refine List.ext_getElem? λi=>?_;rw[List.getElem?_set]
  split
  .rename_i q;subst q;rw[if_pos (List.getElem?_eq_some_iff.mp hp).1,hp]
  .rfl
 simp[cv,co,vp,es]
noncomputable abbrev goD(T:Table):D:=.tup (T.go.map a3x)
noncomputable abbrev ksD(T:Table):D:=.tup (T.ks.map D.int)
theorem ai4:MI.clo 0 (goD T):=jj (bz λx _=>jj (qx _))
theorem ar6:MI.clo 0 (ksD T):=jj (bz λx _=>bc x)
noncomputable abbrev twD(T:Table)(x y c:Nat):D:=.tup [ak (stp T x c),ak (stp T y c)]
theorem zip_rows(h:T.Ok){x y:Nat}(hx:x<T.go.length)(hy:y<T.go.length){f g:SE}{τ:Sd}{hh:Hd}(e1:f τ hh=.ok (a3x (rw' T x)) hh)(e2:g τ hh=.ok (a3x (rw' T y)) hh):aef f g τ hh=.ok ⟨(List.range T.tg.length).map (twD T x y),λ_=>True⟩ hh:=by
 unfold aef;rw[e1,az,e2,az];unfold apa srcOf;dsimp only;rw[RCH.yx h hx,RCH.yx h hy,List.map_map,List.map_map,List.zip_map,List.map_map]
 congr 2
 .rw[show(List.range T.tg.length).zip (List.range T.tg.length)=(List.range T.tg.length).map λc=>(c,c) from by
   induction List.range T.tg.length with
   |nil=>rfl
   |cons a l ih=>rw[List.zip_cons_cons,ih];rfl,List.map_map]
  rfl
 .funext _;simp
structure Sz (T:Table) (s:Nat) (es:Es Nat):Prop where
 nd:(es.map (·.1)).Nodup
 up:∀e∈es,e.1.1<e.1.2/\e.1.2<T.go.length
 lv:∀e∈es,e.2<=s/\Lv T e.2 e.1.1 e.1.2
 all:∀a b,a<b->b<T.go.length->Bq T s a b=true->(a,b)∈es.map (·.1)
theorem Sz.few(h:T.Ok){s:Nat}{es:Es Nat}(Z:Sz T s es):es.length<=496:=by
 have:=a4a (t:=prs T.go.length) Z.nd λp hp=>by
  obtain⟨e,he,rfl⟩:=List.mem_map.mp hp;exact a0p.mpr (Z.up e he)
 rw[List.length_map]at this;have:=a3g h.n32;omega
theorem Sz.has{s:Nat}{es:Es Nat}(Z:Sz T s es){a b:Nat}(ha:a<T.go.length)(hb:b<T.go.length):(fnd es (min a b,max a b)).isSome=Bq T s a b:=by
 cases q:Bq T s a b with
 |true =>
  have ne:a≠b:=λe=>by rw[e,a6m]at q;cases q
  have m:(min a b,max a b)∈es.map (·.1):=Z.all _ _ (by omega) (by omega) (by
   rcases Nat.le_total a b with z|z
   .rw[Nat.min_eq_left z,Nat.max_eq_right z];exact q
   .rw[Nat.min_eq_right z,Nat.max_eq_left z,a6l];exact q)
  rw[Option.isSome_iff_ne_none];exact λz=>a1m.mp z m
 |false =>
  rw[Option.isSome_eq_false_iff,Option.isNone_iff_eq_none,a1m]
  intro m
  obtain⟨e,he,q2⟩:=List.mem_map.mp m;obtain⟨l1,l2⟩:=Z.lv e he;have l3:=ae8 l1 l2.1;have e1:=congrArg Prod.fst q2;have e2:=congrArg Prod.snd q2;simp only at e1 e2;rw[e1,e2]at l3
  rcases Nat.le_total a b with z|z
  .rw[Nat.min_eq_left z,Nat.max_eq_right z,q]at l3;cases l3
  .rw[Nat.min_eq_right z,Nat.max_eq_left z,a6l,q]at l3;cases l3
noncomputable def bf:SF:=kj a0x 6
noncomputable abbrev dtO(es:Es Nat):O:=.dT (es.map (kvP ak))
theorem a79(n:Nat)(es:Es Nat):a1p n (dtO es):=by
 show clos n ((es.map (kvP ak)).map (·.2));rw[List.map_map];exact bz λe _=>bc _
theorem al7(h:T.Ok){s:Nat}{es:Es Nat}(Z:Sz T s es){x y:Nat}(hx:x<T.go.length)(hy:y<T.go.length):bf [goD T,.ref 0,ak x,ak y] [dtO es]=.ok (.bl ((List.range T.tg.length).any λc=>Bq T s (stp T x c) (stp T y c))) [dtO es]:=by
 have t6:=h.tong.hi;unfold bf;rw[dh];show toR (a0x [some (goD T),some (.ref 0),some (ak x),some (ak y),none,none] [dtO es])=_;unfold a0x;have lp:=a2m (g:=a3h 2 (jb (kN 4) (jb (kN 5) a3m))) (b:=zj) (twD T x y)
  (λpre τ hh=>∃a b:Option D,τ=[some (goD T),some (.ref 0),some (ak x),some (ak y),a,b]/\hh=[dtO es]/\(pre.any λc=>Bq T s (stp T x c) (stp T y c))=false)
  (λd hh=>d=.bl true/\hh=[dtO es]/\((List.range T.tg.length).any λc=>Bq T s (stp T x c) (stp T y c))=true) (List.range T.tg.length) [] [some (goD T),some (.ref 0),some (ak x),some (ak y),none,none] [dtO es] ?_ ⟨none,none,rfl,rfl,rfl⟩
 .have it:=zip_rows h hx hy (f:=s2 gIx (sV 0) (sV 2)) (g:=s2 gIx (sV 0) (sV 3)) (τ:=[some (goD T),some (.ref 0),some (ak x),some (ak y),none,none]) (hh:=[dtO es]) (gh (aq rfl) (aq rfl) (a1a h hx _)) (gh (aq rfl) (aq rfl) (a1a h hy _));refine etr (a2t it) ?_
  rcases lp with⟨τ',h',e,a,b,rfl,rfl,nq⟩|⟨d,h',e,rfl,rfl,q⟩
  .refine Eq.trans (congrArg (λz=>toR (MI.thn z _)) e) ?_;rw[List.nil_append]at nq;rw[nq];exact congrArg toR (jr ckk)
  .refine Eq.trans (congrArg (λz=>toR (MI.thn z _)) e) ?_;rw[q];rfl
 .rintro pre c post τ hh all ⟨a,b,rfl,rfl,nq⟩
  rw[List.nil_append]at all;have din:∀p:Nat×Nat,aae false (prD p) (.ref 0) [dtO es]=.ok (.bl (fnd es p).isSome) [dtO es]:=λp=>by
   unfold aae;rw[ai1 ak (i:=0) rfl p];show R.ok (D.bl ((fnd es p).map ak).isSome) _=_;rw[Option.isSome_map]
  have tt:sT (s2 (aae false) (sA MI.uc (aa (sA a2q (aa (sV 4) (aa (sV 5) au))) (aa (sA a2p (aa (sV 4) (aa (sV 5) au))) au))) (sV 1)) [some (goD T),some (.ref 0),some (ak x),some (ak y),some (ak (stp T x c)),some (ak (stp T y c))] [dtO es]=.ok (Bq T s (stp T x c) (stp T y c)) [dtO es] :=
   t2s (o9 (o9 (aq (i:=4) rfl) (aq (i:=5) rfl) (ar3 _ _ _)) (o9 (aq (i:=4) rfl) (aq (i:=5) rfl) (ar4 _ _ _)) ae2) (aq rfl) ((din (min (stp T x c) (stp T y c),max (stp T x c) (stp T y c))).trans (by rw[Z.has (xg h _ _) (xg h _ _)]))
  refine⟨_,_,rfl,?_⟩;unfold zj
  cases q:Bq T s (stp T x c) (stp T y c) with
  |true =>
   rw[q]at tt;exact .inr ⟨_,_,Eq.trans (ifT tt) (jr ckk),rfl,rfl,List.any_eq_true.mpr ⟨c,by rw[all];simp,q⟩⟩
  |false =>
   rw[q]at tt;exact .inl ⟨_,_,Eq.trans (ifF tt) rfl,_,_,rfl,rfl,by rw[List.any_append,nq];simp[q]⟩
theorem ar7(h:T.Ok){s:Nat}{es:Es Nat}(Z:Sz T s es){x y:Nat}(hx:x<T.go.length)(hy:y<T.go.length){p:Nat}{hh:Hd}(hp:hh[p]? = some (dtO es)):dj false 4 bf [goD T,.ref p,ak x,ak y] hh=.ok (.bl ((List.range T.tg.length).any λc=>Bq T s (stp T x c) (stp T y c))) hh :=
 ar5 ai4 (bc _) (bc _) (a79 _ _) (al7 h Z hx hy) (qd _) p hh hp
end
section
variable{T:Table}
noncomputable def a1s(n a:Nat):List (Nat×Nat):=(List.range (n-(a+1))).map λj=>(a,a+1+j)
theorem a7a(n:Nat):prs n=(List.range n).flatMap (a1s n):=rfl
noncomputable def e0(T:Table)(tw:List (Nat×Nat)):Es Nat:=(tw.filter λp=>Bq T 0 p.1 p.2).map λp=>(p,0)
theorem axe(tw:List (Nat×Nat))(p:Nat×Nat):e0 T (tw++[p])=e0 T tw++if Bq T 0 p.1 p.2=true then [(p,0)] else []:=by
 unfold e0;rw[List.filter_append,List.map_append]
 congr 1
 cases q:Bq T 0 p.1 p.2<;>simp[q]
theorem axf{tw:List (Nat×Nat)}{p:Nat×Nat}(h:p∉tw):fnd (e0 T tw) p=none:=by
 rw[a1m]
 intro m
 obtain⟨e,he,rfl⟩:=List.mem_map.mp m;obtain⟨q,hq,rfl⟩:=List.mem_map.mp he;exact h (List.mem_filter.mp hq).1
theorem axg{tw:List (Nat×Nat)}:(e0 T tw).length<=tw.length:=by
 unfold e0;rw[List.length_map];exact List.length_filter_le _ _
theorem ai5{n x:Nat}{pre post:List Nat}(h:List.range n=pre++x::post):x∉pre:=λm=>by
 have nd:(List.range n).Nodup:=List.nodup_range;rw[h]at nd;exact(List.nodup_append.mp nd).2.2 x m x List.mem_cons_self rfl
noncomputable abbrev τZ(T:Table)(i:Nat)(a b c d e f:Option D):Sd:=[some (goD T),some (ksD T),some (.ref 0),some (.ref i),a,b,c,d,e,f]
noncomputable abbrev hZ(es:Es Nat)(tw:List (Nat×Nat)):Hd:=[dtO es,.lst (tw.map prD)]
noncomputable abbrev b1l:=um bf
theorem ai6(h:T.Ok){tw:List (Nat×Nat)}{a b:Nat}{c d e f:Option D}(ha:a<T.go.length)(hb:b<T.go.length)(nw:(a,b)∉tw)(tl:tw.length<=1000) :
  b1l (τZ T 1 (some (ak a)) (some (ak b)) c d e f) (hZ (e0 T tw) tw)=.nx (τZ T 1 (some (ak a)) (some (ak b)) c d e f) (hZ (e0 T (tw++[(a,b)])) (tw++[(a,b)])):=by
 have l0:=axg (T:=T) (tw:=tw);unfold b1l um;refine Eq.trans (xr (a1r (aq rfl) rfl (arg1 (o9 (aq (i:=4) rfl) (aq (i:=5) rfl) ae2)) (a2y (i:=1) (xs:=tw.map prD) rfl (by rw[List.length_map];exact a0z (by omega))))) ?_
 rw[show tw.map prD++[D.tup [ak a,ak b]]=(tw++[(a,b)]).map prD by rw[List.map_append];rfl]
 have tt:sT (s2 hNe (s2 gIx (sV 1) (sV 4)) (s2 gIx (sV 1) (sV 5))) (τZ T 1 (some (ak a)) (some (ak b)) c d e f) (hZ (e0 T tw) (tw++[(a,b)]))=.ok (Bq T 0 a b) (hZ (e0 T tw) (tw++[(a,b)])) :=
  t2s (gh (aq rfl) (aq (i:=4) rfl) (K21.a77 h ha _)) (gh (aq rfl) (aq (i:=5) rfl) (K21.a77 h hb _)) (K40.aeg _ _)
 rw[axe];show sIf _ _ _ _ (hZ (e0 T tw) (tw++[(a,b)]))=_
 cases q:Bq T 0 a b with
 |true =>
  rw[q]at tt;rw[if_pos rfl];exact(ifT tt).trans (ahi ckk (aq (i:=2) rfl) (o9 (aq (i:=4) rfl) (aq (i:=5) rfl) ae2) (ai2 ak (i:=0) (p:=(a,b)) (v:=0) rfl (axf nw) (a0z (by omega))))
 |false =>
  rw[q]at tt;rw[if_neg (by simp),List.append_nil]
  exact(ifF tt).trans rfl
theorem al8(h:T.Ok){a b c d e f:Option D}:∃a' b':Option D,∀g:SS,cj (a2w (sRg a0a (aa (sA m9 (aa (sV 0) au)) au)) (kN 4) (uo bf)) g (τZ T 1 a b c d e f) (hZ [] [])=g (τZ T 1 a' b' c d e f) (hZ (e0 T (prs T.go.length)) (prs T.go.length)):=by
 have n32:=h.n32;have pf:=a3g h.n32;have lp:=my (g:=kN 4) (b:=uo bf) ak
  (λpre τ hh=>∃a b:Option D,τ=τZ T 1 a b c d e f/\hh=hZ (e0 T (pre.flatMap (a1s T.go.length))) (pre.flatMap (a1s T.go.length))) (List.range T.go.length) (τZ T 1 a b c d e f) (hZ [] []) ?_ ⟨a,b,rfl,rfl⟩
 .obtain⟨τ',h',el,a',b',rfl,rfl⟩:=lp;refine⟨a',b',λg=>?_⟩;refine Eq.trans (a2t (a3f (n:=T.go.length) (ue (aq rfl) (p8.trans (by rw[List.length_map]))) (dm (by omega)))) ?_
  rw[el,yg];rfl
 .rintro pre x post τ hh all ⟨a,b,rfl,rfl⟩
  have hx:x<T.go.length:=List.mem_range.mp (by rw[all];simp)
  refine⟨_,_,rfl,?_⟩;have lp2:=my (g:=kN 5) (b:=um bf) (λj:Nat=>D.int ((x+1+j:Nat)))
   (λpr τ hh=>∃b:Option D,τ=τZ T 1 (some (ak x)) b c d e f/\hh=hZ (e0 T (pre.flatMap (a1s T.go.length)++pr.map λj=>(x,x+1+j))) (pre.flatMap (a1s T.go.length)++pr.map λj=>(x,x+1+j))) (List.range (T.go.length-(x+1))) (τZ T 1 (some (ak x)) b c d e f) (hZ (e0 T (pre.flatMap (a1s T.go.length))) (pre.flatMap (a1s T.go.length))) ?_ ⟨b,rfl,by rw[List.map_nil,List.append_nil]⟩
  .obtain⟨τ',h',el,b',rfl,rfl⟩:=lp2;refine⟨_,_,?_,some (ak x),b',rfl,by rw[List.flatMap_append,List.flatMap_cons,List.flatMap_nil,List.append_nil]⟩
   unfold uo;exact Eq.trans (aa1 (a4l (a:=x+1) (n:=T.go.length) ((aaf rfl ux).trans rfl) (ue (aq (i:=0) rfl) (p8.trans (by rw[List.length_map]))) (dm (by omega)) (dm (by omega)))) el
  .rintro pr j po τ hh all2 ⟨b,rfl,rfl⟩
   have hj:j<T.go.length-(x+1):=List.mem_range.mp (by rw[all2];simp)
   have sub:∀p∈pre.flatMap (a1s T.go.length)++pr.map (λj=>(x,x+1+j)),p∈prs T.go.length:=λp hp=>by
    rcases List.mem_append.mp hp with z|z
    .rw[a7a,all,List.flatMap_append];exact List.mem_append_left _ z
    .obtain⟨i,hi,rfl⟩:=List.mem_map.mp z;have:i<T.go.length-(x+1):=List.mem_range.mp (by rw[all2];exact List.mem_append_left _ hi)
     exact a0p.mpr ⟨by omega,by omega⟩
   have nw:(x,x+1+j)∉pre.flatMap (a1s T.go.length)++pr.map λj=>(x,x+1+j):=λm=>by
    rcases List.mem_append.mp m with z|z
    .obtain⟨y,hy,q⟩:=List.mem_flatMap.mp z;obtain⟨i,_,q⟩:=List.mem_map.mp q;have:=congrArg Prod.fst q;simp only at this;exact ai5 all (this ▸ hy)
    .obtain⟨i,hi,q⟩:=List.mem_map.mp z;have:=congrArg Prod.snd q;simp only at this;have:i=j:=by omega
     exact ai5 all2 (this ▸ hi)
   have tl:(pre.flatMap (a1s T.go.length)++pr.map λj=>(x,x+1+j)).length<=1000:=by
    have nd:(pre.flatMap (a1s T.go.length)++pr.map λj=>(x,x+1+j)).Nodup:=by
     have:=ahz T.go.length
     rw[a7a,all,List.flatMap_append,List.flatMap_cons]at this;unfold a1s at this;rw[all2,List.map_append]at this;rw[<-List.append_assoc,<-List.append_assoc]at this;exact(List.nodup_append.mp (List.nodup_append.mp this).1).1
    have:=a4a nd sub
    omega
   refine⟨_,_,rfl,_,_,ai6 h hx (by omega:x+1+j<T.go.length) nw tl,_,rfl,?_⟩
   rw[List.map_append,<-List.append_assoc];rfl
theorem sz0(T:Table):Sz T 0 (e0 T (prs T.go.length)):=by
 refine⟨?_,λe he=>?_,λe he=>?_,λa b ab bn q=>?_⟩
 .unfold e0;rw[List.map_map];show(((prs T.go.length).filter _).map λp=>p).Nodup;rw[List.map_id'];exact(ahz _).filter _
 .obtain⟨p,hp,rfl⟩:=List.mem_map.mp he;exact a0p.mp (List.mem_filter.mp hp).1
 .obtain⟨p,hp,rfl⟩:=List.mem_map.mp he;exact⟨Nat.le_refl _,(List.mem_filter.mp hp).2,λj hj=>by omega⟩
 .exact List.mem_map.mpr ⟨((a,b),0),List.mem_map.mpr ⟨(a,b),List.mem_filter.mpr ⟨a0p.mpr ⟨ab,bn⟩,q⟩,rfl⟩,rfl⟩
noncomputable def twN(es:Es Nat)(tw:List (Nat×Nat)):List (Nat×Nat):=tw.filter λp=>(fnd es p).isNone
noncomputable def near(T:Table)(s:Nat)(p:Nat×Nat):Bool:=(List.range T.tg.length).any λc=>Bq T s (stp T p.1 c) (stp T p.2 c)
noncomputable def fdN(T:Table)(s:Nat)(es:Es Nat)(tw:List (Nat×Nat)):List (Nat×Nat):=(twN es tw).filter (near T s)
noncomputable def esN(T:Table)(s:Nat)(es:Es Nat)(tw:List (Nat×Nat)):Es Nat:=es++(fdN T s es tw).map λp=>(p,s+1)
structure Tw (T:Table) (s:Nat) (tw:List (Nat×Nat)):Prop where
 nd:tw.Nodup
 sub:∀p∈tw,p∈prs T.go.length
 all:∀p∈prs T.go.length,Bq T s p.1 p.2=false->p∈tw
theorem Tw.few(h:T.Ok){s:Nat}{tw:List (Nat×Nat)}(W:Tw T s tw):tw.length<=496:=by
 have:=a4a W.nd W.sub
 have:=a3g h.n32
 omega
theorem Sz.no{s:Nat}{es:Es Nat}(Z:Sz T s es){p:Nat×Nat}(hp:p∈prs T.go.length):(fnd es p).isNone=true↔Bq T s p.1 p.2=false:=by
 obtain⟨ab,bn⟩:=a0p.mp (show(p.1,p.2)∈prs T.go.length from hp)
 have:=Z.has (a:=p.1) (b:=p.2) (by omega) bn
 rw[Nat.min_eq_left (by omega),Nat.max_eq_right (by omega)]at this
 rw[<-this]
 cases fnd es (p.1,p.2)<;>simp
theorem ar8{s:Nat}{es:Es Nat}{tw:List (Nat×Nat)}(Z:Sz T s es)(W:Tw T s tw):Tw T (s+1) (twN es tw):=by
 refine⟨W.nd.filter _,λp hp=>W.sub p (List.mem_filter.mp hp).1,λp hp q=>?_⟩;have q0:Bq T s p.1 p.2=false:=by
  cases z:Bq T s p.1 p.2 with
  |false=>rfl
  |true=>rw[aqy z]at q;cases q
 exact List.mem_filter.mpr ⟨W.all p hp q0,(Z.no hp).mpr q0⟩
theorem al9{s:Nat}{es:Es Nat}{tw:List (Nat×Nat)}(Z:Sz T s es)(W:Tw T s tw){p:Nat×Nat}:p∈fdN T s es tw↔p∈prs T.go.length/\Bq T s p.1 p.2=false/\Bq T (s+1) p.1 p.2=true:=by
 unfold fdN twN;rw[List.mem_filter,List.mem_filter]
 constructor
 .rintro⟨⟨a,b⟩,c⟩
  have hp:=W.sub p a;refine⟨hp,(Z.no hp).mp b,?_⟩;unfold Bq;rw[Bool.or_eq_true];exact .inr c
 .rintro⟨hp,a,b⟩
  refine⟨⟨W.all p hp a,(Z.no hp).mpr a⟩,?_⟩;unfold Bq at b;rw[a,Bool.false_or]at b;exact b
theorem ar9{s:Nat}{es:Es Nat}{tw:List (Nat×Nat)}(Z:Sz T s es)(W:Tw T s tw):Sz T (s+1) (esN T s es tw):=by
 have fk:((fdN T s es tw).map λp=>(p,s+1)).map (·.1)=fdN T s es tw:=by rw[List.map_map];exact List.map_id _
 refine⟨?_,λe he=>?_,λe he=>?_,λa b ab bn q=>?_⟩
 .unfold esN;rw[List.map_append,fk,List.nodup_append];refine⟨Z.nd,(W.nd.filter _).filter _,λp hp p' hp' e=>?_⟩;subst e;have:=((al9 Z W).mp hp').2.1;obtain⟨e,he,rfl⟩:=List.mem_map.mp hp;obtain⟨l1,l2⟩:=Z.lv e he;rw[ae8 l1 l2.1]at this;cases this
 .rcases List.mem_append.mp he with z|z
  .exact Z.up e z
  .obtain⟨p,hp,rfl⟩:=List.mem_map.mp z;exact a0p.mp ((al9 Z W).mp hp).1
 .rcases List.mem_append.mp he with z|z
  .obtain⟨l1,l2⟩:=Z.lv e z;exact⟨by omega,l2⟩
  .obtain⟨p,hp,rfl⟩:=List.mem_map.mp z;obtain⟨_,a,b⟩:=(al9 Z W).mp hp;refine⟨Nat.le_refl _,b,λj hj=>?_⟩
   cases z:Bq T j p.1 p.2 with
   |false=>rfl
   |true=>rw[ae8 (by omega) z]at a;cases a
 .unfold esN;rw[List.map_append,fk]
  cases z:Bq T s a b with
  |true=>exact List.mem_append_left _ (Z.all a b ab bn z)
  |false=>exact List.mem_append_right _ ((al9 Z W).mpr ⟨a0p.mpr ⟨ab,bn⟩,z,q⟩)
end
section
variable{T:Table}
noncomputable def jg:SF:=kj (a03 bf) 10
structure SzA (T:Table) (es:Es Nat):Prop where
 nd:(es.map (·.1)).Nodup
 up:∀e∈es,e.1.1<e.1.2/\e.1.2<T.go.length
 lv:∀e∈es,e.2<=500/\Lv T e.2 e.1.1 e.1.2
 all:∀k a b,a<b->b<T.go.length->Bq T k a b=true->(a,b)∈es.map (·.1)
 few:es.length<=496
theorem acy(ps:List (Nat×Nat)):clos 0 (ps.map prD):=a8k 0 ps
theorem a6n(p:Nat×Nat->Bool)(l:List (Nat×Nat)):(l.filterMap λq=>if p q=true then some (prD q) else none)=(l.filter p).map prD:=by
 induction l with
 |nil=>rfl
 |cons a l ih =>
  rw[List.filterMap_cons,List.filter_cons]
  cases h:p a<;>simp[h,ih]
theorem ara{s:Nat}{es:Es Nat}(Z:Sz T (s+1) es)(lo:∀e∈es,e.2<=s):∀a b,a<T.go.length->b<T.go.length->Bq T (s+1) a b=true->Bq T s a b=true:=by
 have go:∀a b,a<b->b<T.go.length->Bq T (s+1) a b=true->Bq T s a b=true:=λa b ab bn q=>by
  obtain⟨e,he,q2⟩:=List.mem_map.mp (Z.all a b ab bn q);have:=(Z.lv e he).2.1;have:=ae8 (lo e he) this;rw[q2]at this;exact this
 intro a b ha hb q
 rcases Nat.lt_trichotomy a b with z|z|z
 .exact go a b z hb q
 .rw[z,a6m]at q;cases q
 .rw[a6l]at q ⊢;exact go b a z ha q
theorem ae9(h:T.Ok){s i:Nat}{es:Es Nat}{tw:List (Nat×Nat)}{hh:Hd}{a b c d e:Option D}(Z:Sz T s es)(W:Tw T s tw)(h0:hh[0]? = some (dtO es))(i1:1<=i)(hi:hh[i]? = some (.lst (tw.map prD)))(ch:∀o∈hh,a1p 0 o) :
  ∃(i':Nat) (hh':Hd) (e':Option D),ut bf (τZ T i a b (some (ak s)) c d e) hh=.nx (τZ T i' a b (some (ak (s+1))) (some (ak es.length)) (some (.rol ((fdN T s es tw).map prD))) e') hh'/\1<=i'/\hh'[0]? = some (dtO (esN T s es tw))/\hh'[i']? = some (.lst ((twN es tw).map prD))/\∀o∈hh',a1p 0 o:=by
 have n32:=h.n32;have ef:=Z.few h;have wf:=W.few h;have hl:0<hh.length:=(List.getElem?_eq_some_iff.mp h0).1;have din:∀(p:Nat×Nat) (hx:Hd),hx[0]? = some (dtO es)->aae true (prD p) (.ref 0) hx=.ok (.bl (fnd es p).isNone) hx:=λp hx e=>by
  unfold aae;rw[ai1 ak e p];show R.ok (D.bl (!((fnd es p).map ak).isSome)) _=_;rw[Option.isSome_map]
  cases fnd es p<;>rfl
 have c1:∀τ:Sd,τ[3]? = some (some (.ref i))->τ[2]? = some (some (.ref 0))->a1x (sIt (sV 3)) t1 (uq bf) (a0n bf) [2] τ hh=.ok (.ref hh.length) (hh++[.lst ((twN es tw).map prD)]):=λτ t3 t2=>by
  unfold twN;rw[<-a6n];refine ahw (ck:=λh=>h[i]? = some (.lst (tw.map prD))) prD (λp=>if (fnd es p).isNone=true then some (prD p) else none) tw hi (aco (aq t3) (by unfold afo;simp only[hi])) (dm (by omega)) λp _=>?_
  rw[ahf,a3w,a6h,t2];have q:uq bf [some (prD p),some (.ref 0)] hh=.ok (fnd es p).isNone hh:=t2s (aq rfl) (aq rfl) (din p hh h0);show(uq bf [some (prD p),some (.ref 0)] hh).bind _=_;rw[q,az]
  cases (fnd es p).isNone<;>rfl
 let h1:Hd:=hh++[.lst ((twN es tw).map prD)]
 have h10:h1[0]? = some (dtO es):=by show(hh++_)[0]? = _;rw[List.getElem?_append_left hl];exact h0
 have h1i:h1[hh.length]? = some (.lst ((twN es tw).map prD)):=by show(hh++_)[hh.length]? = _;rw[List.getElem?_append_right (Nat.le_refl _),Nat.sub_self];rfl
 have ch1:∀o∈h1,a1p 0 o:=λo ho=>by
  rcases List.mem_append.mp ho with z|z
  .exact ch o z
  .rw[List.mem_singleton.mp z];exact acy _
 have tl:(twN es tw).length<=tw.length:=List.length_filter_le _ _;have c2:∀τ:Sd,τ[3]? = some (some (.ref hh.length))->τ[0]? = some (some (goD T))->τ[2]? = some (some (.ref 0))->sZ (a1x (sIt (sV 3)) t1 (ur bf) (a0o bf) [0,2]) τ h1=.ok (.rol ((fdN T s es tw).map prD)) h1:=λτ t3 t0 t2=>by
  unfold fdN;rw[<-a6n];refine a1f (ahw (ck:=λh=>h[hh.length]? = some (.lst ((twN es tw).map prD))) prD (λp=>if near T s p=true then some (prD p) else none) (twN es tw) h1i (aco (aq t3) (by unfold afo;simp only[h1i])) (dm (by omega)) λp hp=>?_) (by rw[a6n];exact a8k _ _) (λo ho=>qj (Nat.zero_le _) (ch1 o ho))
  rw[ahf,a3w,a3w,a6h,t0,t2];obtain⟨ab,bn⟩:=a0p.mp (show(p.1,p.2)∈prs T.go.length from W.sub p (List.mem_filter.mp hp).1)
  have q:ur bf [some (prD p),some (goD T),some (.ref 0)] h1=.ok (near T s p) h1 :=
   zm (aoo (cns (aq rfl) (cns (aq rfl) (cns (aaf rfl (a1v (j:=0) rfl)) (cns (aaf rfl (a1v (j:=1) rfl)) rfl)))) (ar7 h Z (x:=p.1) (y:=p.2) (by omega) bn h10)) (m5 _)
  show(ur bf [some (prD p),some (goD T),some (.ref 0)] h1).bind _=_;rw[q,az]
  cases near T s p<;>rfl
 have fl:(fdN T s es tw).length<=(twN es tw).length:=List.length_filter_le _ _;have fnd':(fdN T s es tw).Nodup:=(W.nd.filter _).filter _;have lp:=my (g:=kN 9) (b:=yc bf) prD
  (λpre τ hx=>∃e':Option D,τ=τZ T hh.length a b (some (ak (s+1))) (some (ak es.length)) (some (.rol ((fdN T s es tw).map prD))) e'/\hx=h1.set 0 (dtO (es++pre.map λp=>(p,s+1)))) (fdN T s es tw)
  (τZ T hh.length a b (some (ak (s+1))) (some (ak es.length)) (some (.rol ((fdN T s es tw).map prD))) e) h1 ?_ ⟨e,rfl,by
   rw[List.map_nil,List.append_nil];refine List.ext_getElem? λj=>?_;rw[List.getElem?_set]
   split
   .rename_i z;subst z;rw[if_pos (List.getElem?_eq_some_iff.mp h10).1,h10]
   .rfl⟩
 .obtain⟨τ',h',el,e',rfl,rfl⟩:=lp;refine⟨hh.length,h1.set 0 (dtO (es++(fdN T s es tw).map λp=>(p,s+1))),e',?_,by omega,?_,?_,λo ho=>?_⟩
  .unfold ut;refine Eq.trans (jo (ue (aq rfl) ((ami h0).trans (by rw[List.length_map])))) ?_
   refine Eq.trans (xr (aqh (a:=ak s) (d:=ak (s+1)) rfl ckk rfl)) ?_;refine Eq.trans (jo (c1 _ rfl rfl)) ?_;refine Eq.trans (jo (c2 _ rfl rfl rfl)) ?_;exact Eq.trans (aa1 (aco (aq rfl) rfl)) el
  .rw[List.getElem?_set_self (List.getElem?_eq_some_iff.mp h10).1];rfl
  .rw[List.getElem?_set_ne (by omega)];exact h1i
  .rcases List.mem_or_eq_of_mem_set ho with z|z
   .exact ch1 o z
   .rw[z];exact a79 _ _
 .rintro pre p post τ hx all ⟨e',rfl,rfl⟩
  refine⟨_,_,rfl,_,_,?_,some (prD p),rfl,rfl⟩;have h1l:=(List.getElem?_eq_some_iff.mp h10).1;have pl:pre.length<=(fdN T s es tw).length:=by rw[all];simp
  have nw:fnd (es++pre.map λp=>(p,s+1)) p=none:=by
   rw[a1m,List.map_append]
   intro m
   rcases List.mem_append.mp m with z|z
   .have hp:p∈fdN T s es tw:=by rw[all];simp
    have:=(List.mem_filter.mp (List.mem_filter.mp hp).1).2
    rw[Option.isNone_iff_eq_none]at this;exact a1m.mp this z
   .rw[List.map_map]at z;have z:p∈pre:=by simpa using z
    rw[all]at fnd';exact(List.nodup_append.mp fnd').2.2 p z p List.mem_cons_self rfl
  unfold yc;refine(ahi (aq (i:=6) rfl) (aq (i:=2) rfl) (aq (i:=9) rfl) (ai2 ak (i:=0) (es:=es++pre.map λp=>(p,s+1)) (v:=s+1) (List.getElem?_set_self h1l) nw (a0z (by rw[List.length_append,List.length_map];omega)))).trans ?_
  rw[List.set_set,List.map_append (l₁:=pre),<-List.append_assoc];rfl
theorem ala(h:T.Ok):∃es,SzA T es/\Pu jg 2 [goD T,ksD T] (tbD ak es):=by
 have n32:=h.n32;have n1:=h.n1;obtain⟨a',b',e1⟩:=al8 h (a:=none) (b:=none) (c:=none) (d:=none) (e:=none) (f:=none);have w:=aka (c:=ye bf) (f:=ut bf)
  (λm τ hh=>∃(s i:Nat) (M:Int) (es:Es Nat) (tw:List (Nat×Nat)) (e f:Option D),τ=τZ T i a' b' (some (ak s)) (some (.int M)) e f/\Sz T s es/\Tw T s tw/\hh[0]? = some (dtO es)/\1<=i/\hh[i]? = some (.lst (tw.map prD))/\(∀o∈hh,a1p 0 o) /\ -1<=M/\M<=496/\(s:Int)<=M+1/\m=(500-M).toNat/\((es.length:Int)<=M->1<=s/\∀e∈es,e.2<=s-1))
  (λτ hh=>∃(s i:Nat) (M:Int) (es:Es Nat) (e f:Option D),τ=τZ T i a' b' (some (ak s)) (some (.int M)) e f/\Sz T s es/\hh[0]? = some (dtO es)/\(∀o∈hh,a1p 0 o)/\1<=s/\s<=497/\∀e∈es,e.2<=s-1)
  (λ_ _=>False) ?_ 501 100000 (τZ T 1 a' b' (some (ak 0)) (some (.int (-1))) none none) (hZ (e0 T (prs T.go.length)) (prs T.go.length)) (by omega)
  ⟨0,1,-1,_,_,none,none,rfl,sz0 T,⟨ahz _,λp hp=>hp,λp hp _=>hp⟩,rfl,by omega,rfl,by
   intro o ho
   simp only[List.mem_cons,List.not_mem_nil,or_false]at ho
   rcases ho with rfl|rfl
   .exact a79 _ _
   .exact acy _,by omega,by omega,by omega,rfl,λz=>by omega⟩
 .rcases w with⟨τ',h',ew,s,i,M,es,e,f,rfl,Z,h0,ch,s1,s2,lo⟩|⟨_,_,_,z⟩
  .obtain⟨s,rfl⟩:∃t,s=t+1:=⟨s-1,by omega⟩
   rw[Nat.add_sub_cancel]at lo;have same:=ara Z lo;refine⟨es,⟨Z.nd,Z.up,λe he=>⟨by have:=lo e he;omega,(Z.lv e he).2⟩,λk a b ab bn q=>?_,Z.few h⟩,?_⟩
   .have ks:Bq T s a b=true:=by
     by_cases c:k<=s
     .exact ae8 c q
     .exact ar0 (n:=T.go.length) (λa c _ _=>xg h a c) same (k-s) a b (by omega) bn (by rw[show s+(k-s)=k by omega];exact q)
    exact Z.all a b ab bn (aqy ks)
   .have cd:MI.clo 0 (tbD ak es):=by
     show clos 0 ((es.map (kvP ak)).map (·.2));exact a79 0 es
    refine Pu.of rfl (by intro x hx;simp only[List.mem_cons,List.not_mem_nil,or_false]at hx;rcases hx with rfl|rfl;exact ai4;exact ar6) (r:=.ok (.ref 0) h') ?_ (a4k (aqx (k:=18) (Nat.le_refl _) h0 (a79 0 es)) (by simp)) cd
    unfold jg;rw[dh];show toR (a03 bf [some (goD T),some (ksD T),none,none,none,none,none,none,none,none] [])=_;unfold a03;refine etr (jo (d:=.ref 0) (h1:=[.dT []]) rfl) ?_;refine etr (jo (d:=.ref 1) (h1:=hZ [] []) rfl) ?_;refine etr (e1 _) ?_;refine etr (jo ckk) ?_;refine etr (jo (d:=.int (-1)) (awu ckk (ahj _))) ?_;refine etr (xr ew) ?_;exact congrArg toR (jr (aq (i:=2) rfl))
  .exact z.elim
 .rintro m τ hh ⟨s,i,M,es,tw,e,f,rfl,Z,W,h0,i1,hi,ch,m1,m2,sM,rfl,stb⟩
  have ef:=Z.few h;have tc:ye bf (τZ T i a' b' (some (ak s)) (some (.int M)) e f) hh=.ok (decide (M<(es.length:Nat))) hh :=
   t2s (aq (i:=7) rfl) (ue (aq (i:=2) rfl) ((ami h0).trans (by rw[List.length_map]))) rfl
  by_cases q:M<(es.length:Nat)
  .rw[decide_eq_true q]at tc;refine .inr ⟨_,tc,.inl ?_⟩;obtain⟨i',hh',e',et,i1',h0',hi',ch'⟩:=ae9 h (a:=a') (b:=b') (c:=some (.int M)) (d:=e) (e:=f) Z W h0 i1 hi ch;refine⟨_,hh',_,et,?_,s+1,i',es.length,esN T s es tw,twN es tw,_,e',rfl,ar9 Z W,ar8 Z W,h0',i1',hi',ch',by omega,by omega,by omega,rfl,λz=>⟨by omega,λx hx=>?_⟩⟩
   .omega
   .have:(fdN T s es tw)=[]:=by
     unfold esN at z;rw[List.length_append,List.length_map]at z;exact List.length_eq_zero_iff.mp (by omega)
    unfold esN at hx;rw[this,List.map_nil,List.append_nil]at hx;rw[Nat.add_sub_cancel];exact(Z.lv x hx).1
  .rw[decide_eq_false q]at tc;obtain⟨s1,lo⟩:=stb (by omega)
   exact .inl ⟨_,tc,s,i,M,es,e,f,rfl,Z,h0,ch,s1,by omega,lo⟩
end
theorem ai7{g:SG}{b:SS}{α:Type}(f:α->D)(I J:Sd->Hd->Prop):∀(pre:List α) (x:α) (post:List α) (τ:Sd) (h:Hd),
  (∀y∈pre,∀τ h,I τ h->∃τ1 h1,g (f y) τ h=.nx τ1 h1/\∃τ2 h2,b τ1 h1=.nx τ2 h2/\I τ2 h2)->
  (∀τ h,I τ h->∃τ1 h1,g (f x) τ h=.nx τ1 h1/\∃τ2 h2,b τ1 h1=.bk τ2 h2/\J τ2 h2)->I τ h->
  ∃τ' h',forL (λ_=>True) g b ((pre++x::post).map f) τ h=.nx τ' h'/\J τ' h'
 |[],x,post,τ,h,_,lst,i0=>by
  obtain⟨τ1,h1,e1,τ2,h2,e2,j⟩:=lst τ h i0;refine⟨τ2,h2,?_,j⟩;rw[List.nil_append,List.map_cons,a6e _ _ _ _ _ _ _ _ e1,e2];rfl
 |y::pre,x,post,τ,h,st,lst,i0=>by
  obtain⟨τ1,h1,e1,τ2,h2,e2,i2⟩:=st y List.mem_cons_self τ h i0;obtain⟨τ',h',e,j⟩:=ai7 f I J pre x post τ2 h2 (λz hz=>st z (List.mem_cons_of_mem _ hz)) lst i2;refine⟨τ',h',?_,j⟩;rw[List.cons_append,List.map_cons,a6e _ _ _ _ _ _ _ _ e1,e2,amc];exact e
section
variable{T:Table}
theorem SzA.get{es:Es Nat}(Z:SzA T es){a b v:Nat}(ha:a<T.go.length)(hb:b<T.go.length):fnd es (min a b,max a b)=some v↔Lv T v a b:=by
 have mm:∀v,Lv T v (min a b) (max a b)↔Lv T v a b:=λv=>by
  rcases Nat.le_total a b with z|z
  .rw[Nat.min_eq_left z,Nat.max_eq_right z]
  .rw[Nat.min_eq_right z,Nat.max_eq_left z];exact axc
 constructor
 .intro h
  have:=(Z.lv _ ((a5s Z.nd).mp h)).2
  exact(mm v).mp this
 .intro h
  have ne:=b0a h;have m:=Z.all v (min a b) (max a b) (by omega) (by omega) ((mm v).mpr h).1
  cases q:fnd es (min a b,max a b) with
  |none=>exact absurd m (a1m.mp q)
  |some w =>
   have:=(mm w).mp (Z.lv _ ((a5s Z.nd).mp q)).2
   rw[an1 this h]
noncomputable def lvB(T:Table)(k a b:Nat):Bool:=Bq T k a b && (List.range k).all λj => !Bq T j a b
theorem a7b{k a b:Nat}:lvB T k a b=true↔Lv T k a b:=by
 unfold lvB Lv;rw[Bool.and_eq_true,List.all_eq_true]
 constructor
 .rintro⟨x,y⟩;exact⟨x,λj hj=>by simpa using y j (List.mem_range.mpr hj)⟩
 .rintro⟨x,y⟩;exact⟨x,λj hj=>by rw[y j (List.mem_range.mp hj)];rfl⟩
noncomputable def wdP(T:Table):Nat->Nat->Nat->List Nat
 |0,_,_=>[]
 |k+1,x,y=>match (List.range T.tg.length).find? λc=>lvB T k (stp T x c) (stp T y c) with
  |some c=>tgA T c::wdP T k (stp T x c) (stp T y c)
  |none=>[]
theorem ai8{k x y:Nat}(h:Lv T (k+1) x y):∃c pre post,List.range T.tg.length=pre++c::post/\(∀d∈pre,lvB T k (stp T x d) (stp T y d)=false)/\Lv T k (stp T x c) (stp T y c)/\wdP T (k+1) x y=tgA T c::wdP T k (stp T x c) (stp T y c):=by
 obtain⟨c,hc,l⟩:=aqz h
 cases q:(List.range T.tg.length).find? λc=>lvB T k (stp T x c) (stp T y c) with
 |none=>exact absurd (a7b.mpr l) (List.find?_eq_none.mp q c (List.mem_range.mpr hc))
 |some d =>
  obtain⟨pd,pre,post,e,np⟩:=List.find?_eq_some_iff_append.mp q;refine⟨d,pre,post,e,λa ha=>by simpa using np a ha,a7b.mp pd,?_⟩
  show(match (List.range T.tg.length).find? λc=>lvB T k (stp T x c) (stp T y c) with|some c=>tgA T c::wdP T k (stp T x c) (stp T y c)|none=>[])=_
  rw[q]
theorem an5:∀{k x y:Nat},Lv T k x y->(wdP T k x y).length=k/\∀c∈wdP T k x y,c∈T.tg
 |0,x,y,h=>⟨rfl,by simp[wdP]⟩
 |k+1,x,y,h=>by
  obtain⟨c,pre,post,e,_,l,ew⟩:=ai8 h;obtain⟨h1,h2⟩:=an5 l;have hc:c<T.tg.length:=List.mem_range.mp (by rw[e];simp)
  rw[ew];refine⟨by rw[List.length_cons,h1],λd hd=>?_⟩
  rcases List.mem_cons.mp hd with rfl|hd
  .exact List.mem_of_getElem? (a6t hc)
  .exact h2 d hd
noncomputable def di:SF:=kj wy 13
noncomputable def pwD(T:Table)(es:Es Nat)(x y:Nat):D:=match fnd es (min x y,max x y) with
 |some v=>.str (S (wdP T v x y))
 |none=>.non
theorem an6{es:Es Nat}{x y:Nat}:MI.clo 0 (pwD T es x y):=by unfold pwD;split;exact jk _;exact apz
noncomputable abbrev τW(T:Table)(es:Es Nat)(x y:Nat)(w:List Nat)(a b c d e:Option D):Sd:=[some T.d,some (tbD ak es),some (ak x),some (ak y),some (.str (S T.tg)),some (goD T),some (ksD T),some (.str (S w)),a,b,c,d,e]
theorem aa3(h:T.Ok){es:Es Nat}(Z:SzA T es){x y k c:Nat}{w:List Nat}{d e:Option D}(hx:x<T.go.length)(hy:y<T.go.length)(hc:c<T.tg.length)(wl:w.length<=1000) :
  pq (τW T es x y w (some (ak (k+1))) (some (ak c)) (some (.str (S [tgA T c]))) d e) []=if lvB T k (stp T x c) (stp T y c)=true then .bk (τW T es (stp T x c) (stp T y c) (w++[tgA T c]) (some (ak (k+1))) (some (ak c)) (some (.str (S [tgA T c]))) (some (ak (stp T x c))) (some (ak (stp T y c)))) [] else .nx (τW T es x y w (some (ak (k+1))) (some (ak c)) (some (.str (S [tgA T c]))) (some (ak (stp T x c))) (some (ak (stp T y c)))) []:=by
 have row:∀{r:Nat},r<T.go.length->∀hh:Hd,gIx (a3x (rw' T r)) (ak c) hh=.ok (ak (stp T r c)) hh:=λ{r} hr hh=>a1v (by rw[List.getElem?_map,RCH.yx h hr,List.getElem?_map,List.getElem?_range hc];rfl)
 unfold pq;refine Eq.trans (jo (gh (gh (aq (i:=5) rfl) (aq (i:=2) rfl) (a1a h hx _)) (aq (i:=9) rfl) (row hx _))) ?_;refine Eq.trans (jo (gh (gh (aq (i:=5) rfl) (aq (i:=3) rfl) (a1a h hy _)) (aq (i:=9) rfl) (row hy _))) ?_;have gt:ah1 (sV 1) (sA MI.uc (aa (sA a2q (aa (sV 11) (aa (sV 12) au))) (aa (sA a2p (aa (sV 11) (aa (sV 12) au))) au))) (τW T es x y w (some (ak (k+1))) (some (ak c)) (some (.str (S [tgA T c]))) (some (ak (stp T x c))) (some (ak (stp T y c)))) []=.ok (((fnd es (min (stp T x c) (stp T y c),max (stp T x c) (stp T y c))).map ak).getD .non) []:=by
  unfold ah1;rw[aq (d:=tbD ak es) rfl,az];show((sA MI.uc _) _ _).bind _=_;rw[o9 (o9 (aq (i:=11) rfl) (aq (i:=12) rfl) (ar3 _ _ _)) (o9 (aq (i:=11) rfl) (aq (i:=12) rfl) (ar4 _ _ _)) ae2,az];unfold ah0;rw[show(D.tup [ak (min (stp T x c) (stp T y c)),ak (max (stp T x c) (stp T y c))])=prD (min (stp T x c) (stp T y c),max (stp T x c) (stp T y c)) from rfl,abg ak]
 have tt:sT (s2 hEq (ah1 (sV 1) (sA MI.uc (aa (sA a2q (aa (sV 11) (aa (sV 12) au))) (aa (sA a2p (aa (sV 11) (aa (sV 12) au))) au)))) (s2 a6u (sV 8) (sI 1))) (τW T es x y w (some (ak (k+1))) (some (ak c)) (some (.str (S [tgA T c]))) (some (ak (stp T x c))) (some (ak (stp T y c)))) []=.ok (lvB T k (stp T x c) (stp T y c)) []:=by
  refine(tof (t:=lvB T k (stp T x c) (stp T y c)) (gh gt (gh (aq (i:=8) rfl) ckk (a76 _ _)) ?_));rw[show D.int (((k+1:Nat):Int)-1)=ak k by show D.int _=D.int _;congr 1;omega]
  cases q:fnd es (min (stp T x c) (stp T y c),max (stp T x c) (stp T y c)) with
  |none =>
   have:lvB T k (stp T x c) (stp T y c)=false:=by
    cases z:lvB T k (stp T x c) (stp T y c) with
    |false=>rfl
    |true=>rw[(Z.get (xg h _ _) (xg h _ _)).mpr (a7b.mp z)]at q;cases q
   rw[this];rfl
  |some v =>
   have lv:=(Z.get (xg h _ _) (xg h _ _)).mp q;have:lvB T k (stp T x c) (stp T y c)=decide (v=k):=by
    by_cases e:v=k
    .rw[decide_eq_true e,a7b,<-e];exact lv
    .rw[decide_eq_false e]
     cases z:lvB T k (stp T x c) (stp T y c) with
     |false=>rfl
     |true=>exact absurd (an1 lv (a7b.mp z)) e
   rw[this];show hEq (ak v) (ak k) []=_;rw[K40.amt]
   congr 2
   exact decide_eq_decide.mpr (by omega)
 cases q:lvB T k (stp T x c) (stp T y c) with
 |true =>
  rw[q]at tt;rw[if_pos rfl];refine Eq.trans (ifT tt) ?_;refine Eq.trans (jo (gh (aq (i:=7) rfl) (aq (i:=10) rfl) (a5d (dm (by rw[List.length_singleton];omega))))) ?_
  refine Eq.trans (jo (aq (i:=11) rfl)) ?_;exact Eq.trans (jo (aq (i:=12) rfl)) rfl
 |false =>
  rw[q]at tt;rw[if_neg (by simp)]
  exact(ifF tt).trans rfl
theorem arb(hh:Hd)(tl:T.tg.length<=1000):ab2 (.str (S T.tg)) hh=.ok ⟨(List.range T.tg.length).map λc=>.tup [ak c,.str (S [tgA T c])],λ_=>True⟩ hh:=by
 unfold ab2 srcOf a0f;simp only[a1i]
 congr 2
 rw[List.length_map];refine List.ext_getElem? λi=>?_;simp only[List.getElem?_map,List.getElem?_zip_eq_some,List.zip,List.getElem?_zipWith]
 by_cases hi:i<T.tg.length
 .rw[List.getElem?_range hi,a6t hi];rfl
 .rw[List.getElem?_eq_none (by rw[List.length_range];omega)];rfl
theorem a7c(h:T.Ok){es:Es Nat}(Z:SzA T es){x y:Nat}(hx:x<T.go.length)(hy:y<T.go.length):Pu di 4 [T.d,tbD ak es,ak x,ak y] (pwD T es x y):=by
 have n32:=h.n32;have t6:=h.tong.hi;have cd:MI.clo 0 (tbD ak es):=a79 0 es;refine Pu.of rfl (K40.a9z Table.clo cd (bc _) (bc _)) (r:=.ok (pwD T es x y) []) ?_ (j4 an6 (by simp)) an6
 unfold di;rw[dh];show toR (wy [some T.d,some (tbD ak es),some (ak x),some (ak y),none,none,none,none,none,none,none,none,none] [])=_;unfold wy;have a0:a8r (sV 0) (a3h 3 (jb (kN 4) (jb (kN 5) (jb (kN 6) a3m)))) [some T.d,some (tbD ak es),some (ak x),some (ak y),none,none,none,none,none,none,none,none,none] []=.nx [some T.d,some (tbD ak es),some (ak x),some (ak y),some (.str (S T.tg)),some (goD T),some (ksD T),none,none,none,none,none,none] []:=ae1 (aq rfl) rfl;refine etr (xr a0) ?_;have kt:∀{τ:Sd},τ[2]? = some (some (ak x))->τ[3]? = some (some (ak y))->sA MI.uc (aa (sA a2q (aa (sV 2) (aa (sV 3) au))) (aa (sA a2p (aa (sV 2) (aa (sV 3) au))) au)) τ []=.ok (prD (min x y,max x y)) []:=λh2 h3=>o9 (o9 (aq h2) (aq h3) (ar3 _ _ _)) (o9 (aq h2) (aq h3) (ar4 _ _ _)) ae2
 have din:aae true (prD (min x y,max x y)) (tbD ak es) []=.ok (.bl (fnd es (min x y,max x y)).isNone) []:=by
  unfold aae;rw[abg ak];show R.ok (D.bl (!((fnd es (min x y,max x y)).map ak).isSome)) _=_;rw[Option.isSome_map]
  cases fnd es (min x y,max x y)<;>rfl
 unfold pwD
 cases q:fnd es (min x y,max x y) with
 |none =>
  rw[q]at din;exact congrArg toR (a07 (Eq.trans (ifT (t2s (kt rfl rfl) (aq (i:=1) rfl) din)) (jr ckk)))
 |some v =>
  rw[q]at din;have l0:=(Z.get hx hy).mp q;have v5:=(Z.lv _ ((a5s Z.nd).mp q)).1;have dg:a5b (tbD ak es) (prD (min x y,max x y)) []=.ok (ak v) []:=by
   unfold a5b;rw[abg ak,q];rfl
  refine eti (t2s (kt rfl rfl) (aq (i:=1) rfl) din) ?_;refine etr (jo ckk) ?_;have it:sRg ab3 (aa (s2 a5b (sV 1) (sA MI.uc (aa (sA a2q (aa (sV 2) (aa (sV 3) au))) (aa (sA a2p (aa (sV 2) (aa (sV 3) au))) au)))) (aa (sI 0) (aa (s1 aab (sI 1)) au))) (τW T es x y [] none none none none none) []=.ok ⟨(List.range v).map λi=>D.int ((v:Int)-(i:Nat)),λ_=>True⟩ []:=by
   unfold sRg;rw[cns (gh (aq (i:=1) rfl) (kt rfl rfl) dg) (cns ckk (cns (awu ckk (ahj _)) rfl)),az];unfold ab3;dsimp only;rw[if_pos ⟨rfl,ahe (by omega) (by omega),ahe (by omega) (by omega)⟩]
   unfold arj;rw[show((v:Int)-0).toNat=v by omega]
  have lp:=my (g:=kN 8) (b:=uy) (λi:Nat=>D.int ((v:Int)-(i:Nat)))
   (λpre τ hh=>∃(x' y':Nat) (w:List Nat) (a b c d e:Option D),τ=τW T es x' y' w a b c d e/\hh=[]/\x'<T.go.length/\y'<T.go.length/\Lv T (v-pre.length) x' y'/\w.length=pre.length/\wdP T v x y=w++wdP T (v-pre.length) x' y') (List.range v) (τW T es x y [] none none none none none) [] ?_ ⟨x,y,[],none,none,none,none,none,rfl,rfl,hx,hy,l0,rfl,rfl⟩
  .obtain⟨τ',h',el,x',y',w,a,b,c,d,e,rfl,rfl,_,_,_,_,ew⟩:=lp;rw[List.length_range,Nat.sub_self]at ew;rw[show wdP T 0 x' y'=[] from rfl,List.append_nil]at ew
   refine etr (a2t it) ?_;refine Eq.trans (congrArg (λz=>toR (MI.thn z _)) el) ?_;show _=R.ok (D.str (S (wdP T v x y))) [];rw[ew];exact congrArg toR (jr (aq (i:=7) rfl))
  .rintro pre i post τ hh all ⟨x',y',w,a,b,c,d,e,rfl,rfl,hx',hy',l1,wl,ew⟩
   have hi:i=pre.length/\i<v:=a2c all;obtain⟨k,hk⟩:∃k,v-pre.length=k+1:=⟨v-pre.length-1,by omega⟩
   rw[hk]at l1 ew;obtain⟨c0,pr,po,er,np,l2,ew2⟩:=ai8 l1;have hc0:c0<T.tg.length:=List.mem_range.mp (by rw[er];simp)
   have e8:D.int ((v:Int)-(i:Nat))=ak (k+1):=by show D.int _=D.int _;congr 1;omega
   refine⟨_,_,rfl,?_⟩;rw[e8];obtain⟨τ',h',el,J⟩:=ai7 (g:=a3h 2 (jb (kN 9) (jb (kN 10) a3m))) (b:=pq) (λc=>D.tup [ak c,.str (S [tgA T c])])
    (λτ hh=>∃(b c d e:Option D),τ=τW T es x' y' w (some (ak (k+1))) b c d e/\hh=[])
    (λτ hh=>∃(b c d e:Option D),τ=τW T es (stp T x' c0) (stp T y' c0) (w++[tgA T c0]) (some (ak (k+1))) b c d e/\hh=[])
    pr c0 po (τW T es x' y' w (some (ak (k+1))) b c d e) []
    (λc1 hc1 τ hh ⟨b,c,d,e,eτ,eh⟩=>by
     subst eτ eh;have hc2:c1<T.tg.length:=List.mem_range.mp (by rw[er];exact List.mem_append_left _ hc1)
     refine⟨_,_,rfl,_,_,(aa3 h Z (k:=k) hx' hy' hc2 (by omega)).trans (by rw[np c1 hc1,if_neg (by simp)]),_,_,_,_,rfl,rfl⟩)
    (λτ hh ⟨b,c,d,e,eτ,eh⟩=>by
     subst eτ eh;refine⟨_,_,rfl,_,_,(aa3 h Z (k:=k) hx' hy' hc0 (by omega)).trans (by rw[a7b.mpr l2,if_pos rfl]),_,_,_,_,rfl,rfl⟩)
    ⟨b,c,d,e,rfl,rfl⟩
   obtain⟨b',c',d',e',rfl,rfl⟩:=J;refine⟨_,_,?_,stp T x' c0,stp T y' c0,w++[tgA T c0],some (ak (k+1)),b',c',d',e',rfl,rfl,xg h _ _,xg h _ _,?_,?_,?_⟩
   .unfold uy;have ie:a3e (sV 4) (τW T es x' y' w (some (ak (k+1))) b c d e) []=.ok ⟨(pr++c0::po).map λc=>.tup [ak c,.str (S [tgA T c])],λ_=>True⟩ []:=by
     unfold a3e;rw[aq (d:=.str (S T.tg)) rfl,az,arb [] (by omega),er]
    exact Eq.trans (aa1 ie) el
   .rw[List.length_append,List.length_singleton,show v-(pre.length+1)=k by omega];exact l2
   .rw[List.length_append,List.length_append,wl];rfl
   .rw[List.length_append,List.length_singleton,show v-(pre.length+1)=k by omega,ew,ew2,List.append_assoc];rfl
end
section
variable{T:Table}
theorem alb(h:T.Ok)(rc:∀r,r<T.go.length->PN.Rch T.go r):∃es,WyA T es/\∀hh:Hd,dj true 1 nu [T.d] hh=.ok (.ref hh.length) (hh++[.lst (wsD es T.go.length)]):=by
 obtain⟨es,W,e⟩:=al6 h rc;exact⟨es,W,λhh=>amb rfl (by intro x hx;rw[List.mem_singleton]at hx;subst hx;exact Table.clo) e rfl (bz λr _=>jk _) hh⟩
def WdL(T:Table)(m:Nat)(w:List Nat):Prop:=w.length<=m/\∀c∈w,c∈T.tg
noncomputable abbrev sD(w:List Nat):D:=.str (S w)
noncomputable def gm:SF:=kj (qu aj nu) 7
theorem aa4(h:T.Ok)(rc:∀r,r<T.go.length->PN.Rch T.go r){o:O}{N:Nat}(P:Hand o N)(hN:N<=999990000):∃(ws:List (List Nat)) (o':O),ws.length=T.go.length/\(∀w∈ws,WdL T 40 w)/\Dr gm 2 [T.d] o (.tup (ws.map sD)) o'/\Hand o' (N+30):=by
 have n32:=h.n32;have n1:=h.n1;have t6:=h.tong.hi;have tlo:=h.tong.lo;obtain⟨es,W,en⟩:=alb h rc;obtain⟨k,o1,e1,k0,k1,P1⟩:=jm (m:=20) P (by omega) (by omega) (by omega)
 obtain⟨k,rfl⟩:=Int.eq_ofNat_of_zero_le k0;have c1:∀xs:List D,dj false 2 aj [.ref 0,.int 20] [o,.lst xs]=.ok (ak k) [o1,.lst xs]:=λxs=>e1 0 _ rfl;have w0:∀w∈(List.range T.go.length).map (wyO es),WdL T 40 w:=λw hw=>by
  obtain⟨r,hr,rfl⟩:=List.mem_map.mp hw;obtain⟨e,he,q⟩:=List.mem_map.mp (W.all r (List.mem_range.mp hr));rw[<-q,an4 W.nd he];obtain⟨i,hi,ei⟩:=List.getElem_of_mem he;have:=W.ln i e (by rw[List.getElem?_eq_getElem hi,ei])
  have:=W.toWyI.few
  exact⟨by omega,W.sg e he⟩
 have e0:wsD es T.go.length=((List.range T.go.length).map (wyO es)).map sD:=by rw[List.map_map];rfl
 let τg:Nat->List Nat->Option D->Option D->Sd:=λr w a b=>[some (.ref 0),some T.d,some (.ref 1),some (ak r),some (sD w),a,b]
 have lp:=my (g:=kN 5) (b:=qe aj nu) ak
  (λpre τ hh=>∃(u:O) (ws:List (List Nat)) (r:Nat) (w:List Nat) (a b:Option D),τ=τg r w a b/\hh=[u,.lst (ws.map sD)]/\Hand u (N+1+pre.length)/\ws.length=T.go.length/\(∀w∈ws,WdL T 40 w)/\r<T.go.length/\w.length=pre.length/\∀c∈w,c∈T.tg) (List.range k) (τg 0 [] none none) [o1,.lst (wsD es T.go.length)] ?_
  ⟨o1,_,0,[],none,none,rfl,by rw[e0],P1,by rw[List.length_map,List.length_range],w0,by omega,rfl,by simp⟩
 .obtain⟨τ',h',el,u,ws,r,w,a,b,rfl,rfl,Pu,wl,wt,_,_,_⟩:=lp;have cd:MI.clo 0 (.tup (ws.map sD)):=jj (bz λ_ _=>jk _);refine⟨ws,u,wl,wt,Dr.of rfl (by intro x hx;rw[List.mem_singleton]at hx;subst hx;exact Table.clo) P.clo (r:=.ok (.tup (ws.map sD)) [u,.lst (ws.map sD)]) ?_ (j4 (a4s (by omega) cd) (by intro x hx;rw[show List.take 1 [u,O.lst (ws.map sD)]=[u] from rfl,List.mem_singleton]at hx;subst hx;exact qj (by omega) Pu.clo)) cd Pu.clo,Pu.up (by rw[List.length_range];omega)⟩
  unfold gm;rw[dh];show toR (qu aj nu [some (.ref 0),some T.d,none,none,none,none,none] [o])=_;unfold qu;refine ets (ue (aq rfl) (en [o])) ?_;refine etr (jo ckk) ?_;refine etr (jo ckk) ?_;have it:sRg a0a (aa (sA (dj false 2 aj) (aa (sV 0) (aa (sI 20) au))) au) (τg 0 [] none none) [o,.lst (wsD es T.go.length)]=.ok ⟨(List.range k).map ak,λ_=>True⟩ [o1,.lst (wsD es T.go.length)]:=by
   unfold sRg;rw[arg1 (o9 (aq rfl) ckk (c1 _)),az];exact aml (n:=k) _ (dm (by omega))
  refine etr (a2t it) ?_;refine Eq.trans (congrArg (λz=>toR (MI.thn z _)) el) ?_;exact congrArg toR (jr (ue (aq (i:=2) rfl) (a8f rfl)))
 .rintro pre i post τ hh all ⟨u,ws,r,w,a,b,rfl,rfl,Pu,wl,wt,hr,ww,wg⟩
  obtain⟨hi,hk⟩:=a2c all;obtain⟨j,u',e2,j0,j1,P2⟩:=jm (m:=(T.tg.length:Nat)) Pu (by omega) (by omega) (by omega)
  obtain⟨j,rfl⟩:=Int.eq_ofNat_of_zero_le j0;have hj:j<T.tg.length:=by omega
  have c2:dj false 2 aj [.ref 0,ak T.tg.length] [u,.lst (ws.map sD)]=.ok (ak j) [u',.lst (ws.map sD)]:=e2 0 _ rfl;have tg0:∀{hh:Hd},gIx T.d (.int 0) hh=.ok (.str (S T.tg)) hh:=λ{hh}=>a1v (j:=0) rfl;have rx:∀hh:Hd,gIx (a3x (rw' T r)) (ak j) hh=.ok (ak (stp T r j)) hh:=λhh=>a1v (by rw[List.getElem?_map,RCH.yx h hr,List.getElem?_map,List.getElem?_range hj];rfl)
  have nl:(w++[tgA T j]).length<=40:=by rw[List.length_append,List.length_singleton];omega
  have sg:∀c∈w++[tgA T j],c∈T.tg:=λc hc=>by
   rcases List.mem_append.mp hc with z|z
   .exact wg c z
   .rw[List.mem_singleton.mp z];exact List.mem_of_getElem? (a6t hj)
  refine⟨_,_,rfl,τg (stp T r j) (w++[tgA T j]) (some (ak i)) (some (ak j)),[u',.lst ((ws.set (stp T r j) (w++[tgA T j])).map sD)],?_,u',ws.set (stp T r j) (w++[tgA T j]),stp T r j,w++[tgA T j],some (ak i),some (ak j),rfl,rfl,P2.up (by rw[List.length_append,List.length_singleton];omega),by rw[List.length_set];exact wl,λx hx=>?_,xg h _ _,by rw[List.length_append,List.length_append,ww];rfl,sg⟩
  .unfold qe;refine Eq.trans (jo (o9 (aq rfl) (ue (gh (aq (i:=1) rfl) ckk tg0) (ab7 (dm (by omega)))) c2)) ?_
   refine Eq.trans (jo (gh (gh (gh (aq (i:=1) rfl) ckk (go1 _)) (aq (i:=3) rfl) (a1a h hr _)) (aq (i:=6) rfl) (rx _))) ?_;refine Eq.trans (jo (gh (aq (i:=4) rfl) (gh (gh (aq (i:=1) rfl) ckk tg0) (aq (i:=6) rfl) (ay0 (dm (by omega)) (a6t hj))) (a5d (dm (by rw[List.length_singleton];omega))))) ?_
   refine(aqi (aq (i:=4) rfl) (aq (i:=2) rfl) (aq (i:=3) rfl) (aqj (i:=1) (xs:=ws.map sD) rfl (by rw[List.length_map,wl];exact xg h _ _))).trans ?_
   rw[List.map_set];rfl
  .rcases List.mem_or_eq_of_mem_set hx with z|z
   .exact wt x z
   .rw[z];exact⟨nl,sg⟩
abbrev PrW:=(Nat×Nat)×List Nat
noncomputable abbrev rwD(p:PrW):D:=.tup [ak p.1.1,ak p.1.2,sD p.2]
noncomputable def gq:SF:=kj (qw di jg aj) 9
noncomputable abbrev τR(T:Table)(es:Es Nat)(a b c d e:Option D):Sd:=[some (.ref 0),some T.d,some (tbD ak es),some (.ref 1),a,b,c,d,e]
theorem arc{es:Es Nat}(Z:SzA T es){x y:Nat}(hx:x<T.go.length)(hy:y<T.go.length):pwD T es x y=.non\/∃w,WdL T 500 w/\pwD T es x y=sD w:=by
 unfold pwD
 cases q:fnd es (min x y,max x y) with
 |none=>exact .inl rfl
 |some v =>
  have l:=(Z.get hx hy).mp q;have v5:=(Z.lv _ ((a5s Z.nd).mp q)).1;obtain⟨a,b⟩:=an5 l;exact .inr ⟨_,⟨by have:v<=500:=v5;omega,b⟩,rfl⟩
theorem ai9(h:T.Ok){es:Es Nat}(Z:SzA T es){u:O}{N:Nat}{rs:List PrW}{x y:Nat}{a b c:Option D}(P:Hand u N)(hN:N<=999999000)(hx:x<T.go.length)(hy:y<T.go.length)(rl:rs.length<=1000) :
  ∃(u':O) (w:List Nat) (a' b' c':Option D),m8 di jg aj (τR T es (some (ak x)) (some (ak y)) a b c) [u,.lst (rs.map rwD)]=.nx (τR T es (some (ak x)) (some (ak y)) a' b' c') [u',.lst ((rs++[((x,y),w)]).map rwD)]/\Hand u' (N+2)/\WdL T 501 w:=by
 have t6:=h.tong.hi;have tlo:=h.tong.lo;obtain⟨j,u1,e1,j0,j1,P1⟩:=jm (m:=(T.tg.length:Nat)) P (by omega) (by omega) (by omega)
 obtain⟨j,rfl⟩:=Int.eq_ofNat_of_zero_le j0;have hj:j<T.tg.length:=by omega
 have c1:dj false 2 aj [.ref 0,ak T.tg.length] [u,.lst (rs.map rwD)]=.ok (ak j) [u1,.lst (rs.map rwD)]:=e1 0 _ rfl;obtain⟨z,u2,e2,z0,z1,P2⟩:=jm (m:=3) P1 (by omega) (by omega) (by omega)
 have c2:dj false 2 aj [.ref 0,.int 3] [u1,.lst (rs.map rwD)]=.ok (.int z) [u2,.lst (rs.map rwD)]:=e2 0 _ rfl;have tg0:∀{hh:Hd},gIx T.d (.int 0) hh=.ok (.str (S T.tg)) hh:=λ{hh}=>a1v (j:=0) rfl;have rx:∀{r:Nat},r<T.go.length->∀hh:Hd,gIx (a3x (rw' T r)) (ak j) hh=.ok (ak (stp T r j)) hh:=λ{r} hr hh=>a1v (by rw[List.getElem?_map,RCH.yx h hr,List.getElem?_map,List.getElem?_range hj];rfl)
 have p1:=a7c h Z hx hy;have p2:=a7c h Z (xg h x j) (xg h y j);have pre:∀g:SS,cj (j7 6 (sA (dj false 2 aj) (aa (sV 0) (aa (sA m9 (aa (s2 gIx (sV 1) (sI 0)) au)) au)))) (cj (j7 7 (sA (dj false 4 di) (aa (sV 1) (aa (sV 2) (aa (sV 4) (aa (sV 5) au)))))) (cj (j7 8 (sA (dj false 4 di) (aa (sV 1) (aa (sV 2) (aa (s2 gIx (s2 gIx (s2 gIx (sV 1) (sI 1)) (sV 4)) (sV 6)) (aa (s2 gIx (s2 gIx (s2 gIx (sV 1) (sI 1)) (sV 5)) (sV 6)) au)))))) g)) (τR T es (some (ak x)) (some (ak y)) a b c) [u,.lst (rs.map rwD)]=g (τR T es (some (ak x)) (some (ak y)) (some (ak j)) (some (pwD T es x y)) (some (pwD T es (stp T x j) (stp T y j)))) [u1,.lst (rs.map rwD)]:=λg=>by
  refine Eq.trans (jo (o9 (aq rfl) (ue (gh (aq (i:=1) rfl) ckk tg0) (ab7 (dm (by omega)))) c1)) ?_
  refine Eq.trans (jo (aoo (cns (aq (i:=1) rfl) (cns (aq (i:=2) rfl) (cns (aq (i:=4) rfl) (cns (aq (i:=5) rfl) rfl)))) (p1 _))) ?_;exact jo (aoo (cns (aq (i:=1) rfl) (cns (aq (i:=2) rfl) (cns (gh (gh (gh (aq (i:=1) rfl) ckk (go1 _)) (aq (i:=4) rfl) (a1a h hx _)) (aq (i:=6) rfl) (rx hx _)) (cns (gh (gh (gh (aq (i:=1) rfl) ckk (go1 _)) (aq (i:=5) rfl) (a1a h hy _)) (aq (i:=6) rfl) (rx hy _)) rfl)))) (p2 _))
 have fin:∀{w:List Nat} {v:O} {e:Option D},yf (sML a4b (sV 3) (aa (sA MI.uc (aa (sV 4) (aa (sV 5) (aa (sV 7) au)))) au)) (τR T es (some (ak x)) (some (ak y)) (some (ak j)) (some (sD w)) e) [v,.lst (rs.map rwD)]=.nx (τR T es (some (ak x)) (some (ak y)) (some (ak j)) (some (sD w)) e) [v,.lst ((rs++[((x,y),w)]).map rwD)]:=λ{w v e}=>by
  refine(a1r (aq (i:=3) rfl) rfl (arg1 (a1l (aq (i:=4) rfl) (aq (i:=5) rfl) (aq (i:=7) rfl) arn)) (a2y (i:=1) (xs:=rs.map rwD) rfl (by rw[List.length_map];exact a0z (by omega)))).trans ?_
  rw[List.map_append (l₁:=rs)];rfl
 have mk:∀{m:List Nat} {v:O} {e:Option D},WdL T 500 m->j7 7 (s2 dw (s2 gIx (s2 gIx (sV 1) (sI 0)) (sV 6)) (sV 8)) (τR T es (some (ak x)) (some (ak y)) (some (ak j)) e (some (sD m))) [v,.lst (rs.map rwD)]=.nx (τR T es (some (ak x)) (some (ak y)) (some (ak j)) (some (sD (tgA T j::m))) (some (sD m))) [v,.lst (rs.map rwD)]:=λ{m v e} hm=>by
  have ml:=hm.1;exact(ahh (gh (gh (gh (aq (i:=1) rfl) ckk tg0) (aq (i:=6) rfl) (ay0 (dm (by omega)) (a6t hj))) (aq (i:=8) rfl) (a5d (a:=[tgA T j]) (dm (by rw[List.length_singleton];omega))))).trans rfl
 have mw:∀{m:List Nat},WdL T 500 m->WdL T 501 (tgA T j::m):=λ{m} hm=>⟨by have:=hm.1;rw[List.length_cons];omega,λc hc=>by
  rcases List.mem_cons.mp hc with rfl|hc
  .exact List.mem_of_getElem? (a6t hj)
  .exact hm.2 c hc⟩
 have nil:WdL T 500 []:=⟨by simp,by simp⟩
 unfold m8;have isn:∀(d:D) (hh:Hd),gIs d .non hh=.ok (.bl (a6a d)) hh:=λd hh=>a9u d
 rcases arc Z hx hy with q1|⟨w1,hw1,q1⟩
 .rcases arc Z (xg h x j) (xg h y j) with q2|⟨w2,hw2,q2⟩
  .refine⟨u1,tgA T j::[],some (ak j),some (sD (tgA T j::[])),some (sD []),Eq.trans (pre _) ?_,P1.up (by omega),mw nil⟩
   rw[q1,q2];refine Eq.trans (xr (Eq.trans (ifT (orT (t2s (aq (i:=7) rfl) ckk (isn _ _)))) (Eq.trans (xr (Eq.trans (ifT (t2s (aq (i:=8) rfl) ckk (isn _ _))) (ahh ckk))) (mk nil)))) fin
  .refine⟨u1,tgA T j::w2,some (ak j),some (sD (tgA T j::w2)),some (sD w2),Eq.trans (pre _) ?_,P1.up (by omega),mw hw2⟩
   rw[q1,q2];refine Eq.trans (xr (Eq.trans (ifT (orT (t2s (aq (i:=7) rfl) ckk (isn _ _)))) (Eq.trans (ifN (t2s (aq (i:=8) rfl) ckk (isn _ _))) (mk hw2)))) fin
 .have o1:WdL T 501 w1:=⟨by have:=hw1.1;omega,hw1.2⟩
  rcases arc Z (xg h x j) (xg h y j) with q2|⟨w2,hw2,q2⟩
  .refine⟨u1,w1,some (ak j),some (sD w1),some .non,Eq.trans (pre _) ?_,P1.up (by omega),o1⟩
   rw[q1,q2];exact Eq.trans (ifN (orF (t2s (aq (i:=7) rfl) ckk (isn _ _)) (ay7 (t2s (aq (i:=8) rfl) ckk (a06 _))))) fin
  .by_cases hz:z=0
   .refine⟨u2,tgA T j::w2,some (ak j),some (sD (tgA T j::w2)),some (sD w2),Eq.trans (pre _) ?_,P2.up (by omega),mw hw2⟩
    rw[q1,q2];refine Eq.trans (xr (Eq.trans (ifT (orF (t2s (aq (i:=7) rfl) ckk (isn _ _)) (ark (t2s (aq (i:=8) rfl) ckk (a06 _)) (t2s (o9 (aq rfl) ckk c2) ckk (a0y hz))))) (Eq.trans (ifN (t2s (aq (i:=8) rfl) ckk (isn _ _))) (mk hw2)))) fin
   .refine⟨u2,w1,some (ak j),some (sD w1),some (sD w2),Eq.trans (pre _) ?_,P2.up (by omega),o1⟩
    rw[q1,q2];exact Eq.trans (ifN (orF (t2s (aq (i:=7) rfl) ckk (isn _ _)) (ark (t2s (aq (i:=8) rfl) ckk (a06 _)) (t2s (o9 (aq rfl) ckk c2) ckk (a08 hz))))) fin
theorem aa5(h:T.Ok){o:O}{N:Nat}(P:Hand o N)(hN:N<=999990000):∃(rs:List PrW) (o':O),rs.map (·.1)=prs T.go.length/\(∀r∈rs,WdL T 501 r.2)/\Dr gq 2 [T.d] o (.tup (rs.map rwD)) o'/\Hand o' (N+1200):=by
 have n32:=h.n32;have pf:=a3g h.n32;obtain⟨es,Z,ez⟩:=ala h;have pfx:∀{pre post:List Nat} {x:Nat},List.range T.go.length=pre++x::post->∀{pr po:List Nat} {j:Nat},List.range (T.go.length-(x+1))=pr++j::po->(pre.flatMap (a1s T.go.length)).length+pr.length<=496:=λ{pre post x} all {pr po j} all2=>by
  have e:prs T.go.length=pre.flatMap (a1s T.go.length)++(pr.map (λj=>(x,x+1+j))++((j::po).map (λj=>(x,x+1+j))++post.flatMap (a1s T.go.length))):=by
   rw[a7a,all,List.flatMap_append,List.flatMap_cons]
   congr 1
   show a1s T.go.length x++_=_;rw[show a1s T.go.length x=(pr++j::po).map λj=>(x,x+1+j) by unfold a1s;rw[all2],List.map_append,List.append_assoc]
  have:=congrArg List.length e
  rw[List.length_append,List.length_append,List.length_map]at this;omega
 have lp:=my (g:=kN 4) (b:=qg di jg aj) ak
  (λpre τ hh=>∃(u:O) (rs:List PrW) (a b c d e:Option D),τ=τR T es a b c d e/\hh=[u,.lst (rs.map rwD)]/\Hand u (N+2*rs.length)/\rs.map (·.1)=pre.flatMap (a1s T.go.length)/\∀r∈rs,WdL T 501 r.2) (List.range T.go.length) (τR T es none none none none none) [o,.lst []] ?_
  ⟨o,[],none,none,none,none,none,rfl,rfl,P,rfl,by simp⟩
 .obtain⟨τ',h',el,u,rs,a,b,c,d,e,rfl,rfl,Pu,er,rt⟩:=lp;have cd:MI.clo 0 (.tup (rs.map rwD)):=jj (bz λ_ _=>jj (bh (bc _) (bh (bc _) (bh (jk _) j6))));have rl:rs.length<=496:=by have:=congrArg List.length er;rw[List.length_map]at this;rw[<-a7a]at this;omega
  refine⟨rs,u,er,rt,Dr.of rfl (by intro x hx;rw[List.mem_singleton]at hx;subst hx;exact Table.clo) P.clo (r:=.ok (.tup (rs.map rwD)) [u,.lst (rs.map rwD)]) ?_ (j4 (a4s (by omega) cd) (by intro x hx;rw[show List.take 1 [u,O.lst (rs.map rwD)]=[u] from rfl,List.mem_singleton]at hx;subst hx;exact qj (by omega) Pu.clo)) cd Pu.clo,Pu.up (by omega)⟩
  unfold gq;rw[dh];show toR (qw di jg aj [some (.ref 0),some T.d,none,none,none,none,none,none,none] [o])=_;unfold qw;refine ets (o9 (aaf rfl (go1 _)) (aaf rfl (a1v (j:=2) rfl)) (ez _)) ?_;refine etr (jo (d:=.ref 1) (h1:=[o,.lst []]) rfl) ?_;refine etr (a2t (a3f (n:=T.go.length) (ue (aaf rfl (go1 _)) (p8.trans (by rw[List.length_map]))) (dm (by omega)))) ?_
  refine Eq.trans (congrArg (λz=>toR (MI.thn z _)) el) ?_;exact congrArg toR (jr (ue (aq (i:=3) rfl) (a8f rfl)))
 .rintro pre x post τ hh all ⟨u,rs,a,b,c,d,e,rfl,rfl,Pu,er,rt⟩
  have hx:x<T.go.length:=List.mem_range.mp (by rw[all];simp)
  refine⟨_,_,rfl,?_⟩;have lp2:=my (g:=kN 5) (b:=m8 di jg aj) (λj:Nat=>D.int ((x+1+j:Nat)))
   (λpr τ hh=>∃(u:O) (rs:List PrW) (b c d e:Option D),τ=τR T es (some (ak x)) b c d e/\hh=[u,.lst (rs.map rwD)]/\Hand u (N+2*rs.length)/\rs.map (·.1)=pre.flatMap (a1s T.go.length)++pr.map (λj=>(x,x+1+j))/\∀r∈rs,WdL T 501 r.2) (List.range (T.go.length-(x+1))) (τR T es (some (ak x)) b c d e) [u,.lst (rs.map rwD)] ?_
   ⟨u,rs,b,c,d,e,rfl,rfl,Pu,by rw[er,List.map_nil,List.append_nil],rt⟩
  .obtain⟨τ',h',el,u',rs',b',c',d',e',rfl,rfl,Pu',er',rt'⟩:=lp2;refine⟨_,_,?_,u',rs',some (ak x),b',c',d',e',rfl,rfl,Pu',by rw[er',List.flatMap_append,List.flatMap_cons,List.flatMap_nil,List.append_nil];rfl,rt'⟩
   unfold qg;exact Eq.trans (aa1 (a4l (a:=x+1) (n:=T.go.length) ((aaf rfl ux).trans rfl) (ue (gh (aq (i:=1) rfl) ckk (go1 _)) (p8.trans (by rw[List.length_map]))) (dm (by omega)) (dm (by omega)))) el
  .rintro pr j po τ hh all2 ⟨u,rs,b,c,d,e,rfl,rfl,Pu,er,rt⟩
   have hj:j<T.go.length-(x+1):=List.mem_range.mp (by rw[all2];simp)
   have rl:rs.length<=496:=by
    have:=congrArg List.length er
    rw[List.length_map,List.length_append,List.length_map]at this;have:=pfx all all2;omega
   obtain⟨u',w,a',b',c',et,P',hw⟩:=ai9 h Z (a:=c) (b:=d) (c:=e) (rs:=rs) Pu (by omega) hx (by omega:x+1+j<T.go.length) (by omega)
   refine⟨_,_,rfl,_,_,et,u',rs++[((x,x+1+j),w)],_,a',b',c',rfl,rfl,P'.up (by rw[List.length_append,List.length_singleton];omega),?_,λr hr=>?_⟩
   .rw[List.map_append,er,List.map_append,List.append_assoc];rfl
   .rcases List.mem_append.mp hr with z|z
    .exact rt r z
    .rw[List.mem_singleton.mp z];exact hw
end
end K30
namespace STP
open L2 MI AT HND EVX K23 K21
open K22
open K40
section
variable{T:Table}
noncomputable def cds:D->List Nat|.str x=>x.cps.toList|_=>[]
theorem axh(p:Pln d)(t:txt T d=true):d=.str (S (cds d))/\(∀c∈cds d,c∈T.tg)/\(cds d).length<=1000:=by
 cases d<;>first|(cases t;done)|skip
 exact⟨by simp only[cds,ah8],λc hc=>of_decide_eq_true (List.all_eq_true.mp t c hc),p⟩
end
end STP
namespace K30
open L2 MI AT HND EVX K22 K23 PRS
open STP (a0h zpD a1b cds)
open K21 (txt a2e abe a4n a3z)
open K40 (rw' a4o a1a go1 aa1 isI isB aa0 a4x a78 Th a4y yx a5g orB aeg amt amu a9z)
open RCH (a09)
section
variable{T:Table}
noncomputable def nmB(a:Nat):D->Bool|.int i=>decide (i=(a:Nat))|_=>false
noncomputable def oh:SF:=kj yj 3
theorem aa6{d:D}(p:Pln d)(a:Nat):Pu oh 3 [d,ak a,ak a] (.bl (nmB a d)):=by
 refine Pu.of rfl (a2e p.clo (bc _) (bc _)) (r:=.ok (.bl (nmB a d)) []) ?_ (j4 (qd _) (by simp)) (qd _)
 unfold oh;rw[dh];show toR (yj [some d,some (ak a),some (ak a)] [])=_;unfold yj;have nb:a5a (sA ph (aa (sV 0) (aa (sC (.ty "bool")) au))) [some d,some (ak a),some (ak a)] []=.ok (.bl (!isB d)) []:=by
  unfold a5a;rw[o9 (aq rfl) ckk (a4x p),az]
 have ii:=o9 (G:=ph) (aq (i:=0) (τ:=[some d,some (ak a),some (ak a)]) (h:=[]) rfl) (a5f (.ty "int") _ _) (aa0 p)
 by_cases e:∃i,d=.int i
 .obtain⟨i,rfl⟩:=e;refine congrArg toR (jr ((a5g ii λ_=>a5g nb λ_=>amu (aq (i:=1) rfl) (aq (i:=0) rfl) (aq (i:=2) rfl)).trans ?_));show R.ok (D.bl (decide _)) _=R.ok (D.bl (decide _)) _
  congr 2
  exact decide_eq_decide.mpr (by omega)
 .have ni:isI d=false:=by cases d<;>first|rfl|exact absurd ⟨_,rfl⟩ e
  have nn:nmB a d=false:=by cases d<;>first|rfl|exact absurd ⟨_,rfl⟩ e
  rw[nn]
  cases hb:isB d with
  |true =>
   rw[ni,hb]at ii;rw[hb]at nb;exact congrArg toR (jr (akx ii (aqt nb)))
  |false =>
   rw[ni,hb]at ii;exact congrArg toR (jr (aqt ii))
noncomputable def fu:SF:=kj a1h 2
theorem a7d{d:D}(p:Pln d):Pu fu 2 [.str (S T.tg),d] (.bl (txt T d)):=STP.a8i p
noncomputable def rB(T:Table)(a b:Nat):D->Bool
 |.tup [x,y,z]=>nmB a x && (nmB b y && (txt T z && decide (kI T (ldw T a (cds z))≠kI T (ldw T b (cds z)))))
 |_=>false
theorem aia{d:D}(e:a78 3 d=true):∃x y z,d=.tup [x,y,z]:=by
 cases d with
 |tup xs =>
  have l:xs.length=3:=of_decide_eq_true e
  match xs,l with
  |[x,y,z],_=>exact⟨x,y,z,rfl⟩
 |_=>cases e
theorem axi{a b:Nat}{d:D}(e:a78 3 d=false):rB T a b d=false:=by
 cases d with
 |tup xs =>
  match xs with
  |[x,y,z]=>exact absurd e (by simp[a78])
  |[]=>rfl
  |[_]=>rfl
  |[_,_]=>rfl
  |_::_::_::_::_=>rfl
 |_=>rfl
noncomputable def iy:SF:=kj (a00 K40.qy K40.jf STP.dq STP.bx) 6
theorem acz{z:D}(p:Pln z)(t:txt T z=true):z=.str (S (cds z))/\(∀c∈cds z,c∈T.tg)/\(cds z).length<=1000:=STP.axh p t
theorem alc(h:T.Ok){a b:Nat}{r:D}(ha:a<T.go.length)(hb:b<T.go.length)(t:Th r):Pu iy 3 [T.d,prD (a,b),r] (.bl (rB T a b r)):=by
 refine Pu.of rfl (a2e Table.clo (jj (bh (bc _) (bh (bc _) j6))) t.p.clo) (r:=.ok (.bl (rB T a b r)) []) ?_ (j4 (qd _) (by simp)) (qd _)
 unfold iy;rw[dh];show toR (a00 K40.qy K40.jf STP.dq STP.bx [some T.d,some (prD (a,b)),some r,none,none,none] [])=_;unfold a00;refine etr (xr (τ1:=[some T.d,some (prD (a,b)),some r,some (.str (S T.tg)),some (goD T),some (ksD T)]) (h1:=[]) (ae1 (aq rfl) rfl)) ?_;have r3:Pu K40.jf 3 [r,.int 3,.int 3] (.bl (a78 3 r)):=yx (n:=3) t.p
 cases e3:a78 3 r with
 |false =>
  rw[e3]at r3;rw[axi e3];exact congrArg toR (a07 (Eq.trans (ifT (orT (ay8 (zm (a1l (aq (i:=2) rfl) ckk ckk (r3 _)) (m5 _))))) (jr ckk)))
 |true =>
  rw[e3]at r3;obtain⟨x,y,z,rfl⟩:=aia e3;obtain⟨_,px⟩:=t.el _ rfl;have p0:=px x (by simp)
  have p1:=px y (by simp)
  have p2:=px z (by simp)
  have i0:∀hh:Hd,gIx (.tup [x,y,z]) (.int 0) hh=.ok x hh:=λhh=>a1v (j:=0) rfl;have i1:∀hh:Hd,gIx (.tup [x,y,z]) (.int 1) hh=.ok y hh:=λhh=>a1v (j:=1) rfl;have i2:∀hh:Hd,gIx (.tup [x,y,z]) (.int 2) hh=.ok z hh:=λhh=>a1v (j:=2) rfl;show _=R.ok (D.bl (nmB a x && (nmB b y && (txt T z && decide (kI T (ldw T a (cds z))≠kI T (ldw T b (cds z))))))) [];have t1:=orB (c1:=a3c (a2h (sA (dj false 3 K40.jf) (aa (sV 2) (aa (sI 3) (aa (sI 3) au)))))) (τ:=[some T.d,some (prD (a,b)),some (.tup [x,y,z]),some (.str (S T.tg)),some (goD T),some (ksD T)]) (h:=[]) (a:=false) (arl (zm (a1l (aq (i:=2) rfl) ckk ckk (r3 _)) (m5 _))) λ_=>orB (a4m (zm (ue (gh (aq (i:=2) rfl) (a5f (.int 0) _ _) (i0 _)) (a4y p0 _)) (m5 _))) λ_=>a4m (zm (ue (gh (aq (i:=2) rfl) (a5f (.int 1) _ _) (i1 _)) (a4y p1 _)) (m5 _))
  by_cases e01:isI x=true/\isI y=true
  .obtain⟨ex,ey⟩:=e01;rw[ex,ey]at t1;refine etr (ifN t1) ?_;obtain⟨i,rfl⟩:∃i,x=.int i:=by cases x<;>first|exact⟨_,rfl⟩|cases ex
   obtain⟨j,rfl⟩:∃j,y=.int j:=by cases y<;>first|exact⟨_,rfl⟩|cases ey
   have ne:∀hh:Hd,hNe (.tup [.int i,.int j]) (prD (a,b)) hh=.ok (.bl (!(nmB a (.int i) && nmB b (.int j)))) hh:=λhh=>by
    unfold hNe;rw[if_pos ⟨rfl,rfl⟩]
    congr 3
    show((i == (a:Int)) && ((j == (b:Int)) && true))=(decide (i=(a:Int)) && decide (j=(b:Int)));rw[Bool.and_true]
    congr 1
   have s2':a1e (sV 2) oN (oS (sI 2)) [some T.d,some (prD (a,b)),some (.tup [.int i,.int j,z]),some (.str (S T.tg)),some (goD T),some (ksD T)] []=.ok (.tup [.int i,.int j]) []:=a4n (aq (i:=2) rfl) rfl (a3z ckk) (PAP.ay9 [.int i,.int j,z] 2 _);have t2:=orB (t2s s2' (aq (i:=1) rfl) (ne _)) λ_=>a4m (zm (o9 (aq (i:=3) rfl) (gh (aq (i:=2) rfl) (a5f (.int 2) _ _) (i2 _)) (STP.a8i p2 _)) (m5 _))
   by_cases e2:(nmB a (.int i) && nmB b (.int j))=true/\txt T z=true
   .obtain⟨e2,tz⟩:=e2;rw[e2,tz]at t2;refine etr (ifN t2) ?_;rw[Bool.and_eq_true]at e2;rw[e2.1,e2.2,tz];obtain⟨ez,sz,lz⟩:=acz p2 tz;have f1:∀hh:Hd,dj false 3 STP.bx [T.d,ak a,z] hh=.ok (ak (ldw T a (cds z))) hh:=λhh=>by
     have:=STP.a8j h ha sz lz hh
     rwa[<-ez]at this
    have f2:∀hh:Hd,dj false 3 STP.bx [T.d,ak b,z] hh=.ok (ak (ldw T b (cds z))) hh:=λhh=>by
     have:=STP.a8j h hb sz lz hh
     rwa[<-ez]at this
    have j0:∀hh:Hd,gIx (prD (a,b)) (.int 0) hh=.ok (ak a) hh:=λhh=>a1v (j:=0) rfl;have j1:∀hh:Hd,gIx (prD (a,b)) (.int 1) hh=.ok (ak b) hh:=λhh=>a1v (j:=1) rfl;exact congrArg toR (jr (gh (gh (aq (i:=5) rfl) (a1l (aq (i:=0) rfl) (gh (aq (i:=1) rfl) ckk (j0 _)) (gh (aq (i:=2) rfl) ckk (i2 _)) (f1 _)) (K21.a77 h (a6j h _ ha) _)) (gh (aq (i:=5) rfl) (a1l (aq (i:=0) rfl) (gh (aq (i:=1) rfl) ckk (j1 _)) (gh (aq (i:=2) rfl) ckk (i2 _)) (f2 _)) (K21.a77 h (a6j h _ hb) _)) (aeg _ _)))
   .have v2:(!(nmB a (.int i) && nmB b (.int j)) || !txt T z)=true:=by
     cases q1:(nmB a (.int i) && nmB b (.int j)) with
     |false=>rfl
     |true =>
      cases q2:txt T z with
      |false=>rfl
      |true=>exact absurd ⟨q1,q2⟩ e2
    rw[v2]at t2;have v3:(nmB a (.int i) && (nmB b (.int j) && (txt T z && decide (kI T (ldw T a (cds z))≠kI T (ldw T b (cds z))))))=false:=by
     rw[<-Bool.and_assoc]
     cases q1:(nmB a (.int i) && nmB b (.int j)) with
     |false=>rfl
     |true =>
      cases q2:txt T z with
      |false=>rfl
      |true=>exact absurd ⟨q1,q2⟩ e2
    rw[v3];exact congrArg toR (a07 (Eq.trans (ifT t2) (jr ckk)))
  .have v1:(false || (!isI x || !isI y))=true:=by
    cases q1:isI x with
    |false=>rfl
    |true =>
     cases q2:isI y with
     |false=>rfl
     |true=>exact absurd ⟨q1,q2⟩ e01
   rw[v1]at t1;have v3:(nmB a x && (nmB b y && (txt T z && decide (kI T (ldw T a (cds z))≠kI T (ldw T b (cds z))))))=false:=by
    cases q1:isI x with
    |false=>rw[show nmB a x=false by cases x<;>first|rfl|cases q1];rfl
    |true =>
     cases q2:isI y with
     |false=>rw[show nmB b y=false by cases y<;>first|rfl|cases q2];simp
     |true=>exact absurd ⟨q1,q2⟩ e01
   rw[v3];exact congrArg toR (a07 (Eq.trans (ifT t1) (jr ckk)))
noncomputable def g8:SF:=kj (wz fu j5 oh) 4
theorem aea(h:T.Ok){a b:Nat}{r:D}(ha:a<T.go.length)(hb:b<T.go.length)(t:Th r):Pu g8 4 [T.d,r,ak a,ak b] (.bl (rB T a b r)):=by
 refine Pu.of rfl (a9z Table.clo t.p.clo (bc _) (bc _)) (r:=.ok (.bl (rB T a b r)) []) ?_ (j4 (qd _) (by simp)) (qd _)
 unfold g8;rw[dh];show toR (wz fu j5 oh [some T.d,some r,some (ak a),some (ak b)] [])=_;unfold wz;have tg0:∀{hh:Hd},gIx T.d (.int 0) hh=.ok (.str (S T.tg)) hh:=λ{hh}=>a1v (j:=0) rfl;have ks0:∀{hh:Hd},gIx T.d (.int 2) hh=.ok (ksD T) hh:=λ{hh}=>a1v (j:=2) rfl
 cases e3:a78 3 r with
 |false =>
  rw[axi e3];refine congrArg toR (a07 (Eq.trans (ifT (h1:=[]) ?_) (jr ckk)));have it:=ae4 (h:=[]) t.p
  cases td:isTup r with
  |false =>
   rw[td]at it;exact orT (ay8 (zm (o9 (aq (i:=1) rfl) ckk it) (m5 _)))
  |true =>
   rw[td]at it;obtain⟨xs,rfl⟩:∃xs,r=.tup xs:=by cases r<;>first|exact⟨_,rfl⟩|cases td
   have l3:xs.length≠3:=of_decide_eq_false e3;exact orF (arl (zm (o9 (aq (i:=1) rfl) ckk it) (m5 _))) (orT (t2s (ue (aq (i:=1) rfl) p8) ckk (awx (by omega))))
 |true =>
  obtain⟨x,y,z,rfl⟩:=aia e3;obtain⟨_,px⟩:=t.el _ rfl;have p0:=px x (by simp)
  have p1:=px y (by simp)
  have p2:=px z (by simp)
  have i0:∀hh:Hd,gIx (.tup [x,y,z]) (.int 0) hh=.ok x hh:=λhh=>a1v (j:=0) rfl;have i1:∀hh:Hd,gIx (.tup [x,y,z]) (.int 1) hh=.ok y hh:=λhh=>a1v (j:=1) rfl;have i2:∀hh:Hd,gIx (.tup [x,y,z]) (.int 2) hh=.ok z hh:=λhh=>a1v (j:=2) rfl;show _=R.ok (D.bl (nmB a x && (nmB b y && (txt T z && decide (kI T (ldw T a (cds z))≠kI T (ldw T b (cds z))))))) [];have it:=ae4 (h:=[]) t.p;have t1:=orB (c1:=a3c (a2h (sA ph (aa (sV 1) (aa (sC (.ty "tuple")) au))))) (τ:=[some T.d,some (.tup [x,y,z]),some (ak a),some (ak b)]) (h:=[]) (a:=false) (arl (zm (o9 (aq (i:=1) rfl) ckk it) (m5 _))) λ_=>orB (t2s (ue (aq (i:=1) rfl) p8) (a5f (.int 3) _ _) (aww rfl)) λ_=>a4m (zm (o9 (gh (aq (i:=0) rfl) (a5f (.int 0) _ _) tg0) (gh (aq (i:=1) rfl) (a5f (.int 2) _ _) (i2 _)) (a7d p2 _)) (m5 _))
  cases tz:txt T z with
  |false =>
   rw[tz]at t1;rw[show(nmB a x && (nmB b y && (false && decide (kI T (ldw T a (cds z))≠kI T (ldw T b (cds z))))))=false by simp]
   exact congrArg toR (a07 (Eq.trans (ifT t1) (jr ckk)))
  |true =>
   rw[tz]at t1;refine etr (ifN t1) ?_;have t2:=orB (τ:=[some T.d,some (.tup [x,y,z]),some (ak a),some (ak b)]) (h:=[]) (a4m (zm (a1l (gh (aq (i:=1) rfl) (a5f (.int 0) _ _) (i0 _)) (aq (i:=2) rfl) (aq (i:=2) rfl) (aa6 p0 a _)) (m5 _))) λ_=>a4m (zm (a1l (gh (aq (i:=1) rfl) (a5f (.int 1) _ _) (i1 _)) (aq (i:=3) rfl) (aq (i:=3) rfl) (aa6 p1 b _)) (m5 _))
   by_cases e2:nmB a x=true/\nmB b y=true
   .obtain⟨ea,eb⟩:=e2;rw[ea,eb]at t2;refine etr (ifN t2) ?_;rw[ea,eb];obtain⟨ez,sz,lz⟩:=acz p2 tz;have f1:∀hh:Hd,dj false 3 j5 [T.d,ak a,z] hh=.ok (ak (ldw T a (cds z))) hh:=λhh=>by
     have:=a9y h ha sz hh
     rwa[<-ez]at this
    have f2:∀hh:Hd,dj false 3 j5 [T.d,ak b,z] hh=.ok (ak (ldw T b (cds z))) hh:=λhh=>by
     have:=a9y h hb sz hh
     rwa[<-ez]at this
    exact congrArg toR (jr (gh (gh (gh (aq (i:=0) rfl) ckk ks0) (a1l (aq (i:=0) rfl) (aq (i:=2) rfl) (gh (aq (i:=1) rfl) ckk (i2 _)) (f1 _)) (K21.a77 h (a6j h _ ha) _)) (gh (gh (aq (i:=0) rfl) ckk ks0) (a1l (aq (i:=0) rfl) (aq (i:=3) rfl) (gh (aq (i:=1) rfl) ckk (i2 _)) (f2 _)) (K21.a77 h (a6j h _ hb) _)) (aeg _ _)))
   .have v2:(!nmB a x || !nmB b y)=true:=by
     cases q1:nmB a x with
     |false=>rfl
     |true =>
      cases q2:nmB b y with
      |false=>rfl
      |true=>exact absurd ⟨q1,q2⟩ e2
    rw[v2]at t2;have v3:(nmB a x && (nmB b y && (true && decide (kI T (ldw T a (cds z))≠kI T (ldw T b (cds z))))))=false:=by
     cases q1:nmB a x with
     |false=>rfl
     |true =>
      cases q2:nmB b y with
      |false=>rfl
      |true=>exact absurd ⟨q1,q2⟩ e2
    rw[v3];exact congrArg toR (a07 (Eq.trans (ifT t2) (jr ckk)))
end
section
variable{T:Table}
noncomputable def wyB(T:Table)(i:Nat)(d:D):Bool:=txt T d && decide (ldw T 0 (cds d)=i)
noncomputable def WB(T:Table):D->Bool
 |.tup ws=>decide (ws.length=T.go.length) && ((List.range T.go.length).zip ws).all λp=>wyB T p.1 p.2
 |_=>false
noncomputable def RB(T:Table):D->Bool
 |.tup rs=>decide (rs.length=(prs T.go.length).length) && ((prs T.go.length).zip rs).all λp=>rB T p.1.1 p.1.2 p.2
 |_=>false
structure Th2 (d:D):Prop where
 p:Pln d
 el:∀xs,d=.tup xs->xs.length<=1000/\∀x∈xs,Th x
theorem axj{d:D}(td:isTup d=false):WB T d=false/\RB T d=false:=by cases d<;>first|exact⟨rfl,rfl⟩|cases td
theorem an7{d:D}(td:isTup d=true):∃xs,d=.tup xs:=by cases d<;>first|exact⟨_,rfl⟩|cases td
theorem ad0{α β:Type}{as:List α}{bs:List β}{q:α×β->Bool}{i:Nat}{a:α}{b:β}(ha:as[i]? = some a)(hb:bs[i]? = some b)(hq:q (a,b)=false):(as.zip bs).all q=false:=by
 have m:(a,b)∈as.zip bs:=List.mem_of_getElem? (i:=i) (List.getElem?_zip_eq_some.mpr ⟨ha,hb⟩);rw[List.all_eq_false];exact⟨_,m,by rw[hq];simp⟩
theorem aib{α β:Type}{as:List α}{bs:List β}{q:α×β->Bool}(h:∀(i:Nat) a b,as[i]? = some a->bs[i]? = some b->q (a,b)=true):(as.zip bs).all q=true:=by
 rw[List.all_eq_true]
 rintro⟨a,b⟩ m
 obtain⟨i,hi,e⟩:=List.getElem_of_mem m;have e:(as.zip bs)[i]? = some (a,b):=by rw[List.getElem?_eq_getElem hi,e]
 obtain⟨h1,h2⟩:=List.getElem?_zip_eq_some.mp e;exact h i a b h1 h2
noncomputable def jc:SF:=kj (uv fu j5) 4
theorem abi(h:T.Ok){d:D}(t:Th d):Pu jc 2 [T.d,d] (.bl (WB T d)):=by
 have n32:=h.n32;refine Pu.of rfl (by intro x hx;simp only[List.mem_cons,List.not_mem_nil,or_false]at hx;rcases hx with rfl|rfl;exact Table.clo;exact t.p.clo) (r:=.ok (.bl (WB T d)) []) ?_ (j4 (qd _) (by simp)) (qd _)
 unfold jc;rw[dh];show toR (uv fu j5 [some T.d,some d,none,none] [])=_;unfold uv;have it:=ae4 (h:=[]) t.p
 cases td:isTup d with
 |false =>
  rw[td]at it;rw[(axj td).1];exact congrArg toR (a07 (Eq.trans (ifT (orT (ay8 (zm (o9 (aq (i:=1) rfl) ckk it) (m5 _))))) (jr ckk)))
 |true =>
  rw[td]at it;obtain⟨ws,rfl⟩:=an7 td;obtain⟨wl,wp⟩:=t.el _ rfl;have ln:sT (s2 hNe (sA m9 (aa (sV 1) au)) (sA m9 (aa (s2 gIx (sV 0) (sI 1)) au))) [some T.d,some (.tup ws),none,none] []=.ok (decide ((ws.length:Int)≠(T.go.length:Nat))) []:=t2s (ue (aq (i:=1) rfl) p8) (ue (gh (aq (i:=0) rfl) ckk (go1 _)) (p8.trans (by rw[List.length_map]))) (aeg _ _)
  have t1:=orB (c1:=a3c (a2h (sA ph (aa (sV 1) (aa (sC (.ty "tuple")) au))))) (a:=false) (arl (zm (o9 (aq (i:=1) rfl) ckk it) (m5 _))) λ_=>ln
  by_cases el:ws.length=T.go.length
  .rw[decide_eq_false (by omega)]at t1
   refine etr (ifN t1) ?_;show _=R.ok (D.bl (decide (ws.length=T.go.length) && ((List.range T.go.length).zip ws).all λp=>wyB T p.1 p.2)) [];rw[decide_eq_true el,Bool.true_and];have ie:a3e (sV 1) [some T.d,some (.tup ws),none,none] []=.ok ⟨((List.range ws.length).zip ws).map λp=>.tup [.int (p.1:Nat),p.2],λ_=>True⟩ []:=by
    unfold a3e;rw[aq rfl,az];rfl
   refine etr (a2t ie) ?_;have lp:=a2m (g:=a3h 2 (jb (kN 2) (jb (kN 3) a3m))) (b:=sr fu j5) (λp:Nat×D=>D.tup [.int (p.1:Nat),p.2])
    (λpre τ hh=>∃a b:Option D,τ=[some T.d,some (.tup ws),a,b]/\hh=[]/\pre.all (λp=>wyB T p.1 p.2)=true)
    (λr hh=>r=.bl false/\hh=[]/\(((List.range T.go.length).zip ws).all λp=>wyB T p.1 p.2)=false) ((List.range ws.length).zip ws) [] [some T.d,some (.tup ws),none,none] [] ?_ ⟨none,none,rfl,rfl,rfl⟩
   .rcases lp with⟨τ',h',e,a,b,rfl,rfl,q⟩|⟨r,h',e,rfl,rfl,q⟩
    .refine Eq.trans (congrArg (λz=>toR (MI.thn z _)) e) ?_;rw[List.nil_append,el]at q;rw[q];exact congrArg toR (jr ckk)
    .refine Eq.trans (congrArg (λz=>toR (MI.thn z _)) e) ?_;rw[q];rfl
   .rintro pre p post τ hh all ⟨a,b,rfl,rfl,q⟩
    rw[List.nil_append]at all;obtain⟨i,d⟩:=p;obtain⟨hi,hd⟩:=ahp all;simp only at hi hd;have hd':d∈ws:=List.mem_of_getElem? hd;have pd:=wp d hd';have il:i<T.go.length:=by have:=(List.getElem?_eq_some_iff.mp hd).1;omega
    have bad:wyB T i d=false->(((List.range T.go.length).zip ws).all λp=>wyB T p.1 p.2)=false:=λz=>ad0 (i:=i) (List.getElem?_range il) (by rw[hi];exact hd) z
    have t2:a3c (a2h (sA (dj false 2 fu) (aa (s2 gIx (sV 0) (sI 0)) (aa (sV 3) au)))) [some T.d,some (.tup ws),some (ak i),some d] []=.ok (!txt T d) []:=a4m (zm (o9 (gh (aq (i:=0) rfl) ckk (a1v (j:=0) rfl)) (aq (i:=3) rfl) (a7d pd _)) (m5 _));refine⟨_,_,rfl,?_⟩;unfold sr
    cases tz:txt T d with
    |false =>
     rw[tz]at t2;exact .inr ⟨_,_,Eq.trans (ifT (orT t2)) (jr ckk),rfl,rfl,bad (by unfold wyB;rw[tz];rfl)⟩
    |true =>
     rw[tz]at t2;obtain⟨ez,sz,lz⟩:=acz pd tz;have f1:∀hh:Hd,dj false 3 j5 [T.d,.int 0,d] hh=.ok (ak (ldw T 0 (cds d))) hh:=λhh=>by
      have:=a9y h h.n1 sz hh
      rwa[<-ez]at this
     have t3:sT (s2 hNe (sA (dj false 3 j5) (aa (sV 0) (aa (sI 0) (aa (sV 3) au)))) (sV 2)) [some T.d,some (.tup ws),some (ak i),some d] []=.ok (decide (((ldw T 0 (cds d):Nat):Int)≠(i:Nat))) []:=t2s (a1l (aq (i:=0) rfl) ckk (aq (i:=3) rfl) (f1 _)) (aq (i:=2) rfl) (aeg _ _)
     by_cases e:ldw T 0 (cds d)=i
     .rw[decide_eq_false (by omega)]at t3
      exact .inl ⟨_,_,Eq.trans (ifF (orF t2 t3)) rfl,_,_,rfl,rfl,by rw[List.all_append,q];simp[wyB,tz,e]⟩
     .rw[decide_eq_true (by omega)]at t3
      exact .inr ⟨_,_,Eq.trans (ifT (orF t2 t3)) (jr ckk),rfl,rfl,bad (by unfold wyB;rw[tz,decide_eq_false e];rfl)⟩
  .rw[decide_eq_true (by omega)]at t1
   rw[show WB T (.tup ws)=false by show(decide (ws.length=T.go.length) && _)=false;rw[decide_eq_false el];rfl]
   exact congrArg toR (a07 (Eq.trans (ifT t1) (jr ckk)))
noncomputable def jd:SF:=kj (uw g8) 6
theorem abj(h:T.Ok){d:D}(t:Th2 d):Pu jd 2 [T.d,d] (.bl (RB T d)):=by
 have n32:=h.n32;have pf:=a3g h.n32;refine Pu.of rfl (by intro x hx;simp only[List.mem_cons,List.not_mem_nil,or_false]at hx;rcases hx with rfl|rfl;exact Table.clo;exact t.p.clo) (r:=.ok (.bl (RB T d)) []) ?_ (j4 (qd _) (by simp)) (qd _)
 unfold jd;rw[dh];show toR (uw g8 [some T.d,some d,none,none,none,none] [])=_;unfold uw;refine ets (ue (gh (aq (i:=0) rfl) ckk (go1 _)) (p8.trans (by rw[List.length_map]))) ?_
 have it:=ae4 (h:=[]) t.p
 cases td:isTup d with
 |false =>
  rw[td]at it;rw[(axj td).2];exact congrArg toR (a07 (Eq.trans (ifT (orT (ay8 (zm (o9 (aq (i:=1) rfl) ckk it) (m5 _))))) (jr ckk)))
 |true =>
  rw[td]at it;obtain⟨rs,rfl⟩:=an7 td;obtain⟨rl,rp⟩:=t.el _ rfl;have el2:=aqw T.go.length h.n32;have num:s2 a69 (s2 a1u (sV 2) (s2 a6u (sV 2) (sI 1))) (sI 2) [some T.d,some (.tup rs),some (ak T.go.length),none,none,none] []=.ok (ak (prs T.go.length).length) []:=by
   refine gh (gh (aq (i:=2) rfl) (gh (aq (i:=2) rfl) ckk (a76 _ _)) (a9s.trans (if_pos (.inl ⟨by omega,by omega⟩)))) ckk ((div_ii (by decide)).trans ?_)
   show R.ok (D.int _) _=R.ok (D.int _) _;rw[el2]
   congr 2
   have n1:=h.n1;rw[Int.natCast_ediv,Int.natCast_mul,Int.natCast_sub n1];rfl
  have ln:=t2s (ue (aq (i:=1) (τ:=[some T.d,some (.tup rs),some (ak T.go.length),none,none,none]) (h:=[]) rfl) p8) num (aeg _ _);have t1:=orB (c1:=a3c (a2h (sA ph (aa (sV 1) (aa (sC (.ty "tuple")) au))))) (a:=false) (arl (zm (o9 (aq (i:=1) rfl) ckk it) (m5 _))) λ_=>ln
  by_cases el:rs.length=(prs T.go.length).length
  .rw[decide_eq_false (by omega)]at t1
   refine etr (ifN t1) ?_;refine etr (jo ckk) ?_;show _=R.ok (D.bl (decide (rs.length=(prs T.go.length).length) && ((prs T.go.length).zip rs).all λp=>rB T p.1.1 p.1.2 p.2)) [];rw[decide_eq_true el,Bool.true_and]
   let τd:Nat->Option D->Option D->Sd:=λk a b=>[some T.d,some (.tup rs),some (ak T.go.length),some (ak k),a,b]
   let Gd:Nat->Prop:=λk=>∀i,i<k->∀p r,(prs T.go.length)[i]? = some p->rs[i]? = some r->rB T p.1 p.2 r=true
   have lp:=a2m (g:=kN 4) (b:=u6 g8) ak
    (λpre τ hh=>∃a b:Option D,τ=τd (pre.flatMap (a1s T.go.length)).length a b/\hh=[]/\Gd (pre.flatMap (a1s T.go.length)).length)
    (λr hh=>r=.bl false/\hh=[]/\(((prs T.go.length).zip rs).all λp=>rB T p.1.1 p.1.2 p.2)=false) (List.range T.go.length) [] (τd 0 none none) [] ?_ ⟨none,none,rfl,rfl,λi hi=>by simp at hi⟩
   .refine etr (a2t (a3f (n:=T.go.length) (aq (i:=2) rfl) (dm (by omega)))) ?_
    rcases lp with⟨τ',h',e,a,b,rfl,rfl,q⟩|⟨r,h',e,rfl,rfl,q⟩
    .refine Eq.trans (congrArg (λz=>toR (MI.thn z _)) e) ?_;rw[List.nil_append,<-a7a]at q;rw[aib λi p r hp hr=>q i (List.getElem?_eq_some_iff.mp hp).1 p r hp hr];exact congrArg toR (jr ckk)
    .refine Eq.trans (congrArg (λz=>toR (MI.thn z _)) e) ?_;rw[q];rfl
   .rintro pre x post τ hh all ⟨a,b,rfl,rfl,q⟩
    rw[List.nil_append]at all;have hx:x<T.go.length:=List.mem_range.mp (by rw[all];simp)
    refine⟨_,_,rfl,?_⟩;have lp2:=a2m (g:=kN 5) (b:=u5 g8) (λj:Nat=>D.int ((x+1+j:Nat)))
     (λpr τ hh=>∃b:Option D,τ=τd ((pre.flatMap (a1s T.go.length)).length+pr.length) (some (ak x)) b/\hh=[]/\Gd ((pre.flatMap (a1s T.go.length)).length+pr.length))
     (λr hh=>r=.bl false/\hh=[]/\(((prs T.go.length).zip rs).all λp=>rB T p.1.1 p.1.2 p.2)=false) (List.range (T.go.length-(x+1))) [] (τd (pre.flatMap (a1s T.go.length)).length (some (ak x)) b) [] ?_ ⟨b,rfl,rfl,q⟩
    .have it2:sRg a1c (aa (s2 dw (sV 4) (sI 1)) (aa (sV 2) au)) (τd (pre.flatMap (a1s T.go.length)).length (some (ak x)) b) []=.ok ⟨(List.range (T.go.length-(x+1))).map λi:Nat=>D.int ((x+1+i:Nat)),λ_=>True⟩ []:=a4l (a:=x+1) (n:=T.go.length) ((gh (aq (i:=4) rfl) ckk ux).trans rfl) (aq (i:=2) rfl) (dm (by omega)) (dm (by omega))
     have ee:((pre++[x]).flatMap (a1s T.go.length)).length=(pre.flatMap (a1s T.go.length)).length+(List.range (T.go.length-(x+1))).length:=by
      rw[List.flatMap_append,List.length_append,List.flatMap_cons,List.flatMap_nil,List.append_nil];unfold a1s;rw[List.length_map]
     unfold u6
     rcases lp2 with⟨τ',h',e,b',rfl,rfl,q'⟩|⟨r,h',e,rfl,rfl,q'⟩
     .refine .inl ⟨_,_,Eq.trans (aa1 it2) e,some (ak x),b',?_,rfl,?_⟩
      .rw[ee];rfl
      .rw[ee];exact q'
     .exact .inr ⟨_,_,Eq.trans (aa1 it2) e,rfl,rfl,q'⟩
    .rintro pr j po τ hh all2 ⟨b,rfl,rfl,q⟩
     rw[List.nil_append]at all2;have hj:j<T.go.length-(x+1):=List.mem_range.mp (by rw[all2];simp)
     have jl:j=pr.length:=(a2c all2).1;have pe:(prs T.go.length)[(pre.flatMap (a1s T.go.length)).length+pr.length]? = some (x,x+1+j):=by
      rw[a7a,all,List.flatMap_append,List.getElem?_append_right (by omega),Nat.add_sub_cancel_left,List.flatMap_cons,List.getElem?_append_left (by unfold a1s;rw[List.length_map,List.length_range];omega)]
      unfold a1s;rw[List.getElem?_map,List.getElem?_range (by omega),<-jl]
      rfl
     have kl:=(List.getElem?_eq_some_iff.mp pe).1;obtain⟨r,hr⟩:∃r,rs[(pre.flatMap (a1s T.go.length)).length+pr.length]? = some r:=⟨_,List.getElem?_eq_getElem (by omega)⟩
     have pr':=rp r (List.mem_of_getElem? hr);have t2:a3c (a2h (sA (dj false 4 g8) (aa (sV 0) (aa (s2 gIx (sV 1) (sV 3)) (aa (sV 4) (aa (sV 5) au)))))) (τd ((pre.flatMap (a1s T.go.length)).length+pr.length) (some (ak x)) (some (ak (x+1+j)))) []=.ok (!rB T x (x+1+j) r) []:=a4m (zm (aoo (cns (aq (i:=0) rfl) (cns (gh (aq (i:=1) rfl) (aq (i:=3) rfl) (a1v hr)) (cns (aq (i:=4) rfl) (cns (aq (i:=5) rfl) rfl)))) (aea h hx (by omega:x+1+j<T.go.length) pr' _)) (m5 _))
     refine⟨_,_,rfl,?_⟩;unfold u5
     cases tz:rB T x (x+1+j) r with
     |false =>
      rw[tz]at t2;exact .inr ⟨_,_,a07 (Eq.trans (ifT t2) (jr ckk)),rfl,rfl,ad0 pe hr tz⟩
     |true =>
      rw[tz]at t2;refine .inl ⟨τd ((pre.flatMap (a1s T.go.length)).length+(pr++[j]).length) (some (ak x)) (some (ak (x+1+j))),[],Eq.trans (ifN t2) ?_,_,rfl,rfl,λi hi p r' hp hr'=>?_⟩
      .refine(aqh (a:=ak _) (d:=ak ((pre.flatMap (a1s T.go.length)).length+(pr++[j]).length)) rfl ckk ?_).trans rfl;rw[List.length_append,List.length_singleton,<-Nat.add_assoc];rfl
      .rw[List.length_append,List.length_singleton]at hi
       by_cases z:i<(pre.flatMap (a1s T.go.length)).length+pr.length
       .exact q i z p r' hp hr'
       .have:i=(pre.flatMap (a1s T.go.length)).length+pr.length:=by omega
        subst this;rw[pe]at hp;rw[hr]at hr';cases hp
        cases hr'
        exact tz
  .rw[decide_eq_true (by omega)]at t1
   rw[show RB T (.tup rs)=false by show(decide (rs.length=(prs T.go.length).length) && _)=false;rw[decide_eq_false el];rfl]
   exact congrArg toR (a07 (Eq.trans (ifT t1) (jr ckk)))
end
section
variable{T:Table}
theorem an8{hp:Hd}{fi:SI}{t:D->Option Sd}{fe:SE}{ix:List Nat}{τ:Sd}{α:Type}(g:α->D)(ws:List α)(f:α->Bool)(wl:ws.length<=1000)(e:fi τ hp=.ok ⟨ws.map g,λ_=>True⟩ hp)(st:∀w∈ws,a7w t fe (frs' ix τ) (g w) hp=.ok (.bl (f w)) hp)(c:∀o∈hp,a1p hp.length o) :
  sA aee (aa (sZ (vg fi t fe ix)) au) τ hp=.ok (.bl (ws.all f)) hp:=by
 have z:sZ (vg fi t fe ix) τ hp=.ok (.rol ((ws.map f).map D.bl)) hp:=by
  rw[List.map_map];exact a1f (xf g (D.bl ∘ f) ws e (dm (by omega)) st) (bz λy _=>qd _) c
 refine ue z ((K23.ams _ _).trans ?_);rw[List.all_map];rfl
theorem ad1:∀l m:List Nat,aac (l.map ak) (m.map ak)=decide (l=m)
 |[],[]=>rfl
 |[],_::_=>rfl
 |_::_,[]=>rfl
 |a::l,b::m=>by
  show(((a:Int) == (b:Int)) && aac (l.map ak) (m.map ak))=_;rw[ad1 l m]
  by_cases e:a=b
  .rw[e,beq_self_eq_true,Bool.true_and];exact decide_eq_decide.mpr ⟨λz=>by rw[z],λz=>(List.cons.inj z).2⟩
  .rw[show((a:Int) == (b:Int))=false from by rw[beq_eq_false_iff_ne];omega,Bool.false_and]
   exact(decide_eq_false λz=>e (List.cons.inj z).1).symm
theorem ard(l m:List Nat)(h:Hd):avo true (.rol (l.map ak)) (.rol (m.map ak)) h=.ok (.bl (!decide (l=m))) h:=by
 unfold avo;simp only[a0c];rw[if_pos ⟨List.all_eq_true.mpr λx hx=>by obtain⟨_,_,rfl⟩:=List.mem_map.mp hx;rfl,List.all_eq_true.mpr λx hx=>by obtain⟨_,_,rfl⟩:=List.mem_map.mp hx;rfl⟩,ad1]
 rfl
noncomputable def ju:SF:=kj (vz K40.jf STP.dq iy STP.bx iw) 5
theorem ad2{n:Nat}{d:D}(e:a78 n d=true):∃xs,d=.tup xs/\xs.length=n:=by
 cases d with
 |tup xs=>exact⟨xs,rfl,of_decide_eq_true e⟩
 |_=>cases e
theorem b0b{d:D}(e:a78 T.go.length d=false):WB T d=false:=by
 cases d with
 |tup xs=>show(decide (xs.length=T.go.length) && _)=false;rw[show decide (xs.length=T.go.length)=false from e];rfl
 |_=>rfl
theorem b0c{d:D}(e:a78 (prs T.go.length).length d=false):RB T d=false:=by
 cases d with
 |tup xs=>show(decide (xs.length=(prs T.go.length).length) && _)=false;rw[show decide (xs.length=(prs T.go.length).length)=false from e];rfl
 |_=>rfl
theorem axk{ws:List D}(wl:ws.length=T.go.length)(e:ws.all (txt T)=false):WB T (.tup ws)=false:=by
 show(decide (ws.length=T.go.length) && ((List.range T.go.length).zip ws).all λp=>wyB T p.1 p.2)=false;rw[decide_eq_true wl,Bool.true_and];obtain⟨d,hd,q⟩:=List.all_eq_false.mp e;obtain⟨i,hi,ei⟩:=List.getElem_of_mem hd;exact ad0 (i:=i) (List.getElem?_range (by omega)) (by rw[List.getElem?_eq_getElem hi,ei]) (by show(txt T d && _)=false;rw[show txt T d=false by simpa using q];rfl)
theorem b0d{ws:List D}(wl:ws.length=T.go.length)(e:ws.all (txt T)=true):WB T (.tup ws)=decide (ws.map (λd=>ldw T 0 (cds d))=List.range T.go.length):=by
 show(decide (ws.length=T.go.length) && ((List.range T.go.length).zip ws).all λp=>wyB T p.1 p.2)=_;rw[decide_eq_true wl,Bool.true_and];have tx:∀d∈ws,txt T d=true:=List.all_eq_true.mp e
 by_cases q:ws.map (λd=>ldw T 0 (cds d))=List.range T.go.length
 .rw[decide_eq_true q];refine aib λi a d ha hd=>?_;have il:=(List.getElem?_eq_some_iff.mp ha).1;rw[List.length_range]at il;rw[List.getElem?_range il]at ha;cases ha
  have:=congrArg (λl=>l[i]?) q
  simp only[List.getElem?_map,hd,Option.map_some,List.getElem?_range il,Option.some.injEq]at this;show(txt T d && decide (ldw T 0 (cds d)=i))=true;rw[tx d (List.mem_of_getElem? hd),decide_eq_true this];rfl
 .rw[decide_eq_false q];have:∃i,i<T.go.length/\∃d,ws[i]? = some d/\ldw T 0 (cds d)≠i:=Classical.byContradiction λno=>q (by
   refine List.ext_getElem? λi=>?_
   by_cases il:i<T.go.length
   .have hd:ws[i]? = some ws[i]:=List.getElem?_eq_getElem (by omega)
    rw[List.getElem?_map,hd,List.getElem?_range il];have:ldw T 0 (cds ws[i])=i:=Classical.byContradiction λne=>no ⟨i,il,_,hd,ne⟩;rw[Option.map_some,this]
   .rw[List.getElem?_eq_none (by rw[List.length_map];omega),List.getElem?_eq_none (by rw[List.length_range];omega)])
  obtain⟨i,il,d,hd,ne⟩:=this;exact ad0 (i:=i) (List.getElem?_range il) hd (by show(txt T d && decide (ldw T 0 (cds d)=i))=false;rw[decide_eq_false ne,Bool.and_false])
theorem ald(h:T.Ok){d1 d2:D}(t1:Th d1)(t2:Th2 d2):Pu ju 3 [T.d,d1,d2] (.bl (WB T d1 && RB T d2)):=by
 have n32:=h.n32;have pf:=a3g h.n32;refine Pu.of rfl (a2e Table.clo t1.p.clo t2.p.clo) (r:=.ok (.bl (WB T d1 && RB T d2)) []) ?_ (j4 (qd _) (by simp)) (qd _)
 unfold ju;rw[dh];show toR (vz K40.jf STP.dq iy STP.bx iw [some T.d,some d1,some d2,none,none] [])=_;unfold vz;refine ets (ue (gh (aq (i:=0) rfl) ckk (go1 _)) (p8.trans (by rw[List.length_map]))) ?_
 have r1:=yx (n:=T.go.length) t1.p;have c0:=a4m (zm (a1l (aq (i:=1) (τ:=[some T.d,some d1,some d2,some (ak T.go.length),none]) (h:=[]) rfl) (aq (i:=3) rfl) (aq (i:=3) rfl) (r1 _)) (m5 _))
 cases e1:a78 T.go.length d1 with
 |false =>
  rw[e1]at c0;rw[b0b e1];exact congrArg toR (a07 (Eq.trans (ifT (orT c0)) (jr ckk)))
 |true =>
  rw[e1]at c0;obtain⟨ws,rfl,wl⟩:=ad2 e1;obtain⟨_,wp⟩:=t1.el _ rfl;have tg0:∀{hh:Hd},gIx T.d (.int 0) hh=.ok (.str (S T.tg)) hh:=λ{hh}=>a1v (j:=0) rfl;have a1:=an8 (hp:=[]) (fi:=sIt (sV 1)) (t:=MI.t1) (fe:=yp K40.jf STP.dq iy STP.bx iw) (ix:=[0]) (τ:=[some T.d,some (.tup ws),some d2,some (ak T.go.length),none]) (λd:D=>d) ws (txt T) (by omega) (aco (aq rfl) (by rw[List.map_id'];rfl)) (λw hw=>(a2b _ _ _ _).trans (o9 (aaf rfl tg0) (aq rfl) (STP.a8i (wp w hw) _))) (by simp)
  have c1:=orB c0 λ_=>a4m (zm a1 (m5 _))
  cases ex:ws.all (txt T) with
  |false =>
   rw[ex]at c1;rw[axk wl ex];exact congrArg toR (a07 (Eq.trans (ifT c1) (jr ckk)))
  |true =>
   rw[ex]at c1;refine etr (ifN c1) ?_;rw[b0d wl ex];have tx:∀d∈ws,txt T d=true:=List.all_eq_true.mp ex;have z1:sZ (vg (sIt (sV 1)) MI.t1 (yq K40.jf STP.dq iy STP.bx iw) [0]) [some T.d,some (.tup ws),some d2,some (ak T.go.length),none] []=.ok (.rol ((ws.map λd=>ldw T 0 (cds d)).map ak)) []:=by
    rw[List.map_map];refine a1f (xf (λd:D=>d) (λd=>ak (ldw T 0 (cds d))) ws (aco (aq rfl) (by rw[List.map_id'];rfl)) (dm (by omega)) λd hd=>?_) (bz λ_ _=>bc _) (by simp)
    rw[a2b];obtain⟨ez,sz,lz⟩:=acz (wp d hd) (tx d hd);have f1:∀hh:Hd,dj false 3 STP.bx [T.d,.int 0,d] hh=.ok (ak (ldw T 0 (cds d))) hh:=λhh=>by
     have:=STP.a8j h h.n1 sz lz hh
     rwa[<-ez]at this
    exact a1l (aq (i:=1) rfl) ckk (aq (i:=0) rfl) (f1 _)
   have z2:sZ (sA a9n (aa (sV 3) au)) [some T.d,some (.tup ws),some d2,some (ak T.go.length),none] []=.ok (.rol ((List.range T.go.length).map ak)) []:=by
    refine a1f (ue (aq (i:=3) rfl) ?_) (qx _) (by simp)
    unfold a9n;show(if B62 (T.go.length:Int)/\(T.go.length:Int).toNat<=LINE then R.ok (D.ref 0) [O.lst (rng 0 (T.go.length:Int).toNat)] else R.no)=_
    rw[if_pos ⟨ahe (by omega) (by omega),by show T.go.length<=LINE;exact dm (by omega)⟩]
    show R.ok (D.ref 0) [O.lst (rng 0 T.go.length)]=_;unfold rng
    congr 4
    funext i
    show D.int (0+(i:Int))=D.int i;rw[Int.zero_add]
   have c2:=t2s z1 z2 (ard _ _ _)
   by_cases q:(ws.map λd=>ldw T 0 (cds d))=List.range T.go.length
   .rw[decide_eq_true q]at c2 ⊢;rw[Bool.true_and];refine etr (ifN c2) ?_;refine ets (ue (aq (i:=0) rfl) (axd h _)) ?_;have ln:sA m9 (aa (sV 4) au) [some T.d,some (.tup ws),some d2,some (ak T.go.length),some (.rol ((prs T.go.length).map prD))] []=.ok (ak (prs T.go.length).length) []:=ue (aq (i:=4) rfl) (by rw[a1j,List.length_map])
    have r2:=yx (n:=(prs T.go.length).length) t2.p;have c3:=a4m (zm (a1l (aq (i:=2) (τ:=[some T.d,some (.tup ws),some d2,some (ak T.go.length),some (.rol ((prs T.go.length).map prD))]) (h:=[]) rfl) ln ln (r2 _)) (m5 _))
    cases e2:a78 (prs T.go.length).length d2 with
    |false =>
     rw[e2]at c3;rw[b0c e2];exact congrArg toR (a07 (Eq.trans (ifT c3) (jr ckk)))
    |true =>
     rw[e2]at c3;obtain⟨rs,rfl,rl⟩:=ad2 e2;obtain⟨_,rp⟩:=t2.el _ rfl;refine etr (ifN c3) ?_;show _=R.ok (D.bl (decide (rs.length=(prs T.go.length).length) && ((prs T.go.length).zip rs).all λp=>rB T p.1.1 p.1.2 p.2)) [];rw[decide_eq_true rl,Bool.true_and];have iz:aef (sV 4) (sV 2) [some T.d,some (.tup ws),some (.tup rs),some (ak T.go.length),some (.rol ((prs T.go.length).map prD))] []=.ok ⟨((prs T.go.length).zip rs).map λp=>D.tup [prD p.1,p.2],λ_=>True⟩ []:=by
      unfold aef;rw[aq (d:=.rol ((prs T.go.length).map prD)) rfl,az,aq (d:=.tup rs) rfl,az];unfold apa srcOf;dsimp only;rw[List.zip_map_left,List.map_map];simp only[and_self];rfl
     refine congrArg toR (jr (an8 (λp:(Nat×Nat)×D=>D.tup [prD p.1,p.2]) ((prs T.go.length).zip rs) (λp=>rB T p.1.1 p.1.2 p.2) (by rw[List.length_zip];omega) iz (λp hp=>?_) (by simp)))
     obtain⟨⟨a,b⟩,r⟩:=p;have hm:=List.of_mem_zip hp;obtain⟨ab,bn⟩:=a0p.mp hm.1;show(yr K40.jf STP.dq iy STP.bx iw) [some (prD (a,b)),some r,some T.d] []=_;exact a1l (aq (i:=2) rfl) (aq (i:=0) rfl) (aq (i:=1) rfl) (alc h (by omega) bn (rp r hm.2) _)
   .rw[decide_eq_false q]at c2 ⊢;exact congrArg toR (a07 (Eq.trans (ifT c2) (jr ckk)))
end
end K30
namespace K23
open L2 MI AT HND K22
theorem a2f:∀c∈sig,c<127:=by decide +kernel
section
variable{T:Table}
theorem b1m{f:SE}{τ:Sd}{h h1:Hd}{i:Int}(e:f τ h=.ok (.int i) h1):oS f τ h=.ok (some i) h1:=by unfold oS;rw[e];rfl
theorem b1n{f:SE}{lo hi:SO}{τ:Sd}{h h1 h2 h3 h4:Hd}{d v:D}{a b:Option Int}(e:f τ h=.ok d h1)(e1:lo τ h1=.ok a h2)(e2:hi τ h2=.ok b h3)(e3:a8t d a b h3=.ok v h4):a1e f lo hi τ h=.ok v h4:=by
 unfold a1e;rw[e,az,e1,az,e2,az,e3]
theorem aro(xs:List D)(lo hi:Option Int)(h:Hd):a8t (.tup xs) lo hi h=.ok (.tup (a4z xs lo hi)) h:=by
 unfold a8t;dsimp only
 split
 .rename_i w;obtain⟨a,b⟩:=w
  congr 2
  unfold a4z;rw[a,b,List.drop_zero,List.take_of_length_le (by omega)]
 .rfl
theorem ay9(xs:List D)(k:Nat)(h:Hd):a8t (.tup xs) none (some (k:Int)) h=.ok (.tup (xs.take k)) h:=by rw[aro,a7r]
theorem acq(xs:List D)(k:Nat)(h:Hd):a8t (.tup xs) (some (k:Int)) none h=.ok (.tup (xs.drop k)) h:=by rw[aro,a67]
theorem abd{xs ys:List D}{h:Hd}(z:xs.length+ys.length<=1000000):dw (.tup xs) (.tup ys) h=.ok (.tup (xs++ys)) h:=by
 cases xs with
 |nil=>rfl
 |cons x xs =>
  show(if (x::xs).length+ys.length<=LINE then R.ok (D.tup (x::xs++ys)) h else .no)=_
  rw[if_pos (dm z)]
theorem aya{a:D}{h:Hd}:MI.uc [a] h=.ok (.tup [a]) h:=by unfold MI.uc;rw[if_pos (dm (by simp))]
end
section
variable{T:Table}
noncomputable def du:SF:=kj xq 3
theorem a6o{ws:List D}{k:Nat}{d:D}(cw:clos 0 ws)(cd:MI.clo 0 d)(wl:ws.length<=1000):Pu du 3 [.tup ws,ak k,d] (.tup (ws.take k++[d]++ws.drop (k+1))):=by
 have cr:MI.clo 0 (.tup (ws.take k++[d]++ws.drop (k+1))):=jj (jx.mpr λx hx=>by
  simp only[List.mem_append,List.mem_singleton]at hx
  rcases hx with(hx|rfl)|hx
  .exact jx.mp cw x (List.mem_of_mem_take hx)
  .exact cd
  .exact jx.mp cw x (List.mem_of_mem_drop hx))
 refine Pu.of rfl ?_ (r:=.ok (.tup (ws.take k++[d]++ws.drop (k+1))) []) ?_ (j4 cr (by simp)) cr
 .intro x hx
  simp only[List.mem_cons,List.not_mem_nil,or_false]at hx
  rcases hx with rfl|rfl|rfl
  .exact jj cw
  .exact bc _
  .exact cd
 .unfold du;rw[dh];show toR (xq [some (.tup ws),some (ak k),some d] [])=_;unfold xq;refine congrArg toR (jr (gh (gh (b1n (aq rfl) rfl (b1m (aq rfl)) (ay9 ws k _)) (ue (aq rfl) aya) (abd ?_)) (b1n (aq rfl) (b1m (aaf rfl ux)) rfl (acq ws (k+1) _)) (abd ?_)))
  .simp only[List.length_take,List.length_singleton];omega
  .simp only[List.length_append,List.length_take,List.length_singleton,List.length_drop];omega
theorem axl{τ:Sd}:sZ ajp τ []=.ok (.rod [] []) []:=by
 unfold sZ;show aad 0 (.ok (.ref 0) [.dK []])=_;refine a4k (h1:=[.dK []]) ?_ (by simp)
 unfold FU a1d;rw[if_neg (by simp only[MI.clo];omega)]
 rfl
end
end K23
namespace K30
open L2 MI AT HND EVX K22 K23 PRS
open STP (a0h zpD a1b cds)
open K21 (txt a2e abe)
open K40 (rw' a4o a1a go1 aa1 isI isB aa0 a4x a78 Th a4y yx a5g orB aeg amt amu a9z)
open RCH (a09)
section
variable{T:Table}
def Tgb(b:Bool)(d:D)(q:PyData):Prop:=(b=true->noL d=true)/\(b=false->q.hasDict=false)
structure Cl (b:Bool) (dp k:Nat) (d:D):Prop where
 p:Pln d
 ex:∃q,toPy d=some q/\q.showable=true/\q.depth<=dp/\q.shown.length<=k/\Tgb b d q
theorem Cl.up{b:Bool}{dp dp' k k':Nat}{d:D}(h:Cl b dp k d)(h1:dp<=dp')(h2:k<=k'):Cl b dp' k' d :=
 let ⟨p,q,a,s,c,e,t⟩:=h
 ⟨p,q,a,s,by omega,by omega,t⟩
theorem axm{b:Bool}{dp k:Nat}{es:List D}(h:∀e∈es,Cl b dp k e):∃qs,a87 es=some qs/\qs.length=es.length/\(∀q∈qs,q.showable=true/\q.depth<=dp/\q.shown.length<=k)/\(b=true->aq0 es=true)/\(b=false->∀q∈qs,q.hasDict=false):=by
 obtain⟨qs,e,l,rs⟩:=amo (R:=λq=>(q.showable=true/\q.depth<=dp/\q.shown.length<=k)/\(b=false->q.hasDict=false)) λd hd=>let ⟨q,e,s,c,l,t⟩:=(h d hd).ex; ⟨q,e,⟨s,c,l⟩,t.2⟩;exact⟨qs,e,l,λq hq=>(rs q hq).1,λhb=>a8g λd hd=>let ⟨q,_,_,_,_,t⟩:=(h d hd).ex;t.1 hb,λhb q hq=>(rs q hq).2 hb⟩
theorem aa7{b:Bool}{dp k m:Nat}{es:List D}(h:∀e∈es,Cl b dp k e)(l:es.length<=m):Cl b (dp+1) (m*(k+2)+3) (.tup es):=by
 obtain⟨qs,e,ql,rs,t1,t2⟩:=axm h;refine⟨jx.mpr λx hx=>(h x hx).p.clo,.tuple qs,by simp only[toPy,e,Option.map_some],a5p λq hq=>(rs q hq).1,?_,?_,λhb=>t1 hb,λhb=>a5q (t2 hb)⟩
 .have:=a3y (k:=dp) λq hq=>(rs q hq).2.1
  simp only[PyData.depth];omega
 .have h1:=a8h (k:=k) λq hq=>(rs q hq).2.2;have h2:=a4w (PyData.shownAll qs);show(tupleText (PyData.shownAll qs)).length<=_;have:qs.length*(k+2)<=m*(k+2):=Nat.mul_le_mul_right _ (by omega)
  omega
theorem aic{dp k m:Nat}{es:List D}(h:∀e∈es,Cl false dp k e)(l:es.length<=m):Cl false (dp+1) (m*(k+2)+3) (.rol es):=by
 obtain⟨qs,e,ql,rs,t1,t2⟩:=axm h;refine⟨jx.mpr λx hx=>(h x hx).p.clo,.list qs,by simp only[toPy,e,Option.map_some],a5p λq hq=>(rs q hq).1,?_,?_,λhb=>(by cases hb),λhb=>a5q (t2 hb)⟩
 .have:=a3y (k:=dp) λq hq=>(rs q hq).2.1
  simp only[PyData.depth];omega
 .have h1:=a8h (k:=k) λq hq=>(rs q hq).2.2;have h2:=abb (PyData.shownAll qs);show(listText (PyData.shownAll qs)).length<=_;have:qs.length*(k+2)<=m*(k+2):=Nat.mul_le_mul_right _ (by omega)
  omega
theorem aid{b:Bool}{l:List Nat}(hl:l.length<=600)(hc:∀c∈l,c<127):Cl b 1 (10*l.length+10) (sD l):=by
 refine⟨by simp only[Pln,a1i];omega,.str (S l),rfl,rfl,by simp[PyData.depth],?_,λ_=>rfl,λ_=>rfl⟩
 have:=StrLaws.reprText_len (S l) (by rw[a1i];intro c h;have:=hc c h;omega)
 have e:=adz l;show(reprText (S l)).length<=_;omega
theorem ad3{b:Bool}{l:List Nat}(hl:l.length<=600)(hc:∀c∈l,c<127):Cl b 1 6100 (sD l):=(aid hl hc).up (by omega) (by omega)
theorem aie{b:Bool}(h:T.Ok){l:List Nat}{m:Nat}(w:WdL T m l)(hm:m<=600):Cl b 1 6100 (sD l):=ad3 (by have:=w.1;omega) λc hc=>a2f c (h.tong.sub c (w.2 c hc))
theorem a7e{b:Bool}{n:Nat}(hn:n<40):Cl b 1 100 (ak n):=by
 have:∀n,n<40->(PyData.showable (.int ((n:Nat):Int)))=true/\(PyData.shown (.int ((n:Nat):Int))).length<=60:=by decide +kernel
 exact⟨trivial,.int n,rfl,(this n hn).1,by simp[PyData.depth],by have:=(this n hn).2;omega,λ_=>rfl,λ_=>rfl⟩
theorem ale{b c:Bool}:Cl b 1 100 (.bl c):=⟨trivial,.bool c,rfl,rfl,by simp[PyData.depth],by cases c<;>decide +kernel,λ_=>rfl,λ_=>rfl⟩
theorem axn{b:Bool}:Cl b 1 100 .non:=⟨trivial,.none,rfl,rfl,by simp[PyData.depth],by decide +kernel,λ_=>rfl,λ_=>rfl⟩
theorem an9{b:Bool}{d1 d2 k1 k2:Nat}{x y:D}(hx:Cl b d1 k1 x)(hy:Cl b d2 k2 y)(hd:d1<=50/\d2<=50)(hk:k1+k2<=16700000):∃q,toPy (.tup [x,y])=some q/\okR (.tup [x,y]) q:=by
 obtain⟨p1,q1,e1,s1,c1,l1,t1⟩:=hx;obtain⟨p2,q2,e2,s2,c2,l2,t2⟩:=hy;refine⟨.tuple [q1,q2],by simp only[toPy,a87,e1,e2,Option.map_some],λz=>?_,a5p λq hq=>?_,?_,?_⟩
 .cases b with
  |true =>
   exact a8g λd hd=>by
    simp only[List.mem_cons,List.not_mem_nil,or_false]at hd
    rcases hd with rfl|rfl
    .exact t1.1 rfl
    .exact t2.1 rfl
  |false =>
   have:PyData.hasDict (.tuple [q1,q2])=false:=a5q λq hq=>by
    simp only[List.mem_cons,List.not_mem_nil,or_false]at hq
    rcases hq with rfl|rfl
    .exact t1.2 rfl
    .exact t2.2 rfl
   rw[this]at z;cases z
 .simp only[List.mem_cons,List.not_mem_nil,or_false]at hq
  rcases hq with rfl|rfl
  .exact s1
  .exact s2
 .have:=a3y (k:=50) (qs:=[q1,q2]) λq hq=>by
   simp only[List.mem_cons,List.not_mem_nil,or_false]at hq
   rcases hq with rfl|rfl<;>omega
  simp only[PyData.depth];omega
 .have h2:=a4w (PyData.shownAll [q1,q2]);have:piled (PyData.shownAll [q1,q2])=q1.shown.length+2+(q2.shown.length+2):=by simp[PyData.shownAll,piled]
  show(tupleText (PyData.shownAll [q1,q2])).length<=16777216;omega
noncomputable def things:List D:=[.non,.str (S []),.bl true,.bl false,.int 0,.int 1,.rol [],.tup [],.rol [.str (S [97])],.tup [.str (S [97])],.rod [] [],.str (S [9]),.tup [.int 0,.int 1],.tup [.int 0,.int 1,.str (S [])],.rol [.int 0,.int 1,.str (S [97])],.str (S [97,98])]
theorem alf{d:D}(p:Pln d)(nt:isTup d=false):Th d:=⟨p,λxs e=>by subst e;cases nt⟩
theorem axo{xs:List D}(xl:xs.length<=1000)(px:∀x∈xs,Pln x):Th (.tup xs):=⟨jx.mpr λx hx=>(px x hx).clo,λys e=>by cases e;exact⟨xl,px⟩⟩
theorem ad4{d:D}(p:Pln d)(nt:isTup d=false):Th2 d:=⟨p,λxs e=>by subst e;cases nt⟩
theorem a8l{xs:List D}(xl:xs.length<=1000)(px:∀x∈xs,Th x):Th2 (.tup xs):=⟨jx.mpr λx hx=>(px x hx).p.clo,λys e=>by cases e;exact⟨xl,px⟩⟩
theorem Th2.th{d:D}(t:Th2 d):Th d:=⟨t.p,λxs e=>let ⟨a,b⟩:=t.el xs e; ⟨a,λx hx=>(b x hx).p⟩⟩
structure Thn (b:Bool) (d:D):Prop where
 c:Cl b 2 400 d
 t:Th2 d
theorem ayb{b:Bool}{es:List D}(h:∀e∈es,Cl b 1 100 e/\isTup e=false)(l:es.length<=3):Thn b (.tup es):=⟨(aa7 (m:=3) (λe he=>(h e he).1) l).up (by omega) (by omega),a8l (by omega) λx hx=>alf (h x hx).1.p (h x hx).2⟩
theorem b0e{es:List D}(h:∀e∈es,Cl false 1 100 e)(l:es.length<=3):Thn false (.rol es):=by
 have c:=(aic (m:=3) h l).up (dp':=2) (k':=400) (by omega) (by omega)
 exact⟨c,ad4 c.p rfl⟩
theorem atm{b:Bool}{d:D}(h:Cl b 1 100 d)(nt:isTup d=false):Thn b d:=⟨h.up (by omega) (by omega),ad4 h.p nt⟩
theorem aa8:∀d∈things,∃b,Thn b d:=by
 have s:∀l:List Nat,l.length<=2->(∀c∈l,c<127)->Cl false 1 100 (sD l):=λl a c=>(aid (by omega) c).up (by omega) (by omega)
 have n0:Cl false 1 100 (.int 0):=a7e (n:=0) (by omega)
 have n1:Cl false 1 100 (.int 1):=a7e (n:=1) (by omega)
 have sa:Cl false 1 100 (.str (S [97])):=s [97] (by simp) (by decide)
 intro d hd
 simp only[things,List.mem_cons,List.not_mem_nil,or_false]at hd
 rcases hd with rfl|rfl|rfl|rfl|rfl|rfl|rfl|rfl|rfl|rfl|rfl|rfl|rfl|rfl|rfl|rfl
 .exact⟨false,atm axn rfl⟩
 .exact⟨false,atm (s [] (by simp) (by simp)) rfl⟩
 .exact⟨false,atm ale rfl⟩
 .exact⟨false,atm ale rfl⟩
 .exact⟨false,atm n0 rfl⟩
 .exact⟨false,atm n1 rfl⟩
 .exact⟨false,b0e (by simp) (by simp)⟩
 .exact⟨false,ayb (by simp) (by simp)⟩
 .exact⟨false,b0e (λx hx=>by rw[List.mem_singleton]at hx;subst hx;exact sa) (by simp)⟩
 .exact⟨false,ayb (λx hx=>by rw[List.mem_singleton]at hx;subst hx;exact⟨sa,rfl⟩) (by simp)⟩
 .have c:Cl true 2 400 (.rod [] []):=⟨show clos 0 [] from j6,.dict [],rfl,rfl,by simp[PyData.depth,PyData.depthKv],by decide +kernel,λ_=>rfl,λz=>by cases z⟩
  exact⟨true,c,ad4 c.p rfl⟩
 .exact⟨false,atm (s [9] (by simp) (by decide)) rfl⟩
 .refine⟨false,ayb (λx hx=>?_) (by simp)⟩
  simp only[List.mem_cons,List.not_mem_nil,or_false]at hx
  rcases hx with rfl|rfl
  .exact⟨n0,rfl⟩
  .exact⟨n1,rfl⟩
 .refine⟨false,ayb (λx hx=>?_) (by simp)⟩
  simp only[List.mem_cons,List.not_mem_nil,or_false]at hx
  rcases hx with rfl|rfl|rfl
  .exact⟨n0,rfl⟩
  .exact⟨n1,rfl⟩
  .exact⟨s [] (by simp) (by simp),rfl⟩
 .refine⟨false,b0e (λx hx=>?_) (by simp)⟩
  simp only[List.mem_cons,List.not_mem_nil,or_false]at hx
  rcases hx with rfl|rfl|rfl
  .exact n0
  .exact n1
  .exact sa
 .exact⟨false,atm (s [97,98] (by simp) (by decide)) rfl⟩
noncomputable def du:SF:=kj xq 3
theorem a6o{ws:List D}{k:Nat}{d:D}(cw:clos 0 ws)(cd:MI.clo 0 d)(wl:ws.length<=1000):Pu du 3 [.tup ws,ak k,d] (.tup (ws.take k++[d]++ws.drop (k+1))):=K23.a6o cw cd wl
noncomputable def lq:SF:=kj a05 2
theorem ad5(k:Nat):∃b d,Thn b d/\Pu lq 1 [ak k] d:=by
 have hk:k%16<things.length:=Nat.mod_lt _ (by decide)
 have ck:∀d∈things,MI.clo 0 d:=λd hd=>let ⟨b,t⟩:=aa8 d hd;t.c.p.clo;obtain⟨b,tb⟩:=aa8 _ (List.getElem_mem hk);refine⟨b,things[k%16],tb,Pu.of rfl (by intro x hx;rw[List.mem_singleton]at hx;subst hx;exact bc _) (r:=.ok things[k%16] []) ?_ (j4 (ck _ (List.getElem_mem hk)) (by simp)) (ck _ (List.getElem_mem hk))⟩
 unfold lq;rw[dh];show toR (a05 [some (ak k),none] [])=_;unfold a05;have zl:∀τ:Sd,sZ (sA a1o au) τ []=.ok (.rol []) []:=λτ=>a1f (xs:=[]) rfl j6 (by simp)
 have z1:∀(τ:Sd) (d:D),MI.clo 0 d->sZ (sA a1o (aa (sC d) au)) τ []=.ok (.rol [d]) []:=λτ d cd=>a1f (xs:=[d]) rfl (bh cd j6) (by simp)
 have z3:∀(τ:Sd),sZ (sA a1o (aa (sI 0) (aa (sI 1) (aa (sC (.str "a")) au)))) τ []=.ok (.rol [.int 0,.int 1,.str (S [97])]) []:=λτ=>a1f (xs:=[.int 0,.int 1,.str (S [97])]) rfl (bh (bc _) (bh (bc _) (bh (jk _) j6))) (by simp)
 have cz:∀τ:Sd,_=R.ok (D.rol things) []:=λτ=>a1f (f:=(sA a1o (aa (sC .non) (aa (sC (.str "")) (aa (sC (.bl true)) (aa (sC (.bl false)) (aa (sI 0) (aa (sI 1) (aa (sZ (sA a1o au)) (aa (sA uc au) (aa (sZ (sA a1o (aa (sC (.str "a")) au))) (aa (sA uc (aa (sC (.str "a")) au)) (aa (sZ ajp) (aa (sC (.str "\t")) (aa (sA uc (aa (sI 0) (aa (sI 1) au))) (aa (sA uc (aa (sI 0) (aa (sI 1) (aa (sC (.str "")) au)))) (aa (sZ (sA a1o (aa (sI 0) (aa (sI 1) (aa (sC (.str "a")) au))))) (aa (sC (.str "ab")) au)))))))))))))))))) (τ:=τ) (h:=[]) (xs:=things) (by
  have ar:=cns (τ:=τ) (a5f .non τ []) (cns (a5f (.str "") τ []) (cns (a5f (.bl true) τ []) (cns (a5f (.bl false) τ []) (cns (a5f (.int 0) τ []) (cns (a5f (.int 1) τ []) (cns (zl τ) (cns (b1b PAP.b34) (cns (z1 τ (.str "a") (jk _)) (cns (ue (a5f (.str "a") τ []) PAP.aya) (cns (K23.axl (τ:=τ)) (cns (a5f (.str "\t") τ []) (cns (o9 (a5f (.int 0) τ []) (a5f (.int 1) τ []) ae2) (cns (a1l (a5f (.int 0) τ []) (a5f (.int 1) τ []) (a5f (.str "") τ []) arn) (cns (z3 τ) (cns (a5f (.str "ab") τ []) (show au τ []=.ok [] [] from rfl))))))))))))))))
  exact aoo ar rfl) (jx.mpr ck) (by simp)
 refine ets (cz _) ?_;refine congrArg toR (jr (gh (aq rfl) (gh (aq rfl) (ue (aq rfl) a1j) (a4u (by decide))) ?_))
 rw[show((k:Int)%((things.length:Nat):Int))=((k%16:Nat):Int) from rfl]
 exact awv (List.getElem?_eq_getElem hk)
end
end K30
namespace K30
open L2 MI AT HND EVX K22 K23 PRS
open STP (a0h zpD a1b cds)
open K21 (txt a2e abe a4n a3z)
open K40 (rw' a4o a1a go1 aa1 isI isB aa0 a4x a78 Th a4y yx a5g orB aeg amt amu a9z)
section
variable{T:Table}
noncomputable def ik:SF:=kj (jz j8) 5
def Asc(l:List Nat):Prop:=∀c∈l,c<127
theorem a6p{a b:List Nat}(ha:Asc a)(hb:Asc b):Asc (a++b):=λc hc=>(List.mem_append.mp hc).elim (ha c) (hb c)
theorem a8m{a:List Nat}(n:Nat)(ha:Asc a):Asc (a.take n):=λc hc=>ha c (List.mem_of_mem_take hc)
theorem a8n{a:List Nat}(n:Nat)(ha:Asc a):Asc (a.drop n):=λc hc=>ha c (List.mem_of_mem_drop hc)
theorem ad6(h:T.Ok){l:List Nat}(ll:l.length<=580)(lt:Asc l)(a:Nat):∃m,m.length<=l.length+1/\Asc m/\Pu ik 3 [.str (S T.tg),sD l,ak a] (sD m):=by
 have s6:=h.tong.hi;have sl:=ahc;have tl:(T.tg++sig).length=T.tg.length+95:=by rw[List.length_append,sl]
 have hj:(a / 7)%(T.tg.length+95)<(T.tg++sig).length:=by rw[tl];exact Nat.mod_lt _ (by omega)
 have hc:(T.tg++sig)[(a / 7)%(T.tg.length+95)]<127:=by
  rcases List.mem_append.mp (List.getElem_mem hj) with z|z
  .exact a2f _ (h.tong.sub _ z)
  .exact a2f _ z
 have gj:(T.tg++sig)[(a / 7)%(T.tg.length+95)]? = some (T.tg++sig)[(a / 7)%(T.tg.length+95)]:=List.getElem?_eq_getElem hj
 generalize (T.tg++sig)[(a / 7)%(T.tg.length+95)]=c at hc gj
 have at':(a / 3)%(l.length+1)<=l.length:=by have:=Nat.mod_lt (a / 3) (by omega:0<l.length+1);omega
 generalize hk:(a / 3)%(l.length+1)=k at at'
 have ac:Asc [c]:=λx hx=>by rw[List.mem_singleton.mp hx];exact hc
 have fin:∀m:List Nat,toR (jz j8 [some (.str (S T.tg)),some (sD l),some (ak a),none,none] [])=.ok (sD m) []->Pu ik 3 [.str (S T.tg),sD l,ak a] (sD m):=λm e=>by
  refine Pu.of rfl (a2e (jk _) (jk _) (bc _)) (r:=.ok (sD m) []) ?_ (j4 (jk _) (by simp)) (jk _)
  rw[<-e];unfold ik;rw[dh];rfl
 have L:∀n:Nat,n<=1000->n<=LINE:=λn hn=>dm (by omega)
 let τ0:Sd:=[some (.str (S T.tg)),some (sD l),some (ak a),some (ak k),some (sD [c])]
 have st:∀g:SS,cj (j7 3 (s2 a2i (s2 a69 (sV 2) (sI 3)) (s2 dw (sA m9 (aa (sV 1) au)) (sI 1)))) (cj (j7 4 (s2 gIx (s2 dw (sV 0) (sA (dj false 0 j8) au)) (s2 a2i (s2 a69 (sV 2) (sI 7)) (s2 dw (sA m9 (aa (sV 0) au)) (sI 95))))) g) [some (.str (S T.tg)),some (sD l),some (ak a),none,none] []=g τ0 []:=λg=>by
  have d3:∀hh,a69 (ak a) (.int 3) hh=.ok (ak (a / 3)) hh:=λhh=>(div_ii (by decide)).trans rfl
  have d7:∀hh,a69 (ak a) (.int 7) hh=.ok (ak (a / 7)) hh:=λhh=>(div_ii (by decide)).trans rfl
  have m1:∀hh,a2i (ak (a / 3)) (.int ((l.length:Nat)+1)) hh=.ok (ak k) hh:=λhh=>by
   rw[a4u (by omega),<-hk]
   rfl
  have m2:∀hh,a2i (ak (a / 7)) (.int ((T.tg.length:Nat)+95)) hh=.ok (ak ((a / 7)%(T.tg.length+95))) hh:=λhh=>by
   rw[a4u (by omega)]
   rfl
  refine Eq.trans (jo (gh (gh (aq (i:=2) rfl) ckk (d3 _)) (gh (ue (aq (i:=1) rfl) (ab7 (L _ (by omega)))) ckk ux) (m1 _))) ?_
  exact jo (gh (gh (aq (i:=0) rfl) (b1b (acl _)) (a5d (L _ (by omega)))) (gh (gh (aq (i:=2) rfl) ckk (d7 _)) (gh (ue (aq (i:=0) rfl) (ab7 (L _ (by omega)))) ckk ux) (m2 _)) (ay0 (L _ (by omega)) gj))
 have m3:∀hh,a2i (ak a) (.int 3) hh=.ok (ak (a%3)) hh:=λhh=>by
  rw[a4u (by omega)]
  rfl
 have to:a1e (sV 1) oN (oS (sV 3)) τ0 []=.ok (sD (l.take k)) []:=a4n (aq (i:=1) rfl) rfl (a3z (aq (i:=3) rfl)) (b1a (l:=l) k (L _ (by omega)))
 have fr:a1e (sV 1) (oS (sV 3)) oN τ0 []=.ok (sD (l.drop k)) []:=a4n (aq (i:=1) rfl) (a3z (aq (i:=3) rfl)) rfl (ah9 (l:=l) k (L _ (by omega)))
 have fr1:a1e (sV 1) (oS (s2 dw (sV 3) (sI 1))) oN τ0 []=.ok (sD (l.drop (k+1))) []:=a4n (aq (i:=1) rfl) (a3z (gh (aq (i:=3) rfl) ckk ux)) rfl (ah9 (l:=l) (k+1) (L _ (by omega)))
 have ad:s2 dw (a1e (sV 1) oN (oS (sV 3))) (sV 4) τ0 []=.ok (sD (l.take k++[c])) []:=gh to (aq (i:=4) rfl) (a5d (L _ (by simp only[List.length_take,List.length_singleton];omega)))
 by_cases h0:a%3=0
 .refine⟨l.take k++[c]++l.drop k,by simp only[List.length_append,List.length_take,List.length_drop,List.length_singleton];omega,a6p (a6p (a8m _ lt) ac) (a8n _ lt),fin _ ?_⟩
  unfold jz;rw[st];exact congrArg toR (a07 (ifr (t2s (gh (aq (i:=2) rfl) ckk (m3 _)) ckk (a0y (by omega))) (gh ad fr (a5d (L _ (by simp only[List.length_append,List.length_take,List.length_drop,List.length_singleton];omega))))))
 .by_cases h1:a%3=1
  .refine⟨l.take k++l.drop (k+1),by simp only[List.length_append,List.length_take,List.length_drop];omega,a6p (a8m _ lt) (a8n _ lt),fin _ ?_⟩
   unfold jz;rw[st];refine eti (t2s (gh (aq (i:=2) rfl) ckk (m3 _)) ckk (a08 (by omega))) ?_
   exact congrArg toR (a07 (ifr (t2s (gh (aq (i:=2) rfl) ckk (m3 _)) ckk (a0y (by omega))) (gh to fr1 (a5d (L _ (by simp only[List.length_take,List.length_drop];omega))))))
  .refine⟨l.take k++[c]++l.drop (k+1),by simp only[List.length_append,List.length_take,List.length_drop,List.length_singleton];omega,a6p (a6p (a8m _ lt) ac) (a8n _ lt),fin _ ?_⟩
   unfold jz;rw[st];refine eti (t2s (gh (aq (i:=2) rfl) ckk (m3 _)) ckk (a08 (by omega))) ?_
   refine eti (t2s (gh (aq (i:=2) rfl) ckk (m3 _)) ckk (a08 (by omega))) ?_
   exact congrArg toR (jr (gh ad fr1 (a5d (L _ (by simp only[List.length_append,List.length_take,List.length_drop,List.length_singleton];omega)))))
end
section
variable{T:Table}
noncomputable def ig:SF:=kj (vf ik lq du) 7
noncomputable abbrev rw3(x y z:D):D:=.tup [x,y,z]
theorem el3{b:Bool}{x y z:D}(hx:Cl b 2 6100 x)(hy:Cl b 2 6100 y)(hz:Cl b 2 6100 z):Cl b 3 18400 (rw3 x y z)/\Th (rw3 x y z):=by
 have al:∀e∈[x,y,z],Cl b 2 6100 e:=λe he=>by
  simp only[List.mem_cons,List.not_mem_nil,or_false]at he
  rcases he with rfl|rfl|rfl
  .exact hx
  .exact hy
  .exact hz
 exact⟨(aa7 (m:=3) al (by simp)).up (by omega) (by omega),axo (by simp) λe he=>(al e he).p⟩
structure Ppr (m:Nat) (p:D):Prop where
 cl:∃b,Cl b 4 (m*18402+3) p
 t:Th2 p
theorem a4q{b:Bool}{m:Nat}{es:List D}(h:∀e∈es,Cl b 3 18400 e/\Th e)(l:es.length<=m)(hm:m<=1000):Ppr m (.tup es):=⟨⟨b,aa7 (λe he=>(h e he).1) l⟩,a8l (by omega) λe he=>(h e he).2⟩
structure Pps (ps:List D):Prop where
 el:∀b,∀p∈ps,Cl b 3 18400 p/\Th p
 k:(∀p∈ps,∃l:List Nat,l.length<=520/\Asc l/\p=sD l)\/∀p∈ps,∃(x y:Nat) (l:List Nat),x<40/\y<40/\l.length<=520/\Asc l/\p=rw3 (ak x) (ak y) (sD l)
theorem a8o{ws:List D}{d:D}{k:Nat}{x:D}(hx:x∈ws.take k++[d]++ws.drop (k+1)):x∈ws\/x=d:=by
 simp only[List.mem_append,List.mem_singleton]at hx
 rcases hx with(hx|rfl)|hx
 .exact .inl (List.mem_of_mem_take hx)
 .exact .inr rfl
 .exact .inl (List.mem_of_mem_drop hx)
theorem a8p{ws:List D}{d:D}{k:Nat}:(ws.take k++[d]++ws.drop (k+1)).length<=ws.length+1:=by
 simp only[List.length_append,List.length_take,List.length_singleton,List.length_drop];omega
theorem aa9(h:T.Ok){ps:List D}(Q:Pps ps)(pl:ps.length<=500)(w:Int)(a b:Nat):∃p,Ppr (ps.length+2) p/\Pu ig 5 [.str (S T.tg),.tup ps,.int w,ak a,ak b] p:=by
 have cw:clos 0 ps:=jx.mpr λd hd=>(Q.el false d hd).1.p.clo;have fin:∀(p:D) (r:R D),Ppr (ps.length+2) p->aad 0 r=.ok p []->toR (vf ik lq du [some (.str (S T.tg)),some (.tup ps),some (.int w),some (ak a),some (ak b),none,none] [])=r->∃p,Ppr (ps.length+2) p/\Pu ig 5 [.str (S T.tg),.tup ps,.int w,ak a,ak b] p:=λp r ok z e=>by
  refine⟨p,ok,Pu.of rfl ?_ (r:=r) ?_ z ok.t.p.clo⟩
  .intro x hx
   simp only[List.mem_cons,List.not_mem_nil,or_false]at hx
   rcases hx with rfl|rfl|rfl|rfl|rfl
   .exact jk _
   .exact jj cw
   .exact bc _
   .exact bc _
   .exact bc _
  .rw[<-e];unfold ig;rw[dh];rfl
 have fic:∀p:D,Ppr (ps.length+2) p->toR (vf ik lq du [some (.str (S T.tg)),some (.tup ps),some (.int w),some (ak a),some (ak b),none,none] [])=.ok p []->∃p,Ppr (ps.length+2) p/\Pu ig 5 [.str (S T.tg),.tup ps,.int w,ak a,ak b] p:=λp ok e=>fin p _ ok (j4 ok.t.p.clo (by simp)) e
 let Z0:Sd:=[some (.str (S T.tg)),some (.tup ps),some (.int w),some (ak a),some (ak b),none,none]
 have no0:∀(i:Int) (p:SS) (g:SS),w≠i->cj (sIf (sT (s2 hEq (sV 2) (sC (.int i)))) p sNx) g Z0 []=g Z0 []:=λi p g hi=>ifN (t2s (aq (i:=2) rfl) ckk (a08 hi));have yes0:∀(i:Int) (f:SE) (g:SS) (d:D) (h1:Hd),w=i->f Z0 []=.ok d h1->cj (sIf (sT (s2 hEq (sV 2) (sC (.int i)))) (mq f) sNx) g Z0 []=.rt d h1:=λi f g d h1 hi e=>a07 (Eq.trans (ifT (t2s (aq (i:=2) rfl) ckk (a0y hi))) (jr e));have all:∀b,Ppr (ps.length+2) (.tup ps):=λb=>a4q (b:=b) (Q.el b) (by omega) (by omega)
 unfold vf at fin fic
 by_cases h1:w=1
 .refine fin (.rol ps) (.ok (.ref 0) [.lst ps]) ?_ (a3t (Nat.le_refl _) rfl cw (by simp)) ?_
  .have c:=aic (m:=ps.length+2) (λe he=>(Q.el false e he).1) (by omega)
   exact⟨⟨false,c⟩,ad4 c.p rfl⟩
  .rw[yes0 1 _ _ _ _ h1 (ue (aq (i:=1) rfl) rfl)];rfl
 obtain⟨bt,t,th,et⟩:=ad5 b;have tc:Cl bt 3 18400 t/\Th t:=⟨th.c.up (by omega) (by omega),th.t.th⟩
 by_cases h2:w=2
 .refine fic t ⟨⟨bt,th.c.up (by omega) (by omega)⟩,th.t⟩ ?_
  rw[no0 1 _ _ h1,yes0 2 _ _ _ _ h2 (ue (aq (i:=4) rfl) (et _))];rfl
 by_cases h3:w=3
 .refine fic (.tup (ps++[t])) (a4q (b:=bt) (λe he=>?_) (by rw[List.length_append,List.length_singleton];omega) (by omega)) ?_
  .rcases List.mem_append.mp he with z|z
   .exact Q.el bt e z
   .rw[List.mem_singleton.mp z];exact tc
  .rw[no0 1 _ _ h1,no0 2 _ _ h2,yes0 3 _ _ _ _ h3 (gh (aq (i:=1) rfl) (ue (ue (aq (i:=4) rfl) (et _)) PAP.aya) (PAP.abd (by rw[List.length_singleton];omega)))]
   rfl
 have ll:sA m9 (aa (sV 1) au) Z0 []=.ok (ak ps.length) []:=ue (aq (i:=1) rfl) p8
 by_cases h0:ps.length=0\/w=0
 .refine fic _ (all false) ?_;rw[no0 1 _ _ h1,no0 2 _ _ h2,no0 3 _ _ h3];refine congrArg toR (a07 (Eq.trans (ifT (h1:=[]) ?_) (jr (aq (i:=1) rfl))))
  rcases h0 with z|z
  .exact orT (t2s ll ckk (a0y (by rw[z];rfl)))
  .by_cases z2:ps.length=0
   .exact orT (t2s ll ckk (a0y (by rw[z2];rfl)))
   .exact orF (t2s ll ckk (a08 (by omega))) (t2s (aq (i:=2) rfl) ckk (a0y z))
 have p1:ps.length≠0:=λz=>h0 (.inl z);have w0:w≠0:=λz=>h0 (.inr z);have kl:a%ps.length<ps.length:=Nat.mod_lt _ (by omega)
 have jl:b%ps.length<ps.length:=Nat.mod_lt _ (by omega)
 have ek:ps[a%ps.length]? = some ps[a%ps.length]:=List.getElem?_eq_getElem kl;have ej:ps[b%ps.length]? = some ps[b%ps.length]:=List.getElem?_eq_getElem jl;have mk:=List.getElem_mem kl;have mj:=List.getElem_mem jl
 generalize ps[a%ps.length]=wk at ek mk
 generalize ps[b%ps.length]=wj at ej mj
 generalize hk:a%ps.length=k at kl ek
 generalize hj:b%ps.length=j at jl ej
 let τ0:Sd:=[some (.str (S T.tg)),some (.tup ps),some (.int w),some (ak a),some (ak b),some (ak k),none]
 have st:∀g:SS,cj (sIf (sOr (sT (s2 hEq (sA m9 (aa (sV 1) au)) (sI 0))) (sT (s2 hEq (sV 2) (sI 0)))) (mq (sV 1)) sNx) (cj (j7 5 (s2 a2i (sV 3) (sA m9 (aa (sV 1) au)))) g) Z0 []=g τ0 []:=λg=>by
  refine Eq.trans (ifN (orF (t2s ll ckk (a08 (by omega))) (t2s (aq (i:=2) rfl) ckk (a08 w0)))) ?_
  refine jo (gh (aq (i:=3) rfl) ll ?_);rw[a4u (by omega),<-hk]
  rfl
 have no:∀(i:Int) (p:SS) (g:SS),w≠i->cj (sIf (sT (s2 hEq (sV 2) (sC (.int i)))) p sNx) g τ0 []=g τ0 []:=λi p g hi=>ifN (t2s (aq (i:=2) rfl) ckk (a08 hi));have yes:∀(i:Int) (f:SE) (g:SS) (d:D) (h1:Hd),w=i->f τ0 []=.ok d h1->cj (sIf (sT (s2 hEq (sV 2) (sC (.int i)))) (mq f) sNx) g τ0 []=.rt d h1:=λi f g d h1 hi e=>a07 (Eq.trans (ifT (t2s (aq (i:=2) rfl) ckk (a0y hi))) (jr e));have wi:∀{b:Bool} {d:D},Cl b 3 18400 d/\Th d->Ppr (ps.length+2) (.tup (ps.take k++[d]++ps.drop (k+1))):=λ{b d} hd=>a4q (b:=b) (λx hx=>by
  rcases a8o hx with z|rfl
  .exact Q.el b x z
  .exact hd) (by have:=a8p (ws:=ps) (d:=d) (k:=k);omega) (by omega)
 have wth:∀{d:D},MI.clo 0 d->∀hh:Hd,dj false 3 du [.tup ps,ak k,d] hh=.ok (.tup (ps.take k++[d]++ps.drop (k+1))) hh:=λ{d} cd hh=>a6o (k:=k) cw cd (by omega) hh
 have to:a1e (sV 1) oN (oS (sV 5)) τ0 []=.ok (.tup (ps.take k)) []:=a4n (aq (i:=1) rfl) rfl (a3z (aq (i:=5) rfl)) (PAP.ay9 ps k _);have fr:a1e (sV 1) (oS (sV 5)) oN τ0 []=.ok (.tup (ps.drop k)) []:=a4n (aq (i:=1) rfl) (a3z (aq (i:=5) rfl)) rfl (PAP.acq ps k _);have fr1:a1e (sV 1) (oS (s2 dw (sV 5) (sI 1))) oN τ0 []=.ok (.tup (ps.drop (k+1))) []:=a4n (aq (i:=1) rfl) (a3z (gh (aq (i:=5) rfl) ckk ux)) rfl (PAP.acq ps (k+1) _)
 by_cases h4:w=4
 .refine fic (.tup (ps.take k++ps.drop (k+1))) (a4q (b:=false) (λe he=>?_) (by simp only[List.length_append,List.length_take,List.length_drop];omega) (by omega)) ?_
  .rcases List.mem_append.mp he with z|z
   .exact Q.el false e (List.mem_of_mem_take z)
   .exact Q.el false e (List.mem_of_mem_drop z)
  .rw[no0 1 _ _ h1,no0 2 _ _ h2,no0 3 _ _ h3,st,yes 4 _ _ _ _ h4 (gh to fr1 (PAP.abd (by simp only[List.length_take,List.length_drop];omega)))]
   rfl
 by_cases h5:w=5
 .have ec:((ps.drop k).take (k+1-k)).length<=1:=by rw[List.length_take];omega
  have mid:a1e (sV 1) (oS (sV 5)) (oS (s2 dw (sV 5) (sI 1))) τ0 []=.ok (.tup ((ps.drop k).take (k+1-k))) []:=by
   refine a4n (aq (i:=1) rfl) (a3z (aq (i:=5) rfl)) (a3z (gh (aq (i:=5) rfl) ckk ux)) ((PAP.aro ps _ _ _).trans ?_);rw[show((k:Int)+1)=((k+1:Nat):Int) from rfl,aoa]
  refine fic (.tup (ps.take k++(ps.drop k).take (k+1-k)++ps.drop k)) (a4q (b:=false) (λe he=>?_) (by simp only[List.length_append,List.length_take,List.length_drop];omega) (by omega)) ?_
  .simp only[List.mem_append]at he
   rcases he with(z|z)|z
   .exact Q.el false e (List.mem_of_mem_take z)
   .exact Q.el false e (List.mem_of_mem_drop (List.mem_of_mem_take z))
   .exact Q.el false e (List.mem_of_mem_drop z)
  .rw[no0 1 _ _ h1,no0 2 _ _ h2,no0 3 _ _ h3,st,no 4 _ _ h4,yes 5 _ _ _ _ h5 (gh (gh to mid (PAP.abd (by simp only[List.length_take,List.length_drop];omega))) fr (PAP.abd (by simp only[List.length_append,List.length_take,List.length_drop];omega)))]
   rfl
 have mb:∀{τ:Sd},τ[1]? = some (some (.tup ps))->τ[4]? = some (some (ak b))->s2 a2i (sV 4) (sA m9 (aa (sV 1) au)) τ []=.ok (ak j) []:=λt1 t4=>gh (aq t4) (ue (aq t1) p8) ((a4u (by omega)).trans (by rw[<-hj];rfl))
 have ckl:=(Q.el false wk mk).1.p.clo;have ckj:=(Q.el false wj mj).1.p.clo
 by_cases h6:w=6
 .let q:=ps.take k++[wj]++ps.drop (k+1)
  have qm:∀x∈q,x∈ps:=λx hx=>by
   rcases a8o hx with z|rfl
   .exact z
   .exact mj
  have ql:q.length<=ps.length+1:=a8p;have qc:clos 0 q:=jx.mpr λx hx=>jx.mp cw x (qm x hx);refine fic (.tup (q.take j++[wk]++q.drop (j+1))) (a4q (b:=false) (λe he=>?_) (by have:=a8p (ws:=q) (d:=wk) (k:=j);omega) (by omega)) ?_
  .rcases a8o he with z|rfl
   .exact Q.el false e (qm e z)
   .exact Q.el false _ mk
  .rw[no0 1 _ _ h1,no0 2 _ _ h2,no0 3 _ _ h3,st,no 4 _ _ h4,no 5 _ _ h5,yes 6 _ _ _ _ h6 (a1l (a1l (aq (i:=1) rfl) (aq (i:=5) rfl) (gh (aq (i:=1) rfl) (mb rfl rfl) (a1v ej)) (wth ckj _)) (mb rfl rfl) (gh (aq (i:=1) rfl) (aq (i:=5) rfl) (a1v ek)) (a6o (k:=j) qc ckl (by omega) _))]
   rfl
 by_cases h7:w=7
 .refine fic _ (wi tc) ?_;rw[no0 1 _ _ h1,no0 2 _ _ h2,no0 3 _ _ h3,st,no 4 _ _ h4,no 5 _ _ h5,no 6 _ _ h6,yes 7 _ _ _ _ h7 (a1l (aq (i:=1) rfl) (aq (i:=5) rfl) (ue (aq (i:=4) rfl) (et _)) (wth th.t.p.clo _))];rfl
 let τ6:Sd:=[some (.str (S T.tg)),some (.tup ps),some (.int w),some (ak a),some (ak b),some (ak k),some wk]
 have s6:∀g:SS,cj (j7 6 (s2 gIx (sV 1) (sV 5))) g τ0 []=g τ6 []:=λg=>jo (gh (aq (i:=1) rfl) (aq (i:=5) rfl) (a1v ek))
 rcases Q.k with K|K
 .obtain⟨l,ll2,la,rfl⟩:=K wk mk;obtain⟨m,ml,ma,em⟩:=ad6 h (l:=l) (by omega) la b
  have iss:∀hh:Hd,ph [sD l,.ty "str"] hh=.ok (.bl true) hh:=λhh=>by simp[ph,aij,tyD,aed]
  have cm:Cl false 3 18400 (sD m)/\Th (sD m):=⟨(ad3 (by omega) ma).up (by omega) (by omega),alf (by simp only[Pln,a1i];omega) rfl⟩
  refine fic _ (wi cm) ?_;rw[no0 1 _ _ h1,no0 2 _ _ h2,no0 3 _ _ h3,st,no 4 _ _ h4,no 5 _ _ h5,no 6 _ _ h6,no 7 _ _ h7,s6];exact congrArg toR (a07 (ifr (zm (o9 (aq (i:=6) rfl) ckk (iss _)) (m5 _)) (a1l (aq (i:=1) rfl) (aq (i:=5) rfl) (a1l (aq (i:=0) rfl) (aq (i:=6) rfl) (aq (i:=4) rfl) (em _)) (wth (jk _) _))))
 .obtain⟨x,y,l,hx,hy,ll2,la,rfl⟩:=K wk mk;have iss:∀hh:Hd,ph [rw3 (ak x) (ak y) (sD l),.ty "str"] hh=.ok (.bl false) hh:=λhh=>by simp[ph,aij,tyD,aed]
  have g6:∀(p:SS) (g:SS),cj (sIf (a2h (sA ph (aa (sV 6) (aa (sC (.ty "str")) au)))) p sNx) g τ6 []=g τ6 []:=λp g=>ifN (zm (o9 (aq (i:=6) rfl) ckk (iss _)) (m5 _));have no6:∀(i:Int) (p:SS) (g:SS),w≠i->cj (sIf (sT (s2 hEq (sV 2) (sC (.int i)))) p sNx) g τ6 []=g τ6 []:=λi p g hi=>ifN (t2s (aq (i:=2) rfl) ckk (a08 hi));have yes6:∀(i:Int) (f:SE) (g:SS) (d:D) (h1:Hd),w=i->f τ6 []=.ok d h1->cj (sIf (sT (s2 hEq (sV 2) (sC (.int i)))) (mq f) sNx) g τ6 []=.rt d h1:=λi f g d h1 hi e=>a07 (Eq.trans (ifT (t2s (aq (i:=2) rfl) ckk (a0y hi))) (jr e))
  have cx:∀bb,Cl bb 2 6100 (ak x):=λbb=>(a7e hx).up (by omega) (by omega)
  have cy:∀bb,Cl bb 2 6100 (ak y):=λbb=>(a7e hy).up (by omega) (by omega)
  have cs:∀bb,Cl bb 2 6100 (sD l):=λbb=>(ad3 (by omega) la).up (by omega) (by omega)
  have i0:∀hh:Hd,gIx (rw3 (ak x) (ak y) (sD l)) (.int 0) hh=.ok (ak x) hh:=λhh=>a1v (j:=0) rfl;have i1:∀hh:Hd,gIx (rw3 (ak x) (ak y) (sD l)) (.int 1) hh=.ok (ak y) hh:=λhh=>a1v (j:=1) rfl;have i2:∀hh:Hd,gIx (rw3 (ak x) (ak y) (sD l)) (.int 2) hh=.ok (sD l) hh:=λhh=>a1v (j:=2) rfl;have r0:s2 gIx (sV 6) (sI 0) τ6 []=.ok (ak x) []:=gh (aq (i:=6) rfl) ckk (i0 _);have r1:s2 gIx (sV 6) (sI 1) τ6 []=.ok (ak y) []:=gh (aq (i:=6) rfl) ckk (i1 _);have r2:s2 gIx (sV 6) (sI 2) τ6 []=.ok (sD l) []:=gh (aq (i:=6) rfl) ckk (i2 _)
  have w3:∀{d:D} {n:Nat},MI.clo 0 d->∀hh:Hd,dj false 3 du [rw3 (ak x) (ak y) (sD l),ak n,d] hh=.ok (.tup ([ak x,ak y,sD l].take n++[d]++[ak x,ak y,sD l].drop (n+1))) hh:=λ{d n} cd hh=>a6o (k:=n) (bh (bc _) (bh (bc _) (bh (jk _) j6))) cd (by simp) hh
  have clo3:∀{p q r:D},MI.clo 0 p->MI.clo 0 q->MI.clo 0 r->MI.clo 0 (rw3 p q r):=λhp hq hr=>jj (bh hp (bh hq (bh hr j6)))
  by_cases h8:w=8
  .refine fic _ (wi (b:=false) (el3 (cy _) (cx _) (cs _))) ?_;rw[no0 1 _ _ h1,no0 2 _ _ h2,no0 3 _ _ h3,st,no 4 _ _ h4,no 5 _ _ h5,no 6 _ _ h6,no 7 _ _ h7,s6,g6,yes6 8 _ _ _ _ h8 (a1l (aq (i:=1) rfl) (aq (i:=5) rfl) (a1l r1 r0 r2 arn) (wth (clo3 (bc _) (bc _) (jk _)) _))];rfl
  by_cases h9:w=9
  .have cz:sZ (sA a3p (aa (sV 6) au)) τ6 []=.ok (.rol [ak x,ak y,sD l]) []:=a1f (ue (aq (i:=6) rfl) rfl) (bh (bc _) (bh (bc _) (bh (jk _) j6))) (by simp)
   have cr:Cl false 3 18400 (.rol [ak x,ak y,sD l]):=(aic (m:=3) (dp:=2) (k:=6100) (λe he=>by
    simp only[List.mem_cons,List.not_mem_nil,or_false]at he
    rcases he with rfl|rfl|rfl
    .exact cx _
    .exact cy _
    .exact cs _) (by simp)).up (by omega) (by omega)
   refine fic _ (wi ⟨cr,alf cr.p rfl⟩) ?_;rw[no0 1 _ _ h1,no0 2 _ _ h2,no0 3 _ _ h3,st,no 4 _ _ h4,no 5 _ _ h5,no 6 _ _ h6,no 7 _ _ h7,s6,g6,no6 8 _ _ h8,yes6 9 _ _ _ _ h9 (a1l (aq (i:=1) rfl) (aq (i:=5) rfl) cz (wth cr.p.clo _))];rfl
  by_cases h10:w=10
  .obtain⟨bu,u,hu,eu⟩:=ad5 (b / 3);have d3:∀hh,a69 (ak b) (.int 3) hh=.ok (ak (b / 3)) hh:=λhh=>(div_ii (by decide)).trans rfl
   have m3:∀hh,a2i (ak b) (.int 3) hh=.ok (ak (b%3)) hh:=λhh=>(a4u (by omega)).trans rfl
   have cu:Cl bu 2 6100 u:=hu.c.up (by omega) (by omega)
   have er:∃p q r,Cl bu 2 6100 p/\Cl bu 2 6100 q/\Cl bu 2 6100 r/\D.tup ([ak x,ak y,sD l].take (b%3)++[u]++[ak x,ak y,sD l].drop (b%3+1))=rw3 p q r:=by
    have:b%3=0\/b%3=1\/b%3=2:=by omega
    rcases this with z|z|z<;>rw[z]
    .exact⟨u,ak y,sD l,cu,cy _,cs _,rfl⟩
    .exact⟨ak x,u,sD l,cx _,cu,cs _,rfl⟩
    .exact⟨ak x,ak y,u,cx _,cy _,cu,rfl⟩
   obtain⟨p,q,r,hp,hq,hr,er⟩:=er;refine fic _ (wi (b:=bu) (el3 hp hq hr)) ?_;rw[no0 1 _ _ h1,no0 2 _ _ h2,no0 3 _ _ h3,st,no 4 _ _ h4,no 5 _ _ h5,no 6 _ _ h6,no 7 _ _ h7,s6,g6,no6 8 _ _ h8,no6 9 _ _ h9,yes6 10 _ _ _ _ h10 (a1l (aq (i:=1) rfl) (aq (i:=5) rfl) (a1l (aq (i:=6) rfl) (gh (aq (i:=4) rfl) ckk (m3 _)) (ue (gh (aq (i:=4) rfl) ckk (d3 _)) (eu _)) ((w3 hu.t.p.clo _).trans (by rw[er]))) (wth (clo3 hp.p.clo hq.p.clo hr.p.clo) _))]
   rfl
  by_cases h11:w=11
  .have m2:∀hh,a2i (ak b) (.int 2) hh=.ok (ak (b%2)) hh:=λhh=>(a4u (by omega)).trans rfl
   have er:∃(n:Nat) (p q:D),(∀hh,gIx (rw3 (ak x) (ak y) (sD l)) (ak (b%2)) hh=.ok (ak n) hh)/\(∀bb,Cl bb 2 6100 p)/\(∀bb,Cl bb 2 6100 q)/\D.tup ([ak x,ak y,sD l].take (b%2)++[.bl (decide ((n:Int)=1))]++[ak x,ak y,sD l].drop (b%2+1))=rw3 p q (sD l):=by
    have:b%2=0\/b%2=1:=by omega
    rcases this with z|z<;>rw[z]
    .exact⟨x,_,ak y,i0,λ_=>ale.up (by omega) (by omega),cy,rfl⟩
    .exact⟨y,ak x,_,i1,cx,λ_=>ale.up (by omega) (by omega),rfl⟩
   obtain⟨n,p,q,ei,hp,hq,er⟩:=er;refine fic _ (wi (b:=false) (el3 (hp _) (hq _) (cs _))) ?_;rw[no0 1 _ _ h1,no0 2 _ _ h2,no0 3 _ _ h3,st,no 4 _ _ h4,no 5 _ _ h5,no 6 _ _ h6,no 7 _ _ h7,s6,g6,no6 8 _ _ h8,no6 9 _ _ h9,no6 10 _ _ h10,yes6 11 _ _ _ _ h11 (a1l (aq (i:=1) rfl) (aq (i:=5) rfl) (a1l (aq (i:=6) rfl) (gh (aq (i:=4) rfl) ckk (m2 _)) (gh (gh (aq (i:=6) rfl) (gh (aq (i:=4) rfl) ckk (m2 _)) (ei _)) ckk (amt _ _)) ((w3 (qd _) _).trans (by rw[er]))) (wth (clo3 (hp false).p.clo (hq false).p.clo (jk _)) _))]
   rfl
  .obtain⟨m,ml,ma,em⟩:=ad6 h (l:=l) (by omega) la b
   have cm:∀bb,Cl bb 2 6100 (sD m):=λbb=>(ad3 (by omega) ma).up (by omega) (by omega)
   refine fic _ (wi (b:=false) (el3 (cx _) (cy _) (cm _))) ?_;rw[no0 1 _ _ h1,no0 2 _ _ h2,no0 3 _ _ h3,st,no 4 _ _ h4,no 5 _ _ h5,no 6 _ _ h6,no 7 _ _ h7,s6,g6,no6 8 _ _ h8,no6 9 _ _ h9,no6 10 _ _ h10,no6 11 _ _ h11];exact congrArg toR (jr (a1l (aq (i:=1) rfl) (aq (i:=5) rfl) (a1l r0 r1 (a1l (aq (i:=0) rfl) r2 (aq (i:=4) rfl) (em _)) arn) (wth (clo3 (bc _) (bc _) (jk _)) _)))
end
end K30
namespace K30
open L2 MI AT HND EVX K22 K23 PRS
open K40 (Th a5g)
noncomputable def alg:SF:=kj (ah7 ji gq gm nj kh jd ig aj jc ju) 15
theorem alh{T:Table}(h:T.Ok){ws:List (List Nat)}(wt:∀w∈ws,WdL T 40 w):Pps (ws.map sD):=by
 refine⟨λb p hp=>?_,.inl λp hp=>?_⟩<;>obtain⟨w,hw,rfl⟩:=List.mem_map.mp hp
 .have c:=aie (b:=b) h (wt w hw) (by omega)
  exact⟨c.up (by omega) (by omega),alf c.p rfl⟩
 .exact⟨w,by have:=(wt w hw).1;omega,λc hc=>a2f c (h.tong.sub c ((wt w hw).2 c hc)),rfl⟩
theorem ali{T:Table}(h:T.Ok){rs:List PrW}(er:rs.map (·.1)=prs T.go.length)(rt:∀r∈rs,WdL T 501 r.2):Pps (rs.map rwD):=by
 have n32:=h.n32;have lt:∀r∈rs,r.1.1<32/\r.1.2<32:=λr hr=>by
  have:r.1∈prs T.go.length:=by rw[<-er];exact List.mem_map.mpr ⟨r,hr,rfl⟩
  have:=a0p.mp (show(r.1.1,r.1.2)∈prs T.go.length from this)
  omega
 refine⟨λb p hp=>?_,.inr λp hp=>?_⟩<;>obtain⟨r,hr,rfl⟩:=List.mem_map.mp hp
 .obtain⟨h1,h2⟩:=lt r hr;exact el3 ((a7e (by omega)).up (by omega) (by omega)) ((a7e (by omega)).up (by omega) (by omega)) ((aie h (rt r hr) (by omega)).up (by omega) (by omega))
 .obtain⟨h1,h2⟩:=lt r hr;exact⟨r.1.1,r.1.2,r.2,by omega,by omega,by have:=(rt r hr).1;omega,λc hc=>a2f c (h.tong.sub c ((rt r hr).2 c hc)),rfl⟩
theorem axp(ns:List Int):∃h',K30.alg [.scr (ns.map D.int)] []=.ok (.bl true) h':=by
 obtain⟨o,P,e0⟩:=aqb ns [];obtain⟨w,o1,e1,w0,w1,P1⟩:=jm (m:=14) P (by omega) (by omega) (by omega)
 obtain⟨v,o2,e2,v0,v1,P2⟩:=jm (m:=2) P1 (by omega) (by omega) (by omega)
 obtain⟨a,o3,e3,a0,a1,P3⟩:=jm (m:=1000003) P2 (by omega) (by omega) (by omega)
 obtain⟨b,o4,e4,b0,b1,P4⟩:=jm (m:=100003) P3 (by omega) (by omega) (by omega)
 obtain⟨a,rfl⟩:=Int.eq_ofNat_of_zero_le a0;obtain⟨b,rfl⟩:=Int.eq_ofNat_of_zero_le b0;have c1:dj false 2 aj [.ref 0,.int 14] [o]=.ok (.int w) [o1]:=e1 0 _ rfl;have c2:dj false 2 aj [.ref 0,.int 2] [o1]=.ok (.int v) [o2]:=e2 0 _ rfl;have c3:dj false 2 aj [.ref 0,.int 1000003] [o2]=.ok (ak a) [o3]:=e3 0 _ rfl;have c4:dj false 2 aj [.ref 0,.int 100003] [o3]=.ok (ak b) [o4]:=e4 0 _ rfl
 let τ1:Option D->Sd:=λt=>[some (.scr (ns.map D.int)),some (.ref 0),some (.int w),some (.int v),some (ak a),some (ak b),t,none,none,none,none,none,none,none,none]
 obtain⟨T,u,hT,rc,Pu,et⟩:∃(T:Table) (u:O),T.Ok/\(∀r,r<T.go.length->PN.Rch T.go r)/\Hand u (N:=9000)/\∀g:SS,cj (j7 6 (sA (dj false 1 kh) (aa (sV 1) au))) (cj (sIf (sT (s2 hEq (sA (dj false 2 aj) (aa (sV 1) (aa (sI 3) au))) (sI 0))) (j7 6 (sA (dj false 1 ji) (aa (sV 1) au))) sNx) g) (τ1 none) [o4]=g (τ1 (some T.d)) [u]:=by
  obtain⟨T0,o5,h0,r0,e5,P5⟩:=al4 P4 (by omega)
  obtain⟨z,o6,e6,z0,z1,P6⟩:=jm (m:=3) P5 (by omega) (by omega) (by omega)
  obtain⟨T1,o7,h1,r1,e7,P7⟩:=ahy P6 (by omega)
  have c5:dj false 1 kh [.ref 0] [o4]=.ok T0.d [o5]:=e5 0 _ rfl;have c6:dj false 2 aj [.ref 0,.int 3] [o5]=.ok (.int z) [o6]:=e6 0 _ rfl;have c7:dj false 1 ji [.ref 0] [o6]=.ok T1.d [o7]:=e7 0 _ rfl
  by_cases hz:z=0
  .refine⟨T1,o7,h1,r1,P7.up (by omega),λg=>?_⟩
   refine Eq.trans (jo (ue (aq (i:=1) rfl) c5)) ?_;exact xr (Eq.trans (ifT (t2s (o9 (aq (i:=1) rfl) ckk c6) ckk (a0y hz))) (ahh (ue (aq (i:=1) rfl) c7)))
  .refine⟨T0,o6,h0,r0,P6.up (by omega),λg=>?_⟩
   refine Eq.trans (jo (ue (aq (i:=1) rfl) c5)) ?_;exact ifN (t2s (o9 (aq (i:=1) rfl) ckk c6) ckk (a08 hz))
 have n32:=hT.n32;have pf:=a3g hT.n32;obtain⟨ws,u1,wl,wt,e8,P8⟩:=aa4 hT rc Pu (by omega)
 obtain⟨rs,u2,er,rt,e9,P9⟩:=aa5 hT P8 (by omega)
 have c8:dj false 2 gm [.ref 0,T.d] [u]=.ok (.tup (ws.map sD)) [u1]:=e8 0 _ rfl;have c9:dj false 2 gq [.ref 0,T.d] [u1]=.ok (.tup (rs.map rwD)) [u2]:=e9 0 _ rfl;have rl:rs.length<=496:=by have:=congrArg List.length er;rw[List.length_map]at this;omega
 have Qw:=alh hT wt;have Qr:=ali hT er rt;have wl':(ws.map sD).length<=32:=by rw[List.length_map];omega
 have rl':(rs.map rwD).length<=496:=by rw[List.length_map];omega
 have pw:∀bb,Cl bb 4 (32*18402+3) (.tup (ws.map sD)):=λbb=>aa7 (λe he=>(Qw.el bb e he).1) wl';have pr:∀bb,Cl bb 4 (496*18402+3) (.tup (rs.map rwD)):=λbb=>aa7 (λe he=>(Qr.el bb e he).1) rl';have tw:Th2 (.tup (ws.map sD)):=a8l (by omega) λe he=>(Qw.el false e he).2
 have tr:Th2 (.tup (rs.map rwD)):=a8l (by omega) λe he=>(Qr.el false e he).2
 let τ2:D->D->Option D->Option D->Option D->Option D->Sd:=λx y s p q f=>[some (.scr (ns.map D.int)),some (.ref 0),some (.int w),some (.int v),some (ak a),some (ak b),some T.d,some (.tup (ws.map sD)),some (.tup (rs.map rwD)),some x,some y,s,p,q,f]
 have kw:((ws.map sD).length+2)*18402+3<=34*18402+3:=by clear Qw Qr;generalize (ws.map sD).length=n at *;omega
 have kr:((rs.map rwD).length+2)*18402+3<=498*18402+3:=by clear Qw Qr;generalize (rs.map rwD).length=n at *;omega
 have tg0:∀{hh:Hd},gIx T.d (.int 0) hh=.ok (.str (S T.tg)) hh:=λ{hh}=>a1v (j:=0) rfl;obtain⟨x,y,tx,ty,cx,cy,qq,eqq,okq,es⟩:∃x y:D,Th2 x/\Th2 y/\MI.clo 0 x/\MI.clo 0 y/\∃q,toPy (.tup [x,y])=some q/\okR (.tup [x,y]) q/\∀g:SS,cj (sIf (sT (s2 hEq (sV 3) (sI 0))) (j7 9 (sA (dj false 5 ig) (aa (s2 gIx (sV 6) (sI 0)) (aa (sV 7) (aa (sV 2) (aa (sV 4) (aa (sV 5) au))))))) (j7 10 (sA (dj false 5 ig) (aa (s2 gIx (sV 6) (sI 0)) (aa (sV 8) (aa (sV 2) (aa (sV 4) (aa (sV 5) au)))))))) g (τ2 (.tup (ws.map sD)) (.tup (rs.map rwD)) none none none none) [u2]=g (τ2 x y none none none none) [u2]:=by
  by_cases hv:v=0
  .obtain⟨p,⟨⟨bb,cb⟩,tp⟩,ep⟩:=aa9 hT Qw (by omega) w a b
   obtain⟨q,eq,ok⟩:=an9 (cb.up (dp':=4) (k':=34*18402+3) (by omega) (kw)) (pr bb) (by omega) (by omega)
   refine⟨p,_,tp,tr,tp.p.clo,tr.p.clo,q,eq,ok,λg=>?_⟩;exact xr (Eq.trans (ifT (t2s (aq (i:=3) rfl) ckk (a0y hv))) (ahh (aoo (cns (gh (aq (i:=6) rfl) ckk tg0) (cns (aq (i:=7) rfl) (cns (aq (i:=2) rfl) (cns (aq (i:=4) rfl) (cns (aq (i:=5) rfl) rfl))))) (ep _))))
  .obtain⟨p,⟨⟨bb,cb⟩,tp⟩,ep⟩:=aa9 hT Qr (by omega) w a b
   obtain⟨q,eq,ok⟩:=an9 (pw bb) (cb.up (dp':=4) (k':=498*18402+3) (by omega) (kr)) (by omega) (by omega)
   refine⟨_,p,tw,tp,tw.p.clo,tp.p.clo,q,eq,ok,λg=>?_⟩;exact xr (Eq.trans (ifF (t2s (aq (i:=3) rfl) ckk (a08 hv))) (ahh (aoo (cns (gh (aq (i:=6) rfl) ckk tg0) (cns (aq (i:=8) rfl) (cns (aq (i:=2) rfl) (cns (aq (i:=4) rfl) (cns (aq (i:=5) rfl) rfl))))) (ep _))))
 have rp:∀hh,ab4 [.tup [x,y]] hh=.ok (.str qq.shown) hh:=λhh=>by
  unfold ab4;simp only[eqq,if_pos okq]
 have cl1:∀o∈[u2],a1p 1 o:=λo ho=>by rw[List.mem_singleton]at ho;subst ho;exact qj (by omega) P9.clo
 refine⟨[u2],?_⟩;unfold K30.alg;rw[dh];show toR (ah7 ji gq gm nj kh jd ig aj jc ju [some (.scr (ns.map D.int)),none,none,none,none,none,none,none,none,none,none,none,none,none,none] [])=_;unfold ah7;refine ets (ue (aq rfl) e0) ?_;refine ets (o9 (aq (i:=1) rfl) ckk c1) ?_;refine ets (o9 (aq (i:=1) rfl) ckk c2) ?_;refine ets (o9 (aq (i:=1) rfl) ckk c3) ?_;refine ets (o9 (aq (i:=1) rfl) ckk c4) ?_;refine etr (et _) ?_;refine ets (o9 (aq (i:=1) rfl) (aq (i:=6) rfl) c8) ?_;refine ets (o9 (aq (i:=1) rfl) (aq (i:=6) rfl) c9) ?_
 refine ets (aq (i:=7) rfl) ?_;refine ets (aq (i:=8) rfl) ?_;refine etr (es _) ?_;have two:∀{τ:Sd},τ[9]? = some (some x)->τ[10]? = some (some y)->sA ab4 (aa (sA MI.uc (aa (sV 9) (aa (sV 10) au))) au) τ [u2]=.ok (.str qq.shown) [u2]:=λh9 h10=>ue (o9 (aq h9) (aq h10) ae2) (rp _);refine ets (two rfl rfl) ?_
 let L:List (D×D):=[(x,y),(.tup (ws.map sD),.tup (rs.map rwD)),(x,y)]
 have zl:sZ (sA a1o (aa (sA MI.uc (aa (sV 9) (aa (sV 10) au))) (aa (sA MI.uc (aa (sV 7) (aa (sV 8) au))) (aa (sA MI.uc (aa (sV 9) (aa (sV 10) au))) au)))) (τ2 x y (some (.str qq.shown)) none none none) [u2]=.ok (.rol [.tup [x,y],.tup [.tup (ws.map sD),.tup (rs.map rwD)],.tup [x,y]]) [u2]:=by
  refine a1f (aoo (cns (o9 (aq (i:=9) rfl) (aq (i:=10) rfl) ae2) (cns (o9 (aq (i:=7) rfl) (aq (i:=8) rfl) ae2) (cns (o9 (aq (i:=9) rfl) (aq (i:=10) rfl) ae2) rfl))) rfl) ?_ cl1;exact yo (Nat.zero_le 1) (bh (jj (bh cx (bh cy j6))) (bh (jj (bh tw.p.clo (bh tr.p.clo j6))) (bh (jj (bh cx (bh cy j6))) j6)))
 have lp:=my (g:=a3h 2 (jb (kN 12) (jb (kN 13) a3m))) (b:=a5n ji gq gm nj kh jd ig aj jc ju) (λp:D×D=>D.tup [p.1,p.2])
  (λpre τ hh=>∃p q f:Option D,τ=τ2 x y (some (.str qq.shown)) p q f/\hh=[u2]) L (τ2 x y (some (.str qq.shown)) none none none) [u2] ?_ ⟨none,none,none,rfl,rfl⟩
 .obtain⟨τ',h',el,p,q,f,rfl,rfl⟩:=lp;refine etr (a2t (aco zl rfl)) ?_;refine Eq.trans (congrArg (λz=>toR (MI.thn z _)) el) ?_;exact congrArg toR (jr (gh (two rfl rfl) (aq (i:=11) rfl) ((azx _ _).trans (by rw[beq_self_eq_true]))))
 .rintro pre ⟨d1,d2⟩ post τ hh all ⟨p,q,f,rfl,rfl⟩
  have td:Th2 d1/\Th2 d2:=by
   have:(d1,d2)∈L:=by rw[all];simp
   simp only[L,List.mem_cons,List.not_mem_nil,or_false,Prod.mk.injEq]at this
   rcases this with⟨rfl,rfl⟩|⟨rfl,rfl⟩|⟨rfl,rfl⟩
   .exact⟨tx,ty⟩
   .exact⟨tw,tr⟩
   .exact⟨tx,ty⟩
  refine⟨_,_,rfl,τ2 x y (some (.str qq.shown)) (some d1) (some d2) (some (.bl (WB T d1 && RB T d2))),[u2],?_,_,_,_,rfl,rfl⟩;unfold a5n;refine Eq.trans (jo (a1l (aq (i:=6) rfl) (aq (i:=12) rfl) (aq (i:=13) rfl) (ald hT td.1.th td.2 _))) ?_;exact(ifF (orF (arl (zm (o9 (aq (i:=14) rfl) ckk b03) (m5 _))) (t2s (aq (i:=14) rfl) (a5g (o9 (aq (i:=6) rfl) (aq (i:=12) rfl) (abi hT td.1.th _)) λ_=>o9 (aq (i:=6) rfl) (aq (i:=13) rfl) (abj hT td.2 _)) ((aha _ _).trans (by rw[beq_self_eq_true];rfl))))).trans rfl
end K30
namespace K30
open L2 MI
noncomputable def alj(K:Fg):Sp:=λvs H Q _=>∃(a:Addr) (ns:List Int),vs=[.ref a]/\SqF K H a (ns.map V.int)/\ns.length<=63/\∀H',Q (.bl true) H'
theorem aaa{K:Fg}{U:List Addr}{H:Hp}:∀ns:List Int,Reps K U H (ns.map V.int) (ns.map D.int)
 |[]=>.nil
 |n::ns=>.cons (.int n) (aaa ns)
theorem axq{K:Fg}(vs:List V)(H:Hp)(Q:VK)(E:XK)(h:alj K vs H Q E):v4 K 1 K30.alg vs H Q E:=by
 obtain⟨a,ns,rfl,hS,hl,q⟩:=h;obtain⟨h',e⟩:=K30.axp ns;refine⟨rfl,[],[.scr (ns.map D.int)],[],.cons (.scr hS (aaa ns)) .nil,⟨List.nodup_nil,rfl,λi a o z=>by simp at z⟩,?_⟩
 rw[e]
 intro U' H' b g r hr
 cases r
 exact q H'
theorem axr{K:Fg}{H:Hp}{a:Addr}{vs:List V}(hO:Only H)(hS:SqL K H a vs):SqF K H a vs:=by
 rcases hS with r|r
 .rcases r with r|⟨o,r⟩
  .rcases hO a with z|⟨o,xs,z⟩<;>rw[z]at r<;>cases r
  .exact .inl ⟨o,r⟩
 .exact .inr (.inr r)
abbrev fo(x:Str)(t:Stmt)(kV dc pm:Value)(an:Option Addr)(cd ct:Value):=PySem.W.fnOf x x (a3a t) (ym t) (bj t) .none kV dc pm an cd ct
def Df(K:Fg)(f:Addr)(nm:Str)(i:Nat):Prop:=∃oc od kV dc pm an cd ct sl,PySem.W.nsIn K mainGlobals nm=some (some (.ref f))/\K.lookup f=some ⟨oc,od,.func (fo nm (top i) kV dc pm an cd ct),sl⟩/\PySem.W.codeIn K cd nm=true/\PySem.W.keepIn K (.ref f)=true
theorem df{K:Fg}{f:Addr}{nm:Str}{i:Nat}(d:Df K f nm i):∃e,PySem.W.nsIn K mainGlobals nm=some (some (.ref f))/\Fun K nm nm (top i) f e:=by
 obtain⟨_,_,_,_,_,_,_,_,_,a,l,c,k⟩:=d;exact⟨_,a,at9 l c k⟩
theorem u9{P:Program}{w:World}{K:Fg}{mg:Str->Option Value}{base h:Heap}{f:Addr}{nm:Str}{i k:Nat}{F:SF}{N ps:List Str}{b:SS}(S:FnScope N ps (bj (top i)))(d:Df K f nm i)(X:K.In h)(G:h.Ns mainGlobals mg)
  (hb:∀(cdv:Value) (A:Around) (outer:List Env) (s:Shared) (H:Hp) (E:XK),Room k (A.deeper (PyProof.Rows.envOfC nm (bj (top i)) s.heap.objs.size f cdv))->MSs (aif CX0 P w K mg base N nm (bj (top i)) f cdv A outer s H E).nox X0 (ym (top i)) b)
  (h:∀(kV doc pm:Value) (an:Option Addr) (cdv ct:Value) (us:List Value),us.length=ps.length->bindArgs (PySem.W.fnOf nm nm (a3a (top i)) (ym (top i)) (bj (top i)) .none kV doc pm an cdv ct) ⟨us,[]⟩=pure (ps.zip us)) (e:F=kj b N.length:=by rfl) :
  ∃fd,Dn P w K mg base (k+1) nm ps (v4 K ps.length F) f fd:=by
 obtain⟨_,a,Fu⟩:=df d;rw[e];exact⟨_,am8 Fu S hb,PySem.W.mg_of X G a,Fu.kp,Fu.binds h⟩
local macro_rules|`(tactic|walk_at "b") => `(tactic|(intro _ _ _ _ _ _ us hl;first|(apply b0v hl;intro _;exact rfl)|(apply b0w hl;intro _ _;exact rfl)|(apply aw1 hl;intro _ _ _;exact rfl)|(apply b0x hl;intro _ _ _ _;exact rfl)|(apply b0y hl;intro _ _ _ _ _;exact rfl)|(apply b2c hl;intro _ _ _ _ _ _;exact rfl)|(apply len0 hl;exact rfl)))
theorem axs{l:PySem.W.OpenLaw}{w:World}{K:Fg}{h:Heap}{mg:Str->Option Value}{fa f1 f2 f3 f4 f5 f6 f7 f8 f9 f10 f11 f12 f13 f14 f15 f16 f17 f18 f19 f20 f21 f22 f23 f24 f25 f26 f27 f28 f29 f30 f31 f32 f33 f34 f35:Addr}(X:K.In h)(G:h.Ns mainGlobals mg)(hfa:mg "law" = some (.ref fa))
  (d1:Df K f1 "is_number" 1)
  (d2:Df K f2 "is_row" 2)
  (d3:Df K f3 "is_text" 4)
  (d4:Df K f4 "room_from" 6)
  (d5:Df K f5 "rooms_along" 7)
  (d6:Df K f6 "two_rooms" 9)
  (d7:Df K f7 "least_holds" 10)
  (d8:Df K f8 "parts_two" 11)
  (d9:Df K f9 "_law_hand" 13)
  (d10:Df K f10 "_law_take" 14)
  (d11:Df K f11 "_law_signs" 15)
  (d12:Df K f12 "_law_tongue" 16)
  (d13:Df K f13 "_law_goes" 17)
  (d14:Df K f14 "_law_kinds" 18)
  (d15:Df K f15 "_law_shuffled" 19)
  (d16:Df K f16 "_law_split" 20)
  (d17:Df K f17 "_law_copied" 21)
  (d18:Df K f18 "_law_led" 22)
  (d19:Df K f19 "_law_ways" 23)
  (d20:Df K f20 "_law_near" 24)
  (d21:Df K f21 "_law_sizes" 25)
  (d22:Df K f22 "_law_parting" 26)
  (d23:Df K f23 "_law_number" 27)
  (d24:Df K f24 "_law_plain" 28)
  (d25:Df K f25 "_law_good_ways" 29)
  (d26:Df K f26 "_law_good_rows" 30)
  (d27:Df K f27 "_law_is_word" 31)
  (d28:Df K f28 "_law_ways_due" 32)
  (d29:Df K f29 "_law_row_due" 33)
  (d30:Df K f30 "_law_rows_due" 34)
  (d31:Df K f31 "_law_thing" 35)
  (d32:Df K f32 "_law_with" 36)
  (d33:Df K f33 "_law_other_word" 37)
  (d34:Df K f34 "_law_spoilt" 38)
  (d35:Df K f35 "law" 39)
  (z1:PySem.W.nsIn K mainGlobals "abs" = some none) (z2:PySem.W.nsIn K mainGlobals "all" = some none) (z3:PySem.W.nsIn K mainGlobals "bool" = some none) (z4:PySem.W.nsIn K mainGlobals "enumerate" = some none) (z5:PySem.W.nsIn K mainGlobals "int" = some none) (z6:PySem.W.nsIn K mainGlobals "isinstance" = some none) (z7:PySem.W.nsIn K mainGlobals "len" = some none) (z8:PySem.W.nsIn K mainGlobals "list" = some none) (z9:PySem.W.nsIn K mainGlobals "max" = some none) (z10:PySem.W.nsIn K mainGlobals "min" = some none) (z11:PySem.W.nsIn K mainGlobals "range" = some none) (z12:PySem.W.nsIn K mainGlobals "repr" = some none) (z13:PySem.W.nsIn K mainGlobals "str" = some none) (z14:PySem.W.nsIn K mainGlobals "tuple" = some none) (z15:PySem.W.nsIn K mainGlobals "zip" = some none)  :
  ∃fd:FuncData,(∀(s:Shared) (v:Value),BindsTo s fd ⟨[v],[]⟩ [("_law_script",v)])/\∀base:Heap,K.In base->base.Ns mainGlobals mg->FnOk l.prog w K mg base CX0 5 fa fd ["_law_script"] (alj K):=by
 obtain⟨_,a35,F35⟩:=df d35;have e:=hfa.symm.trans (PySem.W.mg_of X G a35);cases e
 obtain⟨oc,od,kV35,dc35,pm35,an35,cd35,ct35,sl,rfl,lk,hc⟩:=id F35.ex;have b35:=F35.binds (ps:=["_law_script"]) (by walk_at "b")
 have M:Nm mg:=⟨PySem.W.mg_none_of X G z1,PySem.W.mg_none_of X G z2,PySem.W.mg_none_of X G z3,PySem.W.mg_none_of X G z4,PySem.W.mg_none_of X G z5,PySem.W.mg_none_of X G z6,PySem.W.mg_none_of X G z7,PySem.W.mg_none_of X G z8,PySem.W.mg_none_of X G z9,PySem.W.mg_none_of X G z10,PySem.W.mg_none_of X G z11,PySem.W.mg_none_of X G z12,PySem.W.mg_none_of X G z13,PySem.W.mg_none_of X G z14,PySem.W.mg_none_of X G z15⟩;refine⟨PySem.W.fnOf "law" "law" (a3a (top 39)) (ym (top 39)) (bj (top 39)) .none kV35 dc35 pm35 an35 cd35 ct35,λs v=>.of_eq rfl,λbase _ _=>?_⟩
 obtain⟨_,D_0⟩:=u9 (F:=K40.qy) (k:=0) b0z d1 X G (m_0 M) (by walk_at "b")
 obtain⟨_,D_1⟩:=u9 (F:=K40.jf) (k:=0) b11 d2 X G (m_1 M) (by walk_at "b")
 obtain⟨_,D_2⟩:=u9 (F:=STP.dq) (k:=0) b12 d3 X G (m_2 M) (by walk_at "b")
 obtain⟨_,D_4⟩:=u9 (F:=STP.je) (k:=0) b14 d5 X G (m_4 ) (by walk_at "b")
 obtain⟨_,D_3⟩:=u9 (F:=STP.bx) (k:=1) b13 d4 X G (m_3 D_4 (by decide)) (by walk_at "b")
 obtain⟨_,D_5⟩:=u9 (F:=K30.iw) (k:=0) b15 d6 X G (m_5 M) (by walk_at "b")
 obtain⟨_,D_7⟩:=u9 (F:=K30.iy) (k:=2) b17 d8 X G (m_7 D_0 (by decide) D_1 (by decide) D_2 (by decide) D_3 (by decide)) (by walk_at "b")
 obtain⟨_,D_6⟩:=u9 (F:=K30.ju) (k:=3) b16 d7 X G (m_6 M D_1 (by decide) D_2 (by decide) D_7 (by decide) D_3 (by decide) D_5 (by decide)) (by walk_at "b")
 obtain⟨_,D_8⟩:=u9 (F:=HND.nj) (k:=0) b18 d9 X G (m_8 M) (by walk_at "b")
 obtain⟨_,D_9⟩:=u9 (F:=HND.aj) (k:=0) b19 d10 X G (m_9 M) (by walk_at "b")
 obtain⟨_,D_10⟩:=u9 (F:=HND.j8) (k:=0) aw2 d11 X G (b2d ) (by walk_at "b")
 obtain⟨_,D_11⟩:=u9 (F:=HND.j9) (k:=1) aw3 d12 X G (b2e M D_10 (by decide) D_9 (by decide)) (by walk_at "b")
 obtain⟨_,D_12⟩:=u9 (F:=HND.jy) (k:=1) aw4 d13 X G (b2f M D_9 (by decide)) (by walk_at "b")
 obtain⟨_,D_13⟩:=u9 (F:=HND.jq) (k:=1) aw5 d14 X G (b2g M D_9 (by decide)) (by walk_at "b")
 obtain⟨_,D_14⟩:=u9 (F:=HND.dz) (k:=1) aw6 d15 X G (b2h M D_9 (by decide)) (by walk_at "b")
 obtain⟨_,D_15⟩:=u9 (F:=K30.qz) (k:=1) aw7 d16 X G (b2j M D_9 (by decide)) (by walk_at "b")
 obtain⟨_,D_16⟩:=u9 (F:=K30.ji) (k:=2) aw8 d17 X G (b2k M D_12 (by decide) D_13 (by decide) D_14 (by decide) D_15 (by decide) D_9 (by decide) D_11 (by decide)) (by walk_at "b")
 obtain⟨_,D_17⟩:=u9 (F:=K30.j5) (k:=0) aw9 d18 X G (b2l ) (by walk_at "b")
 obtain⟨_,D_18⟩:=u9 (F:=K30.nu) (k:=0) awa d19 X G (@b2m _ _ _ _ _ _ _ M) (by walk_at "b")
 obtain⟨_,D_19⟩:=u9 (F:=K30.bf) (k:=0) awb d20 X G (b2n M) (by walk_at "b")
 obtain⟨_,D_20⟩:=u9 (F:=K30.jg) (k:=1) awc d21 X G (b2o M D_19 (by decide)) (by walk_at "b")
 obtain⟨_,D_21⟩:=u9 (F:=K30.di) (k:=0) awd d22 X G (b2p M) (by walk_at "b")
 obtain⟨_,D_22⟩:=u9 (F:=K30.oh) (k:=0) awe d23 X G (b2q M) (by walk_at "b")
 obtain⟨_,D_23⟩:=u9 (F:=K30.kh) (k:=2) awf d24 X G (b2r M D_12 (by decide) D_13 (by decide) D_14 (by decide) D_9 (by decide) D_11 (by decide)) (by walk_at "b")
 obtain⟨_,D_24⟩:=u9 (F:=K30.gm) (k:=1) awg d25 X G (b2s M D_9 (by decide) D_18 (by decide)) (by walk_at "b")
 obtain⟨_,D_25⟩:=u9 (F:=K30.gq) (k:=2) awh d26 X G (b2t M D_21 (by decide) D_20 (by decide) D_9 (by decide)) (by walk_at "b")
 obtain⟨_,D_26⟩:=u9 (F:=K30.fu) (k:=0) awi d27 X G (b2u M) (by walk_at "b")
 obtain⟨_,D_27⟩:=u9 (F:=K30.jc) (k:=1) awj d28 X G (b2v M D_26 (by decide) D_17 (by decide)) (by walk_at "b")
 obtain⟨_,D_28⟩:=u9 (F:=K30.g8) (k:=1) awk d29 X G (b2w M D_26 (by decide) D_17 (by decide) D_22 (by decide)) (by walk_at "b")
 obtain⟨_,D_29⟩:=u9 (F:=K30.jd) (k:=2) awl d30 X G (b2x M D_28 (by decide)) (by walk_at "b")
 obtain⟨_,D_30⟩:=u9 (F:=K30.lq) (k:=0) awm d31 X G (@b2y _ _ _ _ _ _ _ M) (by walk_at "b")
 obtain⟨_,D_31⟩:=u9 (F:=K30.du) (k:=0) awn d32 X G (b2z ) (by walk_at "b")
 obtain⟨_,D_32⟩:=u9 (F:=K30.ik) (k:=1) awo d33 X G (b30 M D_10 (by decide)) (by walk_at "b")
 obtain⟨_,D_33⟩:=u9 (F:=K30.ig) (k:=2) awp d34 X G (b31 M D_32 (by decide) D_30 (by decide) D_31 (by decide)) (by walk_at "b")
 have D_34:Dn l.prog w K mg base 5 "law" ["_law_script"] (v4 K 1 (K30.alg)) _ _:=⟨am8 F35 awq (b32 M D_16 (by decide) D_25 (by decide) D_24 (by decide) D_8 (by decide) D_23 (by decide) D_29 (by decide) D_33 (by decide) D_9 (by decide) D_27 (by decide) D_6 (by decide)),PySem.W.mg_of X G a35,F35.kp,b35⟩
 exact D_34.ok.imp axq
theorem walk{l:PySem.W.OpenLaw}{q:Program}{loose:List Str}{XP:(Str->Option Value)->Heap->Prop}{YP:World->Heap->Prop}{d:DefRec}{K:Params->Fg}(hn:l.most=some 63)(hdf:d.params.defaults=[])
  (hY:∀(w:World) (h:Heap),YP w h->(K w.params).In h)
  (F:∀(w:World) (mg:Str->Option Value) (fa:Addr) (h:Heap),(K w.params).In h->h.Ns mainGlobals mg->mg d.name=some (.ref fa)->
   ∃fd:FuncData,(∀(s:Shared) (u:Value),BindsTo s fd ⟨[u],[]⟩ [("_law_script",u)])/\∀base:Heap,(K w.params).In base->base.Ns mainGlobals mg->FnOk l.prog w (K w.params) mg base CX0 5 fa fd ["_law_script"] (alj (K w.params))) :
  PySem.W.WalkO q loose XP YP l.row.toRowW d [] (λf vs=>PySem.call f vs) :=
 L2.ao0 (n:=63) (k:=5) (x := "_law_script") (CX:=λ_=>CX0) (sp:=λw=>alj (K w.params)) hn (by decide) hdf ⟨rfl,by decide,by decide,rfl⟩ hY F (λ_ _ a ns hl hO hS=>⟨a,ns,rfl,axr hO hS,hl,λ_=>rfl⟩) λ_ _ _ _ _ z=>z
end K30
open PySem.W PyProof.Rows
local macro_rules|`(tactic|o_head $H) => `(tactic|refine PySem.W.holds_open (q:=K30.hq) (loose:=K30.hl) (Xt:=fun _=>true) (XP:=fun _ _=>True) (Yf:=Hook.obs $H) (Ya:=Hook.val $H) (YP:=Hook.says $H) (N:=20000) ?hl (Hook.of $H) (Hook.keeps $H) (fun _ _=>trivial) (fun _ _ _ _ _=>trivial) (by rfl) (by rfl) (by rfl) (fun _ _=>recFacts_nil rfl) (by rfl) (by assumption) (by decide +kernel) ⟨rfl,rfl,rfl,rfl,rfl,by decide +kernel⟩ ?hw ?hc)
set_option maxRecDepth 100000 in
set_option maxHeartbeats 0 in
theorem PySem.Challenge.cw_nearreach_k30_least_looked_at_holds : PySem.Challenge.rw_nearreach_k30_least_looked_at.Holds := by
 w_on;refine holds_law K30.said fun said=>?_;o_head (kHook K30.A.heap_1 [2,3,15,17,18,20,21,22,24,25,27,28,29,32,33,34,36,37,39,40,41,43,44,46,47,48,51,52,53,56,57,58,60,61,63,64,65,67,68,70,71,72,74,75,77,78,79,81,82,84,85,86,88,89,91,92,93,96,97,98,100,101,103,104,105,108,109,110,113,114,115,117,118,120,121,122,124,125,127,128,129,132,133,134,136,137,139,140,141,144,145,146,148,149,151,152,153,155,156,158,159,160,162,163,165,166,167,169,170,172,173,174,176,177,179,180,181,184,185,186,188,189,191,192,193,195,196,198,199,200,202,203,205,206,207,209,210,212,213,214,216,217,219,220,221,223,224,226,227,228,230,231,233,234,235,237,238,240,241] (fun _=>by kernel_rfl))
 (case hw=>w_witness2)
 (case hl=>exact K30.hlok)
 k_fill
 refine K30.walk (l:=PySem.Challenge.rw_nearreach_k30_least_looked_at) rfl rfl (fun w h Y=>PySem.W.kIn_of Y) ?F
 case F =>
  intro w mg fa h KX G hmg
  refine' K30.axs KX G hmg ?_ ?_ ?_ ?_ ?_ ?_ ?_ ?_ ?_ ?_ ?_ ?_ ?_ ?_ ?_ ?_ ?_ ?_ ?_ ?_ ?_ ?_ ?_ ?_ ?_ ?_ ?_ ?_ ?_ ?_ ?_ ?_ ?_ ?_ ?_ ?_ ?_ ?_ ?_ ?_ ?_ ?_ ?_ ?_ ?_ ?_ ?_ ?_ ?_ ?_
  all_goals first | k_is | exact ⟨_,_,_,_,_,_,_,_,_,by k_is,by k_is,by k_is,by k_is⟩ | skip
