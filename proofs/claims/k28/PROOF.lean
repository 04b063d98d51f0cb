import PyProof.Rows.All
import Wide.All
import OpenK.AllK
import Wide.FinOn
import Lean
import PyProof.EqAt
import PyProof.EqKinds
import PyProof.TupleCall
import PyProof.ListStr
import PyProof.TupleOfStr
import PyProof.ConsumeWalk
import PyProof.SliceStr2
import PyProof.CompUse
import PyProof.Rows.SetFrom
import PyProof.SetRoads
import PyProof.StrLawsIn
import PyProof.Rows.StrIndexOr
import PyProof.Rows.StrJoin2
import PyProof.Rows.SumAny
import PyProof.Draws
import PyProof.ZipIter
import PyProof.EnumMake
import PyProof.ListRange
import PyProof.Rows.Range3
import KE.KStateDown
import PyProof.WalkInts
import PyProof.SeqI3
import Wide.Txt2
import PyProof.Rows.SortWalk
import PyProof.ReprRoads
import PyProof.CallFns
import KE.KTryDeep
import PyProof.ExcBaseAll.ValueError
import KE.KTryMore
import KE.KIsNot
import PyProof.ExcAttrAll.ValueError
import PyProof.NsDelKeeps
import PySem.SetOps
import PyProof.SetScanFacts
import PyProof.Walks
import PyProof.CollectWalk
import KE.KRevIter
import PyProof.CollectIter
import PyProof.WalksS
import PyProof.DictItems
import KE.KPairComp
import PyProof.DictUpdate
import PyProof.DictTruth
import PyProof.WalksMore
import PySem.Challenge.RW_nearreach_k28_ways_and_partings
set_option bootstrap.genMatcherCode false
set_option genSizeOf false
noncomputable section
set_option Elab.async false
set_option linter.all false
set_option maxRecDepth 100000
set_option maxHeartbeats 4000000
section
open PySem PySem.W PyProof.Rows
theorem K28.said:PySem.Challenge.rw_nearreach_k28_ways_and_partings.wellSaid=true:=by kernel_rfl
noncomputable def K28.hq:Program:=view PySem.Challenge.pw_nearreach_k28_ways_and_partings [PySem.Challenge.pw_nearreach_k28_ways_and_partings.main.body.length - 1]
noncomputable def K28.hl:List Str:=PySem.Challenge.pw_nearreach_k28_ways_and_partings.boundNames
local macro_rules | `(tactic| o_head $H) => `(tactic| refine PySem.W.holds_open (q:=K28.hq) (loose:=K28.hl) (Xt:=fun _=>true) (XP:=fun _ _=>True) (Yf:=Hook.obs $H) (Ya:=Hook.val $H) (YP:=Hook.says $H) (N:=20000) ?hl (Hook.of $H) (Hook.keeps $H) (fun _ _=>trivial) (fun _ _ _ _ _=>trivial) (by rfl) (by rfl) (by rfl) (fun _ _=>recFacts_nil rfl) (by rfl) (by assumption) (by decide +kernel) ⟨rfl,rfl,rfl,rfl,rfl,by decide +kernel⟩ ?hw ?hc)
set_option maxRecDepth 100000 in
set_option maxHeartbeats 0 in
theorem K28.A (hyp:∀ p:Prop,p):PySem.Challenge.rw_nearreach_k28_ways_and_partings.Holds:=by
 w_on;refine holds_law K28.said fun said=>?_;k_head
 all_goals exact hyp _
set_option maxRecDepth 100000 in
set_option maxHeartbeats 0 in
theorem K28.hlok:LeftO PySem.Challenge.rw_nearreach_k28_ways_and_partings.row.prog K28.hq K28.hl (fun _=>true) (Hook.obs (kHook K28.A.heap_1 [2,3,15,17,18,20,21,22,25,26,27,30,31,32,35,36,37,39,40,42,43,44,46,47,49,50,51,54,55,56,58,59,61,62,63,65,66,68,69,70,72,73,75,76,77,79,80,82,83,84,87,88,89,91,92,94,95,96,99,100,101,104,105,106,108,109,111,112,113,116,117,118,120,121,123,124,125,128,129,130,132,133,135,136,137,139,140,142,143,144,146,147,149,150,151,154,155,156,158,159,161,162,163,165,166,168,169,170,172,173,175,176] (fun _=>by kernel_rfl))) (Hook.val (kHook K28.A.heap_1 [2,3,15,17,18,20,21,22,25,26,27,30,31,32,35,36,37,39,40,42,43,44,46,47,49,50,51,54,55,56,58,59,61,62,63,65,66,68,69,70,72,73,75,76,77,79,80,82,83,84,87,88,89,91,92,94,95,96,99,100,101,104,105,106,108,109,111,112,113,116,117,118,120,121,123,124,125,128,129,130,132,133,135,136,137,139,140,142,143,144,146,147,149,150,151,154,155,156,158,159,161,162,163,165,166,168,169,170,172,173,175,176] (fun _=>by kernel_rfl))) 20000:=by
 intro w
 kernel_rfl
end
abbrev Fg:=PySem.W.Frag
open PySem PySem.Spec
namespace L2
open PyProof.Rows
abbrev Key:=Sum Int Str
noncomputable def abr:Key->Value->Bool
 |.inl k,v=>Value.isInt k v
 |.inr x,v=>Value.isStrOf x v
noncomputable def b03(w:World):Key->Int
 |.inl k=>hashInt k
 |.inr x=>hashStr w x
theorem jz:∀{k:Key} {v:Value},abr k v=true->(∃i t,k=Sum.inl i/\v=Value.int i t)\/(∃x t,k=Sum.inr x/\v=Value.str x t)
 |.inl i,v,h=>by
  obtain⟨t,e⟩:=Value.isInt_shape (k:=i) (v:=v) h;exact .inl ⟨i,t,rfl,e⟩
 |.inr x,v,h=>by
  obtain⟨t,e⟩:=Value.isStrOf_shape (x:=x) (v:=v) h;exact .inr ⟨x,t,rfl,e⟩
theorem ad9(i:Int)(t:Tok):abr (.inl i) (.int i t)=true:=by simp[abr,Value.isInt]
theorem ada(x:Str)(t:Tok):abr (.inr x) (.str x t)=true:=by simp[abr,Value.isStrOf]
theorem aqs(a b:Int):decide ((Sum.inl a:Key)=Sum.inl b)=(a == b):=by
 by_cases e:a=b
 .subst e;simp
 .have h:¬ (Sum.inl a:Key)=Sum.inl b:=λq=>e (Sum.inl.inj q);rw[decide_eq_false h];exact(beq_eq_false_iff_ne.mpr e).symm
theorem aqt(a b:Str):decide ((Sum.inr a:Key)=Sum.inr b)=decide (a=b):=by
 by_cases e:a=b
 .subst e;simp
 .have h:¬ (Sum.inr a:Key)=Sum.inr b:=λq=>e (Sum.inr.inj q);rw[decide_eq_false h,decide_eq_false e]
theorem aqu(a:Int)(b:Str):decide ((Sum.inl a:Key)=Sum.inr b)=false:=decide_eq_false (λq=>nomatch q)
theorem aqv(a:Str)(b:Int):decide ((Sum.inr a:Key)=Sum.inl b)=false:=decide_eq_false (λq=>nomatch q)
noncomputable def gf(prog:Program)(w:World):PySem.KeyKind prog w Key where
 is:=abr
 hash:=b03 w
 inj:=λv a b ha hb=>by
  rcases jz ha with⟨i,t,rfl,rfl⟩|⟨x,t,rfl,rfl⟩
  .rcases jz hb with⟨j,u,rfl,e⟩|⟨y,u,rfl,e⟩
   .injection e with e1 _;rw[e1]
   .exact nomatch e
  .rcases jz hb with⟨j,u,rfl,e⟩|⟨y,u,rfl,e⟩
   .exact nomatch e
   .injection e with e1 _;rw[e1]
 byValue:=λk v h=>by
  rcases jz h with⟨i,t,rfl,rfl⟩|⟨x,t,rfl,rfl⟩<;>rfl
 pyHash:=λhv h=>by
  rcases jz hv with⟨i,t,rfl,rfl⟩|⟨x,t,rfl,rfl⟩
  .exact wpAny_pyHash_int h
  .exact wpAny_pyHash_str h
 eqBool:=λhu hv h=>by
  rcases jz hu with⟨i,t,rfl,rfl⟩|⟨x,t,rfl,rfl⟩
  .rcases jz hv with⟨j,u,rfl,rfl⟩|⟨y,u,rfl,rfl⟩
   .rw[aqs]at h;exact wpAny_eqBool_int h
   .rw[aqu]at h;exact SeqAt.EqAt.int_str i t y u _ _ _ _ h
  .rcases jz hv with⟨j,u,rfl,rfl⟩|⟨y,u,rfl,rfl⟩
   .rw[aqv]at h;exact SeqAt.EqAt.str_int x t j u _ _ _ _ h
   .rw[aqt]at h;exact wpAny_eqBool_str h
 «strs»:=λk x t v h=>by
  rcases jz h with⟨i,u,rfl,e⟩|⟨y,u,rfl,e⟩
  .exact nomatch e
  .injection e with e1 _
   subst e1
   cases v<;>rfl
theorem a98(prog:Program)(w:World)(i:Int)(t:Tok):(gf prog w).is (.inl i) (.int i t)=true:=ad9 i t
theorem a99(prog:Program)(w:World)(x:Str)(t:Tok):(gf prog w).is (.inr x) (.str x t)=true:=ada x t
inductive V where
 |non|bl (b:Bool)|int (i:Int)|str (x:Str)|byt (b:Array UInt8)|flt (b:UInt64)|ref (a:Addr)|ty (n:String)
 deriving DecidableEq
def RelV:V->Value->Prop
 |.non,u=>u=Value.none
 |.bl b,u=>u=Value.bool b
 |.int i,u=>∃t,u=Value.int i t
 |.str x,u=>∃t,u=Value.str x t
 |.byt b,u=>∃t,u=Value.bytes b t
 |.flt b,u=>∃t,u=Value.float b t
 |.ref a,u=>u=Value.ref a
 |.ty n,u=>u=Value.type n
abbrev Vals:List V->List Value->Prop:=Paired RelV
theorem Vals.length(r:Vals xs us):xs.length=us.length:=Paired.length r
theorem Vals.get:∀{xs:List V} {us:List Value} {i:Nat} {x:V},Vals xs us->xs[i]? = some x->∃u,us[i]? = some u/\RelV x u
 |_,_,_,_,.nil,e=>by simp at e
 |_,_,0,_,.cons r _,e=>by simp at e;subst e;exact⟨_,rfl,r⟩
 |_,_,i+1,x,.cons _ t,e=>by
  obtain⟨u,h1,h2⟩:=Vals.get (i:=i) (x:=x) t (by simpa using e)
  exact⟨u,by simpa using h1,h2⟩
theorem Vals.set(r:RelV x u):∀{xs:List V} {us:List Value} (i:Nat),Vals xs us->Vals (xs.set i x) (us.set i u)
 |_,_,_,.nil=>.nil
 |_,_,0,.cons _ t=>.cons r t
 |_,_,i+1,.cons q t=>.cons q (Vals.set r i t)
theorem Vals.append:∀{xs ys:List V} {us ws:List Value},Vals xs us->Vals ys ws->Vals (xs++ys) (us++ws)
 |_,_,_,_,.nil,s=>s
 |_,_,_,_,.cons r t,s=>.cons r (Vals.append t s)
theorem Vals.take:∀{xs:List V} {us:List Value} (n:Nat),Vals xs us->Vals (xs.take n) (us.take n)
 |_,_,0,_=>.nil
 |_,_,_+1,.nil=>.nil
 |_,_,n+1,.cons r t=>.cons r (Vals.take n t)
theorem Vals.drop:∀{xs:List V} {us:List Value} (n:Nat),Vals xs us->Vals (xs.drop n) (us.drop n)
 |_,_,0,r=>r
 |_,_,_+1,.nil=>.nil
 |_,_,n+1,.cons _ t=>Vals.drop n t
def RelO:Option V->Option Value->Prop
 |some v,some u=>RelV v u
 |none,none=>True
 |_,_=>False
def KV{κ:Type}:List (κ×V)->List (κ×Value)->Prop:=Paired λ(p:κ×V) (q:κ×Value)=>p.1=q.1/\RelV p.2 q.2
noncomputable def kV:Key->V
 |.inl i=>.int i
 |.inr x=>.str x
inductive HO where
 |lst (xs:List V)
 |tup (xs:List V)
 |dK (kvs:List (Key×V))|dT (kvs:List (List Key×V))
 |set (S:Int->Bool) (n:Nat)
 |ins (C dx:Addr) (fs:List (Str×V))
 |own (x:Addr)
 |xd (fs:List (Str×V))
 |met (f x:Addr)
 |rng (lo hi:Int)
 |frz (o:Obj) (u:HO)
 |tbl (ps:Array Value)
 |ext (φ:Heap->Prop)
abbrev Hp:=Addr->Option HO
noncomputable def upd(H:Hp)(a:Addr)(o:HO):Hp:=λb=>if b=a then some o else H b
theorem gh:upd H a o a=some o:=by unfold upd;rw[if_pos rfl]
theorem di(h:b≠a):upd H a o b=H b:=by unfold upd;rw[if_neg h]
theorem am7:upd (upd H a o) a u=upd H a u:=by
 funext b;unfold upd;split<;>rfl
theorem adb{H:Hp}{a b:Addr}{o u:HO}(h:H a=some o)(h':H b=some u)(d:o≠u):a≠b:=by
 intro e;subst e;rw[h]at h';exact d (Option.some.inj h')
theorem dq{H:Hp}{a b:Addr}{o:HO}(h:H a=some o)(h':H b=none):a≠b:=by
 intro e;subst e;rw[h]at h';cases h'
section
variable(P:Program)(w:World)
def ObjOk(H:Hp)(h:Heap)(a:Addr):HO->Prop
 |.lst xs=>xs.length<=sizeLine/\∃(its:List Value) (n:Nat),Vals xs its/\h.get? a=some {cls:=.type "list",data:=.seq its.toArray n}
 |.tup xs=>xs.length<=sizeLine/\∃its:List Value,Vals xs its/\IsTup h a its.toArray
 |.dK kvs=>kvs.length<=sizeLine/\(a == sysModules)=false/\∃vs,KV kvs vs/\h.DictOf (gf P w) a vs
 | .dT kvs=>kvs.length<=sizeLine/\(a == sysModules)=false/\∃xs:List (List Key×Addr×Value),
   Paired (λ(p:List Key×V) (q:List Key×Addr×Value)=>p.1=q.1/\H q.2.1=some (.tup (p.1.map kV))/\RelV p.2 q.2.2) kvs xs /\
   ∃o es ep,h.get? a=some o/\o.ExactDict/\o.data=.dict es ep/\es.toList=xs.map (entryOfKey (tupleKind (gf P w)))/\(xs.map (·.1)).Nodup
 |.set S n=>h.SetOf (intKind P w) a S n
 | .ins C dx fs=>H dx=some (.own a)/\fs.length<=1000/\dx≠a/\h.get? a=some (PySem.W.instObj C dx) /\
   ∃mA,h.Ns1 dx mA/\(∀f,RelO (fs.lookup f) (mA f))/\PySem.Within mA (fs.map (·.1))
 |.own _=>∃o,h.get? a=some o
 |.xd fs=>∃mA,h.Ns1 a mA/\∀f,RelO (fs.lookup f) (mA f)
 |.rng lo hi=>∃t u v,h.get? a=some {cls:=.type "range",data:=.fields #[.int lo t,.int hi u,.int 1 v]}
 |.frz o u=>h.get? a=some o/\ObjOk H h a u
 |.tbl ps=>h.get? a=some {cls:=.none,data:=.fields ps}
 |.met f x=>h.get? a=some (PySem.W.methodObj (.ref f) (.ref x))
 |.ext φ=>φ h/\(∃o,h.get? a=some o)/\∀h1 h2:Heap,φ h1->(∀o,h1.get? a=some o->h2.get? a=some o)->φ h2
def HOk(H:Hp)(h:Heap):Prop:=∀a o,H a=some o->ObjOk P w H h a o
end
section
variable{P:Program}{w:World}{H H':Hp}{h h':Heap}{a:Addr}{o:HO}
theorem ObjOk.lt(x:ObjOk P w H h a o):a<h.objs.size:=by
 cases o with
 |lst xs=>obtain⟨_,_,_,_,e⟩:=x;exact Heap.lt_size e
 |tup xs=>obtain⟨_,_,_,p⟩:=x;exact p.lt
 |dK kvs=>obtain⟨_,_,_,_,o,_,_,e,_⟩:=x;exact Heap.lt_size e
 |dT kvs=>obtain⟨_,_,_,_,o,_,_,e,_⟩:=x;exact Heap.lt_size e
 |set S n=>obtain⟨o,_,_,_,e,_⟩:=x;exact Heap.lt_size e
 |ins C dx fs=>obtain⟨_,_,_,e,_⟩:=x;exact Heap.lt_size e
 |own y=>obtain⟨_,e⟩:=x;exact Heap.lt_size e
 |xd fs=>obtain⟨_,⟨_,_,_,e,_⟩,_⟩:=x;exact Heap.lt_size e
 |rng lo hi=>obtain⟨_,_,_,e⟩:=x;exact Heap.lt_size e
 |frz ob u=>obtain⟨e,_⟩:=x;exact Heap.lt_size e
 |tbl ps=>exact Heap.lt_size (show h.get? a=some _ from x)
 |met f y=>exact Heap.lt_size (show h.get? a=some _ from x)
 |ext φ=>obtain⟨_,⟨_,e⟩,_⟩:=x;exact Heap.lt_size e
theorem Paired.mapP{α β:Type}{F G:α->β->Prop}:∀{l₁:List α} {l₂:List β},Paired F l₁ l₂->(∀a b,F a b->G a b)->Paired G l₁ l₂
 |_,_,.nil,_=>.nil
 |_,_,.cons r t,f=>.cons (f _ _ r) (Paired.mapP t f)
theorem ObjOk.stay(x:ObjOk P w H h a o)(k:∀b u,(b=a\/H b=some (.own a))->h.get? b=some u->h'.get? b=some u)
  (ho:∀b,H b=some (.own a)->H' b=some (.own a)) (ht:∀b xs,H b=some (.tup xs)->H' b=some (.tup xs)):ObjOk P w H' h' a o:=by
 induction o with
 |lst xs=>obtain⟨z,its,n,r,e⟩:=x;exact⟨z,its,n,r,k _ _ (.inl rfl) e⟩
 |tup xs=>obtain⟨z,its,r,ob,e,c⟩:=x;exact⟨z,its,r,ob,k _ _ (.inl rfl) e,c⟩
 |dK kvs=>obtain⟨z,y,vs,r,ob,es,ep,e,c⟩:=x;exact⟨z,y,vs,r,ob,es,ep,k _ _ (.inl rfl) e,c⟩
 |dT kvs =>
  obtain⟨z,y,xs,r,ob,es,ep,e,c⟩:=x;exact⟨z,y,xs,Paired.mapP r λp q z=>⟨z.1,ht _ _ z.2.1,z.2.2⟩,ob,es,ep,k _ _ (.inl rfl) e,c⟩
 |set S n=>obtain⟨ob,es,ep,t,e,c⟩:=x;exact⟨ob,es,ep,t,k _ _ (.inl rfl) e,c⟩
 |ins C dx fs =>
  obtain⟨d,z,ne,e,mA,⟨od,es,ep,e2,c⟩,r⟩:=x;exact⟨ho _ d,z,ne,k _ _ (.inl rfl) e,mA,⟨od,es,ep,k _ _ (.inr d) e2,c⟩,r⟩
 |own y=>obtain⟨ob,e⟩:=x;exact⟨ob,k _ _ (.inl rfl) e⟩
 |xd fs=>obtain⟨mA,⟨od,es,ep,e,c⟩,r⟩:=x;exact⟨mA,⟨od,es,ep,k _ _ (.inl rfl) e,c⟩,r⟩
 |rng lo hi=>obtain⟨t,u,v,e⟩:=x;exact⟨t,u,v,k _ _ (.inl rfl) e⟩
 |frz ob u ih=>obtain⟨e,q⟩:=x;exact⟨k _ _ (.inl rfl) e,ih q⟩
 |tbl ps =>
  have e:h.get? a=some {cls:=.none,data:=.fields ps}:=x;show h'.get? a=some {cls:=.none,data:=.fields ps};exact k a _ (.inl rfl) e
 |met f y =>
  have e:h.get? a=some (PySem.W.methodObj (.ref f) (.ref y)):=x;show h'.get? a=some (PySem.W.methodObj (.ref f) (.ref y));exact k a _ (.inl rfl) e
 |ext φ=>obtain⟨p,⟨o,e⟩,st⟩:=x;exact⟨st _ _ p λo q=>k _ _ (.inl rfl) q,⟨o,k _ _ (.inl rfl) e⟩,st⟩
theorem HOk.lt(x:HOk P w H h)(e:H a=some o):a<h.objs.size:=(x a o e).lt
theorem HOk.fresh(x:HOk P w H h)(e:h.objs.size<=a):H a=none:=by
 cases q:H a with
 |none=>rfl
 |some u=>exact absurd (Nat.lt_of_lt_of_le (x.lt q) e) (Nat.lt_irrefl _)
theorem HOk.kept(x:HOk P w H h)(k:∀b u,h.get? b=some u->h'.get? b=some u):HOk P w H h':=λa o e =>
 (x a o e).stay (λb u _ q=>k b u q) (λ_ q=>q) λ_ _ q=>q
theorem HOk.laid(x:HOk P w H h)(k:∀b u,h.get? b=some u->h'.get? b=some u)(hp:h.objs.size<=a)(new:ObjOk P w (upd H a o) h' a o):HOk P w (upd H a o) h':=λb u e=>by
 have hn:=x.fresh hp
 by_cases hb:b=a
 .subst hb;rw[gh]at e;cases e;exact new
 .rw[di hb]at e;exact(x b u e).stay (λc v _ q=>k c v q) (λc q=>by rw[di (dq q hn)];exact q) λc xs q=>by rw[di (dq q hn)];exact q
end
def Rd(H:Hp)(a:Addr)(u:HO):Prop:=H a=some u\/∃o,H a=some (.frz o u)
theorem Rd.of(h:H a=some u):Rd H a u:=.inl h
theorem Rd.ok(r:Rd H a u)(x:HOk P w H h):ObjOk P w H h a u:=by
 rcases r with r|⟨o,r⟩
 .exact x a u r
 .obtain⟨_,q⟩:=x a _ r;exact q
def Mut:Option HO->Prop
 |some (.lst _)=>True
 |some (.dK _)=>True
 |some (.dT _)=>True
 |some (.set _ _)=>True
 |some (.ins _ _ _)=>True
 |some (.ext _)=>True
 |_=>False
section
variable{P:Program}{w:World}{H:Hp}{h h':Heap}{x e:Addr}{o':HO}
theorem HOk.write(ok:HOk P w H h)(mu:Mut (H x))(he:e=x\/H e=some (.own x))(k:∀b u,b≠e->h.get? b=some u->h'.get? b=some u)(heo:∃u,h'.get? e=some u)
  (new:ObjOk P w (upd H x o') h' x o'):HOk P w (upd H x o') h':=λb u q=>by
 have nown:∀c y,H c=some (.own y)->c≠x:=λc y r z=>by subst z;rw[r]at mu;exact mu
 have ntup:∀c xs,H c=some (.tup xs)->c≠x:=λc xs r z=>by subst z;rw[r]at mu;exact mu
 by_cases hb:b=x
 .subst hb;rw[gh]at q;cases q;exact new
 .rw[di hb]at q
  by_cases hbe:b=e
  .have q':H b=some (.own x):=by
    rcases he with z|z
    .exact absurd (hbe.trans z) hb
    .rw[hbe];exact z
   rw[q]at q';cases q'
   obtain⟨v,hv⟩:=heo;exact⟨v,by rw[hbe];exact hv⟩
  .refine(ok b u q).stay (λc v hc r=>k c v ?_ r) (λc r=>by rw[di (nown c b r)];exact r) λc xs r=>by rw[di (ntup c xs r)];exact r
   rcases hc with rfl|hc
   .exact hbe
   .rintro rfl
    rcases he with z|z
    .exact nown c b hc z
    .rw[hc]at z;cases z;exact hb rfl
end
structure Un (fs ex:List Addr) (H H':Hp) (h h':Heap):Prop where
 keep:∀b o,h.get? b=some o->H b=none->b∉fs->b∉ex->h'.get? b=some o
 slot:∀b o,h.get? b=some o->H b=none->b∈fs->b∉ex->∃sl,h'.get? b=some {o with slots:=sl}
 free:∀b o,h.get? b=some o->H b=none->b∉ex->H' b=none
 there:∀b o,h.get? b=some o->b∉ex->∃o',h'.get? b=some o'
 tups:∀b xs,H b=some (.tup xs)->H' b=some (.tup xs)
 frzs:∀b o u,H b=some (.frz o u)->H' b=some (.frz o u)
 tbls:∀b ps,H b=some (.tbl ps)->∃more,H' b=some (.tbl (ps++more))
section
variable{fs fs' ex ex':List Addr}{H H1 H2:Hp}{h h1 h2 h':Heap}{a x e:Addr}{o:HO}
theorem Un.any(u:Un fs ex H H1 h h1)(q:h.get? b=some ob)(n:H b=none)(hx:b∉ex):∃sl,h1.get? b=some {ob with slots:=sl}:=by
 by_cases hb:b∈fs
 .exact u.slot b ob q n hb hx
 .exact⟨ob.slots,u.keep b ob q n hb hx⟩
theorem Un.kept(k:∀b u,h.get? b=some u->h'.get? b=some u):Un fs ex H H h h' :=
 ⟨λb ob q _ _ _=>k b ob q,λb ob q _ _ _=>⟨ob.slots,k b ob q⟩,λ_ _ _ n _=>n,λb ob q _=>⟨ob,k b ob q⟩,λ_ _ q=>q,λ_ _ _ q=>q,λ_ ps q=>⟨#[],by rw[q];simp⟩⟩
theorem Un.refl:Un fs ex H H h h:=Un.kept λ_ _ q=>q
theorem Un.laid(k:∀b u,h.get? b=some u->h'.get? b=some u)(hp:h.objs.size<=a)(hn:H a=none):Un fs ex H (upd H a o) h h' where
 keep:=λb u q _ _ _=>k b u q
 slot:=λb u q _ _ _=>⟨u.slots,k b u q⟩
 free:=λb u q n _=>by rw[di (Nat.ne_of_lt (Nat.lt_of_lt_of_le (Heap.lt_size q) hp))];exact n
 there:=λb u q _=>⟨u,k b u q⟩
 tups:=λb xs q=>by rw[di (dq q hn)];exact q
 frzs:=λb u xs q=>by rw[di (dq q hn)];exact q
 tbls:=λb ps q=>⟨#[],by rw[di (dq q hn),q];simp⟩
theorem Un.write(mu:Mut (H x))(he:e=x\/H e=some (.own x))(k:∀b u,b≠e->h.get? b=some u->h'.get? b=some u)(heo:∃u,h'.get? e=some u):Un fs ex H (upd H x o) h h':=by
 have hx:∀b,H b=none->b≠x:=λb n z=>by subst z;rw[n]at mu;exact mu
 have hb:∀b,H b=none->b≠e:=λb n z=>by
  subst z
  rcases he with r|r
  .exact hx b n r
  .rw[n]at r;cases r
 have hm:∀b u,H b=some u->¬ Mut (some u)->b≠x:=λb u q nm z=>by subst z;rw[q]at mu;exact nm mu
 refine⟨λb u q n _ _=>k b u (hb b n) q,λb u q n _ _=>⟨u.slots,k b u (hb b n) q⟩,λb u q n _=>by rw[di (hx b n)];exact n,λb u q _=>?_,
  λb xs q=>by rw[di (hm b _ q λz=>z)];exact q,λb u xs q=>by rw[di (hm b _ q λz=>z)];exact q,λb ps q=>⟨#[],by rw[di (hm b _ q λz=>z),q];simp⟩⟩
 by_cases hbe:b=e
 .subst hbe;exact heo
 .exact⟨u,k b u hbe q⟩
end
noncomputable def trk(h:Heap)(H:Hp):List Addr:=(List.range h.objs.size).filter λa=>(H a).isSome
noncomputable def aho(h:Heap)(H:Hp):Heap:=PySem.W.hideAll h (trk h H)
theorem adc(h:Heap)(H:Hp):(aho h H).objs.size=h.objs.size:=PySem.W.hideAll_size _ _
theorem ahp{h:Heap}(e:h.get? b=some o)(n:H b=none):(aho h H).get? b=some o :=
 PySem.W.hideAll_get _ e λhm=>by
  have q:(H b).isSome=true:=(List.mem_filter.mp hm).2;rw[n]at q;simp at q
theorem am8(e:(aho h H).get? b=some o):h.get? b=some o/\H b=none:=by
 have e':h.get? b=some o:=PySem.W.of_hideAll (trk h H) e;refine⟨e',?_⟩
 cases q:H b with
 |none=>rfl
 |some x =>
  have hm:b∈trk h H:=List.mem_filter.mpr ⟨List.mem_range.mpr (Heap.lt_size e'),by simp[q]⟩
  have z:(aho h H).get? b=none:=PySem.W.hideAll_none (trk h H) hm;rw[z]at e;cases e
noncomputable def am9(g h:Heap)(L:Addr):List (Addr×Obj):=(List.range h.objs.size).filterMap λa=>if a=L\/(g.get? a).isSome=true then none else (h.get? a).map λo=>(a,o)
noncomputable def aG(g h:Heap)(L d:Addr):List (Addr×Obj):=(am9 g h L).filter λp=>decide (p.1≠d)
structure Mod (K:Fg) (mg:Str->Option Value) (base:Heap):Prop where
 kin:K.In base
 glob:base.Ns mainGlobals mg
 blt:∃mb,base.Ns builtinsNs mb/\∀x:Str,x ≠ "__name__"->mb x=bootBuiltins x
 nolimit:base.NoLimit
structure Cx where
 prog:Program
 w:World
 K:Fg
 mg:Str->Option Value
 base:Heap
 A:Around
 N:List Str
 s₀:Shared
 H₀:Hp
 env:Env
 outer:List Env
 stack:List Env
 ex:List Addr
 fn:Str->Bool
 calm:Bool
 pn:List (Addr×Obj)
 xe:Value->Shared->Prop
noncomputable def frs(l:List Env):List Addr:=l.filterMap (·.frame)
abbrev Cx.fs(X:Cx):List Addr:=frs X.outer
def Vis(sc:Scope)(x:Str):Prop:=sc.names.lookup x=some .local\/sc.names.lookup x=some .cell\/sc.names.lookup x=some .free
def Loc(sc:Scope)(x:Str):Prop:=sc.names.lookup x=some .local\/sc.names.lookup x=some .cell
def Look(env:Env)(h:Heap)(m:Str->Option Value)(x:Str)(u:Value):Prop :=
 (env.kindOf x=some .local/\m x=some u)\/((env.kindOf x=some .cell\/env.kindOf x=some .free)/\∃c,env.cells.lookup x=some c/\h.IsCell c (some u))
structure Cx.Ok (X:Cx):Prop where
 mod:Mod X.K X.mg X.base
 kind:X.env.scope.kind=.function
 glob:X.env.globals=mainGlobals
 blt:X.env.builtins=builtinsNs
 above:X.s₀.heap.objs.size<=X.env.locals
 inj:∀x y c,X.env.cells.lookup x=some c->X.env.cells.lookup y=some c->x=y
 has:∀x,(X.env.kindOf x=some .cell\/X.env.kindOf x=some .free)->∃c,X.env.cells.lookup x=some c
 cab:∀x c,X.fn x=true->X.env.cells.lookup x=some c->X.s₀.heap.objs.size<=c
 hd:X.calm=true->X.A.handled=none
 frames:X.A.frames=some X.stack
 stk:X.stack=X.outer\/(X.stack=X.env::X.outer/\X.env.frame=some X.env.locals)
 exf:∀b∈X.ex,b≠X.env.locals/\∀x c,X.env.cells.lookup x=some c->c≠b
 bs:∀b o,X.base.get? b=some o->X.s₀.heap.get? b=some o/\X.H₀ b=none
 bsz:X.base.objs.size<=X.s₀.heap.objs.size
 noex:∀b o,X.base.get? b=some o->b∉X.ex
 exfs:∀b∈X.ex,b∉X.fs
 funs:X.s₀.heap.FunFrames X.base X.outer
 frf:∀b∈X.fs,X.H₀ b=none
structure Inv (X:Cx) (aA:List (Addr×Obj)) (Z:List (Option V)) (H:Hp) (s:Shared):Prop where
 ok:X.Ok
 os:s.os=X.s₀.os
 bare:AllBare s.gens
 base:Un X.fs X.ex X.H₀ H X.s₀.heap s.heap
 loc:∃m,s.heap.Ns X.env.locals m/\∀(i:Nat) (x:Str) (v:V),X.N[i]? = some x->Z[i]? = some (some v)->Vis X.env.scope x->∃u,RelV v u/\Look X.env s.heap m x u
 cell:∀x c,X.env.cells.lookup x=some c->∃v,s.heap.IsCell c v
 free:H X.env.locals=none
 freeC:∀x c,X.env.cells.lookup x=some c->H c=none
 pin:∀p∈X.pn++aA,s.heap.get? p.1=some p.2/\H p.1=none/\p.1≠X.env.locals/\p.1∉X.fs/\∀v,p.2.data≠.cell v
 hok:HOk X.prog X.w H s.heap
 len:Z.length=X.N.length
section
variable{X:Cx}{aA:List (Addr×Obj)}{Z:List (Option V)}{H H':Hp}{s:Shared}{h':Heap}
theorem Cx.Ok.nofr(ok:X.Ok)(e:X.base.get? b=some o):b∉X.fs:=λhb=>by
 have:=(ok.funs.mem hb).1
 rw[e]at this;cases this
theorem Inv.bs(I:Inv X aA Z H s):∀b o,X.base.get? b=some o->s.heap.get? b=some o/\H b=none:=λb o e =>
 ⟨I.base.keep b o (I.ok.bs b o e).1 (I.ok.bs b o e).2 (I.ok.nofr e) (I.ok.noex b o e),I.base.free b o (I.ok.bs b o e).1 (I.ok.bs b o e).2 (I.ok.noex b o e)⟩
theorem Inv.bk(I:Inv X aA Z H s):∀b o,X.base.get? b=some o->s.heap.get? b=some o:=λb o e=>(I.bs b o e).1
theorem Inv.mod(I:Inv X aA Z H s):Mod X.K X.mg X.base:=I.ok.mod
theorem Inv.kIn(I:Inv X aA Z H s):X.K.In s.heap:=I.ok.mod.kin.keeps I.bk
theorem Inv.fr(I:Inv X aA Z H s):∃m,Fr X.base X.env.locals s.heap m :=
 let ⟨m,hn,_⟩:=I.loc
 ⟨m,hn,I.bk,Nat.le_trans I.ok.bsz I.ok.above⟩
theorem Inv.lt(I:Inv X aA Z H s):X.env.locals<s.heap.objs.size:=let ⟨_,hn,_⟩:=I.loc;hn.lt
theorem Inv.sz(I:Inv X aA Z H s):X.s₀.heap.objs.size<=s.heap.objs.size:=Nat.le_trans I.ok.above (Nat.le_of_lt I.lt)
theorem Inv.nofs(I:Inv X aA Z H s)(h:s.heap.objs.size<=a):a∉X.fs:=λhb=>by
 obtain⟨_,o,ho,_⟩:=I.ok.funs.mem hb;exact absurd (Nat.lt_of_lt_of_le (Heap.lt_size ho) (Nat.le_trans I.sz h)) (Nat.lt_irrefl _)
theorem Inv.cne(I:Inv X aA Z H s):∀x c,X.env.cells.lookup x=some c->c≠X.env.locals:=λx c e z=>by
 obtain⟨v,o,ho,hd⟩:=I.cell x c e;obtain⟨m,⟨o',es,ep,ho',hd',_⟩,_⟩:=I.loc;rw[z,ho']at ho;cases ho;rw[hd']at hd;cases hd
theorem Inv.funs(I:Inv X aA Z H s):s.heap.FunFrames X.base X.outer:=by
 have all:∀(l:List Env),(∀b∈frs l,b∈X.fs)->X.s₀.heap.FunFrames X.base l->s.heap.FunFrames X.base l:=by
  intro l
  induction l with
  |nil=>intro _ _;trivial
  |cons env r ih =>
   intro hs hl
   obtain⟨hk,⟨L,o,hf,hn,ho,hd⟩,hr⟩:=hl;have hL:L∈X.fs:=hs L (by unfold frs;rw[List.filterMap_cons,hf];exact List.mem_cons_self)
   obtain⟨sl,e⟩:=I.base.slot L o ho (I.ok.frf L hL) hL λz=>I.ok.exfs L z hL;exact⟨hk,⟨L,_,hf,hn,e,hd⟩,ih (λb hb=>hs b (by unfold frs;rw[List.filterMap_cons,hf];exact List.mem_cons_of_mem _ hb)) hr⟩
 exact all X.outer (λ_ hb=>hb) I.ok.funs
theorem Inv.stack(I:Inv X aA Z H s):s.heap.FunFrames X.base X.stack:=by
 rcases I.ok.stk with e|⟨e,hf⟩
 .rw[e];exact I.funs
 .rw[e];obtain⟨m,hn,_⟩:=I.loc;refine .cons (by rw[I.ok.kind];decide) hf hn ?_ I.funs
  exact Heap.get?_none_of_le (Nat.le_trans I.ok.bsz I.ok.above)
theorem Inv.stkSub(I:Inv X aA Z H s):∀b∈frs X.stack,b∈X.env.locals::X.fs:=λb hb=>by
 rcases I.ok.stk with e|⟨e,hf⟩
 .rw[e]at hb;exact List.mem_cons_of_mem _ hb
 .rw[e]at hb;unfold frs at hb;rw[List.filterMap_cons,hf]at hb;exact hb
theorem Inv.stkFree(I:Inv X aA Z H s):∀b∈frs X.stack,H b=none:=λb hb=>by
 rcases List.mem_cons.mp (I.stkSub b hb) with e|hb
 .rw[e];exact I.free
 .obtain⟨_,o,ho,_⟩:=I.ok.funs.mem hb;exact I.base.free b o ho (I.ok.frf b hb) λz=>I.ok.exfs b z hb
theorem Inv.step{g':Array GenState}{t':Nat}{d':Drawn}{ch:List Addr}(I:Inv X aA Z H s)
  (hch:∀b∈ch,(b∈X.ex\/X.s₀.heap.objs.size<=b)/\b≠X.env.locals/\(∀x c,X.env.cells.lookup x=some c->c≠b)/\∀p∈X.pn++aA,p.1≠b)
  (keep:∀b o,b≠X.env.locals->b∉X.fs->b∉ch->s.heap.get? b=some o->H b=none->h'.get? b=some o)
  (slot:∀b o,b≠X.env.locals->b∈X.fs->b∉ch->s.heap.get? b=some o->H b=none->∃sl,h'.get? b=some {o with slots:=sl}) (free:∀b o,b∉ch->s.heap.get? b=some o->H b=none->H' b=none)
  (there:∀b o,b∉ch->s.heap.get? b=some o->∃o',h'.get? b=some o')
  (tups:∀b xs,H b=some (.tup xs)->H' b=some (.tup xs)) (frzs:∀b o u,H b=some (.frz o u)->H' b=some (.frz o u)) (tbls:∀b ps,H b=some (.tbl ps)->∃more,H' b=some (.tbl (ps++more)))
  (ns:∀m,s.heap.Ns X.env.locals m->h'.Ns X.env.locals m) (hok:HOk X.prog X.w H' h') (hg:AllBare g') :
  Inv X aA Z H' {s with heap:=h',gens:=g',drawn:=d',toks:=t' }:=by
 have neL:∀b o,X.s₀.heap.get? b=some o->b≠X.env.locals:=λb o e=>Nat.ne_of_lt (Nat.lt_of_lt_of_le (Heap.lt_size e) I.ok.above);have neC:∀b o,X.s₀.heap.get? b=some o->b∉X.ex->b∉ch:=λb o e hx hb=>by
  rcases(hch b hb).1 with z|z
  .exact hx z
  .exact absurd (Nat.lt_of_lt_of_le (Heap.lt_size e) z) (Nat.lt_irrefl _)
 have cellK:∀x c,X.env.cells.lookup x=some c->∀v,s.heap.IsCell c v->h'.IsCell c v:=λx c e v ⟨o,ho,hd⟩=>by
  have nch:c∉ch:=λz=>(hch c z).2.2.1 x c e rfl
  by_cases hc:c∈X.fs
  .obtain⟨sl,q⟩:=slot c o (I.cne x c e) hc nch ho (I.freeC x c e);exact⟨_,q,hd⟩
  .exact⟨o,keep c o (I.cne x c e) hc nch ho (I.freeC x c e),hd⟩
 refine⟨I.ok,I.os,hg,⟨λb o e n hb hx=>?_,λb o e n hb hx=>?_,λb o e n hx=>?_,λb o e hx=>?_,λb xs e=>tups b xs (I.base.tups b xs e),λb o xs e=>frzs b o xs (I.base.frzs b o xs e),λb ps e=>?_⟩,?_,λx c e=>?_,?_,λx c e=>?_,λp hp=>?_,hok,I.len⟩
 .exact keep b o (neL b o e) hb (neC b o e hx) (I.base.keep b o e n hb hx) (I.base.free b o e n hx)
 .obtain⟨sl,e1⟩:=I.base.slot b o e n hb hx;obtain⟨sl',e2⟩:=slot b _ (neL b o e) hb (neC b o e hx) e1 (I.base.free b o e n hx);exact⟨sl',e2⟩
 .obtain⟨o',e1⟩:=I.base.there b o e hx;exact free b o' (neC b o e hx) e1 (I.base.free b o e n hx)
 .obtain⟨o',e1⟩:=I.base.there b o e hx;exact there b o' (neC b o e hx) e1
 .obtain⟨m1,e1⟩:=I.base.tbls b ps e;obtain⟨m2,e2⟩:=tbls b _ e1;exact⟨m1++m2,by rw[e2,Array.append_assoc]⟩
 .obtain⟨m,hn,hl⟩:=I.loc;refine⟨m,ns m hn,λi x v e1 e2 e3=>?_⟩;obtain⟨u,r,l⟩:=hl i x v e1 e2 e3;refine⟨u,r,?_⟩
  rcases l with l|⟨k,c,e,z⟩
  .exact .inl l
  .exact .inr ⟨k,c,e,cellK x c e _ z⟩
 .obtain⟨v,z⟩:=I.cell x c e;exact⟨v,cellK x c e v z⟩
 .obtain⟨m,⟨o,_,_,ho,_⟩,_⟩:=I.loc;exact free _ o (λz=>(hch _ z).2.1 rfl) ho I.free
 .obtain⟨v,o,ho,hd⟩:=I.cell x c e;exact free c o (λz=>(hch c z).2.2.1 x c e rfl) ho (I.freeC x c e)
 .obtain⟨e,n,ne,nf,d⟩:=I.pin p hp;have nch:p.1∉ch:=λz=>(hch p.1 z).2.2.2 p hp rfl;exact⟨keep p.1 p.2 ne nf nch e n,free p.1 p.2 nch e n,ne,nf,d⟩
theorem Inv.un{t':Nat}(I:Inv X aA Z H s)(u:Un X.fs [] H H' s.heap h')(hok:HOk X.prog X.w H' h'):Inv X aA Z H' {s with heap:=h',toks:=t' }:=by
 obtain⟨m,⟨o,es,ep,ho,r⟩,_⟩:=id I.loc;obtain⟨sl,hL⟩:=u.any ho I.free (by simp)
 exact I.step (g':=s.gens) (d':=s.drawn) (ch:=[]) (λ_ z=>nomatch z) (λb o _ hb _ e n=>u.keep b o e n hb (by simp)) (λb o _ hb _ e n=>u.slot b o e n hb (by simp)) (λb o _ e n=>u.free b o e n (by simp)) (λb o _ e=>u.there b o e (by simp)) u.tups u.frzs u.tbls (λm' hm=>by
  obtain⟨o',es',ep',ho',r'⟩:=hm;rw[ho]at ho';cases ho'
  exact⟨_,es',ep',hL,r'⟩) hok I.bare
theorem Inv.call{g':Array GenState}{t':Nat}{d':Drawn}{ch:List Addr}(I:Inv X aA Z H s)(u:Un (frs X.stack) ch H H' s.heap h')(hok:HOk X.prog X.w H' h')(hg:AllBare g')
  (hch:∀b∈ch,(b∈X.ex\/X.s₀.heap.objs.size<=b)/\b≠X.env.locals/\(∀x c,X.env.cells.lookup x=some c->c≠b)/\∀p∈X.pn++aA,p.1≠b) :
  Inv X aA Z H' {s with heap:=h',gens:=g',drawn:=d',toks:=t' }:=by
 obtain⟨m,⟨o,es,ep,ho,r⟩,_⟩:=id I.loc;obtain⟨sl,hL⟩:=u.any ho I.free λz=>(hch _ z).2.1 rfl;exact I.step (ch:=ch) hch (λb o hL hb hc e n=>u.keep b o e n (λz=>(List.mem_cons.mp (I.stkSub b z)).elim hL hb) hc) (λb o _ _ hc e n=>u.any e n hc) (λb o hc e n=>u.free b o e n hc) (λb o hc e=>u.there b o e hc) u.tups u.frzs u.tbls (λm' hm=>by
  obtain⟨o',es',ep',ho',r'⟩:=hm;rw[ho]at ho';cases ho'
  exact⟨_,es',ep',hL,r'⟩) hok hg
theorem Inv.turned{t':Nat}{it:Addr}(I:Inv X aA Z H s)(k:∀b o,b≠it->s.heap.get? b=some o->h'.get? b=some o)(hn:H it=none)(hL:it≠X.env.locals)
  (h1:it∈X.ex\/X.s₀.heap.objs.size<=it) (h2:∀x c,X.env.cells.lookup x=some c->c≠it) (h3:∀p∈X.pn++aA,p.1≠it):Inv X aA Z H {s with heap:=h',toks:=t' }:=by
 have nit:∀b u,H b=some u->b≠it:=λb u e z=>by rw[z,hn]at e;cases e
 refine I.step (g':=s.gens) (d':=s.drawn) (ch:=[it]) (λb hb=>?_) (λb o _ _ hc e _=>k b o (λz=>hc (by simp[z])) e) (λb o _ _ hc e _=>⟨o.slots,k b o (λz=>hc (by simp[z])) e⟩) (λ_ _ _ _ n=>n)
  (λb o hc e=>⟨o,k b o (λz=>hc (by simp[z])) e⟩) (λ_ _ e=>e) (λ_ _ _ e=>e) (λb ps e=>⟨#[],by rw[e];simp⟩) (λm hm=>?_) (λb u e=>?_) I.bare
 .have e:b=it:=by simpa using hb
  subst e;exact⟨h1,hL,h2,h3⟩
 .obtain⟨o,es,ep,ho,r⟩:=hm;exact⟨o,es,ep,k _ o (Ne.symm hL) ho,r⟩
 .refine(I.hok b u e).stay (λc v hc q=>k c v ?_ q) (λ_ q=>q) λ_ _ q=>q
  rcases hc with z|z
  .rw[z];exact nit b u e
  .exact nit c _ z
theorem Inv.tok(I:Inv X aA Z H s)(t:Nat):Inv X aA Z H {s with toks:=t}:=I.un (h':=s.heap) (t':=t) Un.refl I.hok
theorem Inv.kept(I:Inv X aA Z H s)(k:∀b u,s.heap.get? b=some u->h'.get? b=some u):Inv X aA Z H {s with heap:=h',toks:=t' }:=I.un (Un.kept k) (I.hok.kept k)
theorem Inv.laid(I:Inv X aA Z H s)(k:∀b u,s.heap.get? b=some u->h'.get? b=some u)(hp:s.heap.objs.size<=a)(new:ObjOk X.prog X.w (upd H a o) h' a o) :
  Inv X aA Z (upd H a o) {s with heap:=h',toks:=t' }:=I.un (Un.laid k hp (I.hok.fresh hp)) (I.hok.laid k hp new)
theorem Inv.write(I:Inv X aA Z H s)(mu:Mut (H x))(he:e=x\/H e=some (.own x))(k:∀b u,b≠e->s.heap.get? b=some u->h'.get? b=some u)(heo:∃u,h'.get? e=some u)
  (new:ObjOk X.prog X.w (upd H x o) h' x o):Inv X aA Z (upd H x o) {s with heap:=h',toks:=t' }:=I.un (Un.write mu he k heo) (I.hok.write mu he k heo new)
theorem Inv.weak{Z':List (Option V)}(I:Inv X aA Z H s)(hl:Z'.length=Z.length)(w:∀(i:Nat) v,Z'[i]? = some (some v)->Z[i]? = some (some v)):Inv X aA Z' H s :=
 ⟨I.ok,I.os,I.bare,I.base,let ⟨m,hn,hl'⟩:=I.loc; ⟨m,hn,λi x v e1 e2 e3=>hl' i x v e1 (w i v e2) e3⟩,I.cell,I.free,I.freeC,I.pin,I.hok,hl.trans I.len⟩
theorem Inv.pins_of(I:Inv X aA Z H s)(h:∀p∈pins',s.heap.get? p.1=some p.2/\H p.1=none/\p.1≠X.env.locals/\p.1∉X.fs/\∀v,p.2.data≠.cell v):Inv X pins' Z H s :=
 ⟨I.ok,I.os,I.bare,I.base,I.loc,I.cell,I.free,I.freeC,λp hp=>(List.mem_append.mp hp).elim (λz=>I.pin p (List.mem_append_left _ z)) (h p),I.hok,I.len⟩
theorem aa8{N:List Str}(hN:N.Nodup){i j:Nat}(a:N[i]? = some x)(b:N[j]? = some x):i=j:=by
 obtain⟨h1,e1⟩:=List.getElem?_eq_some_iff.mp a;obtain⟨h2,e2⟩:=List.getElem?_eq_some_iff.mp b;exact(List.getElem_inj hN).mp (e1.trans e2.symm)
abbrev Hf(X:Cx)(x:Str):Prop:=X.fn x=true\/X.env.scope.names.lookup x=some .local
theorem a7n{i:Nat}(I:Inv X aA Z H s)(hN:X.N.Nodup)(hi:X.N[i]? = some x)(hx:Loc X.env.scope x)(r:RelV v u)
  (h:∀s',Inv X aA (Z.set i (some v)) H s'->(∃a,Heap.SameBut a s.heap s'.heap/\(a=X.env.locals\/X.env.cells.lookup x=some a))->Q () s') (hf:Hf X x:=by first|exact .inl rfl|exact .inr rfl|assumption):wpAny M A (storeName X.env x u) Q E s:=by
 obtain⟨m,hn,hl⟩:=id I.loc;have hcls:(X.env.scope.kind == .class || (X.env.scope.kind == .module && X.env.locals != X.env.globals))=false:=by rw[I.ok.kind];rfl
 have hiZ:i<Z.length:=by rw[I.len];exact(List.getElem?_eq_some_iff.mp hi).1
 have cne:=I.cne;have tracked:∀{a:Addr} {h':Heap},(∃o,s.heap.get? a=some o/\H a=none)->Heap.SameBut a s.heap h'->HOk X.prog X.w H h':=λ{a h'} ha hs b ob e=>by
  obtain⟨_,_,hfree⟩:=ha;refine(I.hok b ob e).stay (λc w' hc q=>(hs.2 c ?_).trans q) (λ_ q=>q) λ_ _ q=>q
  rintro rfl
  rcases hc with rfl|hc
  .rw[hfree]at e;cases e
  .rw[hfree]at hc;cases hc
 rcases hx with hk|hk
 .refine wpAny_storeName_local hk hn (λh' hn' hs=>?_) hcls;obtain⟨oL,_,_,hoL,_⟩:=id hn;refine h _ ⟨I.ok,I.os,I.bare,⟨λb o e n hb hx=>?_,λb o e n hb hx=>?_,I.base.free,λb o e hx=>?_,I.base.tups,I.base.frzs,I.base.tbls⟩,⟨_,hn',λj y v' e1 e2 e3=>?_⟩,λy c e=>?_,I.free,I.freeC,λp hp=>?_,tracked ⟨oL,hoL,I.free⟩ hs,by simpa using I.len⟩ ⟨_,hs,.inl rfl⟩
  .exact(hs.2 b (Nat.ne_of_lt (Nat.lt_of_lt_of_le (Heap.lt_size e) I.ok.above))).trans (I.base.keep b o e n hb hx)
  .obtain⟨sl,e1⟩:=I.base.slot b o e n hb hx;exact⟨sl,(hs.2 b (Nat.ne_of_lt (Nat.lt_of_lt_of_le (Heap.lt_size e) I.ok.above))).trans e1⟩
  .obtain⟨o',e1⟩:=I.base.there b o e hx;exact⟨o',(hs.2 b (Nat.ne_of_lt (Nat.lt_of_lt_of_le (Heap.lt_size e) I.ok.above))).trans e1⟩
  .by_cases hj:j=i
   .subst hj;rw[hi]at e1;cases e1
    rw[List.getElem?_set_self hiZ]at e2;cases e2
    exact⟨u,r,.inl ⟨hk,by simp⟩⟩
   .rw[List.getElem?_set_ne (Ne.symm hj)]at e2;obtain⟨u',r',q⟩:=hl j y v' e1 e2 e3;refine⟨u',r',?_⟩
    rcases q with⟨k,e⟩|⟨k,c,e,z⟩
    .refine .inl ⟨k,?_⟩;have:y≠x:=λe=>hj (aa8 hN e1 (e ▸ hi));simp[this,e]
    .exact .inr ⟨k,c,e,z.sameBut hs (cne y c e)⟩
  .obtain⟨w',z⟩:=I.cell y c e;exact⟨w',z.sameBut hs (cne y c e)⟩
  .obtain⟨e,n,ne,nf,d⟩:=I.pin p hp;exact⟨(hs.2 p.1 ne).trans e,n,ne,nf,d⟩
 .have hfn:X.fn x=true:=by
   rcases hf with z|z
   .exact z
   .rw[z]at hk;cases hk
  obtain⟨c,hc⟩:=I.ok.has x (.inl hk);obtain⟨w',z⟩:=I.cell x c hc;refine wpAny_storeName_cell I.ok.kind hk hc z (λh' hc' hs=>?_);obtain⟨oc,hoc,hocd⟩:=id z;refine h {s with heap:=h' } ⟨I.ok,I.os,I.bare,⟨λb o e n hb hx=>?_,λb o e n hb hx=>?_,I.base.free,λb o e hx=>?_,I.base.tups,I.base.frzs,I.base.tbls⟩,⟨m,hn.sameBut hs (Ne.symm (cne x c hc)),λj y v' e1 e2 e3=>?_⟩,λy c' e=>?_,I.free,I.freeC,λp hp=>?_,tracked ⟨oc,hoc,I.freeC x c hc⟩ hs,by simpa using I.len⟩ ⟨c,hs,.inr hc⟩
  .exact(hs.2 b (Nat.ne_of_lt (Nat.lt_of_lt_of_le (Heap.lt_size e) (I.ok.cab x c hfn hc)))).trans (I.base.keep b o e n hb hx)
  .obtain⟨sl,e1⟩:=I.base.slot b o e n hb hx;exact⟨sl,(hs.2 b (Nat.ne_of_lt (Nat.lt_of_lt_of_le (Heap.lt_size e) (I.ok.cab x c hfn hc)))).trans e1⟩
  .obtain⟨o',e1⟩:=I.base.there b o e hx;exact⟨o',(hs.2 b (Nat.ne_of_lt (Nat.lt_of_lt_of_le (Heap.lt_size e) (I.ok.cab x c hfn hc)))).trans e1⟩
  .by_cases hj:j=i
   .subst hj;rw[hi]at e1;cases e1
    rw[List.getElem?_set_self hiZ]at e2;cases e2
    exact⟨u,r,.inr ⟨.inl hk,c,hc,hc'⟩⟩
   .rw[List.getElem?_set_ne (Ne.symm hj)]at e2;obtain⟨u',r',q⟩:=hl j y v' e1 e2 e3;refine⟨u',r',?_⟩
    rcases q with q|⟨k,c',e,z'⟩
    .exact .inl q
    .refine .inr ⟨k,c',e,z'.sameBut hs ?_⟩
     rintro rfl
     exact hj (aa8 hN e1 (I.ok.inj _ _ _ e hc ▸ hi))
  .by_cases hcc:c'=c
   .subst hcc;exact⟨_,hc'⟩
   .obtain⟨w2,z2⟩:=I.cell y c' e;exact⟨w2,z2.sameBut hs hcc⟩
  .obtain⟨e,n,ne,nf,d⟩:=I.pin p hp;refine⟨(hs.2 p.1 ?_).trans e,n,ne,nf,d⟩
   intro q
   rw[q,hoc]at e;have q':oc=p.2:=Option.some.inj e;exact d w' (by rw[<-q'];exact hocd)
theorem a6g(I:Inv X aA Z H s)(hN:X.N.Nodup)(hi:X.N[i]? = some x)(hx:Loc X.env.scope x)(r:RelV v u)
  (h:∀s',Inv X aA (Z.set i (some v)) H s'->Q () s') (hf:Hf X x:=by first|exact .inl rfl|exact .inr rfl|assumption):wpAny M A (storeName X.env x u) Q E s :=
 a7n I hN hi hx r (λs' I' _=>h s' I') hf
end
abbrev XK:=Value->Option Addr->Hp->Prop
abbrev St:=List (Option V)
abbrev VK:=V->Hp->Prop
abbrev TE:=St->Hp->VK->Prop
abbrev TT:=St->Hp->(Bool->Hp->Prop)->Prop
abbrev TA:=St->Hp->(List V->Hp->Prop)->Prop
structure Ends where
 nx:St->Hp->Prop
 rt:VK
 bk:St->Hp->Prop:=λ_ _=>False
 ct:St->Hp->Prop:=λ_ _=>False
abbrev TS:=Ends->St->Hp->Prop
def EP(X:Cx)(aA:List (Addr×Obj))(Z:St)(Q:VK)(u:Value)(s':Shared):Prop:=∃v H',Inv X aA Z H' s'/\RelV v u/\Q v H'
def TP(X:Cx)(aA:List (Addr×Obj))(Z:St)(Q:Bool->Hp->Prop)(b:Bool)(s':Shared):Prop:=∃H',Inv X aA Z H' s'/\Q b H'
def AP(X:Cx)(aA:List (Addr×Obj))(Z:St)(Q:List V->Hp->Prop)(us:List Value)(s':Shared):Prop:=∃vs H',Inv X aA Z H' s'/\Vals vs us/\Q vs H'
def SP(X:Cx)(aA:List (Addr×Obj))(D:Ends)(f:Flow)(s':Shared):Prop :=
 match f with
 |.next=>∃Z' H',Inv X aA Z' H' s'/\D.nx Z' H'
 |.brk=>∃Z' H',Inv X aA Z' H' s'/\D.bk Z' H'
 |.cont=>∃Z' H',Inv X aA Z' H' s'/\D.ct Z' H'
 |.ret u=>∃v Z' H',Inv X aA Z' H' s'/\RelV v u/\D.rt v H'
def PE(X:Cx)(e:Expr)(t:TE):Prop :=
 ∀(aA:List (Addr×Obj)) (s:Shared) (Z:St) (H:Hp) (Q:VK),Inv X aA Z H s->t Z H Q->wpAny (model X.prog X.w) X.A (eval e X.env) (EP X aA Z Q) X.xe s
def PT(X:Cx)(e:Expr)(t:TT):Prop :=
 ∀(aA:List (Addr×Obj)) (s:Shared) (Z:St) (H:Hp) (Q:Bool->Hp->Prop),Inv X aA Z H s->t Z H Q->wpAny (model X.prog X.w) X.A (isTrue e X.env (eval e X.env)) (TP X aA Z Q) X.xe s
def PW(X:Cx)(e:Expr)(t:TT):Prop :=
 ∀(whole:Sem Value) (aA:List (Addr×Obj)) (s:Shared) (Z:St) (H:Hp) (Q:Bool->Hp->Prop),Inv X aA Z H s->t Z H Q->wpAny (model X.prog X.w) X.A (isTrue e X.env whole) (TP X aA Z Q) X.xe s
theorem PW.pt(h:PW X e t):PT X e t:=h _
def PA(X:Cx)(es:List Expr)(t:TA):Prop :=
 ∀(pos:Pos) (aA:List (Addr×Obj)) (s:Shared) (Z:St) (H:Hp) (Q:List V->Hp->Prop),Inv X aA Z H s->t Z H Q->wpAny (model X.prog X.w) X.A (spliced (backTo pos (starEach es X.env))) (AP X aA Z Q) X.xe s
def PS(X:Cx)(st:Stmt)(t:TS):Prop :=
 ∀(aA:List (Addr×Obj)) (s:Shared) (Z:St) (H:Hp) (D:Ends),Inv X aA Z H s->t D Z H->wpAny (model X.prog X.w) X.A (exec st X.env) (SP X aA D) X.xe s
def PSs(X:Cx)(st:List Stmt)(t:TS):Prop :=
 ∀(aA:List (Addr×Obj)) (s:Shared) (Z:St) (H:Hp) (D:Ends),Inv X aA Z H s->t D Z H->wpAny (model X.prog X.w) X.A (execs st X.env) (SP X aA D) X.xe s
theorem thn{α:Type}{t:Sem α}{Q Q':α->Shared->Prop}{M:Model}{A:Around}{E:Value->Shared->Prop}{s:Shared}(h:wpAny M A t Q E s)(hQ:∀a s,Q a s->Q' a s):wpAny M A t Q' E s:=wpAny_mono h hQ λ_ _ x=>x
section
variable{X:Cx}
noncomputable def b04(i:Nat):TE:=λZ H Q=>∃v,Z[i]? = some (some v)/\Q v H
noncomputable def tC(v:V):TE:=λ_ H Q=>Q v H
theorem aqw(hN:X.N[i]? = some x)(hv:Vis X.env.scope x)(hd:(x == ("__debug__" : Str))=false:=by decide)(hcd:(x == ("__classdict__" : Str))=false:=by decide):PE X (.Name x pos) (b04 i):=by
 intro aA s Z H Q I h
 obtain⟨v,e,h⟩:=h;obtain⟨m,hn,hl⟩:=I.loc;obtain⟨u,r,l⟩:=hl i x v hN e hv;have fin:EP X aA Z Q u s:=⟨v,H,I,r,h⟩
 rcases l with⟨hk,hm⟩|⟨hk,c,hc,hcell⟩
 .exact wpAny_Name (wpAny_loadName_local I.ok.kind hk hn hm fin) hd
 .rcases hk with hk|hk
  .exact wpAny_Name (wpAny_loadName_cell I.ok.kind hk hc hcell fin) hd
  .exact wpAny_Name (wpAny_loadName_free I.ok.kind hk hc hcell fin hcd) hd
theorem aqx{i j pos}:PE X (.Constant (.int i) j pos) (tC (.int i)):=λ_ _ _ H _ I h=>wpAny_Constant_int ⟨.int i,H,I.tok _,⟨_,rfl⟩,h⟩
theorem ax2{b j pos}:PE X (.Constant (.bool b) j pos) (tC (.bl b)):=λ_ _ _ H _ I h=>Constant_bool ⟨.bl b,H,I,rfl,h⟩
theorem aqy{j pos}:PE X (.Constant .none j pos) (tC .non):=λ_ _ _ H _ I h=>Constant_none ⟨.non,H,I,rfl,h⟩
theorem aqz{x j pos}:PE X (.Constant (.str x) j pos) (tC (.str x)):=λ_ _ _ H _ I h=>Calls.Constant_str ⟨.str x,H,I.tok _,⟨_,rfl⟩,h⟩
def Gl(X:Cx)(x:Str):Prop:=X.env.kindOf x=some .globalImplicit
theorem ade(I:Inv X aA Z H s)(hg:Gl X x)(hm:X.mg x=some u)(h:Q u s)
  (hd:(x == ("__debug__" : Str))=false:=by decide):wpAny (model X.prog X.w) X.A (eval (.Name x pos) X.env) Q E s :=
 Calls.Name_function_global I.ok.kind hg (Calls.loadGlobal_global (by rw[I.ok.glob];exact I.mod.glob.keeps I.bk) hm h) hd
theorem a1y(I:Inv X aA Z H s)(hg:Gl X x)(hm:X.mg x=none)(hv:bootBuiltins x=some u)(h:Q u s)
  (hn:x ≠ "__name__":=by decide) (hd:(x == ("__debug__" : Str))=false:=by decide):wpAny (model X.prog X.w) X.A (eval (.Name x pos) X.env) Q E s:=by
 obtain⟨mb,h1,h2⟩:=I.mod.blt;exact Calls.Name_function_global I.ok.kind hg (Calls.loadGlobal_builtin (by rw[I.ok.glob];exact I.mod.glob.keeps I.bk) hm (by rw[I.ok.blt];exact h1.keeps I.bk) ((h2 x hn).trans hv) h) hd
theorem ama(hg:Gl X x)(hm:X.mg x=none)(hv:bootBuiltins x=some u)(r:RelV v u)(hn:x ≠ "__name__":=by decide)(hd:(x == ("__debug__" : Str))=false:=by decide):PE X (.Name x pos) (tC v) :=
 λ_ _ _ H _ I h=>a1y I hg hm hv ⟨v,H,I,r,h⟩ hn hd
variable{a b:Expr}{ta tb:TE}{pos:Pos}
variable{tA tB':TT}{aG:List Expr}
noncomputable def b05(t u:TT):TT:=λZ H Q=>t Z H λc H1=>if c=true then u Z H1 Q else Q false H1
noncomputable def tOr(t u:TT):TT:=λZ H Q=>t Z H λc H1=>if c=true then Q true H1 else u Z H1 Q
noncomputable def b06(t:TT):TT:=λZ H Q=>t Z H λc H1=>Q (!c) H1
theorem amb(ha:PT X a tA):PW X (.BoolOp .And [a] pos) tA:=by
 intro wh aA s Z H Q I h
 refine isTrue_and (thn (ha aA s Z H Q I h) λc s1 e=>?_)
 cases c with
 |true=>exact isTrue_and_nil e
 |false=>exact e
theorem ar0(ha:PT X a tA):PW X (.BoolOp .Or [a] pos) tA:=by
 intro wh aA s Z H Q I h
 refine isTrue_or (thn (ha aA s Z H Q I h) λc s1 e=>?_)
 cases c with
 |false=>exact isTrue_or_nil e
 |true=>exact e
theorem ar3(ha:PT X a tA)(hb:PW X (.BoolOp .And (b::aG) pos) tB'):PW X (.BoolOp .And (a::b::aG) pos) (b05 tA tB'):=by
 intro wh aA s Z H Q I h
 refine isTrue_and (thn (ha aA s Z H _ I h) λc s1 ⟨H1,I1,q1⟩=>?_)
 cases c with
 |true=>exact hb wh aA s1 Z H1 Q I1 q1
 |false=>exact⟨H1,I1,q1⟩
theorem ax3(ha:PT X a tA)(hb:PW X (.BoolOp .Or (b::aG) pos) tB'):PW X (.BoolOp .Or (a::b::aG) pos) (tOr tA tB'):=by
 intro wh aA s Z H Q I h
 refine isTrue_or (thn (ha aA s Z H _ I h) λc s1 ⟨H1,I1,q1⟩=>?_)
 cases c with
 |true=>exact⟨H1,I1,q1⟩
 |false=>exact hb wh aA s1 Z H1 Q I1 q1
theorem ar4(ha:PT X a tA):PT X (.UnaryOp .Not a pos) (b06 tA):=by
 intro aA s Z H Q I h
 exact isTrue_not (ha aA s Z H (λc H1=>Q (!c) H1) I h)
noncomputable def ax4(ta tb:TE):TE:=λZ H Q=>ta Z H λx H1=>∃c,x=.bl c/\if c=true then tb Z H1 Q else Q (.bl false) H1
noncomputable def ax5(ta:TE):TE:=λZ H Q=>ta Z H λx H1=>∃c,x=.bl c/\Q (.bl (!c)) H1
theorem ar5{op}(h:PE X a t):PE X (.BoolOp op [a] pos) t:=λaA s Z H Q I hw=>BoolOp_one (h aA s Z H Q I hw)
theorem ar6(ha:PE X a ta)(hb:PE X (.BoolOp .And (b::aG) pos) tb):PE X (.BoolOp .And (a::b::aG) pos) (ax4 ta tb):=by
 intro aA s Z H Q I h
 refine BoolOp_and (thn (ha aA s Z H _ I h) λv s1 ⟨x,H1,I1,r1,q1⟩=>?_);obtain⟨c,rfl,q1⟩:=q1;cases r1
 refine wpAny_truthy_bool ?_
 cases c with
 |true=>exact hb aA s1 Z H1 Q I1 q1
 |false=>exact⟨.bl false,H1,I1,rfl,q1⟩
theorem ar7(ha:PE X a ta):PE X (.UnaryOp .Not a pos) (ax5 ta):=by
 intro aA s Z H Q I h
 refine UnaryOp_ (thn (ha aA s Z H _ I h) λv s1 ⟨x,H1,I1,r1,q1⟩=>?_);obtain⟨c,rfl,q1⟩:=q1;cases r1
 exact not_of (wpAny_truthy_bool ⟨.bl (!c),H1,I1,rfl,q1⟩)
end
def SqL(K:Fg)(H:Hp)(a:Addr)(xs:List V):Prop :=
 Rd H a (.lst xs) \/
  ∃(o:Obj) (its:Array Value) (n:Nat),K.lookup a=some o/\o.cls=.type "list"/\o.dict=none/\o.data=.seq its n/\its.size<=sizeLine/\Vals xs its.toList
def SqT(K:Fg)(H:Hp)(a:Addr)(xs:List V):Prop :=
 Rd H a (.tup xs) \/
  ∃(o:Obj) (its:Array Value) (n:Nat),K.lookup a=some o/\o.cls=.type "tuple"/\o.data=.seq its n/\its.size<=sizeLine/\Vals xs its.toList
noncomputable def b07:Value->Option V
 |.none=>some .non
 |.bool b=>some (.bl b)
 |.int i _=>some (.int i)
 |.str x _=>some (.str x)
 |.bytes b _=>some (.byt b)
 |.float b _=>some (.flt b)
 |.ref a=>some (.ref a)
 |.type n=>some (.ty n)
 |_=>none
theorem RelV.abs(r:RelV x u):b07 u=some x:=by
 cases x with
 |non=>cases r;rfl
 |bl _=>cases r;rfl
 |int _=>obtain⟨t,rfl⟩:=r;rfl
 |str _=>obtain⟨t,rfl⟩:=r;rfl
 |byt _=>obtain⟨t,rfl⟩:=r;rfl
 |flt _=>obtain⟨t,rfl⟩:=r;rfl
 |ref _=>cases r;rfl
 |ty _=>cases r;rfl
theorem RelV.inj(r:RelV x u)(q:RelV y u):x=y:=Option.some.inj (r.abs.symm.trans q.abs)
theorem Vals.inj:∀{xs ys:List V} {us:List Value},Vals xs us->Vals ys us->xs=ys
 |_,_,_,.nil,.nil=>rfl
 |_,_,_,.cons r t,.cons r' t'=>by rw[r.inj r',Vals.inj t t']
section
variable{X:Cx}{aA:List (Addr×Obj)}{Z:St}{H:Hp}{s:Shared}{a:Addr}{xs ys:List V}
theorem SqL.of{K:Fg}(h:H a=some (.lst xs)):SqL K H a xs:=.inl (.inl h)
theorem SqT.of{K:Fg}(h:H a=some (.tup xs)):SqT K H a xs:=.inl (.inl h)
theorem Inv.list(I:Inv X aA Z H s)(h:SqL X.K H a xs):∃its:List Value,Vals xs its/\PlainL s.heap a its.toArray/\xs.length<=sizeLine:=by
 rcases h with h|⟨o,its,n,hk,hc,hd,hs,hz,r⟩
 .obtain⟨z,its,n,r,e⟩:=h.ok I.hok;exact⟨its,r,⟨_,n,e,rfl,rfl,rfl⟩,z⟩
 .refine⟨its.toList,r,⟨o,n,I.kIn a o hk,hc,hd,by simpa using hs⟩,?_⟩
  have e:=r.length;simp only[Array.length_toList]at e;lia
theorem Inv.tuple(I:Inv X aA Z H s)(h:SqT X.K H a xs):∃its:List Value,Vals xs its/\IsTup s.heap a its.toArray/\xs.length<=sizeLine:=by
 rcases h with h|⟨o,its,n,hk,hc,hs,hz,r⟩
 .obtain⟨z,its,r,p⟩:=h.ok I.hok;exact⟨its,r,p,z⟩
 .refine⟨its.toList,r,⟨o,I.kIn a o hk,hc,n,by simpa using hs⟩,?_⟩
  have e:=r.length;simp only[Array.length_toList]at e;lia
theorem Inv.list_inj(I:Inv X aA Z H s)(h:SqL X.K H a xs)(h':SqL X.K H a ys):xs=ys:=by
 obtain⟨its,r,⟨o,n,e,_,_,d⟩,_⟩:=I.list h;obtain⟨its',r',⟨o',n',e',_,_,d'⟩,_⟩:=I.list h';rw[e]at e';cases e'
 rw[d]at d'
 injection d' with d1 _
 have:its=its':=by simpa using congrArg Array.toList d1
 subst this;exact r.inj r'
theorem Inv.tuple_inj(I:Inv X aA Z H s)(h:SqT X.K H a xs)(h':SqT X.K H a ys):xs=ys:=by
 obtain⟨its,r,⟨o,e,_,n,d⟩,_⟩:=I.tuple h;obtain⟨its',r',⟨o',e',_,n',d'⟩,_⟩:=I.tuple h';rw[e]at e';cases e'
 rw[d]at d'
 injection d' with d1 _
 have:its=its':=by simpa using congrArg Array.toList d1
 subst this;exact r.inj r'
end
abbrev Cx.wish(X:Cx)(E:Value->Shared->Prop):Cx:={X with xe:=E}
abbrev Cx.nox(X:Cx):Cx:=X.wish λ_ _=>False
theorem Cx.Ok.wish{X:Cx}(ok:X.Ok)(E:Value->Shared->Prop):(X.wish E).Ok :=
 ⟨ok.mod,ok.kind,ok.glob,ok.blt,ok.above,ok.inj,ok.has,ok.cab,ok.hd,ok.frames,ok.stk,ok.exf,ok.bs,ok.bsz,ok.noex,ok.exfs,ok.funs,ok.frf⟩
theorem Cx.Ok.unwish{X:Cx}(ok:(X.wish E).Ok):X.Ok :=
 ⟨ok.mod,ok.kind,ok.glob,ok.blt,ok.above,ok.inj,ok.has,ok.cab,ok.hd,ok.frames,ok.stk,ok.exf,ok.bs,ok.bsz,ok.noex,ok.exfs,ok.funs,ok.frf⟩
section
variable{X:Cx}{aA:List (Addr×Obj)}{Z:St}{H:Hp}{s:Shared}{E:Value->Shared->Prop}
theorem Inv.wish(I:Inv X aA Z H s)(E:Value->Shared->Prop):Inv (X.wish E) aA Z H s:=⟨I.ok.wish E,I.os,I.bare,I.base,I.loc,I.cell,I.free,I.freeC,I.pin,I.hok,I.len⟩
theorem Inv.unwish(I:Inv (X.wish E) aA Z H s):Inv X aA Z H s:=⟨I.ok.unwish,I.os,I.bare,I.base,I.loc,I.cell,I.free,I.freeC,I.pin,I.hok,I.len⟩
theorem SP.unwish(h:SP (X.wish E) aA D f s'):SP X aA D f s':=by
 cases f with
 |next=>obtain⟨Z',H',I,q⟩:=h;exact⟨Z',H',I.unwish,q⟩
 |brk=>obtain⟨Z',H',I,q⟩:=h;exact⟨Z',H',I.unwish,q⟩
 |cont=>obtain⟨Z',H',I,q⟩:=h;exact⟨Z',H',I.unwish,q⟩
 |ret u=>obtain⟨v,Z',H',I,r,q⟩:=h;exact⟨v,Z',H',I.unwish,r,q⟩
theorem PSs.nox{st:List Stmt}{t:TS}(h:PSs X.nox st t):PSs X st t:=λaA s Z H D I hw =>
 wpAny_mono (h aA s Z H D (I.wish _) hw) (λ_ _ q=>q.unwish) λ_ _ z=>False.elim z
end
section
variable{X:Cx}{st:Stmt}{aG:List Stmt}{t u:TS}{e:Expr}{te:TE}{pos:Pos}
noncomputable def ax6:TS:=λD Z H=>D.nx Z H
noncomputable def b08(t u:TS):TS:=λD Z H=>t {D with nx:=u D} Z H
theorem amc:PSs X [] ax6:=λ_ _ Z H _ I h=>wpAny_execs_nil ⟨Z,H,I,h⟩
theorem ahq(h1:PS X st t)(h2:PSs X aG u):PSs X (st::aG) (b08 t u):=by
 intro aA s Z H D I h
 refine wpAny_execs_cons (thn (h1 aA s Z H {D with nx:=u D} I h) λf s1 q=>?_)
 cases f with
 |next =>
  obtain⟨Z',H',I',q⟩:=q;exact h2 aA s1 Z' H' D I' q
 |ret v=>exact q
 |brk=>exact q
 |cont=>exact q
theorem amd(h1:PS X st t):PSs X [st] t:=by
 intro aA s Z H D I h
 refine wpAny_execs_cons (thn (h1 aA s Z H D I h) λf s1 q=>?_)
 cases f with
 |next=>exact wpAny_execs_nil q
 |ret v=>exact q
 |brk=>exact q
 |cont=>exact q
noncomputable def ar8:TS:=λD Z H=>D.bk Z H
theorem ahr:PS X (.Break pos) ar8:=λ_ _ Z H _ I h=>wpAny_Break ⟨Z,H,I,h⟩
theorem Inv.quiet(I:Inv X aA Z H s):interactive X.env=false:=by simp[interactive,I.ok.kind]
noncomputable def ax7(te:TE):TS:=λD Z H=>te Z H λ_ H1=>D.nx Z H1
theorem ame(he:PE X e te)(hs:swapsWith e none pos.line X.env=pure false:=by rfl):PS X (.Expr e pos) (ax7 te):=by
 intro aA s Z H D I h
 exact wpAny_Expr_any (thn (he aA s Z H _ I h) λv s1 ⟨x,H1,I1,r1,q1⟩=>⟨Z,H1,I1,q1⟩) I.quiet hs
noncomputable def b09(te:TE):TS:=λD Z H=>te Z H D.rt
theorem ar9(he:PE X e te):PS X (.Return (some e) pos) (b09 te):=by
 intro aA s Z H D I h
 exact wpAny_Return_some (thn (he aA s Z H _ I h) λv s1 ⟨x,H1,I1,r1,q1⟩=>⟨x,Z,H1,I1,r1,q1⟩)
noncomputable def b0a(c:TT)(t u:TS):TS:=λD Z H=>c Z H λb H1=>if b=true then t D Z H1 else u D Z H1
theorem ax8{c:Expr}{a b:List Stmt}{tc:TT}(hc:PT X c tc)(ha:PSs X a t)(hb:PSs X b u):PS X (.If c a b pos) (b0a tc t u):=by
 intro aA s Z H D I h
 refine wpAny_If (thn (hc aA s Z H _ I h) λd s1 ⟨H1,I1,q1⟩=>?_)
 cases d with
 |true=>exact ha aA s1 Z H1 D I1 q1
 |false=>exact hb aA s1 Z H1 D I1 q1
end
abbrev TG:=V->St->Hp->(St->Hp->Prop)->Prop
abbrev TGs:=List V->St->Hp->(St->Hp->Prop)->Prop
def PG(X:Cx)(target:Expr)(t:TG):Prop :=
 ∀(aA:List (Addr×Obj)) (s:Shared) (Z:St) (H:Hp) (v:V) (u:Value) (Q:St->Hp->Prop),Inv X aA Z H s->RelV v u->t v Z H Q->
  wpAny (model X.prog X.w) X.A (assign target X.env u) (λ_ s'=>∃Z' H',Inv X aA Z' H' s'/\Q Z' H') X.xe s
def PGs(X:Cx)(ts:List Expr)(t:TGs):Prop :=
 ∀(aA:List (Addr×Obj)) (s:Shared) (Z:St) (H:Hp) (vs:List V) (us:List Value) (Q:St->Hp->Prop),Inv X aA Z H s->Vals vs us->t vs Z H Q->
  wpAny (model X.prog X.w) X.A (assignInOrder ((assignEach ts X.env).map (·.2)) us) (λ_ s'=>∃Z' H',Inv X aA Z' H' s'/\Q Z' H') X.xe s
abbrev ara:=V->V->V->Hp->(Hp->Prop)->Prop
def ax9(X:Cx)(t:ara):Prop :=
 ∀(aA:List (Addr×Obj)) (s:Shared) (Z:St) (H:Hp) (o i v:V) (ov iv u:Value) (Q:Hp->Prop),Inv X aA Z H s->RelV o ov->RelV i iv->RelV v u->t o i v H Q->
  wpAny (model X.prog X.w) X.A (setItem ov iv u) (λ_ s'=>∃H',Inv X aA Z H' s'/\Q H') X.xe s
abbrev TIp:=V->V->Hp->VK->Prop
def PIp(X:Cx)(op:Operator)(t:TIp):Prop :=
 ∀(aA:List (Addr×Obj)) (s:Shared) (Z:St) (H:Hp) (x y:V) (v u:Value) (Q:VK),Inv X aA Z H s->RelV x v->RelV y u->t x y H Q->
  wpAny (model X.prog X.w) X.A (inplaceOp op v u) (EP X aA Z Q) X.xe s
section
variable{X:Cx}{pos:Pos}
noncomputable def a0v(i:Nat):TG:=λv Z H Q=>Q (Z.set i (some v)) H
theorem a9a(hN:X.N.Nodup)(hi:X.N[i]? = some x)(hx:Loc X.env.scope x)(hf:Hf X x:=by first|exact .inl rfl|exact .inr rfl|assumption):PG X (.Name x pos) (a0v i):=by
 intro aA s Z H v u Q I r h
 exact wpAny_assign_Name (a6g I hN hi hx r (λs' I'=>⟨_,H,I',h⟩) hf)
noncomputable def az9:TGs:=λvs Z H Q=>vs=[]/\Q Z H
noncomputable def ahs(t:TG)(u:TGs):TGs:=λvs Z H Q=>∃v r,vs=v::r/\t v Z H λZ' H'=>u r Z' H' Q
theorem a3z:PGs X [] az9:=by
 intro aA s Z H vs us Q I r h
 obtain⟨e,h⟩:=h;subst e;cases r
 exact assignInOrder_nil ⟨Z,H,I,h⟩
theorem yc{e:Expr}{es:List Expr}{t:TG}{u:TGs}(h1:PG X e t)(h2:PGs X es u)
  (hs:(assignEach (e::es) X.env).map (·.2)=assign e X.env::(assignEach es X.env).map (·.2):=by rfl):PGs X (e::es) (ahs t u):=by
 intro aA s Z H vs us Q I r h
 obtain⟨v,vr,e1,h⟩:=h;subst e1
 cases r with
 |cons r rr =>
  rw[hs];refine assignInOrder_cons (thn (h1 aA s Z H _ _ _ I r h) λ_ s1 ⟨Z1,H1,I1,q1⟩=>?_);exact h2 aA s1 Z1 H1 _ _ Q I1 rr q1
noncomputable def vf(K:Fg)(n:Nat)(t:TGs):TG:=λv Z H Q=>∃a xs,v=.ref a/\SqT K H a xs/\xs.length=n/\t xs Z H Q
theorem a7o(hc:X.calm=true)(h:PGs X es t)
  (hn:(assignEach es X.env).length=n:=by rfl) (hst:(assignEach es X.env).findIdx? (·.1)=none:=by rfl):PG X (.Tuple es k pos) (vf X.K n t):=by
 intro aA s Z H v u Q I r hw
 obtain⟨a,xs,e1,hq,hl,hw⟩:=hw;subst e1;cases r
 obtain⟨its,rv,ht,hz⟩:=I.tuple hq;refine assign_Tuple_tuple (I.ok.hd hc) ht (by simp[hn,<-hl,rv.length]) hst λh' hx=>?_
 have I1:Inv X aA Z H {s with heap:=h' }:=I.kept (t':=s.toks) λb o e=>hx b o (Nat.ne_of_lt (Heap.lt_size e)) e
 exact h aA _ Z H xs _ Q I1 (by simpa using rv) hw
noncomputable def a6h(to ti:TE)(t:ara):TG:=λv Z H Q=>to Z H λo H1=>ti Z H1 λi H2=>t o i v H2 λH3=>Q Z H3
theorem arb{o i:Expr}{to ti:TE}{t:ara}(ho:PE X o to)(hi:PE X i ti)(hs:ax9 X t)
  (ha:∀v,assign (.Subscript o i pos) X.env v=(do
   let ov <-holding [v] (eval o X.env)
   let iv <-holding [v,ov] (eval i X.env)
   standAt pos
   holding [v,ov,iv] (setItem ov iv v)
   release [v,ov,iv] []):=by intro _;rfl):PG X (.Subscript o i pos) (a6h to ti t):=by
 intro aA s Z H v u Q I r h
 rw[ha];refine wpAny_bind (wpAny_holding (thn (ho aA s Z H _ I h) λov s1 ⟨x,H1,I1,r1,q1⟩=>?_));refine wpAny_bind (wpAny_holding (thn (hi aA s1 Z H1 _ I1 q1) λiv s2 ⟨y,H2,I2,r2,q2⟩=>?_));refine wpAny_bind (wpAny_standAt (wpAny_bind (wpAny_holding (thn (hs aA s2 Z H2 x y v ov iv u _ I2 r1 r2 r q2) λ_ s3 ⟨H3,I3,q3⟩=>?_))));exact wpAny_release ⟨Z,H3,I3,q3⟩
noncomputable def arc(te:TE)(g:TG):TS:=λD Z H=>te Z H λx H1=>g x Z H1 D.nx
theorem ako{tg e:Expr}{te:TE}{g:TG}(he:PE X e te)(hg:PG X tg g)(hs:swapsWithSole [tg] e pos.line X.env=pure false:=by rfl)(hw:swappedStores [tg] e X.env=pure none:=by rfl)
  (h1:(assignEach [tg] X.env).map (·.2)=[assign tg X.env]:=by rfl):PS X (.Assign [tg] e pos) (arc te g):=by
 intro aA s Z H D I h
 refine wpAny_Assign_stores (thn (he aA s Z H _ I h) λv s1 ⟨x,H1,I1,r1,q1⟩=>?_) hs hw;rw[h1];exact thn (hg aA s1 Z H1 x v _ I1 r1 q1) λ_ s2 q=>q
theorem ard{i:Nat}{x:Str}{e:Expr}{te:TE}{pos':Pos}(hN:X.N.Nodup)(hi:X.N[i]? = some x)(hx:Loc X.env.scope x)(he:PE X e te)(hs:swapsWith e (some (.Name x pos')) pos.line X.env=pure false:=by rfl)(hf:Hf X x:=by first|exact .inl rfl|exact .inr rfl|assumption) :
  PS X (.Assign [.Name x pos'] e pos) (arc te (a0v i)):=by
 intro aA s Z H D I h
 refine wpAny_Assign_Name (thn (he aA s Z H _ I h) λv s1 ⟨y,H1,I1,r1,q1⟩=>?_) hs;exact a6g I1 hN hi hx r1 (λs2 I2=>⟨_,H1,I2,q1⟩) hf
noncomputable def b0b(i:Nat)(te:TE)(ti:TIp):TS:=λD Z H=>∃x,Z[i]? = some (some x)/\te Z H λy H1=>ti x y H1 λz H2=>D.nx (Z.set i (some z)) H2
theorem arf{i:Nat}{x:Str}{e:Expr}{te:TE}{op:Operator}{ti:TIp}{pos':Pos}(hN:X.N.Nodup)(hi:X.N[i]? = some x)(hx:Loc X.env.scope x)(he:PE X e te)(ho:PIp X op ti)(hf:Hf X x:=by first|exact .inl rfl|exact .inr rfl|assumption) :
  PS X (.AugAssign (.Name x pos') op e pos) (b0b i te ti):=by
 intro aA s Z H D I h
 obtain⟨v,e1,h⟩:=h;obtain⟨m,hn,hl⟩:=I.loc;have vis:Vis X.env.scope x:=by rcases hx with k|k;exact .inl k;exact .inr (.inl k)
 obtain⟨u,r,l⟩:=hl i x v hi e1 vis;refine wpAny_AugAssign_Name ?_;have go:wpAny (model X.prog X.w) X.A (eval e X.env) (λw s₂=>wpAny (model X.prog X.w) X.A (inplaceOp op u w) (λr s₃=>wpAny (model X.prog X.w) X.A (storeName X.env x r) (λ_=>SP X aA D .next) X.xe s₃) X.xe s₂) X.xe s:=by
  refine thn (he aA s Z H _ I h) ?_
  rintro w s1 ⟨y,H1,I1,r1,q1⟩
  refine thn (ho aA s1 Z H1 v y u w _ I1 r r1 q1) ?_
  rintro z s2 ⟨zv,H2,I2,r2,q2⟩
  exact a6g I2 hN hi hx r2 (λs3 I3=>⟨_,H2,I3,q2⟩) hf
 rcases l with⟨hk,hm⟩|⟨hk,c,hc,hcell⟩
 .exact wpAny_loadName_local I.ok.kind hk hn hm go
 .rcases hk with hk|hk
  .exact wpAny_loadName_cell I.ok.kind hk hc hcell go
  .rcases hx with k|k
   .have:X.env.scope.names.lookup x=some .free:=hk
    rw[k]at this;cases this
   .have:X.env.scope.names.lookup x=some .free:=hk
    rw[k]at this;cases this
def axa(to ti te:TE)(tget:V->V->Hp->VK->Prop)(tip:TIp)(tset:ara):TS:=λD Z H=>to Z H λo H1=>ti Z H1 λi H2=>tget o i H2 λx H3=>te Z H3 λy H4=>tip x y H4 λz H5=>tset o i z H5 λH6=>D.nx Z H6
def aza(X:Cx)(t:V->V->Hp->VK->Prop):Prop :=
 ∀(aA:List (Addr×Obj)) (s:Shared) (Z:St) (H:Hp) (o i:V) (ov iv:Value) (Q:VK),Inv X aA Z H s->RelV o ov->RelV i iv->t o i H Q->
  wpAny (model X.prog X.w) X.A (getItem ov iv) (EP X aA Z Q) X.xe s
theorem amf{o i e:Expr}{to ti te:TE}{tget:V->V->Hp->VK->Prop}{tip:TIp}{tset:ara}{op:Operator}{tpos:Pos}(ho:PE X o to)(hi:PE X i ti)(hg:aza X tget)(he:PE X e te)(hp:PIp X op tip)(hs:ax9 X tset)
  (ha:∀ov iv new,augStore i ov iv new=(do holding [new,ov,iv] (setItem ov iv new);release [new,ov,iv] [];pure .next):=by intros;rfl):PS X (.AugAssign (.Subscript o i tpos) op e pos) (axa to ti te tget tip tset):=by
 intro aA s Z H D I h
 refine wpAny_AugAssign_SubscriptAny (thn (ho aA s Z H _ I h) λov s1 ⟨x1,H1,I1,r1,q1⟩=>?_) ha;refine thn (hi aA s1 Z H1 _ I1 q1) ?_
 rintro iv s2 ⟨x2,H2,I2,r2,q2⟩
 refine thn (hg aA s2 Z H2 x1 x2 ov iv _ I2 r1 r2 q2) ?_
 rintro old s3 ⟨x3,H3,I3,r3,q3⟩
 refine thn (he aA s3 Z H3 _ I3 q3) ?_
 rintro v s4 ⟨x4,H4,I4,r4,q4⟩
 refine thn (hp aA s4 Z H4 x3 x4 old v _ I4 r3 r4 q4) ?_
 rintro new s5 ⟨x5,H5,I5,r5,q5⟩
 exact thn (hs aA s5 Z H5 x1 x2 x5 ov iv new _ I5 r1 r2 r5 q5) λ_ s6 ⟨H6,I6,q6⟩=>⟨Z,H6,I6,q6⟩
end
section
variable{X:Cx}{pos:Pos}
def arh(c:TT)(tb:TS):TS:=λD Z H=>∃W:Nat->St->Hp->Prop,(∃m,W m Z H)/\∀m Z H,W m Z H->
 c Z H λb H1=>if b=true then ∃N:St->Hp->Prop,(∀Z' H',N Z' H'->∃m',m'<m/\W m' Z' H')/\tb {D with nx:=N,ct:=N,bk:=D.nx} Z H1 else D.nx Z H1
theorem aht{c:Expr}{body:List Stmt}{tc:TT}{tb:TS}(hp:PassesOwn (model X.prog X.w) X.A X.env X.xe)(hc:PT X c tc)(hb:PSs X body tb):PS X (.While c body [] pos) (arh tc tb):=by
 intro aA s Z H D I h
 obtain⟨W,⟨m0,w0⟩,turn⟩:=h;refine wpAny_While (codeAny_whileLoop (λn s'=>∃Z' H',Inv X aA Z' H' s'/\W n Z' H') ?_ m0 ⟨Z,H,I,w0⟩)
 rintro n s1 ⟨Z1,H1,I1,w1⟩
 refine wpAny_passesOwn hp (thn (hc aA s1 Z1 H1 _ I1 (turn n Z1 H1 w1)) λb s2 ⟨H2,I2,q2⟩=>?_)
 cases b with
 |true =>
  obtain⟨N,hN,q2⟩:=q2;rw[if_pos rfl];refine wpAny_passesOwn hp (thn (hb aA s2 Z1 H2 _ I2 q2) λf s3 q3=>?_)
  cases f with
  |next =>
   obtain⟨Z3,H3,I3,n3⟩:=q3;obtain⟨m',hm,w3⟩:=hN Z3 H3 n3;exact⟨m',hm,Z3,H3,I3,w3⟩
  |cont =>
   obtain⟨Z3,H3,I3,n3⟩:=q3;obtain⟨m',hm,w3⟩:=hN Z3 H3 n3;exact⟨m',hm,Z3,H3,I3,w3⟩
  |brk=>exact q3
  |ret v=>exact q3
 |false =>
  rw[if_neg Bool.false_ne_true];exact wpAny_execs_nil ⟨Z1,H2,I2,q2⟩
end
structure It where
 go:Nat->Hp->Prop
 yld:Nat->Hp->V->Hp->Prop
 stop:Nat->Hp->Prop
def FpOk(X:Cx)(aA:List (Addr×Obj))(H:Hp)(b:Addr):Prop :=
 H b=none/\b≠X.env.locals/\b∉X.fs/\(b∈X.ex\/X.s₀.heap.objs.size<=b)/\(∀x c,X.env.cells.lookup x=some c->c≠b)/\∀p∈X.pn++aA,p.1≠b
theorem Inv.fpOk(I:Inv X aA Z H s)(hb:s.heap.objs.size<=b)(hn:H' b=none):FpOk X aA H' b:=by
 refine⟨hn,Nat.ne_of_gt (Nat.lt_of_lt_of_le I.lt hb),I.nofs hb,.inr (Nat.le_trans I.sz hb),λx c e z=>?_,λp hp z=>?_⟩
 .obtain⟨v,q⟩:=I.cell x c e;exact absurd (Nat.lt_of_lt_of_le q.lt (by rw[z];exact hb)) (Nat.lt_irrefl _)
 .exact absurd (Nat.lt_of_lt_of_le (Heap.lt_size (I.pin p hp).1) (by rw[z];exact hb)) (Nat.lt_irrefl _)
structure Turn (P:Program) (w:World) (K:Fg) (tg:Expr) (J:It) (fp:List Addr) (it:Addr) (tn:Nat->Heap->Prop):Prop where
 mem:it∈fp
 obj:∀i h,tn i h->∀b∈fp,∃o,h.get? b=some o/\∀v,o.data≠.cell v
 keep:∀i h h',tn i h->(∀b∈fp,∀o,h.get? b=some o->h'.get? b=some o)->tn i h'
 item:∀(X:Cx),X.prog=P->X.w=w->X.K=K->X.calm=true->∀(i:Nat) (aA:List (Addr×Obj)) (s:Shared) (Z:St) (H:Hp) (E:Value->Shared->Prop),Inv X aA Z H s->(∀b∈fp,FpOk X aA H b)->tn i s.heap->J.go i H->
  wpAny (model P w) X.A (pyNext (.ref it)) (λr s1=>∃u,r=some u /\
   wpAny (model P w) X.A (letOwnedTupleGo tg (.ref it) u) (λ_ s2=>∃x H',Inv X aA Z H' s2/\RelV x u/\J.yld i H x H'/\tn (i+1) s2.heap/\∀b∈fp,H' b=none) E s1) E s
 done:∀(X:Cx),X.prog=P->X.w=w->X.K=K->X.calm=true->∀(i:Nat) (aA:List (Addr×Obj)) (s:Shared) (Z:St) (H:Hp) (E:Value->Shared->Prop),Inv X aA Z H s->(∀b∈fp,FpOk X aA H b)->tn i s.heap->J.stop i H->
  wpAny (model P w) X.A (pyNext (.ref it)) (λr s1=>r=none/\Inv X aA Z H s1) E s
 self:∀(A:Around) (i:Nat) (s:Shared) (Q:Value->Shared->Prop) (E:Value->Shared->Prop),tn i s.heap->Q (.ref it) s->wpAny (model P w) A (pyIter (.ref it)) Q E s
abbrev TI:=St->Hp->(It->Hp->Prop)->Prop
def PIE(X:Cx)(aA:List (Addr×Obj))(Z:St)(tg:Expr)(R:It->Hp->Prop)(itv:Value)(s2:Shared):Prop :=
 ∃(it:Addr) (fp:List Addr) (tn:Nat->Heap->Prop) (J:It) (H':Hp),itv=.ref it/\Inv X aA Z H' s2/\Turn X.prog X.w X.K tg J fp it tn/\tn 0 s2.heap/\(∀b∈fp,FpOk X aA H' b)/\R J H'
def PI(X:Cx)(tg aF:Expr)(wi:TI):Prop :=
 ∀(aA:List (Addr×Obj)) (s:Shared) (Z:St) (H:Hp) (R:It->Hp->Prop),Inv X aA Z H s->wi Z H R->
  wpAny (model X.prog X.w) X.A (eval aF X.env) (λv s1=>wpAny (model X.prog X.w) X.A (pyIter v) (PIE X aA Z tg R) X.xe s1) X.xe s
theorem adf{s:Shared}(ho:s.heap.get? it=some o)(hc:o.cls=.type n)(hd:o.data=.fields vs)
  (hn:["enumerate","zip","dict_itemiterator","dict_reverseitemiterator","odict_iterator","itertools.zip_longest","itertools.pairwise"].contains n=false) (hQ:Q () s):wpAny M A (letOwnedTupleGo tg (.ref it) u) Q E s:=by
 unfold letOwnedTupleGo
 cases tg<;>first
  |exact wpAny_pure hQ
  | (cases u<;>first
    |exact wpAny_pure hQ
    | (refine wpAny_bind (wpAny_load ho ?_)
       rw[hc,hd];show wpAny M A (if (["enumerate","zip","dict_itemiterator","dict_reverseitemiterator","odict_iterator","itertools.zip_longest","itertools.pairwise"].contains n && vs[0]? == some (rawInt _))=true then _ else _) Q E s
       rw[if_neg (by intro h;rw[hn,Bool.false_and]at h;cases h)]
       exact wpAny_pure hQ))
noncomputable def Itl(K:Fg)(a:Addr):It :=
 ⟨λi H=>∃xs x,SqL K H a xs/\xs[i]? = some x,λi H x H'=>H'=H/\∀xs,SqL K H a xs->xs[i]? = some x,λi H=>∃xs,SqL K H a xs/\xs.length<=i⟩
noncomputable def Itt(K:Fg)(a:Addr):It :=
 ⟨λi H=>∃xs x,SqT K H a xs/\xs[i]? = some x,λi H x H'=>H'=H/\∀xs,SqT K H a xs->xs[i]? = some x,λi H=>∃xs,SqT K H a xs/\xs.length<=i⟩
noncomputable def Itr(lo:Int)(n:Nat):It:=⟨λi _=>i<n,λi H x H'=>H'=H/\x=.int (lo+i),λi _=>n<=i⟩
theorem adg{P:Program}{w:World}{K:Fg}{tg:Expr}(a it:Addr):Turn P w K tg (Itl K a) [it] it (λi h=>h.IsListIter it a i) where
 mem:=by simp
 obj:=λi h st b hb=>by
  have e:b=it:=by simpa using hb
  subst e;obtain⟨o,e,c,d⟩:=st;exact⟨o,e,λv z=>by rw[d]at z;cases z⟩
 keep:=λi h h' st k=>st.at λo e=>k it (by simp) o e
 item:=by
  intro X hP hw hK hc i aA s Z H E I hf st hg
  subst hP hw hK;obtain⟨xs,x,hq,hx⟩:=hg;obtain⟨its,rv,p,hz⟩:=I.list hq;obtain⟨u,hu,ru⟩:=rv.get hx;obtain⟨f0,f1,f2,f3,f4,f5⟩:=hf it (by simp)
  refine wpAny_pyNext_list_item st p.isList (x:=u) (by simpa using hu) λh' st' sb=>?_
  have I1:Inv X aA Z H {s with heap:=h' }:=I.turned (t':=s.toks) (λb o hb e=>(sb.2 b hb).trans e) f0 f1 f3 f4 f5
  obtain⟨o,e,c,d⟩:=id st';exact⟨u,rfl,adf (s:={s with heap:=h' }) e c d (by decide) ⟨x,H,I1,ru,⟨rfl,λys hy=>by rw[I.list_inj hy hq];exact hx⟩,st',λb hb=>(hf b hb).1⟩⟩
 done:=by
  intro X hP hw hK hc i aA s Z H E I hf st hg
  subst hP hw hK;obtain⟨xs,hq,hx⟩:=hg;obtain⟨its,rv,p,hz⟩:=I.list hq;obtain⟨f0,f1,f2,f3,f4,f5⟩:=hf it (by simp)
  have hl:=rv.length;exact wpAny_pyNext_list_end (I.ok.hd hc) st p.isList (by simp;lia) λh' eb=>⟨rfl,I.turned (t':=s.toks) (λb o hb e=>eb b o hb e) f0 f1 f3 f4 f5⟩
 self:=λ_ _ _ _ _ st h=>wpAny_pyIter_listiter st h
theorem abt{P:Program}{w:World}{K:Fg}{tg:Expr}(a it:Addr):Turn P w K tg (Itt K a) [it] it (λi h=>h.IsTupleIter it a i) where
 mem:=by simp
 obj:=λi h st b hb=>by
  have e:b=it:=by simpa using hb
  subst e;obtain⟨o,e,c,d⟩:=st;exact⟨o,e,λv z=>by rw[d]at z;cases z⟩
 keep:=λi h h' st k=>st.at λo e=>k it (by simp) o e
 item:=by
  intro X hP hw hK hc i aA s Z H E I hf st hg
  subst hP hw hK;obtain⟨xs,x,hq,hx⟩:=hg;obtain⟨its,rv,p,hz⟩:=I.tuple hq;obtain⟨u,hu,ru⟩:=rv.get hx;obtain⟨f0,f1,f2,f3,f4,f5⟩:=hf it (by simp)
  refine wpAny_pyNext_tuple_item st (show s.heap.IsTuple a its.toArray from p) (x:=u) (by simpa using hu) λh' st' sb=>?_
  have I1:Inv X aA Z H {s with heap:=h' }:=I.turned (t':=s.toks) (λb o hb e=>(sb.2 b hb).trans e) f0 f1 f3 f4 f5
  obtain⟨o,e,c,d⟩:=id st';exact⟨u,rfl,adf (s:={s with heap:=h' }) e c d (by decide) ⟨x,H,I1,ru,⟨rfl,λys hy=>by rw[I.tuple_inj hy hq];exact hx⟩,st',λb hb=>(hf b hb).1⟩⟩
 done:=by
  intro X hP hw hK hc i aA s Z H E I hf st hg
  subst hP hw hK;obtain⟨xs,hq,hx⟩:=hg;obtain⟨its,rv,p,hz⟩:=I.tuple hq;obtain⟨f0,f1,f2,f3,f4,f5⟩:=hf it (by simp)
  have hl:=rv.length;exact wpAny_pyNext_tuple_end (I.ok.hd hc) st (show s.heap.IsTuple a its.toArray from p) (by simp;lia) λh' eb=>⟨rfl,I.turned (t':=s.toks) (λb o hb e=>eb b o hb e) f0 f1 f3 f4 f5⟩
 self:=λ_ _ _ _ _ st h=>wpAny_pyIter_tupleiter st h
theorem abu{P:Program}{w:World}{K:Fg}{tg:Expr}(it:Addr)(lo:Int)(n:Nat):Turn P w K tg (Itr lo n) [it] it (λi h=>IsRangeIter h it (lo+(i:Nat)*1) ((n:Int)-(i:Nat)) 1) where
 mem:=by simp
 obj:=λi h st b hb=>by
  have e:b=it:=by simpa using hb
  subst e;exact⟨_,st,λv z=>by
   have z':Data.fields _=Data.cell v:=z
   cases z'⟩
 keep:=λi h h' st k=>k it (by simp) _ st
 item:=by
  intro X hP hw hK hc i aA s Z H E I hf st hg
  subst hP hw hK;obtain⟨f0,f1,f2,f3,f4,f5⟩:=hf it (by simp)
  have W:=Walks.range (prog:=X.prog) (w:=X.w) (I.ok.hd hc) it lo 1 n;refine W.item i s _ _ hg st λv h' tk hv st' kk=>?_;obtain⟨t,rfl⟩:=hv;have I1:Inv X aA Z H {s with heap:=h',toks:=tk}:=I.turned (λb o hb e=>kk b o (by simpa using hb) e) f0 f1 f3 f4 f5
  refine⟨_,rfl,adf (s:={s with heap:=h',toks:=tk}) (n := "range_iterator") st' rfl rfl (by decide) ⟨.int (lo+i),H,I1,⟨t,?_⟩,⟨rfl,rfl⟩,st',λb hb=>(hf b hb).1⟩⟩
  rw[Int.mul_one]
 done:=by
  intro X hP hw hK hc i aA s Z H E I hf st hg
  subst hP hw hK;obtain⟨f0,f1,f2,f3,f4,f5⟩:=hf it (by simp)
  exact wpAny_pyNext_range_end (I.ok.hd hc) st (by have:n<=i:=hg;lia) λh' eb=>⟨rfl,I.turned (t':=s.toks) (λb o hb e=>eb b o hb e) f0 f1 f3 f4 f5⟩
 self:=λ_ _ _ _ _ st h=>wpAny_pyIter_rangeiter st h
section
variable{X:Cx}{tg:Expr}
noncomputable def axb(K:Fg)(tl:TE):TI:=λZ H R=>tl Z H λx H1=>∃a,x=.ref a/\(∃xs,SqL K H1 a xs)/\R (Itl K a) H1
noncomputable def b0c(K:Fg)(tl:TE):TI:=λZ H R=>tl Z H λx H1=>∃a,x=.ref a/\(∃xs,SqT K H1 a xs)/\R (Itt K a) H1
theorem adh{l:Expr}{tl:TE}(hl:PE X l tl):PI X tg l (axb X.K tl):=by
 intro aA s Z H R I h
 refine thn (hl aA s Z H _ I h) ?_
 rintro v s1 ⟨x,H1,I1,r1,q1⟩
 obtain⟨a,e,⟨xs,hq⟩,q⟩:=q1;subst e;cases r1
 obtain⟨its,rv,p,hz⟩:=I1.list hq;refine wpAny_pyIter_list p.isList ?_;refine⟨s1.heap.objs.size,[s1.heap.objs.size],_,_,H1,rfl,I1.kept (t':=s1.toks) λb o e=>Heap.get?_push_of_some _ e,adg a _,⟨_,Heap.get?_push_size _ rfl,rfl,rfl⟩,λb hb=>?_,q⟩;have e:b=s1.heap.objs.size:=by simpa using hb
 subst e;exact I1.fpOk (Nat.le_refl _) (I1.hok.fresh (Nat.le_refl _))
theorem ari{l:Expr}{tl:TE}(hl:PE X l tl):PI X tg l (b0c X.K tl):=by
 intro aA s Z H R I h
 refine thn (hl aA s Z H _ I h) ?_
 rintro v s1 ⟨x,H1,I1,r1,q1⟩
 obtain⟨a,e,⟨xs,hq⟩,q⟩:=q1;subst e;cases r1
 obtain⟨its,rv,p,hz⟩:=I1.tuple hq;refine wpAny_pyIter_tuple (show s1.heap.IsTuple a its.toArray from p) ?_
 refine⟨s1.heap.objs.size,[s1.heap.objs.size],_,_,H1,rfl,I1.kept (t':=s1.toks) λb o e=>Heap.get?_push_of_some _ e,abt a _,⟨_,Heap.get?_push_size _ rfl,rfl,rfl⟩,λb hb=>?_,q⟩;have e:b=s1.heap.objs.size:=by simpa using hb
 subst e;exact I1.fpOk (Nat.le_refl _) (I1.hok.fresh (Nat.le_refl _))
theorem aa9{s:Shared}{lo hi:Int}{tk:Nat}(I:Inv X aA Z H s)(h1 : -(2^62)<=lo)(h2:lo<2^62)(h3 : -(2^62)<=hi)(h4:hi<2^62)
  (q:R (Itr lo (hi-lo).toNat) H):wpAny (model X.prog X.w) X.A (pyIter (.ref s.heap.objs.size)) (PIE X aA Z tg R) E {s with heap:=s.heap.push {cls:=.type "range",data:=.fields #[.int lo t,.int hi u,.int 1 v]},toks:=tk}:=by
 refine wpAny_pyIter_range (IsRange.new ..) (small_one h1 h2 h3 h4) ?_;have I1:Inv X aA Z H {s with heap:=s.heap.push {cls:=.type "range",data:=.fields #[.int lo t,.int hi u,.int 1 v]},toks:=tk}:=I.kept λb o e=>Heap.get?_push_of_some _ e
 refine⟨(s.heap.push {cls:=.type "range",data:=.fields #[.int lo t,.int hi u,.int 1 v]}).objs.size,[(s.heap.push {cls:=.type "range",data:=.fields #[.int lo t,.int hi u,.int 1 v]}).objs.size],_,_,H,rfl,
  I1.kept (t':=tk) λb o e=>Heap.get?_push_of_some _ e,abu _ lo (hi-lo).toNat,?_,λb hb=>?_,q⟩
 .have e1:lo+((0:Nat):Int)*1=lo:=by simp
  have e2:(((hi-lo).toNat:Nat):Int)-((0:Nat):Int)=Builtin.Range.rangeSize lo hi 1:=by rw[rangeSize_one];split<;>lia
  show IsRangeIter _ _ (lo+((0:Nat):Int)*1) ((((hi-lo).toNat:Nat):Int)-((0:Nat):Int)) 1;rw[e1,e2];exact Heap.get?_push_size _ rfl
 .have e:b=(s.heap.push {cls:=.type "range",data:=.fields #[.int lo t,.int hi u,.int 1 v]}).objs.size:=by simpa using hb
  subst e;exact I1.fpOk (Nat.le_refl _) (I1.hok.fresh (Nat.le_refl _))
noncomputable def axc(ta:TA):TI:=λZ H R=>ta Z H λvs H1=>∃j:Int,vs=[.int j] /\ -(2^62)<=j/\j<2^62/\R (Itr 0 j.toNat) H1
noncomputable def axd(ta:TA):TI:=λZ H R=>ta Z H λvs H1=>∃i j:Int,vs=[.int i,.int j]/\(-(2^62)<=i/\i<2^62 /\ -(2^62)<=j/\j<2^62)/\R (Itr i (j-i).toNat) H1
theorem adi{a:Expr}{ta:TA}{p pos:Pos}(hg:Gl X "range")(hm:X.mg "range" = none)(ha:PA X [a] ta)(hs:starEach [a] X.env=[(false,eval a X.env)]:=by rfl):PI X tg (.Call (.Name "range" p) [a] [] pos) (axc ta):=by
 intro aA s Z H R I h
 refine Call_ (a1y I hg hm boot_range (PyProof.Rows.callWith_type1 (thn (ha pos aA s Z H _ I h) λus s1 ⟨vs,H1,I1,r1,q1⟩=>?_) hs rfl));obtain⟨j,e,q1,q2,q⟩:=q1;subst e
 cases r1 with
 |cons r rr =>
  cases rr
  obtain⟨t,rfl⟩:=r;exact call_range_1 (aa9 I1 (by lia) (by lia) q1 q2 (by simpa using q))
theorem adk{a b:Expr}{ta:TA}{p pos:Pos}(hg:Gl X "range")(hm:X.mg "range" = none)(ha:PA X [a,b] ta)(hs:starEach [a,b] X.env=[(false,eval a X.env),(false,eval b X.env)]:=by rfl)(hs2:starEach [b] X.env=[(false,eval b X.env)]:=by rfl) :
  PI X tg (.Call (.Name "range" p) [a,b] [] pos) (axd ta):=by
 intro aA s Z H R I h
 refine Call_ (a1y I hg hm boot_range (PyProof.Rows.callWith_type1 (thn (ha pos aA s Z H _ I h) λus s1 ⟨vs,H1,I1,r1,q1⟩=>?_) (by rw[hs,hs2]) (by rw[hs2];rfl)))
 obtain⟨i,j,e,⟨q1,q2,q3,q4⟩,q⟩:=q1;subst e
 cases r1 with
 |cons r rr =>
  cases rr with
  |cons r' rr =>
   cases rr
   obtain⟨t,rfl⟩:=r;obtain⟨t',rfl⟩:=r';exact call_range_2 (aa9 I1 q1 q2 q3 q4 q)
def b0d(wi:TI)(g:TG)(tb:TS):TS:=λD Z H=>wi Z H λJ H1=>∃W:Nat->Nat->St->Hp->Prop,(∃m,W 0 m Z H1)/\∀i m Z H,W i m Z H->
 (J.stop i H/\D.nx Z H)\/(J.go i H/\∃N:St->Hp->Prop,(∀Z' H',N Z' H'->∃m',m'<m/\W (i+1) m' Z' H')/\∀x H',J.yld i H x H'->g x Z H' λZ2 H2=>tb {D with nx:=N,ct:=N,bk:=D.nx} Z2 H2)
noncomputable def o9(fp:List Addr)(h:Heap):List (Addr×Obj):=fp.filterMap λb=>(h.get? b).map λo=>(b,o)
theorem gm{h:Heap}(hb:b∈fp)(e:h.get? b=some o):(b,o)∈o9 fp h:=List.mem_filterMap.mpr ⟨b,hb,by rw[e];rfl⟩
theorem a7p(hp:p∈o9 fp h):p.1∈fp/\h.get? p.1=some p.2:=by
 obtain⟨b,hb,e⟩:=List.mem_filterMap.mp hp
 cases q:h.get? b with
 |none=>rw[q]at e;cases e
 |some o =>
  rw[q]at e;have e':(b,o)=p:=Option.some.inj e;subst e';exact⟨hb,q⟩
theorem Inv.pinned(I:Inv X aA Z H s)(hf:∀b∈fp,FpOk X aA H b)(ho:∀b∈fp,∃o,s.heap.get? b=some o/\∀v,o.data≠.cell v):Inv X (aA++o9 fp s.heap) Z H s :=
 I.pins_of λp hp=>(List.mem_append.mp hp).elim (λz=>I.pin p (List.mem_append_right _ z)) λz=>by
  obtain⟨hb,e⟩:=a7p z;obtain⟨f0,f1,f2,_⟩:=hf p.1 hb;obtain⟨o,e',d⟩:=ho p.1 hb;rw[e]at e';cases e'
  exact⟨e,f0,f1,f2,d⟩
theorem Inv.unpinned(I:Inv X (aA++pl) Z H s):Inv X aA Z H s:=I.pins_of λp hp=>I.pin p (List.mem_append_right _ (List.mem_append_left _ hp))
theorem arj{aF:Expr}{body:List Stmt}{wi:TI}{g:TG}{tb:TS}{pos:Pos}(hp:PassesOwn (model X.prog X.w) X.A X.env X.xe)(hc:X.calm=true)(hi:PI X tg aF wi)(hg:PG X tg g)(hb:PSs X body tb)
  (hs:∀x,foldedSetIterable aF X.env x=pure x:=by intro _;rfl):PS X (.For tg aF body [] pos) (b0d wi g tb):=by
 intro aA s Z H D I h
 refine wpAny_For (thn (hi aA s Z H _ I h) λv s1 h1=>thn h1 λitv s2 h2=>?_) hs;obtain⟨it,fp,tn,J,H2,e,I2,T,st2,f2,W,⟨m0,w0⟩,turn⟩:=h2;subst e;have stat:∀{H':Hp},(∀b∈fp,H' b=none)->∀b∈fp,FpOk X aA H' b:=λhn b hb=>⟨hn b hb,(f2 b hb).2⟩;refine codeAny_forLoop_any (λn s'=>∃i Z' H',Inv X aA Z' H' s'/\tn i s'.heap/\(∀b∈fp,H' b=none)/\W i n Z' H') ?_ m0 ⟨0,Z,H2,I2,st2,λb hb=>(f2 b hb).1,w0⟩
 rintro n s3 ⟨i,Z3,H3,I3,st3,fr3,w3⟩
 rcases turn i n Z3 H3 w3 with⟨stop,qn⟩|⟨go,N,hN,step⟩
 .refine wpAny_passesOwn hp (thn (T.done X rfl rfl rfl hc i aA s3 Z3 H3 X.xe I3 (stat fr3) st3 stop) λr s4 ⟨hr,I4⟩=>?_);subst hr;exact wpAny_execs_nil ⟨Z3,H3,I4,qn⟩
 .refine wpAny_passesOwn hp (thn (T.item X rfl rfl rfl hc i aA s3 Z3 H3 X.xe I3 (stat fr3) st3 go) λr s4 ⟨u,hr,h4⟩=>?_);subst hr;refine wpAny_passesOwn hp (thn h4 λ_ s5 ⟨x,H5,I5,r5,y5,st5,fr5⟩=>?_);have I5':=I5.pinned (stat fr5) (T.obj _ _ st5);refine wpAny_passesOwn hp (thn (hg _ s5 Z3 H5 x u _ I5' r5 (step x H5 y5)) λ_ s6 ⟨Z6,H6,I6,q6⟩=>?_);refine wpAny_passesOwn hp (thn (hb _ s6 Z6 H6 _ I6 q6) λf s7 q7=>?_);have again:∀{Z7:St} {H7:Hp},Inv X (aA++o9 fp s5.heap) Z7 H7 s7->N Z7 H7->∃m,m<n/\∃i Z' H',Inv X aA Z' H' s7/\tn i s7.heap/\(∀b∈fp,H' b=none)/\W i m Z' H':=λ{Z7 H7} I7 n7=>by
   obtain⟨m',hm,w7⟩:=hN Z7 H7 n7;refine⟨m',hm,i+1,Z7,H7,I7.unpinned,T.keep _ _ _ st5 λb hb o e=>(I7.pin (b,o) (List.mem_append_right _ (List.mem_append_right _ (gm hb e)))).1,λb hb=>?_,w7⟩;obtain⟨o,e,d⟩:=T.obj _ _ st5 b hb;exact(I7.pin (b,o) (List.mem_append_right _ (List.mem_append_right _ (gm hb e)))).2.1
  cases f with
  |next=>obtain⟨Z7,H7,I7,n7⟩:=q7;exact again I7 n7
  |cont=>obtain⟨Z7,H7,I7,n7⟩:=q7;exact again I7 n7
  |brk=>obtain⟨Z7,H7,I7,q7⟩:=q7;exact⟨Z7,H7,I7.unpinned,q7⟩
  |ret v=>obtain⟨x7,Z7,H7,I7,r7,q7⟩:=q7;exact⟨x7,Z7,H7,I7.unpinned,r7,q7⟩
end
abbrev R2:=V->V->Hp->VK->Prop
def OpR(X:Cx)(f:Value->Value->Sem Value)(r:R2):Prop :=
 ∀(aA:List (Addr×Obj)) (s:Shared) (Z:St) (H:Hp) (x y:V) (v u:Value) (Q:VK),Inv X aA Z H s->RelV x v->RelV y u->r x y H Q->
  wpAny (model X.prog X.w) X.A (f v u) (EP X aA Z Q) X.xe s
def UnR(X:Cx)(f:Value->Sem Value)(r:V->Hp->VK->Prop):Prop :=
 ∀(aA:List (Addr×Obj)) (s:Shared) (Z:St) (H:Hp) (x:V) (v:Value) (Q:VK),Inv X aA Z H s->RelV x v->r x H Q->
  wpAny (model X.prog X.w) X.A (f v) (EP X aA Z Q) X.xe s
def CallR(X:Cx)(f:Value)(r:List V->Hp->VK->Prop):Prop :=
 ∀(aA:List (Addr×Obj)) (s:Shared) (Z:St) (H:Hp) (xs:List V) (us:List Value) (Q:VK),Inv X aA Z H s->Vals xs us->r xs H Q->
  wpAny (model X.prog X.w) X.A (call f us) (EP X aA Z Q) X.xe s
def b0e(X:Cx)(r:V->Hp->(Bool->Hp->Prop)->Prop):Prop :=
 ∀(aA:List (Addr×Obj)) (s:Shared) (Z:St) (H:Hp) (x:V) (v:Value) (Q:Bool->Hp->Prop),Inv X aA Z H s->RelV x v->r x H Q->
  wpAny (model X.prog X.w) X.A (truthy v) (TP X aA Z Q) X.xe s
noncomputable def tOp(r:R2)(ta tb:TE):TE:=λZ H Q=>ta Z H λx H1=>tb Z H1 λy H2=>r x y H2 Q
def tUn(r:V->Hp->VK->Prop)(ta:TE):TE:=λZ H Q=>ta Z H λx H1=>r x H1 Q
def rI(C:Int->Int->Prop)(g:Int->Int->V):R2:=λx y H Q=>∃i j,x=.int i/\y=.int j/\C i j/\Q (g i j) H
noncomputable def rI0(g:Int->Int->V):R2:=λx y H Q=>∃i j,x=.int i/\y=.int j/\Q (g i j) H
def rU(g:Int->V):V->Hp->VK->Prop:=λx H Q=>∃i,x=.int i/\Q (g i) H
section
variable{X:Cx}{a b c:Expr}{ta tb tc:TE}{pos:Pos}
theorem axe(ha:PE X a ta)(hb:PE X b tb){aA:List (Addr×Obj)}{s:Shared}{Z:St}{H:Hp}{R:V->V->Hp->Prop}(I:Inv X aA Z H s)
  (h:ta Z H λx H1=>tb Z H1 λy H2=>R x y H2) {Q:Value->Shared->Prop} {f:Value->Value->Sem Value}
  (hf:∀v u s2 x y H2,Inv X aA Z H2 s2->RelV x v->RelV y u->R x y H2->wpAny (model X.prog X.w) X.A (f v u) Q X.xe s2) :
  wpAny (model X.prog X.w) X.A (eval a X.env) (λv s₁=>wpAny (model X.prog X.w) X.A (eval b X.env) (λu s₂=>wpAny (model X.prog X.w) X.A (f v u) Q X.xe s₂) X.xe s₁) X.xe s:=by
 refine thn (ha aA s Z H _ I h) ?_
 rintro v s1 ⟨x,H1,I1,r1,q1⟩
 refine thn (hb aA s1 Z H1 _ I1 q1) ?_
 rintro u s2 ⟨y,H2,I2,r2,q2⟩
 exact hf v u s2 x y H2 I2 r1 r2 q2
theorem axf{op:Operator}{r:R2}(ho:OpR X (binaryOp op) r)(ha:PE X a ta)(hb:PE X b tb):PE X (.BinOp a op b pos) (tOp r ta tb):=by
 intro aA s Z H Q I h
 exact wpAny_BinOp (axe ha hb I h λv u s2 x y H2 I2 rx ry q=>ho aA s2 Z H2 x y v u Q I2 rx ry q)
theorem axg{op:UnaryOp}{r:V->Hp->VK->Prop}(ho:UnR X (unaryOp op) r)(ha:PE X a ta):PE X (.UnaryOp op a pos) (tUn r ta):=by
 intro aA s Z H Q I h
 exact UnaryOp_ (thn (ha aA s Z H _ I h) λv s1 ⟨x,H1,I1,r1,q1⟩=>ho aA s1 Z H1 x v Q I1 r1 q1)
theorem opI{f:Value->Value->Sem Value}{C:Int->Int->Prop}{g:Int->Int->Int}
  (rule:∀(i j:Int) (t u:Tok) (s:Shared) (Q:Value->Shared->Prop) (E:Value->Shared->Prop),C i j->Q (.int (g i j) s.toks) {s with toks:=s.toks+1}->wpAny (model X.prog X.w) X.A (f (.int i t) (.int j u)) Q E s) :
  OpR X f (rI C λi j=>.int (g i j)):=by
 intro aA s Z H x y v u Q I rx ry h
 obtain⟨i,j,rfl,rfl,hc,q⟩:=h;obtain⟨t,rfl⟩:=rx;obtain⟨t',rfl⟩:=ry;exact rule i j t t' s _ _ hc ⟨.int (g i j),H,I.tok _,⟨_,rfl⟩,q⟩
theorem axh{f:Value->Value->Sem Value}{g:Int->Int->Int}
  (rule:∀(i j:Int) (t u:Tok) (s:Shared) (Q:Value->Shared->Prop) (E:Value->Shared->Prop),Q (.int (g i j) s.toks) {s with toks:=s.toks+1}->wpAny (model X.prog X.w) X.A (f (.int i t) (.int j u)) Q E s) :
  OpR X f (rI0 λi j=>.int (g i j)):=by
 intro aA s Z H x y v u Q I rx ry h
 obtain⟨i,j,rfl,rfl,q⟩:=h;obtain⟨t,rfl⟩:=rx;obtain⟨t',rfl⟩:=ry;exact rule i j t t' s _ _ ⟨.int (g i j),H,I.tok _,⟨_,rfl⟩,q⟩
theorem awk{f:Value->Value->Sem Value}{g:Int->Int->Bool}
  (rule:∀(i j:Int) (t u:Tok) (s:Shared) (Q:Value->Shared->Prop) (E:Value->Shared->Prop),Q (.bool (g i j)) s->wpAny (model X.prog X.w) X.A (f (.int i t) (.int j u)) Q E s) :
  OpR X f (rI0 λi j=>.bl (g i j)):=by
 intro aA s Z H x y v u Q I rx ry h
 obtain⟨i,j,rfl,rfl,q⟩:=h;obtain⟨t,rfl⟩:=rx;obtain⟨t',rfl⟩:=ry;exact rule i j t t' s _ _ ⟨.bl (g i j),H,I,rfl,q⟩
def azb(i j:Int):Prop:=0<j/\j<1073741824
def azc(i j:Int):Prop:=0<=j/\j<=1000000/\i.natAbs<2^64
def CMul(i j:Int):Prop:=(-(2^64)<i/\i<2^64)\/(-(2^64)<j/\j<2^64)
theorem CMul.ok(h:CMul i j):IntMulOk i j:=by
 rcases h with⟨h1,h2⟩|⟨h1,h2⟩
 .exact .of_left (intBits_le_64 h1 h2)
 .exact .of_right (intBits_le_64 h1 h2)
theorem ark:OpR X (binaryOp .Add) (rI0 λi j=>.int (i+j)):=axh λ_ _ _ _ _ _ _ q=>add_int q
theorem arl:OpR X (binaryOp .Sub) (rI0 λi j=>.int (i-j)):=axh λ_ _ _ _ _ _ _ q=>sub_int q
theorem arn:OpR X (binaryOp .Mult) (rI CMul λi j=>.int (i*j)):=opI λ_ _ _ _ _ _ _ hc q=>mul_int q hc.ok
theorem amg:OpR X (binaryOp .FloorDiv) (rI azb λi j=>.int (i / j)):=opI λi j _ _ _ _ _ hc q=>by
 have h1:(0:Int)<j:=hc.1;have h2:j<1073741824:=hc.2;exact floordiv_int (by lia) (by rw[Int.fdiv_eq_ediv_of_nonneg i (by lia)];exact q) (.inl (PyProof.noPylong_small (by lia)))
theorem aro:OpR X (binaryOp .Mod) (rI (λ_ j=>0<j) λi j=>.int (i%j)):=opI λi j _ _ _ _ _ hc q=>by
 have h1:(0:Int)<j:=hc;exact mod_int' (by lia) (by rw[Int.fmod_eq_emod_of_nonneg i (by lia)];exact q)
theorem arp:OpR X (binaryOp .Pow) (rI azc λi j=>.int (i^j.toNat)):=opI λ_ _ _ _ _ _ _ hc q=>pow_int_small hc.1 hc.2.1 hc.2.2 q
theorem adl:OpR X (inplaceOp .Add) (rI0 λi j=>.int (i+j)):=axh λ_ _ _ _ _ _ _ q=>iadd_int q
theorem unI{f:Value->Sem Value}{g:Int->Int}
  (rule:∀(i:Int) (t:Tok) (s:Shared) (Q:Value->Shared->Prop) (E:Value->Shared->Prop),Q (.int (g i) s.toks) {s with toks:=s.toks+1}->wpAny (model X.prog X.w) X.A (f (.int i t)) Q E s) :
  UnR X f (rU λi=>.int (g i)):=by
 intro aA s Z H x v Q I rx h
 obtain⟨i,rfl,q⟩:=h;obtain⟨t,rfl⟩:=rx;exact rule i t s _ _ ⟨.int (g i),H,I.tok _,⟨_,rfl⟩,q⟩
theorem arq:UnR X (unaryOp .USub) (rU λi=>.int (-i)):=unI λ_ _ _ _ _ q=>neg_int q
end
section
variable{X:Cx}{a b c:Expr}{ta tb tc:TE}{pos:Pos}
theorem a5p(I:Inv X aA Z H s)(q:Q (.bl k) H)(e:k=k'):EP X aA Z Q (.bool k') s:=by
 subst e;exact⟨.bl k,H,I,rfl,q⟩
theorem axi:OpR X (compareOp .Lt) (rI0 λi j=>.bl (decide (i<j))):=awk λ_ _ _ _ _ _ _ q=>lt_int q
theorem amh:OpR X (compareOp .LtE) (rI0 λi j=>.bl (decide (i<=j))):=awk λ_ _ _ _ _ _ _ q=>le_int q
theorem axj:OpR X (compareOp .Gt) (rI0 λi j=>.bl (decide (j<i))):=awk λ_ _ _ _ _ _ _ q=>gt_int q
theorem axk:OpR X (compareOp .GtE) (rI0 λi j=>.bl (decide (j<=i))):=awk λ_ _ _ _ _ _ _ q=>ge_int q
theorem adm:OpR X (compareOp .Lt) (λx y H Q=>∃i j,x=.str i/\y=.str j/\Q (.bl (decide (i.cps.toList<j.cps.toList))) H):=by
 intro aA s Z H x y v u Q I rx ry h
 obtain⟨i,j,rfl,rfl,q⟩:=h;obtain⟨t,rfl⟩:=rx;obtain⟨t',rfl⟩:=ry;exact lt_str (a5p I q rfl)
theorem akp:OpR X (compareOp .Is) (λx y H Q=>y=.non/\Q (.bl (decide (x=.non))) H):=by
 intro aA s Z H x y v u Q I rx ry h
 obtain⟨rfl,q⟩:=h;cases ry
 refine is_none_gen (a5p I q ?_)
 cases x<;>first
  |(cases rx;rfl)
  |(obtain⟨t,rfl⟩:=rx;rfl)
theorem ami:OpR X (compareOp .IsNot) (λx y H Q=>y=.non/\Q (.bl (!decide (x=.non))) H):=by
 intro aA s Z H x y v u Q I rx ry h
 obtain⟨rfl,q⟩:=h;cases ry
 refine isnot_none_gen (a5p I q ?_)
 cases x<;>first
  |(cases rx;rfl)
  |(obtain⟨t,rfl⟩:=rx;rfl)
theorem OpR.or(h:OpR X f r)(h':OpR X f r'):OpR X f (λx y H Q=>r x y H Q\/r' x y H Q):=by
 intro aA s Z H x y v u Q I rx ry q
 rcases q with q|q
 .exact h aA s Z H x y v u Q I rx ry q
 .exact h' aA s Z H x y v u Q I rx ry q
theorem aaa(b:Expr)(h:op≠.In:=by decide)(h2:op≠.NotIn:=by decide):behindInMarks op b=false:=by
 have e1:(op == CmpOp.In)=false:=by cases op<;>first|rfl|exact absurd rfl h
 have e2:(op == CmpOp.NotIn)=false:=by cases op<;>first|rfl|exact absurd rfl h2
 cases b<;>simp[behindInMarks,e1,e2]
theorem amj(ho:OpR X (compareOp op) r)(ha:PE X a ta)(hb:PE X b tb)(hm:behindInMarks op b=false):PE X (.Compare a [op] [b] pos) (tOp r ta tb):=by
 intro aA s Z H Q I h
 exact wpAny_Compare1 (axe ha hb I h λv u s2 x y H2 I2 rx ry q=>ho aA s2 Z H2 x y v u Q I2 rx ry q) hm
noncomputable def ars(t:TE):TT:=λZ H Q=>t Z H λx H'=>∃k,x=.bl k/\Q k H'
theorem amk{op:CmpOp}{r:R2}(ho:OpR X (compareOp op) r)(ha:PE X a ta)(hb:PE X b tb)(hm:behindInMarks op b=false):PT X (.Compare a [op] [b] pos) (ars (tOp r ta tb)):=by
 intro aA s Z H Q I h
 refine wpAny_isTrue_Compare1 (thn (ha aA s Z H _ I h) λv s1 ⟨x,H1,I1,r1,q1⟩=>thn (hb aA s1 Z H1 _ I1 q1) λu s2 ⟨y,H2,I2,r2,q2⟩ =>
  thn (ho aA s2 Z H2 x y v u _ I2 r1 r2 q2) λc s3 ⟨z,H3,I3,r3,k,e,q3⟩=>?_) hm
 subst e;cases r3
 exact wpAny_truthy_bool ⟨H3,I3,q3⟩
noncomputable def akq(r r':R2)(ta tb tc:TE):TE:=λZ H Q=>ta Z H λx H1=>tb Z H1 λy H2=>r x y H2 λz H3=>∃k,z=.bl k /\
 (if k=true then tc Z H3 λw' H4=>r' y w' H4 Q else Q (.bl false) H3)
theorem ahu{op op':CmpOp}{r r':R2}(ho:OpR X (compareOp op) r)(ho':OpR X (compareOp op') r')(ha:PE X a ta)(hb:PE X b tb)(hc:PE X c tc)
  (hm:lastMarks [op,op'] [b,c]=false:=by with_unfolding_all rfl):PE X (.Compare a [op,op'] [b,c] pos) (akq r r' ta tb tc):=by
 intro aA s Z H Q I h
 refine Compare_chain (thn (ha aA s Z H _ I h) λv s1 ⟨x,H1,I1,r1,q1⟩=>chain_link (thn (hb aA s1 Z H1 _ I1 q1) λu s2 ⟨y,H2,I2,r2,q2⟩ =>
  thn (ho aA s2 Z H2 x y v u _ I2 r1 r2 q2) λd s3 ⟨z,H3,I3,r3,k,e,q3⟩=>?_)) hm
 subst e;cases r3
 refine wpAny_truthy_bool ?_
 cases k with
 |false=>exact ite_ff ⟨.bl false,H3,I3,rfl,q3⟩
 |true=>exact ite_tt (chain_last (thn (hc aA s3 Z H3 _ I3 q3) λw' s4 ⟨z',H4,I4,r4,q4⟩=>ho' aA s4 Z H4 y z' u w' Q I4 r2 r4 q4))
def axl(K:Fg)(x:V)(H:Hp)(k:Bool):Prop :=
 match x with
 |.non=>k=false
 |.bl b=>k=b
 |.int i=>k=(i != 0)
 |.str y=>y.length<=sizeLine/\k=((y.length:Int) != 0)
 |.byt y=>y.size<=sizeLine/\k=((y.size:Int) != 0)
 |.ref p=>(∃xs,SqL K H p xs/\k = !xs.isEmpty)\/(∃xs,SqT K H p xs/\k = !xs.isEmpty)\/∃kvs,H p=some (.dK kvs)/\k = !kvs.isEmpty
 |_=>False
theorem abv{κ:Type}{kvs:List (κ×V)}{vs:List (κ×Value)}(r:KV kvs vs):(!vs.isEmpty) = !kvs.isEmpty:=by
 cases r<;>rfl
theorem a5q(r:Vals xs its):(!its.toArray.isEmpty) = !xs.isEmpty:=by
 cases r<;>simp
theorem a1z:(sizeLine:Nat)<2^63:=by rw[sizeLine_eq];decide
theorem art:b0e X (λx H Q=>∃k,axl X.K x H k/\Q k H):=by
 intro aA s Z H x v Q I rx h
 obtain⟨k,e,q⟩:=h;have hl:=a1z;have hs:sizeLine=16777216:=sizeLine_eq
 cases x with
 |non =>
  cases rx
  have e':k=false:=e;subst e';exact truthy_none ⟨H,I,q⟩
 |bl b =>
  cases rx
  have e':k=b:=e;subst e';exact wpAny_truthy_bool ⟨H,I,q⟩
 |int i =>
  obtain⟨t,rfl⟩:=rx;have e':k=(i != 0):=e;subst e';exact PySem.P.truthy_int ⟨H,I,q⟩
 |str y =>
  obtain⟨t,rfl⟩:=rx;obtain⟨hy,e'⟩:y.length<=sizeLine/\k=((y.length:Int) != 0):=e;subst e';exact PySem.P.truthy_str (by lia) ⟨H,I.tok _,q⟩
 |byt y =>
  obtain⟨t,rfl⟩:=rx;obtain⟨hy,e'⟩:y.size<=sizeLine/\k=((y.size:Int) != 0):=e;subst e';exact PySem.W.truthy_bytes (by lia) ⟨H,I.tok _,q⟩
 |ref p =>
  cases rx
  have e':(∃xs,SqL X.K H p xs/\k = !xs.isEmpty)\/(∃xs,SqT X.K H p xs/\k = !xs.isEmpty)\/∃kvs,H p=some (.dK kvs)/\k = !kvs.isEmpty:=e
  rcases e' with⟨xs,hx,e'⟩|⟨xs,hx,e'⟩|⟨kvs,hx,e'⟩
  .subst e';obtain⟨its,r,pl,hz⟩:=I.list hx;have aH:=r.length;exact wpAny_truthy_list pl.isList (by simp only[List.size_toArray];lia) ⟨H,I.tok _,by rw[a5q r];exact q⟩
  .subst e';obtain⟨its,r,pl,hz⟩:=I.tuple hx;have aH:=r.length;exact truthy_tuple pl (by simp only[List.size_toArray];lia) ⟨H,I.tok _,by rw[a5q r];exact q⟩
  .subst e';obtain⟨hz,hS,vs,r,m⟩:kvs.length<=sizeLine/\(p == sysModules)=false/\∃vs,KV kvs vs/\s.heap.DictOf (gf X.prog X.w) p vs:=I.hok p _ hx;have aH:kvs.length=vs.length:=Paired.length r;exact wpAny_truthy_dict hS m (by lia) ⟨H,I.tok _,by rw[abv r];exact q⟩
 |_=>exact(show False from e).elim
theorem ahv(ha:PE X a ta)(he:∀whole,isTrue a X.env whole=(do let v <-whole;standAt a.pos;holding [v] (truthy v))) :
  PT X a (λZ H Q=>ta Z H λx H'=>∃k,axl X.K x H' k/\Q k H'):=by
 intro aA s Z H Q I h
 exact isTrue_plain (thn (ha aA s Z H _ I h) λv s1 ⟨x,H1,I1,r1,q1⟩=>art aA s1 Z H1 x v Q I1 r1 q1) (he _)
theorem abw:OpR X (binaryOp .Add) (λx y H Q=>∃i j,x=.str i/\y=.str j/\i.length+j.length<=sizeLine/\Q (.str (i++j)) H):=by
 intro aA s Z H x y v u Q I rx ry h
 obtain⟨i,j,rfl,rfl,hz,q⟩:=h;obtain⟨t,rfl⟩:=rx;obtain⟨t',rfl⟩:=ry;exact add_str (λt' tk=>⟨.str (i++j),H,I.tok _,⟨_,rfl⟩,q⟩) hz
theorem a4a:OpR X (inplaceOp .Add) (λx y H Q=>∃i j,x=.str i/\y=.str j/\i.length+j.length<=sizeLine/\Q (.str (i++j)) H):=by
 intro aA s Z H x y v u Q I rx ry h
 obtain⟨i,j,rfl,rfl,hz,q⟩:=h;obtain⟨t,rfl⟩:=rx;obtain⟨t',rfl⟩:=ry;exact iadd_str (λt' tk=>⟨.str (i++j),H,I.tok _,⟨_,rfl⟩,q⟩) hz
theorem vals1(r:Vals [x] us):∃u,us=[u]/\RelV x u:=by
 cases r with
 |cons r1 r2=>cases r2;exact⟨_,rfl,r1⟩
theorem vals2(r:Vals [x,y] us):∃u w',us=[u,w']/\RelV x u/\RelV y w':=by
 cases r with
 |cons r1 r2 =>
  cases r2 with
  |cons r3 r4=>cases r4;exact⟨_,_,rfl,r1,r3⟩
theorem ahw:CallR X (.builtin "abs") (λxs H Q=>∃i,xs=[.int i]/\Q (.int (if i<0 then -i else i)) H):=by
 intro aA s Z H xs us Q I r h
 obtain⟨i,rfl,q⟩:=h;obtain⟨u,rfl,t,rfl⟩:=vals1 r;exact call_abs_int λu tk=>⟨.int (if i<0 then -i else i),H,I.tok _,⟨_,rfl⟩,q⟩
theorem adn(hc:X.calm=true):CallR X (.builtin "max") (λxs H Q=>∃i j,xs=[.int i,.int j]/\Q (.int (if j > i then j else i)) H):=by
 intro aA s Z H xs us Q I r h
 obtain⟨i,j,rfl,q⟩:=h;obtain⟨u,w',rfl,⟨t,rfl⟩,⟨t',rfl⟩⟩:=vals2 r;refine max_two_ints (I.ok.hd hc) λh' tk k=>⟨_,H,I.kept k,?_,q⟩
 by_cases hj:j > i
 .rw[if_pos hj,if_pos hj];exact⟨_,rfl⟩
 .rw[if_neg hj,if_neg hj];exact⟨_,rfl⟩
theorem ado(hc:X.calm=true):CallR X (.builtin "min") (λxs H Q=>∃i j,xs=[.int i,.int j]/\Q (.int (if j<i then j else i)) H):=by
 intro aA s Z H xs us Q I r h
 obtain⟨i,j,rfl,q⟩:=h;obtain⟨u,w',rfl,⟨t,rfl⟩,⟨t',rfl⟩⟩:=vals2 r;refine min_two_ints (I.ok.hd hc) λh' tk k=>⟨_,H,I.kept k,?_,q⟩
 by_cases hj:j<i
 .rw[if_pos hj,if_pos hj];exact⟨_,rfl⟩
 .rw[if_neg hj,if_neg hj];exact⟨_,rfl⟩
end
structure ObjM (h:Heap) (x dx C:Addr) (mA:Str->Option Value):Prop where
 obj:h.get? x=some (PySem.W.instObj C dx)
 ns:h.Ns1 dx mA
 ne:dx≠x
theorem adp{h:Heap}(n:h.Ns1 dx mA):∃od,h.get? dx=some od/\∀name,PySem.W.lookIn name od=some (mA name):=by
 obtain⟨o,es,ep,ho,hd,hk,_,hm⟩:=n;refine⟨o,ho,λname=>?_⟩;have e:=hm name;unfold nsFind findBy at e;rw[<-Array.find?_toList]at e;unfold PySem.W.lookIn;rw[hd];dsimp only
 split
 .rename_i y q;rw[q]at e;exact congrArg some e
 .rename_i q;rw[q]at e;have a:es.toList.any (·.refKey)=false:=by
   rw[List.any_eq_false]
   intro y hy
   obtain⟨z,t,hkey⟩:=hk y (Array.mem_toList_iff.mp hy);simp[DictEntry.refKey,hkey]
  have a':¬ es.toList.any (·.refKey)=true:=by rw[a];exact Bool.false_ne_true
  rw[if_neg a'];exact congrArg some e
theorem ObjM.look(I:ObjM h x dx C mA):∃od,PySem.W.InstAt h x (PySem.W.instObj C dx) C (some od)/\∀name,PySem.W.lookIn name od=some (mA name) :=
 let ⟨od,ho,hl⟩:=adp I.ns
 ⟨od,⟨I.obj,rfl,rfl,ho⟩,hl⟩
theorem RelO.some_of(r:RelO (some v) o):∃u,o=some u/\RelV v u:=by
 cases o with
 |none=>exact(show False from r).elim
 |some u=>exact⟨u,rfl,r⟩
section
variable{P:Program}{w:World}{H H':Hp}{h h':Heap}{a C dx:Addr}{fs fs':List (Str×V)}
theorem aml(hok:HOk P w H h)(e:H a=some (.ins C dx fs)):∃mA,ObjM h a dx C mA/\(∀f,RelO (fs.lookup f) (mA f))/\PySem.Within mA (fs.map (·.1))/\fs.length<=1000/\H dx=some (.own a):=by
 obtain⟨d,z,ne,ob,mA,n,r,q⟩:=(show ObjOk P w H h a (.ins C dx fs) from hok a _ e)
 exact⟨mA,⟨ob,n,ne⟩,r,q,z,d⟩
end
structure Cls (K:Fg) (C:Addr):Prop where
 pg:PySem.W.plainGet K C Str.empty=true
 hd:PySem.W.hasDictIn K C=true
 po:PySem.W.plainOver K C=true
 sa:PySem.W.findIn K (.ref C) "__setattr__" = some (some (.builtin "object.__setattr__"))
theorem Cls.get{K:Fg}{C:Addr}(c:Cls K C)(f:Str):PySem.W.plainGet K C f=true:=c.pg
section
variable{X:Cx}{aA:List (Addr×Obj)}{Z:St}{H:Hp}{s:Shared}{A:Around}{E:Value->Shared->Prop}{Q:Value->Shared->Prop}{c:Value}{b:Bool}
inductive TyOf (K:Fg) (H:Hp):V->Value->Prop where
 |non:TyOf K H .non (.type "NoneType")
 |bl (x:Bool):TyOf K H (.bl x) (.type "bool")
 |int (i:Int):TyOf K H (.int i) (.type "int")
 |str (x:Str):TyOf K H (.str x) (.type "str")
 |flt (x:UInt64):TyOf K H (.flt x) (.type "float")
 |lst {a:Addr} {xs:List V} (e:H a=some (.lst xs)):TyOf K H (.ref a) (.type "list")
 |frz {a:Addr} {o:Obj} {xs:List V} (e:H a=some (.frz o (.lst xs))):TyOf K H (.ref a) (.type "list")
 |tup {a:Addr} {xs:List V} (e:H a=some (.tup xs)):TyOf K H (.ref a) (.type "tuple")
 |dK {a:Addr} {kvs:List (Key×V)} (e:H a=some (.dK kvs)):TyOf K H (.ref a) (.type "dict")
 |dT {a:Addr} {kvs:List (List Key×V)} (e:H a=some (.dT kvs)):TyOf K H (.ref a) (.type "dict")
 | ins {a C dx:Addr} {fs:List (Str×V)} (e:H a=some (.ins C dx fs)) (cl:Cls K C) (ha:PySem.W.findIn K (.ref C) "__class__" = some (some (.builtin "object.__class__")))
   (hn:PySem.W.specialIn K (.builtin "object.__class__") "__get__" = some (some (.builtin "getset_descriptor.__get__"))) (htk:PySem.W.takesIn K (.builtin "object.__class__")=some true)
   (hm:PySem.W.mroIn K C (.type "object")=some true):TyOf K H (.ref a) (.ref C)
theorem adq(I:Inv X aA Z H s)(rx:RelV x u)(ty:TyOf X.K H x t)(e:PySem.W.kitOne X.K t c=some b)(h:∀tk,Q (.bool b) {s with toks:=tk}) :
  wpAny (model X.prog X.w) A (call (.builtin "isinstance") [u,c]) Q E s:=by
 cases ty with
 |non=>cases (show u=Value.none from rx);exact PySem.W.kia_one PySem.W.kitx_none I.kIn True.intro e (λz=>nomatch z) h
 |bl y=>cases (show u=Value.bool y from rx);exact PySem.W.kia_one PySem.W.kitx_bool I.kIn True.intro e (λz=>nomatch z) h
 |int i=>obtain⟨t,q⟩:=(show ∃t,u=Value.int i t from rx);cases q;exact PySem.W.kia_one PySem.W.kitx_int I.kIn True.intro e (λz=>nomatch z) h
 |str y=>obtain⟨t,q⟩:=(show ∃t,u=Value.str y t from rx);cases q;exact PySem.W.kia_one PySem.W.kitx_str I.kIn True.intro e (λz=>nomatch z) h
 |flt y=>obtain⟨t,q⟩:=(show ∃t,u=Value.float y t from rx);cases q;exact PySem.W.kia_one PySem.W.kitx_float I.kIn True.intro e (λz=>nomatch z) h
 |@lst a xs ea =>
  cases (show u=Value.ref a from rx)
  obtain⟨_,_,n,_,h1⟩:=(show ObjOk X.prog X.w H s.heap a (.lst xs) from I.hok a _ ea)
  exact PySem.W.kia_one PySem.W.kitx_list I.kIn ⟨_,h1,rfl⟩ e (λz=>nomatch z) h
 |@frz a ob xs ea =>
  cases (show u=Value.ref a from rx)
  obtain⟨_,_,_,n,_,h1⟩:=(show ObjOk X.prog X.w H s.heap a (.frz ob (.lst xs)) from I.hok a _ ea)
  exact PySem.W.kia_one PySem.W.kitx_list I.kIn ⟨_,h1,rfl⟩ e (λz=>nomatch z) h
 |@tup a xs ea =>
  cases (show u=Value.ref a from rx)
  obtain⟨_,_,_,p⟩:=(show ObjOk X.prog X.w H s.heap a (.tup xs) from I.hok a _ ea)
  obtain⟨o,h1,h2,_⟩:=p;exact PySem.W.kia_one PySem.W.kitx_tuple I.kIn ⟨o,h1,h2⟩ e (λz=>nomatch z) h
 |@dK a kvs ea =>
  cases (show u=Value.ref a from rx)
  obtain⟨_,_,vs,_,p⟩:=(show ObjOk X.prog X.w H s.heap a (.dK kvs) from I.hok a _ ea)
  obtain⟨o,es,ep,h1,h2,_⟩:=p;exact PySem.W.kia_one PySem.W.kitx_dict I.kIn ⟨o,h1,h2.1⟩ e (λz=>nomatch z) h
 |@dT a kvs ea =>
  cases (show u=Value.ref a from rx)
  obtain⟨_,_,xs,_,o,es,ep,h1,h2,_⟩:=(show ObjOk X.prog X.w H s.heap a (.dT kvs) from I.hok a _ ea)
  exact PySem.W.kia_one PySem.W.kitx_dict I.kIn ⟨o,h1,h2.1⟩ e (λz=>nomatch z) h
 |@ins a C dx fs ea cl ha hn htk hm =>
  cases (show u=Value.ref a from rx)
  obtain⟨mA,O,_⟩:=aml I.hok ea;obtain⟨od,J,_⟩:=O.look;exact PySem.W.kia_one (PySem.W.kitx_own (cl.get _) cl.hd ha hn htk hm) I.kIn J e (λz=>nomatch z) h
end
structure Room (k:Nat) (A:Around):Prop where
 hd:A.handled=none
 dp:A.depth+3*k+5<recursionLimit
 un:A.units+16*k+200<cLine
 gd:A.guards=some []
theorem Room.mono(r:Room k A)(h:j<=k):Room j A:=⟨r.hd,by have:=r.dp;lia,by have:=r.un;lia,r.gd⟩
theorem Room.deeper(r:Room (k+1) A)(env:Env):Room k (A.deeper env) :=
 ⟨r.hd,by have:=r.dp;show A.depth+1+3*k+5<_;lia,by have:=r.un;show A.units+3+16*k+200<_;lia,r.gd⟩
theorem Room.depth(r:Room k A):A.depth<recursionLimit:=by have:=r.dp;lia
theorem Room.units(r:Room k A):A.units+64<cLine:=by have:=r.un;lia
noncomputable def azd:TA:=λ_ H Q=>Q [] H
noncomputable def axm(ta:TE)(tr:TA):TA:=λZ H Q=>ta Z H λx H1=>tr Z H1 λxs H2=>Q (x::xs) H2
section
variable{X:Cx}{e:Expr}{es:List Expr}{te:TE}{t:TA}{pos:Pos}
theorem a7q:PA X [] azd:=λ_ _ _ _ H Q I h=>Calls.spliced_nil ⟨[],H,I,.nil,h⟩
theorem a1b(ha:PE X e te)(hr:PA X es t)(hs:starEach (e::es) X.env=(false,eval e X.env)::starEach es X.env:=by rfl):PA X (e::es) (axm te t):=by
 intro pos aA s Z H Q I h
 rw[hs];show wpAny _ _ (spliced ((false,eval e X.env)::backTo pos (starEach es X.env))) _ _ s;refine Calls.spliced_cons (thn (ha aA s Z H _ I h) λu s1 ⟨x,H1,I1,r1,q1⟩=>?_);exact thn (hr pos aA s1 Z H1 _ I1 q1) λus s2 ⟨xs,H2,I2,r2,q2⟩=>⟨x::xs,H2,I2,.cons r1 r2,q2⟩
noncomputable def b0f(t:TA):TE:=λZ H Q=>t Z H λxs H1=>xs.length<=sizeLine/\∀p,H1 p=none->Q (.ref p) (upd H1 p (.tup xs))
noncomputable def b0g(t:TA):TE:=λZ H Q=>t Z H λxs H1=>xs.length<=sizeLine/\∀p,H1 p=none->Q (.ref p) (upd H1 p (.lst xs))
theorem aru{x1}(h:PA X es t):PE X (.Tuple es x1 pos) (b0f t):=by
 intro aA s Z H Q I hq
 refine wpAny_Tuple_spliced (thn (h pos aA s Z H _ I hq) λus s1 ⟨xs,H1,I1,r,z,q⟩=>⟨by rw[<-r.length];exact z,?_⟩)
 have hf:H1 s1.heap.objs.size=none:=I1.hok.fresh (Nat.le_refl _);refine⟨.ref s1.heap.objs.size,upd H1 s1.heap.objs.size (.tup xs),I1.laid (t':=s1.toks) (λb u e=>Heap.get?_push_of_some _ e) (Nat.le_refl _) ?_,rfl,q _ hf⟩;exact⟨z,us,r,⟨_,Heap.get?_push_size _ rfl,rfl,_,rfl⟩⟩
theorem arv(h:PA X es t):PE X (.List es pos) (b0g t):=by
 intro aA s Z H Q I hq
 refine wpAny_List_spliced (thn (h pos aA s Z H _ I hq) λus s1 ⟨xs,H1,I1,r,z,q⟩=>⟨by rw[<-r.length];exact z,?_⟩)
 have hf:H1 s1.heap.objs.size=none:=I1.hok.fresh (Nat.le_refl _);refine⟨.ref s1.heap.objs.size,upd H1 s1.heap.objs.size (.lst xs),I1.laid (t':=s1.toks) (λb u e=>Heap.get?_push_of_some _ e) (Nat.le_refl _) ?_,rfl,q _ hf⟩;exact⟨z,us,0,r,Heap.get?_push_size _ rfl⟩
end
abbrev Sp:=List V->Hp->VK->XK->Prop
abbrev CXT:=List Env->Hp->Shared->XK->Value->Shared->Prop
structure Env0 (P:Program) (w:World) (K:Fg) (mg:Str->Option Value) (base:Heap) (A:Around) (outer:List Env) (s:Shared) (H:Hp):Prop where
 frames:A.frames=some outer
 mod:Mod K mg base
 bs:∀b o,base.get? b=some o->s.heap.get? b=some o/\H b=none
 bsz:base.objs.size<=s.heap.objs.size
 funs:s.heap.FunFrames base outer
 frf:∀b∈frs outer,H b=none
 hok:HOk P w H s.heap
 bare:AllBare s.gens
def CE(outer:List Env)(P:Program)(w:World)(H:Hp)(s:Shared)(Q:VK)(u:Value)(s':Shared):Prop :=
 ∃v H',s'.os=s.os/\AllBare s'.gens/\Un (frs outer) [] H H' s.heap s'.heap/\HOk P w H' s'.heap/\RelV v u/\Q v H'
def CR(CX:CXT)(outer:List Env)(P:Program)(w:World)(H:Hp)(s:Shared)(Q:VK)(E:XK)(r:Result)(s':Shared):Prop :=
 match r with
 |.ok (.ret u)=>CE outer P w H s Q u s'
 |.ok _=>False
 |.error e=>CX outer H s E e s'
structure FnOk (P:Program) (w:World) (K:Fg) (mg:Str->Option Value) (base:Heap) (CX:CXT) (k:Nat) (f:Addr) (fd:FuncData) (ps:List Str) (sp:Sp):Prop where
 len:∀vs H Q E,sp vs H Q E->vs.length=ps.length
 run:∀(A:Around) (outer:List Env) (s:Shared) (H:Hp) (args:Args) (us:List Value) (vs:List V) (Q:VK) (E:XK),Room k A->Env0 P w K mg base A outer s H->BindsTo s fd args (ps.zip us)->Vals vs us->sp vs H Q E->
  codeAny (model P w) A (.call (.ref f) args) (CR CX outer P w H s Q E) s
theorem FnOk.imp{P:Program}{w:World}{K:Fg}{mg:Str->Option Value}{base:Heap}{CX:CXT}{k:Nat}{f:Addr}{fd:FuncData}{ps:List Str}{sp sp':Sp}(F:FnOk P w K mg base CX k f fd ps sp)
  (h:∀vs H Q E,sp' vs H Q E->sp vs H Q E):FnOk P w K mg base CX k f fd ps sp' :=
 ⟨λvs H Q E q=>F.len vs H Q E (h _ _ _ _ q),λA outer s H args us vs Q E hr he hb hv hs=>F.run A outer s H args us vs Q E hr he hb hv (h _ _ _ _ hs)⟩
section
variable{X:Cx}{aA:List (Addr×Obj)}{Z:St}{H:Hp}{s s':Shared}
theorem Inv.env0(I:Inv X aA Z H s):Env0 X.prog X.w X.K X.mg X.base X.A X.stack s H :=
 ⟨I.ok.frames,I.ok.mod,I.bs,Nat.le_trans I.ok.bsz I.sz,I.stack,I.stkFree,I.hok,I.bare⟩
theorem Inv.after(I:Inv X aA Z H s)(h:CE X.stack X.prog X.w H s Q u s'):EP X aA Z Q u s':=by
 obtain⟨v,H',os,bare,un,hok,r,q⟩:=h;obtain⟨hh,g,d,t,os'⟩:=s';obtain rfl:os'=s.os:=os;exact⟨v,H',I.call (h':=hh) (g':=g) (d':=d) (t':=t) (ch:=[]) un hok bare (λb z=>absurd z (by simp)),r,q⟩
end
noncomputable def arw(sp:Sp)(dvs:List V)(E:XK)(t:TA):TE:=λZ H Q=>t Z H λvs H1=>sp (vs++dvs) H1 Q E
def Binds(K:Fg)(fd:FuncData)(ps:List Str)(ds:List Value):Prop :=
 ∀(s:Shared) (us:List Value),K.In s.heap->(us++ds).length=ps.length->BindsTo s fd ⟨us,[]⟩ (ps.zip (us++ds))
theorem Binds.all{K:Fg}{fd:FuncData}{ps:List Str}(h:∀us:List Value,us.length=ps.length->bindArgs fd ⟨us,[]⟩=pure (ps.zip us)):Binds K fd ps []:=λs us _ hl=>by
 rw[List.append_nil]at hl ⊢;exact .of_eq (h us hl)
def aab(CX:CXT)(X:Cx)(E:XK):Prop:=∀(aA:List (Addr×Obj)) (Z:St) (H:Hp) (s:Shared) (e:Value) (s':Shared),Inv X aA Z H s->CX X.stack H s E e s'->X.xe e s'
section
variable{X:Cx}{CX:CXT}{k:Nat}{f C:Addr}{fd:FuncData}{ps:List Str}{sp:Sp}{dvs:List V}{ds:List Value}{E:XK}{x m:Str}{p pos apos:Pos}{e o:Expr}{es:List Expr}{ta:TE}{t:TA}
theorem akr(F:FnOk X.prog X.w X.K X.mg X.base CX k f fd ps sp)(hr:Room k X.A)(hb:Binds X.K fd ps ds)(hd:Vals dvs ds)(hx:aab CX X E)
  (I:Inv X aA Z H s) (r:Vals vs us) (h:sp (vs++dvs) H Q E):wpAny (model X.prog X.w) X.A (call (.ref f) us) (EP X aA Z Q) X.xe s:=by
 have r2:Vals (vs++dvs) (us++ds):=r.append hd;have hl:(us++ds).length=ps.length:=by rw[<-r2.length];exact F.len _ _ _ _ h
 refine wpAny_call (codeAny_mono (F.run X.A X.stack s H ⟨us,[]⟩ (us++ds) (vs++dvs) Q E hr I.env0 (hb s us I.kIn hl) r2 h) λr s' hq=>?_)
 cases r with
 |error e=>exact hx aA Z H s e s' I hq
 |ok fl =>
  cases fl with
  |ret u=>exact I.after hq
  |next=>exact False.elim hq
  |brk=>exact False.elim hq
  |cont=>exact False.elim hq
theorem amm(F:FnOk X.prog X.w X.K X.mg X.base CX k f fd ps sp)(hr:Room k X.A)(hg:Gl X x)(hm:X.mg x=some (.ref f))(hk:PySem.W.keepIn X.K (.ref f)=true)(hb:Binds X.K fd ps ds)(hd:Vals dvs ds)(hx:aab CX X E)
  (ha:PA X (e::es) t) (hdb:(x == ("__debug__" : Str))=false:=by decide) (he:starEach (e::es) X.env=(false,eval e X.env)::starEach es X.env:=by rfl) (hpl:(backTo pos (starEach es X.env)).any (·.1)=false:=by rfl) :
  PE X (.Call (.Name x p) (e::es) [] pos) (arw sp dvs E t):=by
 intro aA s Z H Q I h
 refine wpAny_Call_Name_kw (ade I hg hm ?_ hdb);refine PySem.W.callWith_K (h₀:=X.base) I.ok.mod.kin hk (thn (ha pos aA s Z H _ I h) λus s1 ⟨vs,H1,I1,r,q⟩=>⟨I1.kIn,?_⟩) he hpl;exact akr F hr hb hd hx I1 r q
theorem ahx(F:FnOk X.prog X.w X.K X.mg X.base CX k f fd ps sp)(hr:Room k X.A)(hg:Gl X x)(hm:X.mg x=some (.ref f))(hk:PySem.W.keepIn X.K (.ref f)=true)(hb:Binds X.K fd ps ds)(hd:Vals dvs ds)(hx:aab CX X E)
  (hdb:(x == ("__debug__" : Str))=false:=by decide):PE X (.Call (.Name x p) [] [] pos) (arw sp dvs E azd):=by
 intro aA s Z H Q I h
 refine wpAny_Call_Name_kw (ade I hg hm ?_ hdb);exact PySem.W.callWith_K0 I.kIn hk (akr (us:=[]) F hr hb hd hx I .nil h)
end
structure FnScope (N P:List Str) (sc:Scope):Prop where
 kind:sc.kind=.function
 co:sc.isCoroutine=false
 gen:sc.isGenerator=false
 nd:N.Nodup
 pre:N.take P.length=P
 par:∀x∈P,sc.names.lookup x=some .local\/sc.names.lookup x=some .cell
 nofree:∀y∈sc.names,y.2≠.free
theorem a7r{kindOf:Str->Option NameKind}{x:Str}:∀{binds:List (Str×Value)} {m:Str->Option Value},(∀v,(x,v)∉binds)->bindL kindOf binds m x=m x
 |[],_,_=>rfl
 |(n,v)::r,m,h=>by
  unfold bindL;rw[a7r λw hw=>h w (List.mem_cons_of_mem _ hw)]
  split
  .have:x≠n:=by rintro rfl;exact h v List.mem_cons_self
   simp[this]
  .rfl
theorem a7s{kindOf:Str->Option NameKind}{x:Str}:∀{binds:List (Str×Value)} {m:Str->Option Value},(∀v,(x,v)∉binds)->bindC kindOf binds m x=m x
 |[],_,_=>rfl
 |(n,v)::r,m,h=>by
  unfold bindC;rw[a7s λw hw=>h w (List.mem_cons_of_mem _ hw)]
  split
  .rfl
  .have:x≠n:=by rintro rfl;exact h v List.mem_cons_self
   simp[this]
theorem a7t{kindOf:Str->Option NameKind}{x:Str}{v:Value}:∀{P:List Str} {vs:List Value} {i:Nat} {m:Str->Option Value},P.Nodup->P[i]? = some x->vs[i]? = some v->kindOf x=some .local->
  bindL kindOf (P.zip vs) m x=some v
 |[],_,_,_,_,h,_,_=>by simp at h
 |_::_,[],_,_,_,_,h,_=>by simp at h
 |p::P,w::vs,0,m,nd,h1,h2,hk=>by
  simp at h1 h2;subst h1;subst h2
  show bindL kindOf ((p,w)::P.zip vs) m p=_;unfold bindL;rw[a7r λv hv=>(List.nodup_cons.mp nd).1 (List.of_mem_zip hv).1,if_pos hk];simp
 |p::P,w::vs,i+1,m,nd,h1,h2,hk=>by
  show bindL kindOf ((p,w)::P.zip vs) m x=_;unfold bindL;exact a7t (i:=i) (List.nodup_cons.mp nd).2 (by simpa using h1) (by simpa using h2) hk
theorem a7u{kindOf:Str->Option NameKind}{x:Str}{v:Value}:∀{P:List Str} {vs:List Value} {i:Nat} {m:Str->Option Value},P.Nodup->P[i]? = some x->vs[i]? = some v->kindOf x≠some .local->
  bindC kindOf (P.zip vs) m x=some v
 |[],_,_,_,_,h,_,_=>by simp at h
 |_::_,[],_,_,_,_,h,_=>by simp at h
 |p::P,w::vs,0,m,nd,h1,h2,hk=>by
  simp at h1 h2;subst h1;subst h2
  show bindC kindOf ((p,w)::P.zip vs) m p=_;unfold bindC;rw[a7s λv hv=>(List.nodup_cons.mp nd).1 (List.of_mem_zip hv).1,if_neg hk];simp
 |p::P,w::vs,i+1,m,nd,h1,h2,hk=>by
  show bindC kindOf ((p,w)::P.zip vs) m x=_;unfold bindC;exact a7u (i:=i) (List.nodup_cons.mp nd).2 (by simpa using h1) (by simpa using h2) hk
noncomputable def start(N:List Str)(vs:List V):St:=vs.map some++List.replicate (N.length-vs.length) none
noncomputable def ahe(CX:CXT)(P:Program)(w:World)(K:Fg)(mg:Str->Option Value)(base:Heap)(N:List Str)(qual:Str)(aB:Scope)(f:Addr)(cd:Value)(A:Around)(outer:List Env)(s:Shared)(H:Hp)(E:XK):Cx where
 prog:=P
 w:=w
 K:=K
 mg:=mg
 base:=base
 A:=A.deeper (envOfC qual aB s.heap.objs.size f cd)
 N:=N
 s₀:=s
 H₀:=H
 env:=envOfC qual aB s.heap.objs.size f cd
 outer:=outer
 stack:=envOfC qual aB s.heap.objs.size f cd::outer
 ex:=[]
 calm:=true
 fn:=λ_=>true
 pn:=[]
 xe:=λe s'=>wpAny (model P w) (A.deeper (envOfC qual aB s.heap.objs.size f cd)) (leaving (envOfC qual aB s.heap.objs.size f cd) e) (λ_ s''=>CX outer H s E e s'') (λe' s''=>CX outer H s E e' s'') s'
theorem aac{sc:Scope}(h:sc.names.lookup x=some .cell):∃c,(cellsFrom n sc.names []).lookup x=some c:=by
 have q:=PySem.W.cellsFrom_some sc.names n [] (.inl h);exact Option.isSome_iff_exists.mp q
theorem adt{CX:CXT}{P:Program}{w:World}{K:Fg}{mg:Str->Option Value}{base:Heap}{N ps:List Str}{qual:Str}{aB:Scope}{f:Addr}{cd:Value}{A:Around}{outer:List Env}{s s1:Shared}{H:Hp}{E:XK}{us:List Value}{vs:List V}
  (S:FnScope N ps aB) (hd:A.handled=none) (e0:Env0 P w K mg base A outer s H) (hl:vs.length=ps.length) (r:Vals vs us)
  (x:InCallC s s.heap.objs.size (bindL (envOfC qual aB s.heap.objs.size f cd).kindOf (ps.zip us) λ_=>none) (cellsFrom (s.heap.objs.size+1) aB.names []) (bindC (envOfC qual aB s.heap.objs.size f cd).kindOf (ps.zip us) λ_=>none) s1) :
  Inv (ahe CX P w K mg base N qual aB f cd A outer s H E) [] (start N vs) H s1:=by
 have hpl:ps.length<=N.length:=by have:=congrArg List.length S.pre;rw[List.length_take]at this;lia
 obtain⟨h1,tk,rfl,hk⟩:=x.done;have noA:∀b:Addr,b∉(ahe CX P w K mg base N qual aB f cd A outer s H E).ex:=λb z=>absurd (show b∈([]:List Addr) from z) (by simp)
 refine⟨⟨e0.mod,S.kind,rfl,rfl,Nat.le_refl _,λy z c h1 h2=>?_,λy hy=>?_,λy c _ h=>?_,λ_=>hd,Around.frames_deeper e0.frames,.inr ⟨rfl,rfl⟩,λb z=>absurd z (noA b),e0.bs,e0.bsz,λb _ _=>noA b,λb z=>absurd z (noA b),e0.funs,e0.frf⟩,
  rfl,e0.bare,Un.kept hk,⟨_,x.toInCall.ns,λi y v h1 h2 h3=>?_⟩,λy c h=>⟨_,x.cell y c h⟩,e0.hok.fresh (Nat.le_refl _),λy c h=>?_,λp hp=>absurd (show p∈([]:List (Addr×Obj)) from hp) (by simp),e0.hok.kept hk,?_⟩
 .exact name_of_addr x.apart (PySem.mem_of_lookup h1) (PySem.mem_of_lookup h2)
 .have hy:aB.names.lookup y=some .cell\/aB.names.lookup y=some .free:=hy
  rcases hy with hy|hy
  .exact aac hy
  .exact absurd rfl (S.nofree _ (PySem.mem_of_lookup hy))
 .exact Nat.le_of_lt (x.above y c (PySem.mem_of_lookup h))
 .have hi:i<vs.length:=by
   unfold start at h2
   by_cases hi:i<vs.length
   .exact hi
   .rw[List.getElem?_append_right (by simpa using hi)]at h2
    rw[List.getElem?_replicate]at h2
    split at h2<;>cases h2
  have ha:vs[i]? = some v:=by
   unfold start at h2;rw[List.getElem?_append_left (by simpa using hi),List.getElem?_map]at h2
   cases e:vs[i]? with
   |none=>rw[e]at h2;cases h2
   |some a=>rw[e]at h2;cases h2;rfl
  obtain⟨u,hu,rv⟩:=r.get ha;have hp:ps[i]? = some y:=by
   rw[<-S.pre,List.getElem?_take_of_lt (by lia)];exact h1
  have ndP:ps.Nodup:=by rw[<-S.pre];exact S.nd.sublist (List.take_sublist _ _)
  refine⟨u,rv,?_⟩
  rcases S.par y (List.mem_of_getElem? hp) with k|k
  .exact .inl ⟨k,a7t ndP hp hu k⟩
  .obtain⟨c,e⟩:=aac (n:=s.heap.objs.size+1) k;refine .inr ⟨.inl k,c,e,?_⟩;have q:=x.cell y c e;rw[a7u ndP hp hu (by show aB.names.lookup y≠_;rw[k];decide)]at q
   exact q
 .exact e0.hok.fresh (Nat.le_of_lt (x.above y c (PySem.mem_of_lookup h)))
 .unfold start;show _=N.length;rw[List.length_append,List.length_map,List.length_replicate];lia
theorem axn{CX:CXT}{P:Program}{w:World}{K:Fg}{mg:Str->Option Value}{base:Heap}{k:Nat}{f:Addr}{name qual:Str}{params:Arguments}{body:List Stmt}{aB:Scope}{dV kV doc pm cdv ct oc:Value}{an od:Option Addr}
  {osl:Array (Option Value)} {N ps:List Str} {sp:Sp} (lk:K.lookup f=some ⟨oc,od,.func (PySem.W.fnOf name qual params body aB dV kV doc pm an cdv ct),osl⟩) (hcd:PySem.W.codeIn K cdv qual=true) (S:FnScope N ps aB)
  (len:∀vs H Q E,sp vs H Q E->vs.length=ps.length)
  (hbody:∀(A:Around) (outer:List Env) (s:Shared) (H:Hp) (vs:List V) (Q:VK) (E:XK),Room k (A.deeper (envOfC qual aB s.heap.objs.size f cdv))->sp vs H Q E->
   ∃t,PSs (ahe CX P w K mg base N qual aB f cdv A outer s H E) body t/\t {nx:=λ_ H'=>Q .non H',rt:=Q} (start N vs) H) :
  FnOk P w K mg base CX (k+1) f (PySem.W.fnOf name qual params body aB dV kV doc pm an cdv ct) ps sp:=by
 refine⟨len,λA outer s H args us vs Q E hr e0 hb r hsp=>?_⟩;have hl:=len _ _ _ _ hsp;have KX:K.In s.heap:=e0.mod.kin.keeps λb o e=>(e0.bs b o e).1;have lim:s.heap.NoLimit:=e0.mod.nolimit.keeps λb o e=>(e0.bs b o e).1;have hkind:∀y∈ps.zip us,aB.names.lookup y.1=some .local\/(aB.names.lookup y.1=some .cell/\((cellsFrom (s.heap.objs.size+1) aB.names []).lookup y.1).isSome=true):=λ⟨n,v⟩ hy=>by
  rcases S.par n (List.of_mem_zip hy).1 with q|q
  .exact .inl q
  .exact .inr ⟨q,PySem.W.cellsFrom_some _ _ _ (.inl q)⟩
 refine codeAny_call_function hr.depth (KX _ _ lk) rfl S.co S.gen rfl (PySem.W.codeRec_of KX hcd) (hb _ _ _ _ ?_);refine wpAny_newFunctionEnv_cells S.kind hkind λenv he s1 x=>?_;subst he;refine⟨lim.keeps x.toInCall.keep,codeAny_func ?_⟩;obtain⟨t,ht,hq⟩:=hbody A outer s H vs Q E (hr.deeper _) hsp;have I:Inv (ahe CX P w K mg base N qual aB f cdv A outer s H E) [] (start N vs) H s1:=adt S hr.hd e0 hl r x;refine wpAny_mono (ht [] s1 (start N vs) H _ I hq) (λfl s' hs=>?_) λe s' hs=>hs;have fin:∀{Z':St} {H':Hp} {v:V} {u:Value},Inv (ahe CX P w K mg base N qual aB f cdv A outer s H E) [] Z' H' s'->RelV v u->Q v H'->CE outer P w H s Q u s' :=
  λ{Z' H' v u} J rv q=>⟨v,H',J.os,J.bare,J.base,J.hok,rv,q⟩
 cases fl with
 |ret u =>
  obtain⟨v,Z',H',J,rv,q⟩:=hs;exact fin J rv q
 |next =>
  obtain⟨Z',H',J,q⟩:=hs;exact fin (v:=V.non) (u:=Value.none) J rfl q
 |brk =>
  obtain⟨_,_,_,q⟩:=hs;exact False.elim q
 |cont =>
  obtain⟨_,_,_,q⟩:=hs;exact False.elim q
section
variable{X:Cx}{x:Str}{p pos:Pos}{e:Expr}{es:List Expr}{t:TA}{id T:String}{r:List V->Hp->VK->Prop}
def tCB(r:List V->Hp->VK->Prop)(t:TA):TE:=λZ H Q=>t Z H λvs H1=>r vs H1 Q
theorem ahy(hc:CallR X (.builtin id) r)(hg:Gl X x)(hm:X.mg x=none)(hv:bootBuiltins x=some (.builtin id))(ha:PA X (e::es) t)(hn:x ≠ "__name__":=by decide)(hdb:(x == ("__debug__" : Str))=false:=by decide)
  (he:starEach (e::es) X.env=(false,eval e X.env)::starEach es X.env:=by rfl) (hpl:(backTo pos (starEach es X.env)).any (·.1)=false:=by rfl):PE X (.Call (.Name x p) (e::es) [] pos) (tCB r t):=by
 intro aA s Z H Q I h
 refine wpAny_Call_Name_kw (a1y I hg hm hv ?_ hn hdb);exact PyProof.Rows.callWith_builtin1 (thn (ha pos aA s Z H _ I h) λus s1 ⟨vs,H1,I1,r1,q1⟩=>hc aA s1 Z H1 vs us Q I1 r1 q1) he hpl
theorem a7v(hc:CallR X (.type T) r)(hg:Gl X x)(hm:X.mg x=none)(hv:bootBuiltins x=some (.type T))(ha:PA X (e::es) t)(hn:x ≠ "__name__":=by decide)(hdb:(x == ("__debug__" : Str))=false:=by decide)
  (he:starEach (e::es) X.env=(false,eval e X.env)::starEach es X.env:=by rfl) (hpl:(backTo pos (starEach es X.env)).any (·.1)=false:=by rfl):PE X (.Call (.Name x p) (e::es) [] pos) (tCB r t):=by
 intro aA s Z H Q I h
 refine wpAny_Call_Name_kw (a1y I hg hm hv ?_ hn hdb);exact PyProof.Rows.callWith_type1 (thn (ha pos aA s Z H _ I h) λus s1 ⟨vs,H1,I1,r1,q1⟩=>hc aA s1 Z H1 vs us Q I1 r1 q1) he hpl
end
end L2
namespace HT
open PyProof.Rows
section
variable{prog:Program}{w:World}{A:Around}{E:Value->Shared->Prop}{s:Shared}
theorem amn{vs ws:List Value}(ht:IsTup s.heap t vs.toArray)(hb:IsTup s.heap b ws.toArray)(hv:vs≠[])
  (h1:ws=[]->Q (.ref t) s) (h2:ws≠[]->Q (.ref s.heap.objs.size) {s with heap:=s.heap.push {cls:=.type "tuple",data:=.seq (vs++ws).toArray} })
  (hsz:vs.length+ws.length<=sizeLine):wpAny (model prog w) A (binaryOp .Add (.ref t) (.ref b)) Q E s:=by
 obtain⟨⟨cls,dd,data,sl⟩,ho,hc,n,hd⟩:=id ht;obtain⟨⟨cls2,dd2,data2,sl2⟩,ho2,hc2,n2,hd2⟩:=id hb;simp only at hc hd hc2 hd2;subst hc hd hc2 hd2;have e:vs.toArray++ws.toArray=(vs++ws).toArray:=by simp
 by_cases hw:ws=[]
 .exact concat_meets ⟨_,ho,rfl⟩ ⟨_,ho2,rfl⟩ noFill_tuple_add seq_tuple_add PySem.F.slot_tuple_add PySem.F.entry_tuple_add (PySem.F.args_tuple_add_2 _ _)
   (tuple_addW1 t b vs.toArray ws.toArray n n2 dd dd2 sl sl2 (by simpa using hv) (by simp[hw])) ⟨ho,ho2,h1 hw⟩
 .refine concat_meets ⟨_,ho,rfl⟩ ⟨_,ho2,rfl⟩ noFill_tuple_add seq_tuple_add PySem.F.slot_tuple_add PySem.F.entry_tuple_add (PySem.F.args_tuple_add_2 _ _)
   (tuple_addW2 t b vs.toArray ws.toArray n n2 dd dd2 sl sl2 (by simpa using hv) (by simpa using hw) (by rw[List.size_toArray,List.size_toArray];exact hsz)) ⟨ho,ho2,?_⟩
  rw[e];exact h2 hw
noncomputable def sIx(n d:Nat):Option Int->Nat
 |none=>d
 |some v=>if v<0 then (v+(n:Int)).toNat else min v.toNat n
theorem aad(n d:Nat):sIx n d none=d:=rfl
theorem adu(n d k:Nat):sIx n d (some (k:Int))=min k n:=by
 show(if (k:Int)<0 then ((k:Int)+(n:Int)).toNat else min (k:Int).toNat n)=min k n
 rw[if_neg (by lia),Int.toNat_natCast]
theorem adv(n d:Nat)(hd:d<=n)(o:Option Int):sIx n d o<=n:=by
 cases o with
 |none=>exact hd
 |some v =>
  show(if v<0 then (v+(n:Int)).toNat else min v.toNat n)<=n
  by_cases hv:v<0
  .rw[if_pos hv];lia
  .rw[if_neg hv];exact Nat.min_le_right _ _
theorem adw(v:Int)(n d:Nat):(if v<0 then max (v+(n:Int)) 0 else min v (n:Int))=((sIx n d (some v):Nat):Int):=by
 show(if v<0 then max (v+(n:Int)) 0 else min v (n:Int))=(((if v<0 then (v+(n:Int)).toNat else min v.toNat n):Nat):Int)
 by_cases hv:v<0
 .simp only[if_pos hv];lia
 .simp only[if_neg hv];lia
theorem abx(lo hi:Option Int)(n:Nat):Builtin.Slice.sliceAdjust lo hi 1 (n:Int)=(((sIx n 0 lo:Nat):Int),((sIx n n hi:Nat):Int)):=by
 have h1:¬ ((1:Int)<0):=by lia
 unfold Builtin.Slice.sliceAdjust;simp only[h1,if_false];refine Prod.ext ?_ ?_
 .cases lo with
  |none=>rfl
  |some v=>exact adw v n 0
 .cases hi with
  |none=>rfl
  |some v=>exact adw v n n
theorem aby(i j:Nat):Builtin.Slice.slicePlaces (i:Int) (j:Int) 1=j-i:=by
 unfold Builtin.Slice.slicePlaces;have h1:(1:Int) > 0:=by lia
 simp only[h1,if_true,Int.ediv_one]
 split<;>lia
theorem a5r(p:IsPart v o)(h:Q o s):wpAny (model prog w) A (Builtin.Slice.slicePartIndex v) Q E s:=by
 cases p with
 |none=>exact slicePart_none h
 |int i t=>exact slicePart_int h
theorem a0t{sl:Addr}{vl vu:Value}{lo hi:Option Int}{n:Nat}{Q:Int×Int×Nat->Shared->Prop}(hs:s.heap.IsSliceOf sl vl vu .none)(pl:IsPart vl lo)(pu:IsPart vu hi)
  (h:Q (((sIx n 0 lo:Nat):Int),1,sIx n n hi-sIx n 0 lo) s):wpAny (model prog w) A (Builtin.Slice.sliceApplied (.ref sl) (pure (n:Int))) Q E s:=by
 obtain⟨os,hos,hcs,hds⟩:=id hs;unfold Builtin.Slice.sliceApplied Builtin.Slice.sliceFields;refine wpAny_bind (wpAny_bind (wpAny_field hos hds (x:=vl) rfl (wpAny_bind (wpAny_field hos hds (x:=vu) rfl (wpAny_bind (wpAny_field hos hds (x:=.none) rfl (wpAny_pure ?_)))))));refine wpAny_bind (slicePart_none ?_);show wpAny _ _ (if ((1:Int) == 0)=true then _ else _) _ _ s
 rw[if_neg (by decide)]
 refine wpAny_bind (a5r pl (wpAny_bind (a5r pu (wpAny_bind (wpAny_pure ?_)))));show wpAny _ _ (match Builtin.Slice.sliceAdjust lo hi 1 (n:Int) with|(lo,hi)=>pure (lo,(1:Int),Builtin.Slice.slicePlaces lo hi 1)) _ _ s
 rw[abx lo hi n];show wpAny _ _ (pure (((sIx n 0 lo:Nat):Int),(1:Int),Builtin.Slice.slicePlaces ((sIx n 0 lo:Nat):Int) ((sIx n n hi:Nat):Int) 1)) _ _ s;rw[aby];exact wpAny_pure h
theorem ahz(xs:Array Value)(i k:Nat):((List.range k).filterMap λ(m:Nat)=>xs[((i:Int)+(m:Int)*1).toNat]?).toArray=((xs.toList.drop i).take k).toArray:=by
 have e:(λ(m:Nat)=>xs[((i:Int)+(m:Int)*1).toNat]?)=λm=>xs[i+m]?:=by
  funext m
  have:((i:Int)+(m:Int)*1).toNat=i+m:=by lia
  rw[this]
 rw[e];have:=pick_run xs i k;rw[List.filterMap_map]at this;have e2:((λx=>xs[x]?) ∘ λx=>i+x)=λm=>xs[i+m]?:=rfl;rw[e2]at this;rw[this]
theorem a2v{t sl:Addr}{aC:Array Value}{vl vu:Value}{lo hi:Option Int}{Q:Value->Shared->Prop}(ht:IsTup s.heap t aC)(hs:s.heap.IsSliceOf sl vl vu .none)(pl:IsPart vl lo)(pu:IsPart vu hi)
  (hw:¬ (sIx aC.size 0 lo=0/\sIx aC.size aC.size hi=aC.size))
  (h:Q (.ref s.heap.objs.size) {s with heap:=s.heap.push {cls:=.type "tuple",data:=.seq ((aC.toList.drop (sIx aC.size 0 lo)).take (sIx aC.size aC.size hi-sIx aC.size 0 lo)).toArray} })
  (hsz:aC.size<=sizeLine):wpAny (model prog w) A (getItem (.ref t) (.ref sl)) Q E s:=by
 have htake:sizeOk (.seq ((aC.toList.drop (sIx aC.size 0 lo)).take (sIx aC.size aC.size hi-sIx aC.size 0 lo)).toArray):=by
  show((aC.toList.drop (sIx aC.size 0 lo)).take (sIx aC.size aC.size hi-sIx aC.size 0 lo)).toArray.size<=sizeLine;rw[List.size_toArray,List.length_take,List.length_drop,Array.length_toList];lia
 have hj:sIx aC.size aC.size hi<=aC.size:=adv _ _ (Nat.le_refl _) hi;obtain⟨os,hos,hcs,hds⟩:=id hs;have hTs:s.TypeIs (.ref sl) "slice":=⟨os,hos,hcs⟩;unfold getItem
 try with_reducible refine wpAny_holding ?_
 first|refine wpAny_bind (wpAny_pure ?_)|skip
 refine wpAny_bind (wpAny_sequenceKey ht.typeIs (by decide) ?_)
 refine wpAny_bind (wpAny_callSpecial?_slot (name:=Str.ofString "__getitem__") ht.typeIs PyProof.Rows.slot_tuple_getitem
  (wpAny_call_entry PyProof.Rows.slot_tuple_getitem ht.typeIs entry_tuple_getitem ?_ (args_tuple_getitem _ _)))
 show wpAny _ _ (Builtin.Tuple.tupleItemsOf (.ref t)>>=_) _ _ s;refine wpAny_bind (tupleItemsOf_ ht ?_);refine wpAny_bind (wpAny_typeOf hTs ?_);rw[if_pos (by decide)]
 refine wpAny_bind (a0t hs pl pu ?_);have hno:¬ ((((sIx aC.size 0 lo:Nat):Int) == 0 && (1:Int) == 1 && (sIx aC.size aC.size hi-sIx aC.size 0 lo) == aC.size)=true):=by
  intro q
  rw[Bool.and_eq_true,Bool.and_eq_true]at q;have q1:((sIx aC.size 0 lo:Nat):Int)=0:=eq_of_beq q.1.1;have q2:sIx aC.size aC.size hi-sIx aC.size 0 lo=aC.size:=eq_of_beq q.2;exact hw ⟨by lia,by lia⟩
 show wpAny _ _ (if (((sIx aC.size 0 lo:Nat):Int) == 0 && (1:Int) == 1 && (sIx aC.size aC.size hi-sIx aC.size 0 lo) == aC.size)=true then _ else _) _ _ s
 rw[if_neg hno,ahz]
 first
  |exact wpAny_bind (m:=Builtin.Tuple.tupleExact _) (wpAny_newObj_type (wpAny_pure ⟨_,rfl,wpAny_pure h⟩) htake)
  |exact wpAny_bind (m:=Builtin.Tuple.tupleExact _) (wpAny_newObj_type (wpAny_bind (wpAny_pure (wpAny_pure ⟨_,rfl,wpAny_pure h⟩))) htake)
  |exact wpAny_bind (wpAny_bind (m:=Builtin.Tuple.tupleExact _) (wpAny_newObj_type (wpAny_pure (wpAny_pure ⟨_,rfl,wpAny_pure h⟩)) htake))
  |exact wpAny_bind (wpAny_bind (m:=Builtin.Tuple.tupleExact _) (wpAny_newObj_type (wpAny_pure ⟨_,rfl,wpAny_pure h⟩) htake))
end
end HT
namespace L2
open PyProof.Rows
abbrev TO:=St->Hp->(Option Int->Hp->Prop)->Prop
def PO(X:Cx)(e:Option Expr)(t:TO):Prop :=
 ∀(aA:List (Addr×Obj)) (s:Shared) (Z:St) (H:Hp) (Q:Option Int->Hp->Prop),Inv X aA Z H s->t Z H Q->
  wpAny (model X.prog X.w) X.A (evalPart e X.env) (λu s'=>∃o H',Inv X aA Z H' s'/\IsPart u o/\Q o H') X.xe s
noncomputable def amo:TO:=λ_ H Q=>Q none H
noncomputable def axo(t:TE):TO:=λZ H Q=>t Z H λx H1=>∃i,x=.int i/\Q (some i) H1
section
variable{X:Cx}{e:Expr}{te:TE}{lo hi:Option Expr}{tl th:TO}{pos p2:Pos}
theorem amq:PO X none amo:=by
 intro aA s Z H Q I h
 rw[evalPart_none];exact wpAny_pure ⟨none,H,I,.none,h⟩
theorem amr(h:PE X e te):PO X (some e) (axo te):=by
 intro aA s Z H Q I hw
 rw[evalPart_some];refine thn (h aA s Z H _ I hw) ?_
 rintro u s1 ⟨x,H1,I1,r1,q1⟩
 obtain⟨i,rfl,q⟩:=q1;obtain⟨t,rfl⟩:=r1;exact⟨some i,H1,I1,.int i t,q⟩
def SlR(X:Cx)(r:V->Option Int->Option Int->Hp->VK->Prop):Prop :=
 ∀(aA:List (Addr×Obj)) (s:Shared) (Z:St) (H:Hp) (x:V) (v vl vu:Value) (lo hi:Option Int) (sl:Addr) (Q:VK),Inv X aA Z H s->RelV x v->s.heap.IsSliceOf sl vl vu .none->IsPart vl lo->IsPart vu hi->r x lo hi H Q->
  ∃T id,typeLookup (.type T) "__getitem__" = pure (some (.builtin id))/\s.TypeIs v T/\wpAny (model X.prog X.w) X.A (getItem v (.ref sl)) (EP X aA Z Q) X.xe s
theorem SlR.or(h:SlR X r)(h':SlR X r'):SlR X (λx lo hi H Q=>r x lo hi H Q\/r' x lo hi H Q):=by
 intro aA s Z H x v vl vu lo hi sl Q I rx hs pl pu q
 rcases q with q|q
 .exact h aA s Z H x v vl vu lo hi sl Q I rx hs pl pu q
 .exact h' aA s Z H x v vl vu lo hi sl Q I rx hs pl pu q
def tSl(r:V->Option Int->Option Int->Hp->VK->Prop)(te:TE)(tl th:TO):TE:=λZ H Q=>te Z H λx H1=>tl Z H1 λl H2=>th Z H2 λu H3=>r x l u H3 Q
theorem ai0(hr:SlR X r)(he:PE X e te)(hl:PO X lo tl)(hu:PO X hi th):PE X (.Subscript e (.Slice lo hi none p2) pos) (tSl r te tl th):=by
 intro aA s Z H Q I h
 refine Subscript_ (thn (he aA s Z H _ I h) λv s1 ⟨x,H1,I1,r1,q1⟩=>?_);refine wpAny_Slice (thn (hl aA s1 Z H1 _ I1 q1) λvl s2 ⟨l,H2,I2,pl,q2⟩=>thn (hu aA s2 Z H2 _ I2 q2) λvu s3 ⟨u,H3,I3,pu,q3⟩=>?_);rw[evalPart_none];refine wpAny_pure ?_;have I4:Inv X aA Z H3 {s3 with heap:=s3.heap.push {cls:=.type "slice",data:=.fields #[vl,vu,.none]} }:=I3.kept (t':=s3.toks) λb ob q=>Heap.get?_push_of_some _ q
 obtain⟨T,id,hT,ht,hg⟩:=hr aA {s3 with heap:=s3.heap.push {cls:=.type "slice",data:=.fields #[vl,vu,.none]} } Z H3 x v vl vu l u s3.heap.objs.size Q I4 r1 (Heap.IsSliceOf.new ..) pl pu q3
 show wpAny (model X.prog X.w) X.A (subscriptTail e (.Slice lo hi none p2) v (.ref s3.heap.objs.size)) (EP X aA Z Q) X.xe {s3 with heap:=s3.heap.push {cls:=.type "slice",data:=.fields #[vl,vu,.none]} }
 exact tail_any (ops:=[.ref s3.heap.objs.size,v]) ht hT hg (by with_unfolding_all rfl)
noncomputable def aks(xs:List V)(lo hi:Option Int):List V:=(xs.drop (HT.sIx xs.length 0 lo)).take (HT.sIx xs.length xs.length hi-HT.sIx xs.length 0 lo)
theorem a4b(xs:List V)(lo hi:Option Int):(aks xs lo hi).length<=xs.length:=by
 unfold aks;rw[List.length_take,List.length_drop];lia
def axp(K:Fg):V->Option Int->Option Int->Hp->VK->Prop:=λx lo hi H Q=>∃a xs,x=.ref a/\SqT K H a xs /\
 ¬ (HT.sIx xs.length 0 lo=0/\HT.sIx xs.length xs.length hi=xs.length)/\∀p,H p=none->Q (.ref p) (upd H p (.tup (aks xs lo hi)))
theorem arx:SlR X (axp X.K):=by
 intro aA s Z H x v vl vu lo hi sl Q I rx hs pl pu h
 obtain⟨a,xs,rfl,hx,hw,q⟩:=h;cases rx
 obtain⟨its,r,ht,hz⟩:=I.tuple hx;have aH:its.toArray.size=xs.length:=by rw[List.size_toArray];exact r.length.symm
 refine⟨"tuple",_,PyProof.Rows.slot_tuple_getitem.lookup,ht.typeIs,?_⟩;refine HT.a2v ht hs pl pu (by rw[aH];exact hw) ?_ (by rw[aH];exact hz)
 rw[aH];refine⟨.ref s.heap.objs.size,_,I.laid (t':=s.toks) (o:=.tup (aks xs lo hi)) (λb ob q=>Heap.get?_push_of_some _ q) (Nat.le_refl _) ?_,rfl,q _ (I.hok.fresh (Nat.le_refl _))⟩;exact⟨Nat.le_trans (a4b xs lo hi) hz,_,(r.drop (HT.sIx xs.length 0 lo)).take (HT.sIx xs.length xs.length hi-HT.sIx xs.length 0 lo),IsTup.new _ _⟩
noncomputable def arz(K:Fg):R2:=λx y H Q=>∃a b xs ys,x=.ref a/\y=.ref b/\SqT K H a xs/\SqT K H b ys/\xs≠[]/\xs.length+ys.length<=sizeLine /\
 (ys=[]->Q (.ref a) H)/\(ys≠[]->∀p,H p=none->Q (.ref p) (upd H p (.tup (xs++ys))))
theorem Vals.nil_iff(r:Vals xs us):us=[]↔xs=[]:=by
 cases r with
 |nil=>simp
 |cons _ _=>simp
theorem ams:OpR X (binaryOp .Add) (arz X.K):=by
 intro aA s Z H x y v u Q I rx ry h
 obtain⟨a,b,xs,ys,rfl,rfl,ha,hb,hx,hz,q1,q2⟩:=h;cases rx
 cases ry
 obtain⟨its,r1,p1,_⟩:=I.tuple ha;obtain⟨its2,r2,p2,_⟩:=I.tuple hb;refine HT.amn p1 p2 (λz=>hx (r1.nil_iff.mp z)) (λz=>⟨.ref a,H,I,rfl,q1 (r2.nil_iff.mp z)⟩) (λz=>?_) (by rw[<-r1.length,<-r2.length];exact hz)
 refine⟨.ref s.heap.objs.size,_,I.laid (t':=s.toks) (o:=.tup (xs++ys)) (λb ob q=>Heap.get?_push_of_some _ q) (Nat.le_refl _) ?_,rfl,q2 (λw=>z (r2.nil_iff.mpr w)) _ (I.hok.fresh (Nat.le_refl _))⟩;exact⟨by rw[List.length_append];exact hz,_,r1.append r2,IsTup.new _ _⟩
end
noncomputable def ixN(n:Nat)(i:Int):Option Nat:=if 0<=i then (if i<n then some i.toNat else none) else if -(n:Int)<=i then some (i+n).toNat else none
noncomputable def atI{α:Type}(xs:List α)(i:Int):Option α:=(ixN xs.length i).bind λj=>xs[j]?
theorem a9b(h:ixN n i=some j):seqIndex? i n=some j/\j<n /\ -(n:Int)<=i/\i<n:=by
 unfold ixN at h
 by_cases h0:0<=i
 .rw[if_pos h0]at h
  by_cases h1:i<n
  .rw[if_pos h1]at h;have e:i.toNat=j:=Option.some.inj h;exact⟨by rw[seqIndex_of h0 h1,e],by lia,by lia,h1⟩
  .rw[if_neg h1]at h;cases h
 .rw[if_neg h0]at h
  by_cases h1 : -(n:Int)<=i
  .rw[if_pos h1]at h;have e:(i+n).toNat=j:=Option.some.inj h;exact⟨by rw[seqIndex_neg (by lia) h1,e],by lia,h1,by lia⟩
  .rw[if_neg h1]at h;cases h
theorem a6i{α:Type}{xs:List α}{i:Int}{v:α}(h:atI xs i=some v):∃j,seqIndex? i xs.length=some j/\xs[j]? = some v/\j<xs.length /\ -(xs.length:Int)<=i/\i<xs.length:=by
 unfold atI at h
 cases e:ixN xs.length i with
 |none=>rw[e]at h;cases h
 |some j =>
  rw[e]at h;obtain⟨h1,h2,h3,h4⟩:=a9b e;exact⟨j,h1,h,h2,h3,h4⟩
theorem u5{α:Type}{xs:List α}{j:Nat}{v:α}(h:xs[j]? = some v):atI xs (j:Int)=some v:=by
 have hj:j<xs.length:=(List.getElem?_eq_some_iff.mp h).1;have e:ixN xs.length (j:Int)=some j:=by
  unfold ixN;rw[if_pos (by lia),if_pos (by lia)];simp
 unfold atI;rw[e];exact h
def a6j(b:Expr):Prop:=∀o i,subscripted b false o i=operate [o,i] (getItem o i)
def IxR(X:Cx)(r:R2):Prop :=
 ∀(value slice:Expr) (aA:List (Addr×Obj)) (s:Shared) (Z:St) (H:Hp) (x y:V) (v u:Value) (Q:VK),Inv X aA Z H s->RelV x v->RelV y u->r x y H Q->
  subscripted slice false v u=operate [v,u] (getItem v u)->wpAny (model X.prog X.w) X.A (subscriptTail value slice v u) (EP X aA Z Q) X.xe s
def MtR(X:Cx)(id:String)(r:V->List V->Hp->VK->Prop):Prop :=
 ∀(aA:List (Addr×Obj)) (s:Shared) (Z:St) (H:Hp) (x:V) (xs:List V) (v:Value) (us:List Value) (Q:VK),Inv X aA Z H s->RelV x v->Vals xs us->r x xs H Q->
  wpAny (model X.prog X.w) X.A (call (.builtin id) (v::us)) (EP X aA Z Q) X.xe s
section
variable{X:Cx}{a b:Expr}{ta tb:TE}{pos:Pos}
theorem IxR.or(h:IxR X r)(h':IxR X r'):IxR X (λx y H Q=>r x y H Q\/r' x y H Q):=by
 intro value slice aA s Z H x y v u Q I rx ry q hs
 rcases q with q|q
 .exact h value slice aA s Z H x y v u Q I rx ry q hs
 .exact h' value slice aA s Z H x y v u Q I rx ry q hs
theorem MtR.or{id:String}{r r':V->List V->Hp->VK->Prop}(h:MtR X id r)(h':MtR X id r'):MtR X id (λx xs H Q=>r x xs H Q\/r' x xs H Q):=by
 intro aA s Z H x xs v us Q I rx rs q
 rcases q with q|q
 .exact h aA s Z H x xs v us Q I rx rs q
 .exact h' aA s Z H x xs v us Q I rx rs q
theorem axq(hr:IxR X r)(ha:PE X a ta)(hb:PE X b tb)(hs:a6j b):PE X (.Subscript a b pos) (tOp r ta tb):=by
 intro aA s Z H Q I h
 exact Subscript_ (axe ha hb I h λv u s2 x y H2 I2 rx ry q=>hr a b aA s2 Z H2 x y v u Q I2 rx ry q (hs _ _))
noncomputable def awl(K:Fg):R2:=λx y H Q=>∃p xs i v,x=.ref p/\y=.int i/\SqL K H p xs/\atI xs i=some v/\Q v H
noncomputable def aze(K:Fg):R2:=λx y H Q=>∃p xs i v,x=.ref p/\y=.int i/\SqT K H p xs/\atI xs i=some v/\Q v H
noncomputable def azf:R2:=λx y H Q=>∃z i c,x=.str z/\y=.int i/\z.length<=sizeLine/\atI z.cps.toList i=some c/\Q (.str ⟨#[c]⟩) H
theorem amt:IxR X (awl X.K):=by
 intro value slice aA s Z H x y v u Q I rx ry h hs
 obtain⟨p,xs,i,z,rfl,rfl,hq,he,q⟩:=h;cases rx
 obtain⟨t,rfl⟩:=ry;obtain⟨its,r,pl,hz⟩:=I.list hq;obtain⟨j,h1,h2,h3,h4,h5⟩:=a6i he;obtain⟨w,ew,rw'⟩:=r.get h2;have hl:=r.length;have hn:=a1z;have fin:EP X aA Z Q w s:=⟨z,H,I,rw',q⟩
 by_cases h0:0<=i
 .have hj:i.toNat=j:=by
   rw[seqIndex_of h0 h5]at h1;exact Option.some.inj h1
  exact item_listR pl.isList h0 (by lia) (by rw[hj];simpa using ew) fin hs
 .have hj:(i+(its.toArray.size:Int)).toNat=j:=by
   rw[seqIndex_neg (by lia) h4]at h1
   rw[List.size_toArray,<-hl];exact Option.some.inj h1
  exact subscriptTail_builtinR (x:=w) pl.isList.typeIs slot_list_getitem.lookup
   (wpAny_getItem_list_neg (Q:=λr s'=>r=w/\EP X aA Z Q r s') pl.isList (by lia) (by rw[List.size_toArray]<;>lia) (by lia) (by rw[hj];simpa using ew) ⟨rfl,fin⟩) hs
theorem a4c:IxR X (aze X.K):=by
 intro value slice aA s Z H x y v u Q I rx ry h hs
 obtain⟨p,xs,i,z,rfl,rfl,hq,he,q⟩:=h;cases rx
 obtain⟨t,rfl⟩:=ry;obtain⟨its,r,pl,hz⟩:=I.tuple hq;obtain⟨j,h1,h2,h3,h4,h5⟩:=a6i he;obtain⟨w,ew,rw'⟩:=r.get h2;have hl:=r.length;have hn:=a1z;have fin:EP X aA Z Q w s:=⟨z,H,I,rw',q⟩;exact subscriptTail_builtinR (x:=w) pl.typeIs slot_tuple_getitem.lookup
  (getItem_tuple (j:=j) (Q:=λr s'=>r=w/\EP X aA Z Q r s') pl (by lia) (by lia) (by rw[List.size_toArray,<-hl];exact h1) (by simpa using ew) ⟨rfl,fin⟩) hs
theorem as3:IxR X azf:=by
 intro value slice aA s Z H x y v u Q I rx ry h hs
 obtain⟨z,i,c,rfl,rfl,hz,he,q⟩:=h;obtain⟨t,rfl⟩:=rx;obtain⟨t',rfl⟩:=ry;obtain⟨j,h1,h2,h3,h4,h5⟩:=a6i he;have hl:z.cps.toList.length=z.length:=by simp[Str.length]
 rw[hl]at h1 h4 h5;have hn:=a1z;exact tail_any (typeIs_str s z t) slot_str_getitem.lookup (getItem_str (c:=c) (by
  have e1:decide (i < -(2^63:Int))=false:=decide_eq_false (by lia)
  have e2:decide (i≥2^63)=false:=decide_eq_false (by lia)
  rw[e1,e2,Bool.or_false]) (by rw[h1];simpa using h2) ⟨.str ⟨#[c]⟩,H,I.tok _,⟨_,rfl⟩,q⟩) hs
noncomputable def rIx(K:Fg):R2:=λx y H Q=>awl K x y H Q\/aze K x y H Q\/azf x y H Q
theorem as4:IxR X (rIx X.K):=amt.or (a4c.or as3)
theorem abz(its:List Value)(n j:Nat)(u:Value):Obj.mapSeq (·.setIfInBounds j u) {cls:=.type "list",data:=.seq its.toArray n}={cls:=.type "list",data:=.seq (its.set j u).toArray n}:=by
 simp[Obj.mapSeq]
theorem Inv.lst{aA:List (Addr×Obj)}{Z:St}{H:Hp}{s:Shared}{p:Addr}{xs:List V}(I:Inv X aA Z H s)(h:H p=some (.lst xs)) :
  ∃(its:List Value) (n:Nat),Vals xs its/\s.heap.get? p=some {cls:=.type "list",data:=.seq its.toArray n}/\xs.length<=sizeLine:=by
 obtain⟨z,its,n,r,e⟩:=I.hok p _ h;exact⟨its,n,r,e,z⟩
theorem Inv.lstUpd{its its':List Value}(I:Inv X aA Z H s)(h:H p=some (.lst xs))
  (ho:s.heap.get? p=some {cls:=.type "list",data:=.seq its.toArray n}) (hf:f {cls:=.type "list",data:=.seq its.toArray n}={cls:=.type "list",data:=.seq its'.toArray n' }) (r:Vals ys its') (hz:ys.length<=sizeLine) (t:Nat) :
  Inv X aA Z (upd H p (.lst ys)) {s with heap:=s.heap.update p f,toks:=t}:=by
 have e:(s.heap.update p f).get? p=some {cls:=.type "list",data:=.seq its'.toArray n' }:=by
  rw[Heap.get?_update_self f ho (by rw[hf]<;>rfl),hf]
 refine I.write (x:=p) (e:=p) (by rw[h];trivial) (.inl rfl) (λb u hb q=>(Heap.get?_update_other _ _ (Ne.symm hb)).trans q) ⟨_,e⟩ ?_
 exact⟨hz,its',n',r,e⟩
def as5:V->V->V->Hp->(Hp->Prop)->Prop:=λo i v H Q=>∃p xs k j,o=.ref p/\i=.int k/\H p=some (.lst xs)/\ixN xs.length k=some j/\Q (upd H p (.lst (xs.set j v)))
theorem set_list:ax9 X as5:=by
 intro aA s Z H o i v ov iv u Q I ro ri rv h
 obtain⟨p,xs,k,j,rfl,rfl,hp,hj,q⟩:=h;cases ro
 obtain⟨t,rfl⟩:=ri;obtain⟨its,n,r,ho,hz⟩:=I.lst hp;obtain⟨h1,h2,h3,h4⟩:=a9b hj;have hl:=r.length;have hn:=a1z;have I':Inv X aA Z (upd H p (.lst (xs.set j v))) {s with heap:=s.heap.update p (Obj.mapSeq (·.setIfInBounds j u))} :=
  I.lstUpd hp ho (abz its n j u) (r.set rv j) (by rw[List.length_set];exact hz) s.toks
 by_cases h0:0<=k
 .have hk:k.toNat=j:=by
   rw[seqIndex_of h0 h4]at h1;exact Option.some.inj h1
  exact PySem.W.ki_setAt ho h0 (by lia) (by rw[List.size_toArray,<-hl];exact h4) (by rw[hk];exact⟨_,I',q⟩)
 .have hk:(k+(its.toArray.size:Int)).toNat=j:=by
   rw[seqIndex_neg (by lia) h3]at h1
   rw[List.size_toArray,<-hl];exact Option.some.inj h1
  exact PySem.W.ki_setBack ho (by lia) (by rw[List.size_toArray,<-hl];exact h3) (by lia) (by rw[hk];exact⟨_,I',q⟩)
theorem a7w(lo hi:Option Int)(n:Nat):(sliceBounds lo hi none n).1=((HT.sIx n 0 lo:Nat):Int)/\(sliceBounds lo hi none n).2.1=((HT.sIx n n hi:Nat):Int)/\(sliceBounds lo hi none n).2.2=1:=by
 refine⟨?_,?_,rfl⟩
 .cases lo with
  |none=>simp[sliceBounds,HT.sIx]
  |some i =>
   simp only[sliceBounds,HT.sIx,Option.getD_none,show(1:Int) > 0 by decide,if_true]
   by_cases h:i<0
   .simp only[h,if_true]<;>lia
   .simp only[h,if_false]<;>lia
 .cases hi with
  |none=>simp[sliceBounds,HT.sIx]
  |some i =>
   simp only[sliceBounds,HT.sIx,Option.getD_none,show(1:Int) > 0 by decide,if_true]
   by_cases h:i<0
   .simp only[h,if_true]<;>lia
   .simp only[h,if_false]<;>lia
theorem a6k(its:List Value)(lo hi:Option Int):slicePick its.toArray lo hi none=((its.drop (HT.sIx its.length 0 lo)).take (HT.sIx its.length its.length hi-HT.sIx its.length 0 lo)).toArray:=by
 obtain⟨h1,h2,h3⟩:=a7w lo hi its.toArray.size;unfold slicePick;rw[h1,h2,h3];simp only[sliceRange_one,pick_run,List.size_toArray]<;>rfl
def axr(K:Fg):V->Option Int->Option Int->Hp->VK->Prop:=λx lo hi H Q=>∃a xs,x=.ref a/\SqL K H a xs/\∀p,H p=none->Q (.ref p) (upd H p (.lst (aks xs lo hi)))
theorem amu:SlR X (axr X.K):=by
 intro aA s Z H x v vl vu lo hi sl Q I rx hs pl pu h
 obtain⟨a,xs,rfl,hx,q⟩:=h;cases rx
 obtain⟨its,r,ht,hz⟩:=I.list hx;have aH:=r.length;refine⟨"list",_,slot_list_getitem.lookup,ht.isList.typeIs,?_⟩;refine wpAny_getItem_list_slice ht.isList hs pl pu .none (by simp) ?_ (by rw[List.size_toArray]<;>lia)
 rw[a6k,<-aH];refine⟨.ref s.heap.objs.size,_,I.laid (t':=s.toks) (o:=.lst (aks xs lo hi)) (λb ob q=>Heap.get?_push_of_some _ q) (Nat.le_refl _) ?_,rfl,q _ (I.hok.fresh (Nat.le_refl _))⟩;exact⟨Nat.le_trans (a4b xs lo hi) hz,_,0,(r.drop (HT.sIx xs.length 0 lo)).take (HT.sIx xs.length xs.length hi-HT.sIx xs.length 0 lo),Heap.get?_push_size _ rfl⟩
noncomputable def a9c:V->Bool
 |.non=>true
 |.bl _=>true
 |.int _=>true
 |.str _=>true
 |_=>false
noncomputable def eqV:V->V->Bool
 |.non,.non=>true
 |.bl a,.bl b=>a == b
 |.bl a,.int b=>(if a then 1 else 0) == b
 |.int a,.bl b=>a == (if b then 1 else 0)
 |.int a,.int b=>a == b
 |.str a,.str b=>a == b
 |_,_=>false
theorem akt(ry:RelV y u)(rx:RelV x v)(fy:a9c y=true)(fx:a9c x=true):SeqAt.EqAt A s u v (eqV y x):=by
 cases y with
 |non =>
  cases ry
  cases x with
  |non=>cases rx;exact SeqAt.EqAt.same _
  |bl b=>cases rx;exact SeqAt.EqAt.none_bool b
  |int b=>obtain⟨t,rfl⟩:=rx;exact SeqAt.EqAt.none_int b t
  |str b=>obtain⟨t,rfl⟩:=rx;exact SeqAt.EqAt.none_str b t
  |_=>exact absurd (show false=true from fx) Bool.false_ne_true
 |bl a =>
  cases ry
  cases x with
  |non=>cases rx;exact SeqAt.EqAt.bool_none a
  |bl b=>cases rx;exact SeqAt.EqAt.bool_bool a b
  |int b=>obtain⟨t,rfl⟩:=rx;exact SeqAt.EqAt.bool_int a b t
  |str b=>obtain⟨t,rfl⟩:=rx;exact SeqAt.EqAt.bool_str a b t
  |_=>exact absurd (show false=true from fx) Bool.false_ne_true
 |int a =>
  obtain⟨t',rfl⟩:=ry
  cases x with
  |non=>cases rx;exact SeqAt.EqAt.int_none a t'
  |bl b=>cases rx;exact SeqAt.EqAt.int_bool a t' b
  |int b=>obtain⟨t,rfl⟩:=rx;exact SeqAt.EqAt.int_int a t' b t
  |str b=>obtain⟨t,rfl⟩:=rx;exact SeqAt.EqAt.int_str a t' b t
  |_=>exact absurd (show false=true from fx) Bool.false_ne_true
 |str a =>
  obtain⟨t',rfl⟩:=ry
  cases x with
  |non=>cases rx;exact SeqAt.EqAt.str_none a t'
  |bl b=>cases rx;exact SeqAt.EqAt.str_bool a t' b
  |int b=>obtain⟨t,rfl⟩:=rx;exact SeqAt.EqAt.str_int a t' b t
  |str b=>obtain⟨t,rfl⟩:=rx;exact SeqAt.EqAt.str_str a t' b t
  |_=>exact absurd (show false=true from fx) Bool.false_ne_true
 |_=>exact absurd (show false=true from fy) Bool.false_ne_true
theorem a7x:CallR X (.builtin "len") (λxs H Q=>∃p ys,xs=[.ref p]/\(SqL X.K H p ys\/SqT X.K H p ys)/\Q (.int ys.length) H):=by
 intro aA s Z H xs us Q I r h
 obtain⟨p,ys,rfl,hq,q⟩:=h;obtain⟨u,rfl,rx⟩:=vals1 r;cases rx
 have hn:=a1z
 rcases hq with hq|hq
 .obtain⟨its,r',pl,hz⟩:=I.list hq;have aH:=r'.length;exact Calls.call_len_list pl.isList (by simp only[List.size_toArray]<;>lia) ⟨.int ys.length,H,I.tok _,⟨s.toks+1,by rw[List.size_toArray,aH]⟩,q⟩
 .obtain⟨its,r',pl,hz⟩:=I.tuple hq;have aH:=r'.length;exact len_tuple pl (by simp only[List.size_toArray]<;>lia) ⟨.int ys.length,H,I.tok _,⟨s.toks+1,by rw[List.size_toArray,aH]⟩,q⟩
theorem a7y:CallR X (.builtin "len") (λxs H Q=>∃z,xs=[.str z]/\z.length<=sizeLine/\Q (.int z.length) H):=by
 intro aA s Z H xs us Q I r h
 obtain⟨z,rfl,hz,q⟩:=h;obtain⟨u,rfl,t,rfl⟩:=vals1 r;have hn:=a1z;exact len_str (by lia) ⟨.int z.length,H,I.tok _,⟨_,rfl⟩,q⟩
theorem CallR.or(h:CallR X f r)(h':CallR X f r'):CallR X f (λxs H Q=>r xs H Q\/r' xs H Q):=by
 intro aA s Z H xs us Q I rs q
 rcases q with q|q
 .exact h aA s Z H xs us Q I rs q
 .exact h' aA s Z H xs us Q I rs q
theorem a7z:CallR X (.type "list") (λxs H Q=>∃p ys,xs=[.ref p]/\(SqL X.K H p ys\/SqT X.K H p ys)/\∀l,H l=none->Q (.ref l) (upd H l (.lst ys))):=by
 intro aA s Z H xs us Q I r h
 obtain⟨p,ys,rfl,hq,q⟩:=h;obtain⟨u,rfl,rx⟩:=vals1 r;cases rx
 have fin:∀(its:List Value),Vals ys its->ys.length<=sizeLine->∀(h':Heap) (c':Nat),(∀b o',s.heap.get? b=some o'->h'.get? b=some o')->
   h'.get? s.heap.objs.size=some {cls:=.type "list",dict:=none,data:=.seq its.toArray c',slots := #[]}->EP X aA Z Q (.ref s.heap.objs.size) {s with heap:=h' }:=λits r' hz h' c' kp e =>
  ⟨.ref s.heap.objs.size,_,I.laid (t':=s.toks) kp (Nat.le_refl _) (show ObjOk X.prog X.w _ h' _ (.lst ys) from ⟨hz,its,c',r',e⟩),rfl,q _ (I.hok.fresh (Nat.le_refl _))⟩
 rcases hq with hq|hq
 .obtain⟨its,r',pl,hz⟩:=I.list hq;have aH:=r'.length;obtain⟨o,ho,hc,n,hd⟩:=pl.isList;exact call_list_seq p (.inl rfl) ho hc hd (λh' c' kp e=>fin its r' hz h' c' kp e) (by simp only[List.size_toArray]<;>lia)
 .obtain⟨its,r',pl,hz⟩:=I.tuple hq;have aH:=r'.length;obtain⟨o,ho,hc,n,hd⟩:=pl;exact call_list_seq p (.inr rfl) ho hc hd (λh' c' kp e=>fin its r' hz h' c' kp e) (by simp only[List.size_toArray]<;>lia)
theorem a6l:CallR X (.type "tuple") (λxs H Q=>∃p ys,xs=[.ref p]/\((SqL X.K H p ys/\∀l,H l=none->Q (.ref l) (upd H l (.tup ys)))\/(SqT X.K H p ys/\Q (.ref p) H))):=by
 intro aA s Z H xs us Q I r h
 obtain⟨p,ys,rfl,h⟩:=h;obtain⟨u,rfl,rx⟩:=vals1 r;cases rx
 rcases h with⟨hq,q⟩|⟨hq,q⟩
 .obtain⟨its,r',pl,hz⟩:=I.list hq;have aH:=r'.length;refine call_tuple_list pl.isList (λh' kp=>?_) (by simp only[List.size_toArray]<;>lia)
  have I1:Inv X aA Z H {s with heap:=h' }:=I.kept (t':=s.toks) kp
  have I2:Inv X aA Z (upd H h'.objs.size (.tup ys)) {s with heap:=h'.push {cls:=.type "tuple",data:=.seq its.toArray} } :=
   I1.laid (t':=s.toks) (λb o e=>Heap.get?_push_of_some _ e) (Nat.le_refl _) (show ObjOk X.prog X.w _ _ _ (.tup ys) from ⟨hz,its,r',IsTup.new _ _⟩)
  exact⟨.ref h'.objs.size,_,I2,rfl,q _ (I1.hok.fresh (Nat.le_refl _))⟩
 .obtain⟨its,r',pl,hz⟩:=I.tuple hq;exact call_tuple_same pl ⟨.ref p,H,I,rfl,q⟩
def tyV(K:Fg)(T:String)(x:V)(H:Hp):Prop:=match x with
 |.str _=>T = "str"
 |.int _=>T = "int"
 | .ref p=>(T = "list"/\∃xs,SqL K H p xs)\/(T = "tuple"/\∃o,K.lookup p=some o/\o.cls=.type "tuple"/\o.dict=none) \/
   (T = "dict"/\((∃kvs,H p=some (.dK kvs))\/∃kvs,H p=some (.dT kvs)))\/(T = "set"/\∃S n,H p=some (.set S n))
 |_=>False
theorem as6(I:Inv X aA Z H s)(r:RelV x v)(ty:tyV X.K T x H) :
  s.TypeIs v T/\∀a,v=.ref a->∃ob,s.heap.get? a=some ob/\ob.dict=none:=by
 cases x with
 |str z =>
  obtain⟨t,rfl⟩:=r
  cases (show T = "str" from ty)
  exact⟨typeIs_str s z t,λ_ e=>nomatch e⟩
 |int i =>
  obtain⟨t,rfl⟩:=r
  cases (show T = "int" from ty)
  exact⟨typeIs_int s i t,λ_ e=>nomatch e⟩
 |ref p =>
  cases r
  rcases ty with⟨rfl,xs,hq⟩|⟨rfl,o,hk,hc,hd⟩|⟨rfl,hk⟩|⟨rfl,S,n,hk⟩
  .obtain⟨its,_,pl,_⟩:=I.list hq;refine⟨pl.isList.typeIs,λa e=>?_⟩;cases e
   obtain⟨o,n,e,c,hd,_⟩:=pl;exact⟨o,e,hd⟩
  .refine⟨⟨o,I.kIn p o hk,hc⟩,λa e=>?_⟩;cases e
   exact⟨o,I.kIn _ o hk,hd⟩
  .have z:∃o,s.heap.get? p=some o/\o.ExactDict:=by
    rcases hk with⟨kvs,hk⟩|⟨kvs,hk⟩
    .obtain⟨_,_,_,_,o,_,_,e,ex,_⟩:=I.hok p _ hk;exact⟨o,e,ex⟩
    .obtain⟨_,_,_,_,o,_,_,e,ex,_⟩:=I.hok p _ hk;exact⟨o,e,ex⟩
   obtain⟨o,e,ex⟩:=z;refine⟨⟨o,e,ex.1⟩,λa e2=>?_⟩;cases e2
   exact⟨o,e,ex.2.1⟩
  .obtain⟨o,_,_,_,e,ex,_⟩:=I.hok p _ hk;refine⟨⟨o,e,ex.1⟩,λa e2=>?_⟩;cases e2
   exact⟨o,e,ex.2.1⟩
 |_=>exact False.elim ty
def tBM(K:Fg)(T:String)(r:V->List V->Hp->VK->Prop)(to:TE)(t:TA):TE:=λZ H Q=>to Z H λx H1=>tyV K T x H1/\t Z H1 λxs H2=>r x xs H2 Q
variable{o e:Expr}{es:List Expr}{to:TE}{t:TA}{name:Str}{apos cpos:Pos}{T id:String}{r:V->List V->Hp->VK->Prop}
theorem axs(pa:PlainAttrs T)(slot:Slot T name id)(hty:typeOf (.builtin id)=pure (.type "method_descriptor"))(hm:MtR X id r)(ho:PE X o to)(ha:PA X (e::es) t)
  (hbase:attributeBase o name X.env (eval o X.env)=eval o X.env:=by rfl)
  (hfew:((backTo cpos (starEach (e::es) X.env)).all (λx => !x.1) && (backToKw cpos (keywordEach [] X.env)).all (λx=>x.1.isSome)
   && decide ((e::es).length+([]:List Keyword).length+(if ([]:List Keyword).isEmpty then 0 else 1)<30))=true:=by rfl)
  (hline:(apos.endLine == cpos.line)=true:=by rfl) (hs:starEach (e::es) X.env=(false,eval e X.env)::starEach es X.env:=by rfl) (hplain:(backTo cpos (starEach es X.env)).any (·.1)=false:=by rfl) :
  PE X (.Call (.Attribute o name apos) (e::es) [] cpos) (tBM X.K T r to t):=by
 intro aA s Z H Q I h
 refine wpAny_Call_method_late hbase hfew hline rfl (thn (ho aA s Z H _ I h) λv s1 ⟨x,H1,I1,r1,ty,q1⟩=>?_);obtain⟨h1,h2⟩:=as6 I1 r1 ty;refine⟨T,id,pa,slot,hty,h1,h2,?_⟩;have hA:=ha cpos aA s1 Z H1 _ I1 q1;rw[hs]at hA ⊢;refine Calls.callWith_builtin (by show(false || (backTo cpos (starEach es X.env)).any (·.1))=false;rw[hplain]<;>rfl) (Calls.evalArgs_plain ?_)
 exact thn hA λus s2 ⟨vs,H2,I2,r2,q2⟩=>hm aA s2 Z H2 x vs v us Q I2 r1 r2 q2
end
def MtM(X:Cx)(id:String)(r:V->List V->Hp->VK->Prop):Prop :=
 ∀(aA:List (Addr×Obj)) (s:Shared) (Z:St) (H:Hp) (x:V) (xs:List V) (v:Value) (us:List Value) (Q:VK),Inv X aA Z H s->RelV x v->Vals xs us->r x xs H Q->
  wpAny (model X.prog X.w) X.A (call (.builtin id) (v::us)) (EP X aA Z Q) X.xe s
theorem Vals.one:∀{x:V} {us:List Value},Vals [x] us->∃u,us=[u]/\RelV x u
 |_,_,.cons r .nil=>⟨_,rfl,r⟩
theorem Vals.eraseIdx:∀{xs:List V} {us:List Value} (i:Nat),Vals xs us->Vals (xs.eraseIdx i) (us.eraseIdx i)
 |_,_,_,.nil=>.nil
 |_,_,0,.cons _ t=>t
 |_,_,i+1,.cons r t=>.cons r (Vals.eraseIdx i t)
theorem Vals.rep(h:Vals xs us):∀k:Nat,Vals (List.replicate k xs).flatten (List.replicate k us).flatten
 |0=>.nil
 |k+1=>by
  rw[List.replicate_succ,List.replicate_succ,List.flatten_cons,List.flatten_cons];exact Vals.append h (Vals.rep h k)
theorem a80{α:Type}:∀(l:List α) (i:Nat),(l.eraseIdx i).length<=l.length
 |[],_=>Nat.le_refl _
 |_::_,0=>Nat.le_succ _
 |_::r,i+1=>Nat.succ_le_succ (a80 r i)
theorem foldl_rep(its:List Value):∀(k:Nat) (acc:List Value),
  List.foldl (λx1 x2=>x1++x2) acc.toArray (List.replicate k its.toArray)=(acc++(List.replicate k its).flatten).toArray
 |0,acc=>by simp
 |k+1,acc=>by
  have e:acc.toArray++its.toArray=(acc++its).toArray:=by simp
  have e2:(acc++its)++(List.replicate k its).flatten=acc++(List.replicate (k+1) its).flatten:=by
   rw[List.replicate_succ,List.flatten_cons,List.append_assoc]
  rw[<-e2,<-foldl_rep its k (acc++its),<-e,List.replicate_succ,List.foldl_cons]
section
variable{X:Cx}{aA:List (Addr×Obj)}{Z:St}{H:Hp}{s:Shared}{l b:Addr}{xs ys zs:List V}
theorem Inv.lset{its its':List Value}(I:Inv X aA Z H s)(hH:H l=some (.lst xs))
  (e:s.heap.get? l=some {cls:=.type "list",data:=.seq its.toArray n}) (hf:f its.toArray=its'.toArray) (hv:Vals ys its') (hz:ys.length<=sizeLine) :
  Inv X aA Z (upd H l (.lst ys)) {s with heap:=s.heap.update l (Obj.mapSeq f),toks:=t' }:=by
 have q:=PySem.IsL.update e f;rw[hf]at q;refine I.write (x:=l) (e:=l) (by rw[hH];exact trivial) (.inl rfl) (λb' u hb hu=>(Heap.get?_update_other s.heap (Obj.mapSeq f) (Ne.symm hb)).trans hu) ⟨_,q⟩ ?_
 exact⟨hz,its',_,hv,q⟩
theorem Inv.lnew(I:Inv X aA Z H s)(hv:Vals ys its)(hz:ys.length<=sizeLine) :
  Inv X aA Z (upd H s.heap.objs.size (.lst ys)) {s with heap:=s.heap.push {cls:=.type "list",data:=.seq its.toArray},toks:=t' } :=
 I.laid (λ_ _ q=>Heap.get?_push_of_some _ q) (Nat.le_refl _) ⟨hz,its,0,hv,Heap.get?_push_size _ rfl⟩
theorem Inv.fresh(I:Inv X aA Z H s):H s.heap.objs.size=none:=I.hok.fresh (Nat.le_refl _)
theorem Inv.lstM(I:Inv X aA Z H s)(hH:H l=some (.lst xs)):xs.length<=sizeLine/\∃(its:List Value) (n:Nat),Vals xs its/\xs.length=its.length/\s.heap.get? l=some {cls:=.type "list",data:=.seq its.toArray n}:=by
 obtain⟨z,its,n,r,e⟩:=I.hok l _ hH;exact⟨z,its,n,r,r.length,e⟩
theorem a6m(h:n<=sizeLine):Builtin.List.listTooLong n=false:=by
 unfold Builtin.List.listTooLong;exact decide_eq_false (by lia)
end
section
variable{X:Cx}
def adx:V->List V->Hp->VK->Prop:=λx vs H Q=>∃l xs y,x=.ref l/\vs=[y]/\H l=some (.lst xs)/\xs.length<sizeLine/\Q .non (upd H l (.lst (xs++[y])))
theorem ady:MtM X "list.append" adx:=by
 intro aA s Z H x vs v us Q I rx rv h
 obtain⟨l,xs,y,rfl,rfl,hH,hz,q⟩:=h;cases rx
 obtain⟨u,rfl,ru⟩:=rv.one;obtain⟨z,its,n,r,hl,e⟩:=I.lstM hH;refine call_meets F.slot_list_append ⟨_,e,rfl⟩ F.entry_list_append (F.args_list_append_2 _ _) (PySem.list_append l its.toArray n u (by rw[List.size_toArray];lia)) ⟨e,?_⟩
 refine⟨.non,_,I.lset (its':=its++[u]) hH e (by simp) (r.append (.cons ru .nil)) ?_,rfl,q⟩
 rw[List.length_append,List.length_singleton];lia
def aku:V->List V->Hp->VK->Prop:=λx vs H Q=>∃l xs i k y,x=.ref l/\vs=[.int i]/\H l=some (.lst xs) /\ -(2^63)<=i/\i<2^63/\seqIndex? i xs.length=some k/\xs[k]? = some y/\Q y (upd H l (.lst (xs.eraseIdx k)))
theorem ai1:MtM X "list.pop" aku:=by
 intro aA s Z H x vs v us Q I rx rv h
 obtain⟨l,xs,i,k,y,rfl,rfl,hH,h1,h2,hk,hy,q⟩:=h;cases rx
 obtain⟨u,rfl,ru⟩:=rv.one;obtain⟨t,rfl⟩:=ru;obtain⟨z,its,n,r,hl,e⟩:=I.lstM hH;obtain⟨w,hw,rw'⟩:=r.get hy;refine call_meets F.slot_list_pop ⟨_,e,rfl⟩ F.entry_list_pop (F.args_list_pop_2 _ _)
  (MeetsSeq.list_pop_at l its.toArray n i t k w (fitsIndex_both h1 h2) (by rw[List.size_toArray,<-hl];exact hk) (by rw[<-Array.getElem?_toList];exact hw) (by rw[List.size_toArray];lia)) ⟨e,?_⟩
 refine⟨y,_,I.lset (its':=its.eraseIdx k) hH e ?_ (r.eraseIdx k) ?_,rw',q⟩
 .show its.toArray.eraseIdxIfInBounds k=(its.eraseIdx k).toArray;rw[List.eraseIdxIfInBounds_toArray]
 .have:=a80 xs k
  lia
theorem len_rep{α:Type}(xs:List α)(k:Nat):(List.replicate k xs).flatten.length=k*xs.length:=by
 induction k with
 |zero=>simp
 |succ k ih=>rw[List.replicate_succ,List.flatten_cons,List.length_append,ih,Nat.succ_mul,Nat.add_comm]
end
end L2
namespace Att
open PySem.W PySem.Calls PyProof.Rows
theorem a4d:∀(ns:List Int) (vs:List Value),WellAll P h vs (ns.map WData.int)->IntsAre vs ns:=by
 intro ns
 induction ns with
 |nil =>
  intro vs w
  rw[List.map_nil]at w;cases w
  exact .nil
 |cons n ns ih =>
  intro vs w
  rw[List.map_cons]at w
  cases w with
  |cons a b =>
   cases a
   exact .cons _ _ (ih _ b)
theorem adz{l:OpenLaw}(hn:l.most=some n)
  (hpre:l.row.toRowW.claim.pre args=true) (hwl:WellAll P h vals args) :
  ∃a vs ns,vals=[Value.ref a]/\args=[WData.list (ns.map WData.int)]/\h.get? a=some {cls:=.type "list",data:=.seq vs.toArray}/\IntsAre vs ns/\ns.length<=n:=by
 have hsh:WShape.hasAll [] args [.list .int]=true:=(pre_splitW hpre).1;have hc:l.pre.holds [] {args:=args}=true:=(pre_splitW hpre).2;obtain⟨d,r,rfl,h1,h2⟩:=hasAllW_cons hsh;obtain rfl:=hasAllW_nil h2;obtain⟨xs,rfl,h3⟩:=hasW_list h1;obtain⟨ns,rfl⟩:=items_int h3;have aH:ns.length<=n:=by
  unfold OpenLaw.pre at hc;have h4:(WTm.not (.lt (.lit (.int (n:Int))) (.len (.arg 0)))).holds [] {args:=[.list (ns.map .int)]}=true:=by
   have h4:=(holds_andW hc).1;rw[hn]at h4;exact h4
  have h5:=condW_of h4 (w_not (w_lt w_lit (w_len_list (w_arg rfl))));rw[List.length_map]at h5;refine Nat.le_of_not_lt λq=>?_;have q':(n:Int)<((ns.length:Nat):Int):=by lia
  first
   |(rw[decide_eq_true q']at h5;exact absurd h5 (by decide))
   |(simp at h5;lia)
 cases hwl with
 |cons w1 w2 =>
  cases w2
  cases w1 with
  |list ho hall=>exact⟨_,_,ns,rfl,rfl,ho,a4d ns _ hall,aH⟩
theorem ae0(l:OpenLaw)(args:List WData):l.row.toRowW.claim.post args (.bool true) args=true :=
 postW_of (r:=l.row.toRowW) (X:=(true == true))
  (show WShape.has [] (.bool true) .bool=true by first|rfl|decide|simp[WShape.has,WShape.arms,WShape.armsAll])
  (show(WTm.eq .res (.lit (.bool true))).value [] {args:=args,res:=some (.bool true),after:=args}=some (.bool (true == true)) from w_eq_bool (w_res rfl) w_lit) rfl
theorem a9d{l:OpenLaw}{d:DefRec}
  (hn:l.most=some n) (hdf:d.params.defaults=[])
  (call:∀(w:World) (s₀ s₁:Shared) (mg mb:Str->Option Value) (fa:Addr) (o:Obj) (pm cd doc:Value) (a:Addr) (vs:List Value) (ns:List Int),
   Ground q loose [] XP w s₀ mg mb s₁.heap->YP w s₁.heap->
   s₁.heap.get? fa=some o->o.data=.func (docDef d.name d.params d.body d.scope pm cd doc)->s₁.heap.CodeRec cd d.name->mg d.name=some (.ref fa)->
   s₁.heap.get? a=some {cls:=.type "list",data:=.seq vs.toArray}->IntsAre vs ns->ns.length<=n->s₁.gens = #[]->
   codeAny (model l.prog w) callerA (.call (.ref fa) ⟨[.ref a],[]⟩) (λr s'=>r=.ok (.ret (.bool true))/\OldK s₁.heap s'.heap/\s'.os=s₁.os/\AllBare s'.gens) s₁) :
  WalkO q loose XP YP l.row.toRowW d [] (λf vs=>PySem.call f vs):=by
 intro w s₀ s₁ mg mb G Y fa o pm cd doc dV kV ho hd hcd hD hmg hg args vals as hpre hlay hrd hwl hlo
 obtain rfl:dV=.none:=Dflts.none hD hdf
 obtain rfl:kV=.none:=Dflts.noKw hD
 obtain⟨a,vs,ns,rfl,rfl,hobj,hints,aH⟩:=adz hn hpre hwl;refine enter_call (codeAny_mono (call w s₀ s₁ mg mb fa o pm cd doc a vs ns G Y ho (fd_plain hd) hcd hmg hobj hints aH hg) λr s' hq=>?_);obtain⟨rfl,h2,h3,h4⟩:=hq;exact⟨.inl ⟨.bool true,.bool true,[],rfl,λ_=>rfl,.bool true,ae0 l _,λ_=>⟨List.Pairwise.nil,λ_ hm=>(nomatch hm)⟩⟩,h2,h3,h4⟩
end Att
namespace L2
open PyProof.Rows
theorem a81:∀{vs:List Value} {ns:List Int},IntsAre vs ns->Vals (ns.map V.int) vs
 |_,_,.nil=>.nil
 |_,_,.cons n t h=>.cons ⟨t,rfl⟩ (a81 h)
def Only(H:Hp):Prop:=∀b,H b=none\/∃o xs,H b=some (.frz o (.lst xs))
theorem ai2{K:Fg}{s₁:Shared}{vs:List Value}
  (KX:K.In s₁.heap) (hns:s₁.heap.Ns mainGlobals mg) (hb:s₁.heap.Ns builtinsNs mb) (hbb:∀x:Str,x ≠ "__name__"->mb x=bootBuiltins x) (hlim:s₁.heap.NoLimit) (hg:s₁.gens = #[])
  (ha:s₁.heap.get? a=some {cls:=.type "list",data:=.seq vs.toArray}) (hi:IntsAre vs ns) (hl:ns.length<=sizeLine) (hr:Room k callerA)
  (F:∀base:Heap,K.In base->base.Ns mainGlobals mg->FnOk P w K mg base CX k fa fd [x] sp) (hbind:∀(s:Shared) (u:Value),BindsTo s fd ⟨[u],[]⟩ [(x,u)])
  (hsp:∀H:Hp,Only H->SqL K H a (ns.map V.int)->sp [.ref a] H (λv _=>v=.bl true) λ_ _ _=>False)
  (hCX:∀H e s',CX [] H s₁ (λ_ _ _=>False) e s'->False) :
  codeAny (model P w) callerA (.call (.ref fa) ⟨[.ref a],[]⟩) (λr s'=>r=.ok (.ret (.bool true))/\OldK s₁.heap s'.heap/\s'.os=s₁.os/\AllBare s'.gens) s₁:=by
 have rv:=a81 hi;have lenV:=hi.length;have core:∀H:Hp,Only H->SqL K H a (ns.map V.int)->HOk P w H s₁.heap->(∀b,H b≠none->b=a)->(H a≠none->K.lookup a=none)->
   codeAny (model P w) callerA (.call (.ref fa) ⟨[.ref a],[]⟩) (λr s'=>r=.ok (.ret (.bool true))/\OldK s₁.heap s'.heap/\s'.os=s₁.os/\AllBare s'.gens) s₁:=by
  intro H hO hS hok hA hK
  have base_of:∀{b:Addr} {o:Obj},s₁.heap.get? b=some o->H b=none->(aho s₁.heap H).get? b=some o:=λe n=>ahp e n;have noA:∀{b:Addr} {o:Obj} {es:Array DictEntry} {ep:Nat},s₁.heap.get? b=some o->o.data=.dict es ep->H b=none:=λ{b o es ep} e d=>by
   cases q:H b with
   |none=>rfl
   |some u =>
    have e':b=a:=hA b (by rw[q];simp)
    subst e';rw[ha]at e;cases e
    have d':Data.seq vs.toArray _=Data.dict es ep:=d
    cases d'
  have nsK:∀{b:Addr} {m:Str->Option Value},s₁.heap.Ns b m->(aho s₁.heap H).Ns b m:=λ{b m} ⟨o,es,ep,e,d,r⟩=>⟨o,es,ep,base_of e (noA e d),d,r⟩;have hKb:K.In (aho s₁.heap H):=λb o e=>base_of (KX b o e) (by
   cases q:H b with
   |none=>rfl
   |some u =>
    have e':b=a:=hA b (by rw[q];simp)
    subst e';rw[hK (by rw[q];simp)]at e;cases e)
  have hM:Mod K mg (aho s₁.heap H):=⟨hKb,nsK hns,⟨mb,nsK hb,hbb⟩,let ⟨mc,h1,h2⟩:=hlim; ⟨mc,nsK h1,h2⟩⟩;have e0:Env0 P w K mg (aho s₁.heap H) callerA [] s₁ H:=⟨rfl,hM,λb o e=>am8 e,Nat.le_of_eq (adc _ _),trivial,λb hb=>absurd (show b∈([]:List Addr) from hb) (by simp),hok,.of_eq hg⟩
  refine codeAny_mono ((F _ hKb (nsK hns)).run callerA [] s₁ H ⟨[.ref a],[]⟩ [.ref a] [.ref a] _ _ hr e0 (hbind s₁ (.ref a)) (.cons rfl .nil) (hsp H hO hS)) λr s' h=>?_
  cases r with
  |error e=>exact(hCX H e s' h).elim
  |ok fl =>
   cases fl with
   |next=>exact False.elim h
   |brk=>exact False.elim h
   |cont=>exact False.elim h
   |ret u =>
    obtain⟨v,H',os,bare,un,hok',r',q⟩:=h;have q':v=.bl true:=q;subst q';obtain rfl:u=Value.bool true:=r';refine⟨rfl,OldK.of_keep λb o e=>?_,os,bare⟩
    cases q:H b with
    |none=>exact un.keep b o e q (by intro z;exact absurd (show b∈([]:List Addr) from z) (by simp)) (by simp)
    |some u =>
     rcases hO b with z|⟨ob,xs,z⟩
     .rw[q]at z;cases z
     .have z2:=un.frzs b ob _ z;obtain⟨e1,_⟩:=hok b _ z;obtain⟨e2,_⟩:=hok' b _ z2;rw[e]at e1;cases e1
      exact e2
 cases hk:K.lookup a with
 |some o =>
  have e:=KX a o hk;rw[ha]at e;cases e
  refine core (λ_=>none) (λ_=>.inl rfl) (.inr ⟨_,vs.toArray,_,hk,rfl,rfl,rfl,by rw[List.size_toArray,lenV];exact hl,by simpa using rv⟩) (λb u z=>by have z':(none:Option HO)=some u:=z;cases z') (λb z=>absurd rfl z) λz=>absurd rfl z
 |none =>
  refine core (λb=>if b=a then some (.frz {cls:=.type "list",data:=.seq vs.toArray} (.lst (ns.map V.int))) else none) (λb=>?_) (.inl (.inr ⟨{cls:=.type "list",data:=.seq vs.toArray},if_pos rfl⟩)) (λb u z=>?_) (λb z=>?_) λ_=>hk
  .by_cases hb:b=a
   .exact .inr ⟨_,_,if_pos hb⟩
   .exact .inl (if_neg hb)
  .by_cases hb:b=a
   .have z':=(if_pos hb).symm.trans z
    cases z'
    subst hb;exact⟨ha,by rw[List.length_map];exact hl,vs,_,rv,ha⟩
   .have z':=(if_neg hb).symm.trans z
    cases z'
  .by_cases hb:b=a
   .exact hb
   .exact absurd (if_neg hb) z
theorem amv{l:PySem.W.OpenLaw}{n k:Nat}{q:Program}{loose:List Str}{XP:(Str->Option Value)->Heap->Prop}{YP:World->Heap->Prop}{d:DefRec}{K:Params->Fg}{CX:World->CXT}{sp:World->Sp}{x:Str}
  (hn:l.most=some n) (hn2:n<=sizeLine) (hdf:d.params.defaults=[]) (hr:Room k callerA)
  (hY:∀(w:World) (h:Heap),YP w h->(K w.params).In h)
  (F:∀(w:World) (mg:Str->Option Value) (fa:Addr) (h:Heap),(K w.params).In h->h.Ns mainGlobals mg->mg d.name=some (.ref fa)->
   ∃fd:FuncData,(∀(s:Shared) (u:Value),BindsTo s fd ⟨[u],[]⟩ [(x,u)]) /\
    ∀base:Heap,(K w.params).In base->base.Ns mainGlobals mg->FnOk l.prog w (K w.params) mg base (CX w) k fa fd [x] (sp w))
  (hsp:∀(w:World) (H:Hp) (a:Addr) (ns:List Int),ns.length<=n->Only H->SqL (K w.params) H a (ns.map V.int)->sp w [.ref a] H (λv _=>v=.bl true) λ_ _ _=>False)
  (hCX:∀(w:World) (H:Hp) (s:Shared) (e:Value) (s':Shared),CX w [] H s (λ_ _ _=>False) e s'->False) :
  PySem.W.WalkO q loose XP YP l.row.toRowW d [] (λf vs=>PySem.call f vs):=by
 refine Att.a9d hn hdf λw s₀ s₁ mg mb fa o pm cd doc a vs ns G Y ho hd hcd hmg hobj hints aH hg=>?_;have KX:=hY w _ Y;obtain⟨fd,hb,hF⟩:=F w mg fa _ KX G.T.g hmg;exact ai2 KX G.T.g G.T.b G.T.builtins G.T.nolimit hg hobj hints (Nat.le_trans aH hn2) hr hF hb (λH hO hS=>hsp w H a ns aH hO hS) λH e s'=>hCX w H s₁ e s'
noncomputable def a2d(s:Stmt):Arguments:=match s with
 |.FunctionDef _ a _ _ _ _ _ _ _ _=>a
 |_=>{posonlyargs:=[],args:=[],vararg:=none,kwonlyargs:=[],kw_defaults:=[],kwarg:=none,defaults:=[]}
noncomputable def wg(s:Stmt):List Stmt:=match s with
 |.FunctionDef _ _ b _ _ _ _ _ _ _=>b
 |_=>[]
noncomputable def gj(s:Stmt):Scope:=match s with
 |.FunctionDef _ _ _ _ _ _ sc _ _ _=>sc
 |_=>{kind:=.function,names:=[],isGenerator:=false,isCoroutine:=false}
abbrev CX0:CXT:=λ_ _ _ _ _ _=>False
abbrev E0:XK:=λ_ _ _=>False
theorem as7:aab CX0 X E0:=λ_ _ _ _ _ _ _ h=>h.elim
structure Fun (K:Fg) (x qual:Str) (st:Stmt) (f:Addr) (fd:FuncData):Prop where
 ex:∃(oc:Value) (od:Option Addr) (kV doc pm:Value) (an:Option Addr) (cdv ct:Value) (osl:Array (Option Value)),
  fd=PySem.W.fnOf x qual (a2d st) (wg st) (gj st) .none kV doc pm an cdv ct/\K.lookup f=some ⟨oc,od,.func fd,osl⟩/\PySem.W.codeIn K cdv qual=true
 kp:PySem.W.keepIn K (.ref f)=true
section
variable{P:Program}{w:World}{K:Fg}{mg:Str->Option Value}{base:Heap}
theorem Fun.ok{x qual:Str}{st:Stmt}{f:Addr}{fd:FuncData}{N ps:List Str}{k:Nat}{sp:Sp}(F:Fun K x qual st f fd)(S:FnScope N ps (gj st))(len:∀vs H Q E,sp vs H Q E->vs.length=ps.length)
  (hbody:∀(cdv:Value) (A:Around) (outer:List Env) (s:Shared) (H:Hp) (vs:List V) (Q:VK) (E:XK),Room k (A.deeper (envOfC qual (gj st) s.heap.objs.size f cdv))->sp vs H Q E->
   ∃t,PSs (ahe CX0 P w K mg base N qual (gj st) f cdv A outer s H E).nox (wg st) t/\t {nx:=λ_ H'=>Q .non H',rt:=Q} (start N vs) H):FnOk P w K mg base CX0 (k+1) f fd ps sp:=by
 obtain⟨oc,od,kV,doc,pm,an,cdv,ct,osl,rfl,lk,hcd⟩:=F.ex;refine axn lk hcd S len λA outer s H vs Q E hr hsp=>?_;obtain⟨t,h,q⟩:=hbody cdv A outer s H vs Q E hr hsp;exact⟨t,h.nox,q⟩
theorem Fun.binds{x qual:Str}{st:Stmt}{f:Addr}{fd:FuncData}{ps:List Str}(F:Fun K x qual st f fd)
  (h:∀(kV doc pm:Value) (an:Option Addr) (cdv ct:Value) (us:List Value),us.length=ps.length->bindArgs (PySem.W.fnOf x qual (a2d st) (wg st) (gj st) .none kV doc pm an cdv ct) ⟨us,[]⟩=pure (ps.zip us)):Binds K fd ps []:=by
 obtain⟨oc,od,kV,doc,pm,an,cdv,ct,osl,rfl,lk,hcd⟩:=F.ex;exact .all (h kV doc pm an cdv ct)
theorem as8{x qual:Str}{st:Stmt}{f:Addr}{oc:Value}{od an:Option Addr}{osl:Array (Option Value)}{kV doc pm cdv ct:Value}(l:K.lookup f=some ⟨oc,od,.func (PySem.W.fnOf x qual (a2d st) (wg st) (gj st) .none kV doc pm an cdv ct),osl⟩)
  (c:PySem.W.codeIn K cdv qual=true) (k:PySem.W.keepIn K (.ref f)=true):Fun K x qual st f (PySem.W.fnOf x qual (a2d st) (wg st) (gj st) .none kV doc pm an cdv ct):=⟨⟨oc,od,kV,doc,pm,an,cdv,ct,osl,rfl,l,c⟩,k⟩
end
section
variable{κ:Type}[DecidableEq κ]
noncomputable def a82(kvs:List (κ×V))(k:κ):Option V:=(kvs.find? λkv=>decide (kv.1=k)).map (·.2)
noncomputable def putK(kvs:List (κ×V))(k:κ)(v:V):List (κ×V) :=
 if (kvs.any λkv=>decide (kv.1=k))=true then kvs.map (λkv=>if kv.1=k then (kv.1,v) else kv) else kvs++[(k,v)]
theorem a6n{p:κ×V}{r:List (κ×V)}{k:κ}(e:p.1=k):a82 (p::r) k=some p.2:=by simp[a82,List.find?_cons,e]
theorem a6o{p:κ×V}{r:List (κ×V)}{k:κ}(e:¬ p.1=k):a82 (p::r) k=a82 r k:=by simp[a82,List.find?_cons,e]
theorem a6p(k:κ):∀kvs:List (κ×V),(kvs.any λkv=>decide (kv.1=k))=(a82 kvs k).isSome
 |[]=>rfl
 |p::r=>by
  rw[List.any_cons]
  by_cases e:p.1=k
  .simp only[a6n e,decide_eq_true e,Bool.true_or,Option.isSome_some]
  .rw[a6o e,decide_eq_false e,Bool.false_or];exact a6p k r
theorem qt(kvs:List (κ×V))(k:κ)(v:V):(putK kvs k v).length<=kvs.length+1:=by
 unfold putK
 split
 .rw[List.length_map];lia
 .rw[List.length_append,List.length_cons,List.length_nil];lia
theorem ai3{kvs:List (κ×V)}{k:κ}(v:V)(h:a82 kvs k=none):putK kvs k v=kvs++[(k,v)]:=by
 unfold putK;rw[a6p,h];exact if_neg (by decide)
theorem RelO.isSome_eq{o:Option V}{u:Option Value}(r:RelO o u):o.isSome=u.isSome:=by
 cases o with
 |none=>cases u with
  |none=>rfl
  |some _=>exact(show False from r).elim
 |some _=>cases u with
  |none=>exact(show False from r).elim
  |some _=>rfl
theorem RelO.getD{o:Option V}{u:Option Value}{d:V}{d':Value}(r:RelO o u)(rd:RelV d d'):RelV (o.getD d) (u.getD d'):=by
 cases o with
 |none=>cases u with
  |none=>exact rd
  |some _=>exact(show False from r).elim
 |some _=>cases u with
  |none=>exact(show False from r).elim
  |some _=>exact r
theorem KV.val{kvs:List (κ×V)}{vs:List (κ×Value)}(r:KV kvs vs)(k:κ):RelO (a82 kvs k) (valueAt vs k):=by
 unfold KV at r
 induction r with
 |nil=>exact True.intro
 |@cons p q ps qs h t ih =>
  obtain⟨h1,h2⟩:=h
  by_cases e:p.1=k
  .have e':q.1=k:=h1.symm.trans e;have b:valueAt (q::qs) k=some q.2:=by simp[valueAt,List.find?_cons,e']
   rw[a6n e,b];exact h2
  .have e':¬ q.1=k:=λz=>e (h1.trans z);have b:valueAt (q::qs) k=valueAt qs k:=by simp[valueAt,List.find?_cons,e']
   rw[a6o e,b];exact ih
theorem KV.any{kvs:List (κ×V)}{vs:List (κ×Value)}(r:KV kvs vs)(k:κ):(kvs.any λkv=>decide (kv.1=k))=vs.any λkv=>decide (kv.1=k):=by
 unfold KV at r
 induction r with
 |nil=>rfl
 |cons h t ih=>rw[List.any_cons,List.any_cons,ih,h.1]
theorem KV.repl{kvs:List (κ×V)}{vs:List (κ×Value)}(r:KV kvs vs)(k:κ){y:V}{u:Value}(ry:RelV y u) :
  KV (kvs.map λkv=>if kv.1=k then (kv.1,y) else kv) (vs.map λkv=>if kv.1=k then (kv.1,u) else kv):=by
 unfold KV at r ⊢
 induction r with
 |nil=>exact .nil
 |@cons p q ps qs h t ih =>
  rw[List.map_cons,List.map_cons];refine .cons ?_ ih;obtain⟨h1,h2⟩:=h
  by_cases e:p.1=k
  .rw[if_pos e,if_pos (h1.symm.trans e)];exact⟨h1,ry⟩
  .rw[if_neg e,if_neg (λz=>e (h1.trans z))];exact⟨h1,h2⟩
theorem KV.put{kvs:List (κ×V)}{vs:List (κ×Value)}(r:KV kvs vs)(k:κ){y:V}{u:Value}(ry:RelV y u):KV (putK kvs k y) (stored vs k u):=by
 unfold putK stored;rw[r.any k]
 by_cases e:(vs.any λkv=>decide (kv.1=k))=true
 .rw[if_pos e,if_pos e];exact r.repl k ry
 .rw[if_neg e,if_neg e];exact Paired.snoc r ⟨rfl,ry⟩
theorem KV.length{kvs:List (κ×V)}{vs:List (κ×Value)}(r:KV kvs vs):kvs.length=vs.length:=Paired.length r
end
theorem a83{P:Program}{w:World}{k:Key}{u:Value}(r:RelV (kV k) u):(gf P w).is k u=true:=by
 cases k with
 |inl i=>obtain⟨t,e⟩:=(show ∃t,u=Value.int i t from r);subst e;exact a98 P w i t
 |inr x=>obtain⟨t,e⟩:=(show ∃t,u=Value.str x t from r);subst e;exact a99 P w x t
theorem a84{P:Program}{w:World}:∀{ks:List Key} {us:List Value},Vals (ks.map kV) us->ItemsAre (gf P w) ks us
 |[],_,r=>by rw[List.map_nil]at r;cases r;exact .nil
 |k::ks,_,r=>by
  rw[List.map_cons]at r
  cases r with
  |cons h t=>exact .cons (a83 h) (a84 t)
abbrev KT(H:Hp):List (List Key×V)->List (List Key×Addr×Value)->Prop:=Paired λp q=>p.1=q.1/\H q.2.1=some (.tup (p.1.map kV))/\RelV p.2 q.2.2
theorem KT.val{H:Hp}{kvs:List (List Key×V)}{xs:List (List Key×Addr×Value)}(r:KT H kvs xs)(k:List Key):RelO (a82 kvs k) ((atKey xs k).map (·.2)):=by
 induction r with
 |nil=>exact True.intro
 |@cons p q ps qs h t ih =>
  obtain⟨h1,_,h2⟩:=h
  by_cases e:p.1=k
  .have e':q.1=k:=h1.symm.trans e;have b:atKey (q::qs) k=some q.2:=by simp[atKey,List.find?_cons,e']
   rw[a6n e,b];exact h2
  .have e':¬ q.1=k:=λz=>e (h1.trans z);have b:atKey (q::qs) k=atKey qs k:=by simp[atKey,List.find?_cons,e']
   rw[a6o e,b];exact ih
theorem KT.repl{H:Hp}{kvs:List (List Key×V)}{xs:List (List Key×Addr×Value)}(r:KT H kvs xs)(k:List Key){y:V}{u:Value}(ry:RelV y u) :
  KT H (kvs.map λkv=>if kv.1=k then (kv.1,y) else kv) (xs.map (putAt k u)):=by
 induction r with
 |nil=>exact .nil
 |@cons p q ps qs h t ih =>
  rw[List.map_cons,List.map_cons];refine .cons ?_ ih;obtain⟨h1,h2,h3⟩:=h;unfold putAt
  by_cases e:p.1=k
  .rw[if_pos e,if_pos (h1.symm.trans e)];exact⟨h1,h2,ry⟩
  .rw[if_neg e,if_neg (λz=>e (h1.trans z))];exact⟨h1,h2,h3⟩
theorem KT.put{H:Hp}{kvs:List (List Key×V)}{xs:List (List Key×Addr×Value)}(r:KT H kvs xs)(k:List Key){b:Addr}{y:V}{u:Value}(hb:H b=some (.tup (k.map kV)))(ry:RelV y u) :
  KT H (putK kvs k y) (storedH xs k b u):=by
 have e:(kvs.any λkv=>decide (kv.1=k))=(atKey xs k).isSome:=by
  rw[a6p,(r.val k).isSome_eq,Option.isSome_map]
 unfold putK storedH;rw[e]
 by_cases q:(atKey xs k).isSome=true
 .rw[if_pos q,if_pos q];exact r.repl k ry
 .rw[if_neg q,if_neg q];exact Paired.snoc r ⟨rfl,hb,ry⟩
theorem KT.keeps{H H':Hp}{kvs:List (List Key×V)}{xs:List (List Key×Addr×Value)}(r:KT H kvs xs)(ht:∀b ys,H b=some (.tup ys)->H' b=some (.tup ys)):KT H' kvs xs :=
 Paired.mapP r λ_ _ z=>⟨z.1,ht _ _ z.2.1,z.2.2⟩
section
variable{P:Program}{w:World}{H:Hp}{h:Heap}{a:Addr}
theorem as9{u:HO}(ok:HOk P w H h)(e:Rd H a u):ObjOk P w H h a u:=e.ok ok
theorem a85{kvs:List (Key×V)}(ok:HOk P w H h)(e:Rd H a (.dK kvs)):kvs.length<=sizeLine/\(a == sysModules)=false/\∃vs,KV kvs vs/\h.DictOf (gf P w) a vs :=
 show ObjOk P w H h a (.dK kvs) from as9 ok e
theorem amw{kvs:List (Key×V)}(ok:HOk P w H h)(e:H a=some (.dK kvs)):kvs.length<=sizeLine/\(a == sysModules)=false/\∃vs,KV kvs vs/\h.DictOf (gf P w) a vs:=a85 ok (.inl e)
theorem a3h{ks:List Key}(ok:HOk P w H h)(e:H a=some (.tup (ks.map kV))):(tupleKind (gf P w)).is h ks a:=by
 obtain⟨_,its,r,o,h1,h2,n,h3⟩:=(show ObjOk P w H h a (.tup (ks.map kV)) from ok a _ e)
 exact⟨o,its.toArray,n,h1,h2,h3,by simpa using a84 r⟩
theorem a4e{kvs:List (List Key×V)}(ok:HOk P w H h)(e:Rd H a (.dT kvs)):kvs.length<=sizeLine/\(a == sysModules)=false /\
  ∃xs,KT H kvs xs/\h.DictOfH (tupleKind (gf P w)) a xs:=by
 obtain⟨z,y,xs,r,o,es,ep,h1,h2,h3,h4,h5⟩:=(show ObjOk P w H h a (.dT kvs) from as9 ok e)
 refine⟨z,y,xs,r,o,es,ep,h1,h2,h3,h4,λx hx=>?_,h5⟩;have all:∀{l:List (List Key×V)} {m:List (List Key×Addr×Value)},KT H l m->∀x∈m,(tupleKind (gf P w)).is h x.1 x.2.1:=by
  intro l m q
  induction q with
  |nil=>intro x hx;exact nomatch hx
  |@cons p q ps qs hq t ih =>
   intro x hx
   rcases List.mem_cons.mp hx with e|hx
   .subst e;exact a3h ok (by rw[<-hq.1];exact hq.2.1)
   .exact ih x hx
 exact all r x hx
theorem ae1{kvs:List (List Key×V)}(ok:HOk P w H h)(e:H a=some (.dT kvs)):kvs.length<=sizeLine/\(a == sysModules)=false /\
  ∃xs,KT H kvs xs/\h.DictOfH (tupleKind (gf P w)) a xs:=a4e ok (.inl e)
end
def ad4(H:Hp)(a:Addr)(y:V)(r:Option V):Prop :=
 (∃kvs k,Rd H a (.dK kvs)/\y=kV k/\r=a82 kvs k)\/∃kvs k b,Rd H a (.dT kvs)/\y=.ref b/\H b=some (.tup (k.map kV))/\r=a82 kvs k
def aqj(H:Hp)(a:Addr)(y v:V)(H':Hp):Prop :=
 (∃kvs k,H a=some (.dK kvs)/\y=kV k/\kvs.length<sizeLine/\H'=upd H a (.dK (putK kvs k v))) \/
 ∃kvs k b,H a=some (.dT kvs)/\y=.ref b/\H b=some (.tup (k.map kV))/\kvs.length<sizeLine/\H'=upd H a (.dT (putK kvs k v))
section
variable{X:Cx}{aA:List (Addr×Obj)}{Z:St}{H:Hp}{s:Shared}{a:Addr}{y v:V}{u r:Value}{o:Option V}{A:Around}{E:Value->Shared->Prop}
theorem Inv.big(I:Inv X aA Z H s):sysModules<s.heap.objs.size:=by
 have h:mainGlobals<s.heap.objs.size:=(I.mod.glob.keeps I.bk).lt;exact Nat.lt_trans (by decide) h
theorem ae2{Q:Value->Shared->Prop}(hu:A.units+1<cLine)(I:Inv X aA Z H s)(g:ad4 H a y (some v))(ry:RelV y u)(h:∀w' s',Inv X aA Z H s'->RelV v w'->Q w' s') :
  wpAny (model X.prog X.w) A (getItem (.ref a) u) Q E s:=by
 rcases g with⟨kvs,k,e,ey,l⟩|⟨kvs,k,b,e,ey,eb,l⟩
 .subst ey;obtain⟨z,hd,vs,rel,dd⟩:=a85 I.hok e;obtain⟨w',hw,rw'⟩:=RelO.some_of (v:=v) (o:=valueAt vs k) (by rw[l];exact rel.val k)
  exact wpAny_getItem_of (a83 ry) dd.mapOf hw (h w' _ (I.tok _) rw')
 .subst ey
  cases (show u=Value.ref b from ry)
  obtain⟨z,hd,xs,rel,dd⟩:=a4e I.hok e;obtain⟨w',hw,rw'⟩:=RelO.some_of (v:=v) (o:=(atKey xs k).map (·.2)) (by rw[l];exact rel.val k)
  obtain⟨p,hp,hp2⟩:=Option.map_eq_some_iff.mp hw;refine wpAny_getItem_heap (tupleKind_room_in1 hu) (a3h I.hok eb) dd hp ?_;rw[hp2];exact h w' _ (I.tok _) rw'
theorem b0h{Q:Value->Shared->Prop}(hu:A.units+1<cLine)(I:Inv X aA Z H s)(g:ad4 H a y o)(ry:RelV y u)(h:∀s',Inv X aA Z H s'->Q (.bool o.isSome) s') :
  wpAny (model X.prog X.w) A (compareOp .In u (.ref a)) Q E s:=by
 rcases g with⟨kvs,k,e,ey,l⟩|⟨kvs,k,b,e,ey,eb,l⟩
 .subst ey;obtain⟨z,hd,vs,rel,dd⟩:=a85 I.hok e;refine wpAny_in_of (a83 ry) hd dd.mapOf ?_;rw[<-(rel.val k).isSome_eq,<-l];exact h _ (I.tok _)
 .subst ey
  cases (show u=Value.ref b from ry)
  obtain⟨z,hd,xs,rel,dd⟩:=a4e I.hok e;refine wpAny_in_heap (tupleKind_room_in1 hu) (a3h I.hok eb) hd dd ?_;have q:=(rel.val k).isSome_eq;rw[Option.isSome_map]at q;rw[<-q,<-l];exact h _ (I.tok _)
theorem amx{Q:Value->Shared->Prop}(hu:A.units+1<cLine)(I:Inv X aA Z H s)(g:ad4 H a y o)(ry:RelV y u)(h:∀s',Inv X aA Z H s'->Q (.bool (!o.isSome)) s') :
  wpAny (model X.prog X.w) A (compareOp .NotIn u (.ref a)) Q E s:=by
 rcases g with⟨kvs,k,e,ey,l⟩|⟨kvs,k,b,e,ey,eb,l⟩
 .subst ey;obtain⟨z,hd,vs,rel,dd⟩:=a85 I.hok e;refine wpAny_notIn_of (a83 ry) hd dd.mapOf ?_;rw[<-(rel.val k).isSome_eq,<-l];exact h _ (I.tok _)
 .subst ey
  cases (show u=Value.ref b from ry)
  obtain⟨z,hd,xs,rel,dd⟩:=a4e I.hok e;refine wpAny_notIn_heap (tupleKind_room_in1 hu) (a3h I.hok eb) hd dd ?_;have q:=(rel.val k).isSome_eq;rw[Option.isSome_map]at q;rw[<-q,<-l];exact h _ (I.tok _)
theorem a2e{h':Heap}{t':Nat}{ob:HO}(I:Inv X aA Z H s)(mu:Mut (H a))(hs:Heap.SameBut a s.heap h')(he:∃q,h'.get? a=some q)(new:ObjOk X.prog X.w (upd H a ob) h' a ob) :
  Inv X aA Z (upd H a ob) {s with heap:=h',toks:=t' } :=
 I.write (x:=a) (e:=a) mu (.inl rfl) (λb q hb z=>(hs.2 b hb).trans z) he new
theorem ae3{P:Program}{w:World}{H':Hp}{h':Heap}{kvs:List (Key×V)}{vs:List (Key×Value)}(z:kvs.length<=sizeLine)(hd:(a == sysModules)=false)(rel:KV kvs vs)(dd:h'.DictOf (gf P w) a vs) :
  ObjOk P w H' h' a (.dK kvs):=⟨z,hd,vs,rel,dd⟩
theorem ae4{H':Hp}{Q:Unit->Shared->Prop}(hu:A.units+1<cLine)(I:Inv X aA Z H s)(g:aqj H a y v H')(ry:RelV y u)(rv:RelV v r)(h:∀s',Inv X aA Z H' s'->Q () s') :
  wpAny (model X.prog X.w) A (setItem (.ref a) u r) Q E s:=by
 rcases g with⟨kvs,k,e,ey,l,eH⟩|⟨kvs,k,b,e,ey,eb,l,eH⟩
 .subst ey eH;obtain⟨z,hd,vs,rel,dd⟩:=amw I.hok e;have hz:vs.length<=sizeLine:=by rw[<-rel.length];exact z
  have hl:(putK kvs k v).length<=sizeLine:=by have:=qt kvs k v;lia
  refine wpAny_setItem_pairs (hsz:=hz) (a83 ry) dd λh' dd' hs=>h _ ?_;have he:∃q,h'.get? a=some q:=let ⟨q,_,_,hq,_⟩:=dd'; ⟨q,hq⟩;exact a2e I (by rw[e];exact True.intro) hs he (ae3 hl hd (rel.put k rv) dd')
 .subst ey eH
  cases (show u=Value.ref b from ry)
  obtain⟨z,hd,xs,rel,dd⟩:=ae1 I.hok e;have hz:xs.length<=sizeLine:=by rw[<-Paired.length rel];exact z
  have hl:(putK kvs k v).length<=sizeLine:=by have:=qt kvs k v;lia
  refine wpAny_setItem_heap (hsz:=hz) (tupleKind_room_in1 hu) (a3h I.hok eb) dd λh' dd' hs=>h _ ?_;obtain⟨q,es,ep,hq,h2,h3,h4,_,h5⟩:=dd';refine a2e I (by rw[e];exact True.intro) hs ⟨q,hq⟩ ⟨hl,hd,_,(rel.put k eb rv).keeps λc ys ec=>?_,q,es,ep,hq,h2,h3,h4,h5⟩
  rw[di (adb ec e (λz=>nomatch z))];exact ec
end
section
variable{X:Cx}{aA:List (Addr×Obj)}{Z:St}{H:Hp}{s:Shared}{a:Addr}{kvs:List (Key×V)}{k:Key}{u:Value}{A:Around}{E:Value->Shared->Prop}
theorem axt{Q:Value->Shared->Prop}(I:Inv X aA Z H s)(e:Rd H a (.dK kvs))(h:∀t s',Inv X aA Z H s'->Q (.int kvs.length t) s'):wpAny (model X.prog X.w) A (call (.builtin "len") [.ref a]) Q E s:=by
 obtain⟨z,hd,vs,rel,dd⟩:=a85 I.hok e;refine call_len_dict hd dd (by rw[<-rel.length];rw[sizeLine_eq]at z;lia) ?_
 rw[<-rel.length];exact h _ _ (I.tok _)
end
def axu(i:Expr):Prop:=∀ov iv,subscripted i false ov iv=operate [ov,iv] (getItem ov iv)
theorem amy{prog:Program}{w:World}{A:Around}{E:Value->Shared->Prop}{s:Shared}{env:Env}{value slice:Expr}{pos:Pos}{T id:String}{Q:Value->Shared->Prop}
  (hl:typeLookup (.type T) "__getitem__" = pure (some (.builtin id))) (hs:axu slice)
  (h:wpAny (model prog w) A (eval value env) (λo s₁=>wpAny (model prog w) A (eval slice env) (λi s₂=>s₂.TypeIs o T/\wpAny (model prog w) A (getItem o i) Q E s₂) E s₁) E s) :
  wpAny (model prog w) A (eval (.Subscript value slice pos) env) Q E s:=by
 refine Subscript_ (wpAny_mono h (λo s₁ h₁=>wpAny_mono h₁ (λi s₂ h₂=>?_) λ_ _ x=>x) λ_ _ x=>x);obtain⟨hT,h₂⟩:=h₂;unfold subscriptTail;refine wpAny_bind ?_;rw[getitemInPython_of_ne hT.not_modules];refine wpAny_bind (wpAny_specialOf hT hl ?_);have fin:wpAny (model prog w) A (subscripted slice false o i) (λr s₃=>wpAny (model prog w) A (letTemporaryGo value o r>>=λ_=>pure r) Q E s₃) E s₂:=by
  rw[hs o i];exact wpAny_operating (wpAny_mono h₂ (λr s₃ h₃=>wpAny_bind (wpAny_letTemporaryGo (wpAny_pure h₃))) λ_ _ x=>x)
 first
  |exact wpAny_pure (wpAny_bind fin)
  |exact wpAny_bind (wpAny_pure (wpAny_bind fin))
  |exact wpAny_bind fin
theorem a9e{X:Cx}{aA:List (Addr×Obj)}{Z:St}{H:Hp}{s:Shared}{a:Addr}{y:V}{o:Option V}(I:Inv X aA Z H s)(g:ad4 H a y o):s.TypeIs (.ref a) "dict":=by
 rcases g with⟨kvs,k,e,_,_⟩|⟨kvs,k,b,e,_,_,_⟩
 .obtain⟨_,_,vs,_,dd⟩:=a85 I.hok e;exact dd.typeIs
 .obtain⟨_,_,xs,_,dd⟩:=a4e I.hok e;exact dd.typeIs
noncomputable def axv(td ty:TE):TE:=λZ H Q=>td Z H λx H1=>ty Z H1 λy H2=>∃a v,x=.ref a/\ad4 H2 a y (some v)/\Q v H2
noncomputable def axw(td ty tv:TE):TS:=λD Z H=>tv Z H λv H1=>td Z H1 λx H2=>ty Z H2 λy H3=>∃a H4,x=.ref a/\aqj H3 a y v H4/\D.nx Z H4
section
variable{X:Cx}{o i e value:Expr}{pos pos' tpos:Pos}{td ty tv:TE}
theorem amz(hu:X.A.units+1<cLine)(ho:PE X o td)(hi:PE X i ty)(hs:axu i):PE X (.Subscript o i pos) (axv td ty):=by
 intro aA s Z H Q I h
 refine amy PySem.F.slot_dict_getitem.lookup hs (thn (ho aA s Z H _ I h) λu s1 ⟨x,H1,I1,rx,q1⟩=>thn (hi aA s1 Z H1 _ I1 q1) λiv s2 ⟨y,H2,I2,ry,a,v,ex,g,q2⟩=>?_);subst ex;obtain rfl:u=Value.ref a:=rx;exact⟨a9e I2 g,ae2 hu I2 g ry λw' s3 I3 rw'=>⟨v,H2,I3,rw',q2⟩⟩
theorem an0(hu:X.A.units+1<cLine)(ho:PE X o td)(hi:PE X i ty)(hv:PE X value tv)(hs:swapsWith value (some (.Subscript o i pos')) pos.line X.env=pure false) :
  PS X (.Assign [.Subscript o i pos'] value pos) (axw td ty tv):=by
 intro aA s Z H D I h
 refine wpAny_Assign_Subscript (thn (hv aA s Z H _ I h) λr s1 ⟨v,H1,I1,rv,q1⟩=>thn (ho aA s1 Z H1 _ I1 q1) λu s2 ⟨x,H2,I2,rx,q2⟩=>thn (hi aA s2 Z H2 _ I2 q2) λiv s3 ⟨y,H3,I3,ry,a,H4,ex,g,q3⟩=>?_) hs;subst ex;obtain rfl:u=Value.ref a:=rx;exact ae4 hu I3 g ry rv λs4 I4=>⟨Z,H4,I4,q3⟩
end
theorem aae{P:Program}{w:World}{H:Hp}(h:Heap)(hb:sysModules<h.objs.size):ObjOk P w H (h.push {cls:=.type "dict",data:=.dict #[]}) h.objs.size (.dK []) :=
 ⟨Nat.zero_le _,beq_eq_false_iff_ne.mpr (Ne.symm (Nat.ne_of_lt hb)),[],.nil,Heap.DictOf.new h⟩
theorem aaf{P:Program}{w:World}{H:Hp}(h:Heap)(hb:sysModules<h.objs.size):ObjOk P w H (h.push {cls:=.type "dict",data:=.dict #[]}) h.objs.size (.dT []) :=
 ⟨Nat.zero_le _,beq_eq_false_iff_ne.mpr (Ne.symm (Nat.ne_of_lt hb)),[],.nil,_, #[],0,Heap.get?_push_size _ rfl,⟨rfl,rfl,rfl⟩,rfl,rfl,List.nodup_nil⟩
noncomputable def asa:TE:=λ_ H Q=>∀p,H p=none->Q (.ref p) (upd H p (.dK []))
noncomputable def asb:TE:=λ_ H Q=>∀p,H p=none->Q (.ref p) (upd H p (.dT []))
section
variable{X:Cx}{pos:Pos}
theorem ai4:PE X (.Dict [] [] pos) asa:=λaA s Z H Q I h =>
 wpAny_Dict_empty ⟨.ref s.heap.objs.size,_,I.laid (a:=s.heap.objs.size) (o:=.dK []) (t':=s.toks) (λ_ _ q=>Heap.get?_push_of_some _ q) (Nat.le_refl _) (aae s.heap I.big),rfl,h _ (I.hok.fresh (Nat.le_refl _))⟩
theorem ai5:PE X (.Dict [] [] pos) asb:=λaA s Z H Q I h =>
 wpAny_Dict_empty ⟨.ref s.heap.objs.size,_,I.laid (a:=s.heap.objs.size) (o:=.dT []) (t':=s.toks) (λ_ _ q=>Heap.get?_push_of_some _ q) (Nat.le_refl _) (aaf s.heap I.big),rfl,h _ (I.hok.fresh (Nat.le_refl _))⟩
end
def ae5:List (TE×TE)->St->Hp->(List (V×V)->Hp->Prop)->Prop
 |[],_,H,Q=>Q [] H
 |(tk,tv)::r,Z,H,Q=>tk Z H λx H1=>tv Z H1 λy H2=>ae5 r Z H2 λps H3=>Q ((x,y)::ps) H3
abbrev VV:List (V×V)->List (Value×Value)->Prop:=Paired λp q=>RelV p.1 q.1/\RelV p.2 q.2
def PPs(X:Cx)(pos:Pos)(keys:List (Option Expr))(values:List Expr)(trs:List (TE×TE)):Prop :=
 ∀(aA:List (Addr×Obj)) (s:Shared) (Z:St) (H:Hp) (Q:List (V×V)->Hp->Prop),Inv X aA Z H s->ae5 trs Z H Q->
  wpAny (model X.prog X.w) X.A (evalPairs (pairTrees keys values X.env pos)) (λvs s'=>∃ps H',Inv X aA Z H' s'/\VV ps vs/\Q ps H') X.xe s
theorem an1{X:Cx}{pos:Pos}:PPs X pos [] [] []:=λaA s Z H Q I h=>pairTrees_nil_walk ⟨[],H,I,.nil,h⟩
theorem ai6{X:Cx}{pos:Pos}{k v:Expr}{ks:List (Option Expr)}{vs:List Expr}{tk tv:TE}{trs:List (TE×TE)}(hk:PE X k tk)(hv:PE X v tv)(hr:PPs X pos ks vs trs) :
  PPs X pos (some k::ks) (v::vs) ((tk,tv)::trs):=λaA s Z H Q I h =>
 pairTrees_cons_walk (thn (hk aA s Z H _ I h) λu s1 ⟨x,H1,I1,rx,q1⟩=>thn (hv aA s1 Z H1 _ I1 q1) λw2 s2 ⟨y,H2,I2,ry,q2⟩ =>
  thn (hr aA s2 Z H2 _ I2 q2) λws s3 ⟨ps,H3,I3,rel,q3⟩=>⟨(x,y)::ps,H3,I3,.cons ⟨rx,ry⟩ rel,q3⟩)
noncomputable def a86(kvs more:List (Key×V)):List (Key×V):=more.foldl (λacc kv=>putK acc kv.1 kv.2) kvs
theorem KV.merge:∀{more:List (Key×V)} {rs:List (Key×Value)} {kvs:List (Key×V)} {vs:List (Key×Value)},KV more rs->KV kvs vs->KV (a86 kvs more) (merged vs rs):=by
 intro more rs kvs vs r
 unfold KV at r
 induction r generalizing kvs vs with
 |nil=>intro q;exact q
 |@cons p q ps qs h t ih =>
  intro r0
  have e:KV (putK kvs p.1 p.2) (stored vs q.1 q.2):=by
   have:=r0.put p.1 h.2
   rw[<-h.1];exact this
  exact ih e
theorem a2n:∀(more kvs:List (Key×V)),(a86 kvs more).length<=kvs.length+more.length
 |[],kvs=>by show kvs.length<=kvs.length+0;lia
 |p::r,kvs=>by
  have h1:=a2n r (putK kvs p.1 p.2);have h2:=qt kvs p.1 p.2;show(a86 (putK kvs p.1 p.2) r).length<=_;rw[List.length_cons];lia
theorem a5s{P:Program}{w:World}:∀{kvs:List (Key×V)} {ws:List (Value×Value)},VV (kvs.map λkv=>(kV kv.1,kv.2)) ws->∃rs,Carries (gf P w) ws rs/\KV kvs rs
 |[],_,r=>by rw[List.map_nil]at r;cases r;exact⟨[],True.intro,.nil⟩
 |p::kvs,_,r=>by
  rw[List.map_cons]at r
  cases r with
  |@cons a b as bs h t =>
   obtain⟨rs,c,q⟩:=a5s (P:=P) (w:=w) t;obtain⟨b1,b2⟩:=b;exact⟨(p.1,b2)::rs,⟨a83 h.1,rfl,c⟩,.cons ⟨rfl,h.2⟩ q⟩
noncomputable def axx(trs:List (TE×TE)):TE:=λZ H Q=>∀p,H p=none->ae5 trs Z (upd H p (.dK [])) λps H2=>H2 p=some (.dK [])/\∃kvs:List (Key×V),ps=kvs.map (λkv=>(kV kv.1,kv.2))/\kvs.length<=15/\Q (.ref p) (upd H2 p (.dK (a86 [] kvs)))
theorem an2{X:Cx}{pos:Pos}{keys:List (Option Expr)}{values:List Expr}{trs:List (TE×TE)}(h:PPs X pos keys values trs)(hall:keys.all (·.isSome)=true)(hl:keys.length=values.length)(h0:keys≠[])
  (h15:keys.length<=15):PE X (.Dict keys values pos) (axx trs):=by
 intro aA s Z H Q I q
 have hn:=I.hok.fresh (Nat.le_refl s.heap.objs.size);have I1:=I.laid (a:=s.heap.objs.size) (o:=.dK []) (h':=s.heap.push {cls:=.type "dict",data:=.dict #[]}) (t':=s.toks) (λ_ _ q=>Heap.get?_push_of_some _ q) (Nat.le_refl _) (aae s.heap I.big);refine wpAny_Dict_walk (knd:=gf X.prog X.w) hall hl h0 h15 (thn (h aA _ Z _ _ I1 (q _ hn)) λws s2 ⟨ps,H2,I2,rel,e,kvs,ep,lk,q2⟩=>?_);subst ep;obtain⟨rs,c,rk⟩:=a5s (P:=X.prog) (w:=X.w) rel;obtain⟨z,hd,vs0,r0,dd⟩:=amw I2.hok e;cases r0
 refine⟨rs,c,dd,λh' dd' hs=>⟨.ref s.heap.objs.size,_,?_,rfl,q2⟩⟩;have hz:(a86 [] kvs).length<=sizeLine:=by
  have h1:=a2n kvs [];rw[List.length_nil]at h1;rw[sizeLine_eq];lia
 have he:∃q,h'.get? s.heap.objs.size=some q:=let ⟨q,_,_,hq,_⟩:=dd'; ⟨q,hq⟩;exact a2e I2 (by rw[e];exact True.intro) hs he (ae3 hz hd (rk.merge .nil) dd')
structure M1 (X:Cx) (o:Expr) (m:Str) (apos:Pos) (e:Expr) (cpos:Pos):Prop where
 base:attributeBase o m X.env (eval o X.env)=eval o X.env
 few:((backTo cpos (starEach [e] X.env)).all (λx => !x.1) && (backToKw cpos (keywordEach [] X.env)).all (λx=>x.1.isSome)
  && decide (([e]:List Expr).length+([]:List Keyword).length+(if ([]:List Keyword).isEmpty then 0 else 1)<30))=true
 line:(apos.endLine == cpos.line)=true
 trees:backTo cpos (starEach [e] X.env)=[(false,eval e X.env)]
def IsD(H:Hp)(a:Addr):Prop:=(∃kvs,Rd H a (.dK kvs))\/∃kvs,Rd H a (.dT kvs)
theorem akv{X:Cx}{aA:List (Addr×Obj)}{Z:St}{H:Hp}{s:Shared}{a:Addr}(I:Inv X aA Z H s)(d:IsD H a) :
  s.TypeIs (.ref a) "dict"/\(∀b,Value.ref a=.ref b->∃ob,s.heap.get? b=some ob/\ob.dict=none)/\(a == sysModules)=false:=by
 rcases d with⟨kvs,e⟩|⟨kvs,e⟩
 .obtain⟨_,hd,vs,_,dd⟩:=a85 I.hok e;refine⟨dd.typeIs,λb q=>?_,hd⟩;cases q
  obtain⟨ob,_,_,h1,h2,_⟩:=dd;exact⟨ob,h1,h2.2.1⟩
 .obtain⟨_,hd,xs,_,dd⟩:=a4e I.hok e;refine⟨dd.typeIs,λb q=>?_,hd⟩;cases q
  obtain⟨ob,_,_,h1,h2,_⟩:=dd;exact⟨ob,h1,h2.2.1⟩
section
variable{X:Cx}{aA:List (Addr×Obj)}{Z:St}{H:Hp}{s:Shared}{a:Addr}{y d:V}{u r:Value}{o:Option V}{A:Around}{E:Value->Shared->Prop}
theorem asd{Q:Value->Shared->Prop}(hu:A.units+1<cLine)(I:Inv X aA Z H s)(g:ad4 H a y o)(ry:RelV y u)(h:∀w' s',Inv X aA Z H s'->RelV (o.getD .non) w'->Q w' s') :
  wpAny (model X.prog X.w) A (call (.builtin "dict.get") [.ref a,u]) Q E s:=by
 rcases g with⟨kvs,k,e,ey,l⟩|⟨kvs,k,b,e,ey,eb,l⟩
 .subst ey;obtain⟨z,hd,vs,rel,dd⟩:=a85 I.hok e;refine call_meetsIn PySem.F.slot_dict_get dd.typeIs PySem.F.entry_dict_get (PySem.F.args_dict_get_2 _ _) (meets_dict_get (gf X.prog X.w) a (a83 ry) hd) ⟨_,dd.mapOf,h _ _ (I.tok _) ?_⟩;rw[l];exact(rel.val k).getD rfl
 .subst ey
  cases (show u=Value.ref b from ry)
  obtain⟨z,hd,xs,rel,dd⟩:=a4e I.hok e;refine call_meetsIn PySem.F.slot_dict_get dd.typeIs PySem.F.entry_dict_get (PySem.F.args_dict_get_2 _ _) (meetsH_dict_get (tupleKind (gf X.prog X.w)) a b hd) ⟨tupleKind_room_in1 hu,k,xs,a3h I.hok eb,dd,h _ _ (I.tok _) ?_⟩;rw[l];exact(rel.val k).getD rfl
end
noncomputable def ase(td ty:TE):TE:=λZ H Q=>td Z H λx H1=>∃a,x=.ref a/\IsD H1 a/\ty Z H1 λy H2=>∃o,ad4 H2 a y o/\Q (o.getD .non) H2
section
variable{X:Cx}{o e f:Expr}{apos cpos:Pos}{td ty tx:TE}
theorem ai7(hu:X.A.units+1<cLine)(ho:PE X o td)(he:PE X e ty)(m:M1 X o "get" apos e cpos):PE X (.Call (.Attribute o "get" apos) [e] [] cpos) (ase td ty):=by
 intro aA s Z H Q I h
 refine wpAny_Call_method m.base m.few m.line PySem.F.plainAttrs_dict PySem.F.slot_dict_get PySem.F.type_dict_get (thn (ho aA s Z H _ I h) λu s1 ⟨x,H1,I1,rx,a,ex,d,q1⟩=>?_);subst ex;obtain rfl:u=Value.ref a:=rx;obtain⟨t1,t2,_⟩:=akv I1 d;refine⟨t1,t2,?_⟩;rw[m.trees];refine Calls.callWith_builtin rfl (Calls.evalArgs_plain (Calls.spliced_cons (thn (he aA s1 Z H1 _ I1 q1) λiv s2 ⟨y,H2,I2,ry,ov,g,q2⟩=>Calls.spliced_nil ?_)));exact asd hu I2 g ry λw' s3 I3 rw'=>⟨_,H2,I3,rw',q2⟩
end
section
variable{X:Cx}
theorem aag:OpR X (compareOp .Is) (λx y H Q=>∃i j,x=.bl i/\y=.bl j/\Q (.bl (i == j)) H):=by
 intro aA s Z H x y v u Q I rx ry h
 obtain⟨i,j,rfl,rfl,q⟩:=h;cases rx
 cases ry
 exact is_bool (a5p I q rfl)
theorem a9f:OpR X (compareOp .IsNot) (λx y H Q=>∃i j,x=.bl i/\y=.bl j/\Q (.bl (i != j)) H):=by
 intro aA s Z H x y v u Q I rx ry h
 obtain⟨i,j,rfl,rfl,q⟩:=h;cases rx
 cases ry
 exact isnot_bool (a5p I q rfl)
theorem a4f:OpR X (compareOp .LtE) (λx y H Q=>∃i j,x=.str i/\y=.str j/\Q (.bl (!decide (j.cps.toList<i.cps.toList))) H):=by
 intro aA s Z H x y v u Q I rx ry h
 obtain⟨i,j,rfl,rfl,q⟩:=h;obtain⟨t,rfl⟩:=rx;obtain⟨t',rfl⟩:=ry;exact PySem.P.le_str (a5p I q rfl)
noncomputable def a6q{α:Type}(xs:List α)(lo hi:Option Int):List α:=(xs.drop (HT.sIx xs.length 0 lo)).take (HT.sIx xs.length xs.length hi-HT.sIx xs.length 0 lo)
def axy:V->Option Int->Option Int->Hp->VK->Prop:=λx lo hi H Q=>∃z,x=.str z/\z.length<=sizeLine/\Q (.str ⟨(a6q z.cps.toList lo hi).toArray⟩) H
theorem asf(lo hi:Option Int)(n:Nat):Builtin.Str.strSliceIndices lo hi 1 n=(List.range (HT.sIx n n hi-HT.sIx n 0 lo)).map λk=>HT.sIx n 0 lo+k:=by
 have e1:Builtin.Str.strSliceIndices lo hi 1 n=sliceRange ((HT.sIx n 0 lo:Nat):Int) ((HT.sIx n n hi:Nat):Int) 1:=by
  unfold Builtin.Str.strSliceIndices;dsimp only
  congr 1
  .cases lo with
   |none=>simp[HT.sIx]
   |some i=>simp only[HT.sIx,show(1:Int) > 0 by decide,if_true];split<;>lia
  .cases hi with
   |none=>simp[HT.sIx]
   |some i=>simp only[HT.sIx,show(1:Int) > 0 by decide,if_true];split<;>lia
 rw[e1];exact sliceRange_one _ _
theorem ash{α:Type}(xs:List α)(a:Nat):∀k,a+k<=xs.length->((List.range k).map λj=>a+j).filterMap (xs[·]?)=(xs.drop a).take k
 |0,_=>by simp
 |k+1,h=>by
  rw[List.range_succ,List.map_append,List.filterMap_append,ash xs a k (by lia)]
  have hk:a+k<xs.length:=by lia
  rw[List.take_succ]
  congr 1
  simp[List.getElem?_drop,hk]
theorem asi:SlR X axy:=by
 intro aA s Z H x v vl vu lo hi sl Q I rx hs pl pu h
 obtain⟨z,rfl,hz,q⟩:=h;obtain⟨t,rfl⟩:=rx;refine⟨"str",_,PyProof.Rows.slot_str_getitem.lookup,typeIs_str s z t,?_⟩;have hl:z.cps.toList.length=z.length:=by simp[Str.length]
 have fin:∀(l u:Option (Int×Tok)),vl=partValue l->vu=partValue u->l.map (·.1)=lo->u.map (·.1)=hi->wpAny (model X.prog X.w) X.A (getItem (.str z t) (.ref sl)) (EP X aA Z Q) X.xe s:=by
  intro l u e1 e2 e3 e4
  subst e1 e2;refine wpAny_getItem_str_slice (l:=l) (u:=u) (st:=none) hs rfl ?_;have hp:slicePicked z l u none=(List.range (HT.sIx z.length z.length hi-HT.sIx z.length 0 lo)).map λk=>HT.sIx z.length 0 lo+k:=by
   unfold slicePicked;rw[e3,e4];exact asf lo hi z.length
  have hb1:HT.sIx z.length z.length hi<=z.length:=HT.adv _ _ (Nat.le_refl _) _;have hb2:HT.sIx z.length 0 lo<=z.length:=HT.adv _ _ (Nat.zero_le _) _;unfold sliceMade
  split
  .rename_i c;simp only[Bool.and_eq_true,beq_iff_eq]at c;obtain⟨_,c⟩:=c;rw[hp,List.length_map,List.length_range]at c;have e:(⟨(a6q z.cps.toList lo hi).toArray⟩:Str)=z:=by
    unfold a6q;rw[hl];have z1:HT.sIx z.length 0 lo=0:=by lia
    have z2:HT.sIx z.length z.length hi=z.length:=by lia
    rw[z1,z2,List.drop_zero,Nat.sub_zero,List.take_of_length_le (by lia)]
   rw[e]at q;exact⟨.str z,H,I,⟨_,rfl⟩,q⟩
  .have e:(⟨(a6q z.cps.toList lo hi).toArray⟩:Str)=⟨((slicePicked z l u none).filterMap (z.cps[·]?)).toArray⟩:=by
    rw[hp];unfold a6q;rw[hl]
    by_cases hc:HT.sIx z.length 0 lo<=HT.sIx z.length z.length hi
    .rw[<-ash z.cps.toList _ _ (by lia)]
     simp only[Array.getElem?_toList]
    .rw[show HT.sIx z.length z.length hi-HT.sIx z.length 0 lo=0 by lia]
     simp
   rw[e]at q;refine⟨?_,.str _,H,I.tok _,⟨_,rfl⟩,q⟩;rw[<-e];show(a6q z.cps.toList lo hi).toArray.size<=sizeLine;rw[List.size_toArray];unfold a6q;rw[List.length_take,List.length_drop,hl];lia
 cases pl with
 |none=>cases pu with
  |none=>exact fin none none rfl rfl rfl rfl
  |int j t'=>exact fin none (some (j,t')) rfl rfl rfl rfl
 |int i t'=>cases pu with
  |none=>exact fin (some (i,t')) none rfl rfl rfl rfl
  |int j t''=>exact fin (some (i,t')) (some (j,t'')) rfl rfl rfl rfl
theorem a9g:CallR X (.builtin "isinstance") (λxs H Q=>∃x T t b,xs=[x,.ty T]/\TyOf X.K H x t/\PySem.W.kitOne X.K t (.type T)=some b/\Q (.bl b) H):=by
 intro aA s Z H xs us Q I r h
 obtain⟨x,T,t,b,rfl,ty,e,q⟩:=h;obtain⟨u,w',rfl,rx,rt⟩:=vals2 r;cases rt
 exact adq I rx ty e λtk=>⟨.bl b,H,I.tok tk,rfl,q⟩
theorem a87(bs:List Bool):((List.range bs.length).all λi=>(bs[i]?).getD true)=bs.all id:=by
 have e:(List.range bs.length).map (λi=>(bs[i]?).getD true)=bs:=by
  apply List.ext_getElem (by simp)
  intro i h1 h2
  simp[h2]
 have f:((List.range bs.length).map λi=>(bs[i]?).getD true).all id=bs.all id:=by rw[e]
 rw[<-f,List.all_map];rfl
theorem a9h(hc:X.calm=true):CallR X (.builtin "all") (λxs H Q=>∃(p:Addr) (bs:List Bool),xs=[.ref p]/\SqL X.K H p (bs.map V.bl)/\Q (.bl (bs.all id)) H):=by
 intro aA s Z H xs us Q I r h
 obtain⟨p,bs,rfl,hq,q⟩:=h;obtain⟨u,rfl,rx⟩:=vals1 r;cases rx
 obtain⟨its,r',pl,hz⟩:=I.list hq;have hl:=r'.length;rw[List.length_map]at hl;have hlt:p<s.heap.objs.size:=by obtain⟨_,e,_⟩:=pl.isList;exact Heap.lt_size e
 refine call_all_walk (wpAny_pyIter_list pl.isList ?_);refine⟨s.heap.objs.size,[s.heap.objs.size,p],[s.heap.objs.size],its.toArray.size,_,_,λi=>(bs[i]?).getD true,rfl,Walks.list (A:=X.A.in1) (I.ok.hd hc) _ p (Nat.ne_of_lt hlt) its.toArray,
  ⟨⟨_,Heap.get?_push_size _ rfl,rfl,rfl⟩,pl.isList.push _⟩,λi v s' Q' E' hP hQ=>?_,λh' tk hk=>?_⟩
 .have hP':its[i]? = some v:=by simpa using hP
  have hi:i<bs.length:=by
   have:=(List.getElem?_eq_some_iff.mp hP').1
   lia
  obtain⟨u,e,ru⟩:=r'.get (i:=i) (x:=.bl bs[i]) (by simp[hi])
  rw[hP']at e;cases e
  cases ru
  simp only[List.getElem?_eq_getElem hi,Option.getD_some]at hQ;exact wpAny_truthy_bool hQ
 .have e:((List.range its.toArray.size).all λi=>(bs[i]?).getD true)=bs.all id:=by
   rw[List.size_toArray,<-hl];exact a87 bs
  rw[e];exact⟨.bl _,H,I.kept λb x e=>hk b x (λhm=>by rw[List.mem_singleton.mp hm]at e;exact Nat.lt_irrefl _ (Heap.lt_size e)) (Heap.get?_push_of_some _ e),rfl,q⟩
noncomputable def xq(x:Str):List V:=x.cps.toList.map λc=>V.str ⟨#[c]⟩
theorem a5t(h:ItemsOf (SignAt x) acc x.cps.size):Vals (xq x) acc.toList:=by
 obtain⟨hs,ha⟩:=h;have key:∀(cs:List Nat) (us:List Value),us.length=cs.length->(∀(j:Nat) (v:Value),us[j]? = some v->∃c u,cs[j]? = some c/\v=.str ⟨#[c]⟩ u)->Vals (cs.map λc=>V.str ⟨#[c]⟩) us:=by
  intro cs
  induction cs with
  |nil=>intro us hl _;cases us with|nil=>exact .nil|cons _ _=>simp at hl
  |cons c cs ih =>
   intro us hl hp
   cases us with
   |nil=>simp at hl
   |cons u us =>
    refine .cons ?_ (ih us (by simpa using hl) λj v e=>hp (j+1) v (by simpa using e))
    obtain⟨c',t,e1,e2⟩:=hp 0 u rfl;simp at e1;subst e1;exact⟨t,e2⟩
 refine key _ _ (by simp[hs]) λj v e=>?_
 obtain⟨c,u,e1,e2⟩:=ha j v (by simpa using e)
 exact⟨c,u,by simpa using e1,e2⟩
theorem a9i(hc:X.calm=true):CallR X (.type "list") (λxs H Q=>∃z,xs=[.str z]/\z.length<=sizeLine/\∀l,H l=none->Q (.ref l) (upd H l (.lst (xq z)))):=by
 intro aA s Z H xs us Q I r h
 obtain⟨z,rfl,hz,q⟩:=h;obtain⟨u,rfl,t,rfl⟩:=vals1 r;refine PySem.call_list_str (I.ok.hd hc) z t (λh' tk acc c kp e hi=>?_) (by simpa[Str.length] using hz)
 refine⟨.ref s.heap.objs.size,_,I.laid (t':=tk) kp (Nat.le_refl _) (show ObjOk X.prog X.w _ h' _ (.lst (xq z)) from ⟨by simpa[xq,Str.length] using hz,acc.toList,c,a5t hi,by simpa using e⟩),rfl,q _ (I.hok.fresh (Nat.le_refl _))⟩
theorem a88(hc:X.calm=true):CallR X (.type "tuple") (λxs H Q=>∃z,xs=[.str z]/\z.length<=sizeLine/\∀l,H l=none->Q (.ref l) (upd H l (.tup (xq z)))):=by
 intro aA s Z H xs us Q I r h
 obtain⟨z,rfl,hz,q⟩:=h;obtain⟨u,rfl,t,rfl⟩:=vals1 r;refine PySem.call_tuple_str (I.ok.hd hc) z t (λh' tk acc kp hi=>?_) (by simpa[Str.length] using hz)
 have I1:Inv X aA Z H {s with heap:=h',toks:=tk}:=I.kept kp
 have I2:Inv X aA Z (upd H h'.objs.size (.tup (xq z))) {s with heap:=h'.push {cls:=.type "tuple",data:=.seq acc},toks:=tk} :=
  I1.laid (t':=tk) (λb o e=>Heap.get?_push_of_some _ e) (Nat.le_refl _) (show ObjOk X.prog X.w _ _ _ (.tup (xq z)) from ⟨by simpa[xq,Str.length] using hz,acc.toList,a5t hi,by simpa using IsTup.new h' acc⟩)
 exact⟨.ref h'.objs.size,_,I2,rfl,q _ (I1.hok.fresh (Nat.le_refl _))⟩
end
noncomputable def Its(x:Str):It:=⟨λi _=>i<x.cps.size,λi H v H'=>H'=H/\∃c,x.cps.toList[i]? = some c/\v=.str ⟨#[c]⟩,λi _=>i=x.cps.size⟩
theorem aah{P:Program}{w:World}{K:Fg}{tg:Expr}(it:Addr)(x:Str)(t:Tok)(ty:String)
  (hty:["enumerate","zip","dict_itemiterator","dict_reverseitemiterator","odict_iterator","itertools.zip_longest","itertools.pairwise"].contains ty=false)
  (W:∀A':Around,A'.handled=none->Walks P w A' it [it] [it] x.cps.size (SignAt x) (λi h=>h.IsStrIter it ty x t i))
  (slf:∀(A:Around) (i:Nat) (s:Shared) (Q:Value->Shared->Prop) (E:Value->Shared->Prop),s.heap.IsStrIter it ty x t i->Q (.ref it) s->wpAny (model P w) A (pyIter (.ref it)) Q E s) :
  Turn P w K tg (Its x) [it] it (λi h=>h.IsStrIter it ty x t i) where
 mem:=by simp
 obj:=λi h st b hb=>by
  have e:b=it:=by simpa using hb
  subst e;obtain⟨o,e,c,d⟩:=st;exact⟨o,e,λv z=>by rw[d]at z;cases z⟩
 keep:=λi h h' st k=>by
  obtain⟨o,e,c,d⟩:=st;exact⟨o,k it (by simp) o e,c,d⟩
 item:=by
  intro X hP hw hK hc i aA s Z H E I hf st hg
  subst hP hw hK;obtain⟨f0,f1,f2,f3,f4,f5⟩:=hf it (by simp)
  refine(W X.A (I.ok.hd hc)).item i s _ _ hg st λv h' tk hv st' kk=>?_;obtain⟨c,u,hx,rfl⟩:=hv;have I1:Inv X aA Z H {s with heap:=h',toks:=tk}:=I.turned (λb o hb e=>kk b o (by simpa using hb) e) f0 f1 f3 f4 f5
  obtain⟨o,e,oc,d⟩:=id st';exact⟨_,rfl,adf (s:={s with heap:=h',toks:=tk}) e oc d hty ⟨.str ⟨#[c]⟩,H,I1,⟨_,rfl⟩,⟨rfl,c,by simpa using hx,rfl⟩,st',λb hb=>(hf b hb).1⟩⟩
 done:=by
  intro X hP hw hK hc i aA s Z H E I hf st hg
  subst hP hw hK;obtain⟨f0,f1,f2,f3,f4,f5⟩:=hf it (by simp)
  have hg':i=x.cps.size:=hg;subst hg';exact(W X.A (I.ok.hd hc)).done s _ _ st λh' tk eb=>⟨rfl,I.turned (λb o hb e=>eb b o (by simpa using hb) e) f0 f1 f3 f4 f5⟩
 self:=slf
section
variable{X:Cx}{tg:Expr}
noncomputable def b0i(tl:TE):TI:=λZ H R=>tl Z H λx H1=>∃z,x=.str z/\R (Its z) H1
theorem akx{l:Expr}{tl:TE}(hl:PE X l tl):PI X tg l (b0i tl):=by
 intro aA s Z H R I h
 refine thn (hl aA s Z H _ I h) ?_
 rintro v s1 ⟨x,H1,I1,r1,q1⟩
 obtain⟨z,e,q⟩:=q1;subst e;obtain⟨t,rfl⟩:=r1;have fp:∀b∈[s1.heap.objs.size],FpOk X aA H1 b:=λb hb=>by
  have e:b=s1.heap.objs.size:=by simpa using hb
  subst e;exact I1.fpOk (Nat.le_refl _) (I1.hok.fresh (Nat.le_refl _))
 cases ha:z.cps.all (· < 128)
 .exact wpAny_pyIter_wide ha ⟨s1.heap.objs.size,[s1.heap.objs.size],_,_,H1,rfl,I1.kept (t':=s1.toks) λb o e=>Heap.get?_push_of_some _ e,
   aah _ z t "str_iterator" (by decide) (λA' hA=>Walks.strWide hA _ z t) (λ_ _ _ _ _ st h=>wpAny_pyIter_striter_wide st h),⟨_,Heap.get?_push_size _ rfl,rfl,rfl⟩,fp,q⟩
 .exact wpAny_pyIter_ascii ha ⟨s1.heap.objs.size,[s1.heap.objs.size],_,_,H1,rfl,I1.kept (t':=s1.toks) λb o e=>Heap.get?_push_of_some _ e,
   aah _ z t "str_ascii_iterator" (by decide) (λA' hA=>Walks.strAscii hA _ z t) (λ_ _ _ _ _ st h=>wpAny_pyIter_striter_ascii st h),⟨_,Heap.get?_push_size _ rfl,rfl,rfl⟩,fp,q⟩
end
noncomputable def ai8(tt:Option Str)(a:Addr)(cl:List (Str×Addr)):List (Str×Addr):=match tt with
 |none=>cl
 |some t=>(t,a)::cl
noncomputable def azg(tt:Option Str)(h:Heap):Heap:=match tt with
 |none=>h
 |some _=>h.push {cls:=.type "cell",data:=.cell none}
noncomputable def cxG(X:Cx)(N:List Str)(aB:Scope)(cl:List (Str×Addr))(tt:Option Str)(C:Addr)(fp:List Addr)(s:Shared)(H:Hp):Cx where
 prog:=X.prog
 w:=X.w
 K:=X.K
 mg:=X.mg
 base:=X.base
 A:=X.A
 N:=N
 s₀:=s
 H₀:=H
 env:=compEnvC aB (ai8 tt (C+1) cl) C X.env
 outer:=X.stack
 stack:=X.stack
 ex:=fp
 fn:=λx=>tt == some x
 calm:=X.calm
 pn:=[]
 xe:=λ_ _=>False
abbrev cxC(X:Cx)(N:List Str)(aB:Scope)(cl:List (Str×Addr))(C:Addr)(fp:List Addr)(s:Shared)(H:Hp):Cx:=cxG X N aB cl none C fp s H
structure CSg (X:Cx) (aB:Scope) (cl:List (Str×Addr)) (tt:Option Str) (ts fr:List Str) (ix:List Nat):Prop where
 clos:closureFor aB X.env=pure cl
 kind:aB.kind=.function
 own:∀a,cellsFrom a aB.names cl=ai8 tt a cl
 push:∀h,pushCells h aB.names=azg tt h
 names:∀y∈aB.names,y.2=.local->aB.names.lookup y.1=some .local
 sub:∀y c,cl.lookup y=some c->X.env.cells.lookup y=some c
 has:∀y,((relabel aB X.env).names.lookup y=some .cell\/(relabel aB X.env).names.lookup y=some .free)->tt=some y\/∃c,cl.lookup y=some c
 len:ix.length=fr.length
 vis:∀(j:Nat) (y:Str),fr[j]? = some y->tt≠some y/\∃i:Nat,ix[j]? = some i/\X.N[i]? = some y/\(X.env.kindOf y=some .cell\/X.env.kindOf y=some .free)/\((relabel aB X.env).names.lookup y=some .cell\/(relabel aB X.env).names.lookup y=some .free)
abbrev CSc(X:Cx)(aB:Scope)(cl:List (Str×Addr))(ts fr:List Str)(ix:List Nat):Prop:=CSg X aB cl none ts fr ix
theorem a6r:∀{names:List (Str×NameKind)} {a:Nat} {cl:List (Str×Addr)},(∀y∈names,y.2≠.cell)->cellsFrom a names cl=cl
 |[],_,_,_=>rfl
 |(x,k)::r,a,cl,h=>by
  unfold cellsFrom;rw[if_neg (by have:=h _ List.mem_cons_self;simpa using this)]
  exact a6r λy hy=>h y (List.mem_cons_of_mem _ hy)
theorem a9j:∀{names:List (Str×NameKind)} {h:Heap},(∀y∈names,y.2≠.cell)->pushCells h names=h
 |[],_,_=>rfl
 |(x,k)::r,a,h=>by
  unfold pushCells;rw[if_neg (by have:=h _ List.mem_cons_self;simpa using this)]
  exact a9j λy hy=>h y (List.mem_cons_of_mem _ hy)
theorem look{tt:Option Str}{cl:List (Str×Addr)}(e:(ai8 tt a cl).lookup y=some c):(tt=some y/\c=a)\/(tt≠some y/\cl.lookup y=some c):=by
 cases tt with
 |none=>exact .inr ⟨nofun,e⟩
 |some t =>
  have e:((t,a)::cl).lookup y=some c:=e;rw[List.lookup_cons]at e
  cases hb:y == t with
  |true=>rw[hb]at e;cases e;exact .inl ⟨congrArg some (beq_iff_eq.mp hb).symm,rfl⟩
  |false=>rw[hb]at e;exact .inr ⟨λz=>by cases z;simp at hb,e⟩
theorem ae6{tt:Option Str}{cl:List (Str×Addr)}(ne:tt≠some y)(e:cl.lookup y=some c):(ai8 tt a cl).lookup y=some c:=by
 cases tt with
 |none=>exact e
 |some t =>
  show((t,a)::cl).lookup y=some c;rw[List.lookup_cons];have hb:(y == t)=false:=by rw[beq_eq_false_iff_ne];exact λz=>ne (congrArg some z.symm)
  rw[hb];exact e
theorem asj{t:Str}{a:Addr}{cl:List (Str×Addr)}:(ai8 (some t) a cl).lookup t=some a:=by
 show((t,a)::cl).lookup t=_;rw[List.lookup_cons];simp
theorem no1(h:C+1<n)(h':n<=C):False:=by lia
theorem no2(h:b<n)(h':n<=C):C+1≠b:=by lia
theorem no3(h:C+1=n)(h':n<=C):False:=by lia
theorem a9k{M:Model}{A:Around}{E:Value->Shared->Prop}{s:Shared}{aB:Scope}{globals:Addr}{cl:List (Str×Addr)}{tt:Option Str}{qual:Str}{func:Option Addr}{code:Value}{outer:Env}{builtins:Addr}{Q:Env->Shared->Prop}
  (own:∀a,cellsFrom a aB.names cl=ai8 tt a cl) (push:∀h,pushCells h aB.names=azg tt h) (hk:aB.kind=.function)
  (hQ:∀h':Heap,h'.Ns s.heap.objs.size (λ_=>none)->(∀t,tt=some t->h'.IsCell (s.heap.objs.size+1) none)->(∀b o,s.heap.get? b=some o->h'.get? b=some o)->Q (newEnv aB s.heap.objs.size globals (ai8 tt (s.heap.objs.size+1) cl) qual func code (some outer) builtins) {s with heap:=h' }) :
  wpAny M A (newFunctionEnv aB globals cl [] qual func code (some outer) builtins) Q E s:=by
 simp only[newFunctionEnv,Option.isSome_some,if_true];refine wpAny_bind (wpAny_alloc ?_);refine wpAny_bind (wpAny_layCells _ (λname kind cells=>by cases hkc:kind == NameKind.cell<;>simp[hkc]) _ _ _ _ ?_)
 rw[own,push];simp only[List.forIn_nil];refine wpAny_bind (wpAny_pure (wpAny_pure ?_));have sz:({s with heap:=s.heap.push {cls:=.type "dict",data:=.dict #[]} }:Shared).heap.objs.size=s.heap.objs.size+1:=Heap.size_push ..
 rw[sz]
 cases tt with
 |none=>exact hQ _ (Heap.Ns.new s.heap (.type "dict")) (λ_ z=>nomatch z) λb o e=>Heap.get?_push_of_some _ e
 |some t =>
  refine hQ _ ((Heap.Ns.new s.heap (.type "dict")).keeps λb o e=>Heap.get?_push_of_some _ e) (λ_ _=>⟨{cls:=.type "cell",data:=.cell none},?_,rfl⟩) λb o e=>Heap.get?_push_of_some _ (Heap.get?_push_of_some _ e);rw[<-sz];exact Heap.get?_push_size _ rfl
def Ext(a b:St):Prop:=b.length=a.length/\∀(i:Nat) v,a[i]? = some (some v)->b[i]? = some (some v)
noncomputable def jq(nt:Nat)(ix:List Nat)(Z:St):St:=List.replicate nt none++ix.map λi=>(Z[i]?).join
def an3(J:It)(s0:St)(g:TG)(te:TE)(Q:VK)(H1:Hp):Prop:=∃W:Nat->Nat->List V->Hp->Prop,(∃m,W 0 m [] H1)/\∀i m ys H,W i m ys H->
 (J.stop i H/\∀p,H p=none->Q (.ref p) (upd H p (.lst ys))) \/
 (J.go i H/\ys.length<sizeLine/\∀x H',J.yld i H x H'->g x s0 H' λZ2 H2=>Ext s0 Z2/\te Z2 H2 λy H3=>∃m',m'<m/\W (i+1) m' (ys++[y]) H3)
noncomputable def ae7(wi:TI)(s0:St->St)(g:TG)(te:TE):TE:=λZ H Q=>wi Z H λJ H1=>an3 J (s0 Z) g te Q H1
def a9l(J:It)(s0:St)(g:TG)(tc:TT)(te:TE)(Q:VK)(H1:Hp):Prop:=∃W:Nat->Nat->List V->Hp->Prop,(∃m,W 0 m [] H1)/\∀i m ys H,W i m ys H->
 (J.stop i H/\∀p,H p=none->Q (.ref p) (upd H p (.lst ys))) \/
 (J.go i H/\ys.length<sizeLine/\∀x H',J.yld i H x H'->g x s0 H' λZ2 H2=>Ext s0 Z2/\tc Z2 H2 λok H2'=>if ok=true then te Z2 H2' (λy H3=>∃m',m'<m/\W (i+1) m' (ys++[y]) H3) else ∃m',m'<m/\W (i+1) m' ys H2')
noncomputable def a2w(wi:TI)(s0:St->St)(g:TG)(tc:TT)(te:TE):TE:=λZ H Q=>wi Z H λJ H1=>a9l J (s0 Z) g tc te Q H1
theorem a4g(aD target aF cnd:Expr)(aB:Scope)(pos:Pos)(it acc:Value)(env:Env) :
  compTurn (.ListComp aD [⟨target,aF,[cnd],0⟩] aB pos) 0 it acc env=(standAt aF.pos>>=λ_=>pyNext it>>=λr=>match r with
   |none=>pure (.done .next)
   |some v=>letOwnedTupleGo target it v>>=λ_=>assign target env v>>=λ_=>isTrue cnd env (eval cnd env)>>=λok =>
    (if ok=true then (eval aD env>>=λx=>call (.builtin "list.append") [acc,x]>>=λ_=>pure ()) else pure ())>>=λ_ =>
     again (.compLoop (.ListComp aD [⟨target,aF,[cnd],0⟩] aB pos) 0 it acc env)):=by
 first
  |rfl
  |(unfold compTurn;simp only[List.getElem?_cons_zero];rfl)
  | (show(standAt aF.pos>>=λ_=>pyNext it>>=λr=>_)=_
     congr 1;funext _;congr 1;funext r
     cases r with
     |none=>rfl
     |some v =>
      show(letOwnedTupleGo target it v>>=λ_=>assign target env v>>=λ_=>_)=(letOwnedTupleGo target it v>>=λ_=>assign target env v>>=λ_=>_)
      congr 1;funext _;congr 1;funext _
      simp
      congr 1;funext ok
      cases ok with
      |false=>rw[if_neg Bool.false_ne_true,if_neg Bool.false_ne_true,pure_bind]
      |true =>
       rw[if_pos rfl,if_pos rfl,bind_assoc]
       congr 1;funext x
       rw[map_eq_pure_bind,bind_assoc]
       congr 1)
noncomputable def runC(cnd:Option Expr)(env:Env):Sem Bool:=match cnd with
 |none=>pure true
 |some c=>isTrue c env (eval c env)
def PTO(X:Cx)(cnd:Option Expr)(t:TT):Prop :=
 ∀(aA:List (Addr×Obj)) (s:Shared) (Z:St) (H:Hp) (Q:Bool->Hp->Prop),Inv X aA Z H s->t Z H Q->wpAny (model X.prog X.w) X.A (runC cnd X.env) (TP X aA Z Q) X.xe s
theorem a5i(aD target aF:Expr)(cnd:Option Expr)(aB:Scope)(pos:Pos)(it acc:Value)(env:Env) :
  compTurn (.ListComp aD [⟨target,aF,cnd.toList,0⟩] aB pos) 0 it acc env=(standAt aF.pos>>=λ_=>pyNext it>>=λr=>match r with
   |none=>pure (.done .next)
   |some v=>letOwnedTupleGo target it v>>=λ_=>assign target env v>>=λ_=>runC cnd env>>=λok =>
    (if ok=true then (eval aD env>>=λx=>call (.builtin "list.append") [acc,x]>>=λ_=>pure ()) else pure ())>>=λ_ =>
     again (.compLoop (.ListComp aD [⟨target,aF,cnd.toList,0⟩] aB pos) 0 it acc env)):=by
 cases cnd with
 |some c=>exact a4g ..
 |none =>
  rw[show(none:Option Expr).toList=[] from rfl,compTurn_list1]
  congr 1
theorem ae8{cnd:Option Expr}{E:Value->Shared->Prop}(no:∀v s,E v s->False)(J:Nat->Shared->Prop)
  (step:∀m z,J m z->wpAny (model prog w) A (pyNext it) (λgot z1=>match got with
   |none=>R (.ok .next) z1
   |some v=>wpAny (model prog w) A (letOwnedTupleGo target it v) (λ_ z2=>wpAny (model prog w) A (assign target env v) (λ_ z3=>wpAny (model prog w) A (runC cnd env) (λok z3'=>if ok=true then wpAny (model prog w) A (eval aD env) (λx z4 =>
     wpAny (model prog w) A (call (.builtin "list.append") [acc,x]) (λ_ z5=>∃m',m'<m/\J m' z5) E z4)
     E z3' else ∃m',m'<m/\J m' z3') E z3) E z2) E z1) E z)
  (m:Nat) (j0:J m s):codeAny (model prog w) A (.compLoop (.ListComp aD [⟨target,aF,cnd.toList,0⟩] aB pos) 0 it acc env) R s:=by
 refine codeAny_loop rfl J (λm z hj=>(wpAny_noted ?_:wpAny _ _ ((compTurn (.ListComp aD [⟨target,aF,cnd.toList,0⟩] aB pos) 0 it acc env).onRaise _) _ _ z)) m j0;rw[a5i];refine wpAny_bind (wpAny_standAt (wpAny_bind (wpAny_mono (step m z hj) (λgot z1 h1=>?_) λ_ _ e=>(no _ _ e).elim)))
 match got,h1 with
 |none,h1=>exact wpAny_pure h1
 |some v,h1 =>
  refine wpAny_bind (wpAny_mono h1 (λ_ z2 h2=>wpAny_bind (wpAny_mono h2 (λ_ z3 h3=>wpAny_bind (wpAny_mono h3 (λok z3' h3'=>?_) λ_ _ e=>(no _ _ e).elim)) λ_ _ e=>(no _ _ e).elim)) λ_ _ e=>(no _ _ e).elim)
  match ok,h3' with
  |true,h3' =>
   rw[if_pos rfl]at h3';refine wpAny_bind (wpAny_bind (wpAny_mono h3' (λx z4 h4=>?_) λ_ _ e=>(no _ _ e).elim));exact wpAny_bind (wpAny_mono h4 (λ_ z5 h5=>wpAny_pure (wpAny_pure ⟨rfl,h5⟩)) λ_ _ e=>(no _ _ e).elim)
  |false,h3' =>
   rw[if_neg Bool.false_ne_true]at h3';exact wpAny_bind (wpAny_pure (wpAny_pure ⟨rfl,h3'⟩))
section
variable{X:Cx}
theorem a5u{aA:List (Addr×Obj)}{Z:St}{H:Hp}{s:Shared}{aB:Scope}{cl:List (Str×Addr)}{tt:Option Str}{ts fr:List Str}{ix:List Nat}{C:Addr}{fp:List Addr}(S:CSg X aB cl tt ts fr ix)(I:Inv X aA Z H s)
  (hf:∀b∈fp,FpOk X aA H b) (hb:∀b∈fp,b<s.heap.objs.size) (hC:s.heap.objs.size<=C):(cxG X (ts++fr) aB cl tt C fp s H).Ok where
 mod:=I.ok.mod
 kind:=S.kind
 glob:=I.ok.glob
 blt:=I.ok.blt
 above:=hC
 inj:=λx y c h1 h2=>by
  have small:∀z c,cl.lookup z=some c->c<s.heap.objs.size:=λz c e=>let ⟨_,q⟩:=I.cell z c (S.sub z c e);q.lt
  rcases look h1 with⟨e1,rfl⟩|⟨_,e1⟩<;>rcases look h2 with⟨e2,e3⟩|⟨_,e2⟩
  .exact Option.some.inj (e1.symm.trans e2)
  .exact(no1 (small y _ e2) hC).elim
  .rw[e3]at e1;exact(no1 (small x _ e1) hC).elim
  .exact I.ok.inj x y c (S.sub x c e1) (S.sub y c e2)
 has:=λy z=>by
  by_cases h:tt=some y
  .subst h;exact⟨_,asj⟩
  .exact(S.has y z).elim (λz=>absurd z h) λ⟨c,e⟩=>⟨c,ae6 h e⟩
 cab:=λx c h e=>by
  rcases look e with⟨_,rfl⟩|⟨ne,_⟩
  .show s.heap.objs.size<=C+1;lia
  .exact absurd (beq_iff_eq.mp h) ne
 hd:=I.ok.hd
 frames:=I.ok.frames
 stk:=.inl rfl
 exf:=λb hb'=>⟨Nat.ne_of_lt (Nat.lt_of_lt_of_le (hb b hb') hC),λx c e=>by
  rcases look e with⟨_,rfl⟩|⟨_,e⟩
  .exact no2 (hb b hb') hC
  .exact(hf b hb').2.2.2.2.1 x c (S.sub x c e)⟩
 bs:=λb o e=>I.bs b o e
 bsz:=Nat.le_trans I.ok.bsz I.sz
 noex:=λb o e hb'=>by
  rcases(hf b hb').2.2.2.1 with z|z
  .exact I.ok.noex b o e z
  .exact absurd (Nat.lt_of_lt_of_le (Heap.lt_size e) (Nat.le_trans I.ok.bsz z)) (Nat.lt_irrefl _)
 exfs:=λb hb' z=>by
  rcases List.mem_cons.mp (I.stkSub b z) with e|e
  .exact(hf b hb').2.1 e
  .exact(hf b hb').2.2.1 e
 funs:=I.stack
 frf:=λb hb'=>I.stkFree b hb'
theorem ac0:(jq nt ix Z).length=nt+ix.length:=by
 unfold jq;rw[List.length_append,List.length_replicate,List.length_map]
theorem a9m{s s4:Shared}{ts:List Str}(S:CSg X aB cl tt ts fr ix)(I:Inv X aA Z H s)
  (hf:∀b∈fp,FpOk X aA H b) (hb:∀b∈fp,b<s.heap.objs.size) (hC:s.heap.objs.size<=C)
  (k:∀b o,s.heap.get? b=some o->s4.heap.get? b=some o) (hn:s4.heap.Ns C m) (hcl:∀t,tt=some t->s4.heap.IsCell (C+1) none) (ho:s4.os=s.os) (hg:s4.gens=s.gens) :
  Inv (cxG X (ts++fr) aB cl tt C fp s H) [] (jq ts.length ix Z) H s4 where
 ok:=a5u S I hf hb hC
 os:=ho
 bare:=by rw[hg];exact I.bare
 base:=Un.kept k
 loc:=by
  refine⟨m,hn,λi x v e1 e2 e3=>?_⟩;have e1:(ts++fr)[i]? = some x:=e1
  by_cases hi:i<ts.length
  .unfold jq at e2;rw[List.getElem?_append_left (by simpa using hi),List.getElem?_replicate,if_pos hi]at e2
   cases e2
  .rw[List.getElem?_append_right (by lia)]at e1
   unfold jq at e2;rw[List.getElem?_append_right (by simpa using hi),List.length_replicate,List.getElem?_map]at e2
   obtain⟨nt,j,h1,h2,h3,h4⟩:=S.vis _ x e1;rw[h1]at e2;have e2':(Z[j]?).join=some v:=Option.some.inj e2;have e5:Z[j]? = some (some v):=by
    cases q:Z[j]? with
    |none=>rw[q]at e2';cases e2'
    |some o=>rw[q]at e2';simp at e2';rw[e2']
   obtain⟨m0,_,hl⟩:=I.loc;have vis:Vis X.env.scope x:=h3.elim (λz=>.inr (.inl z)) λz=>.inr (.inr z);obtain⟨u,ru,l⟩:=hl j x v h2 e5 vis;refine⟨u,ru,?_⟩
   rcases l with⟨z,_⟩|⟨_,c,hc,hcell⟩
   .rcases h3 with h3|h3<;>rw[h3]at z<;>cases z
   .rcases S.has x h4 with z|⟨c',hc'⟩
    .exact absurd z nt
    .have e6:c'=c:=Option.some.inj ((S.sub x c' hc').symm.trans hc);subst e6;obtain⟨o,ho,hd⟩:=hcell;exact .inr ⟨h4,c',ae6 nt hc',o,k _ _ ho,hd⟩
 cell:=λx c e=>by
  rcases look e with⟨z,rfl⟩|⟨_,e⟩
  .exact⟨_,hcl _ z⟩
  .obtain⟨v,o,ho,hd⟩:=I.cell x c (S.sub x c e);exact⟨v,o,k _ _ ho,hd⟩
 free:=I.hok.fresh hC
 freeC:=λx c e=>by
  rcases look e with⟨_,rfl⟩|⟨_,e⟩
  .exact I.hok.fresh (by lia)
  .exact I.freeC x c (S.sub x c e)
 pin:=λp hp=>absurd (show p∈([]:List (Addr×Obj)) from hp) (by simp)
 hok:=I.hok.kept k
 len:=by
  rw[ac0];show _=(ts++fr).length;rw[List.length_append,S.len]
theorem Inv.unpinned'(I:Inv X aA Z H s):Inv X [] Z H s:=I.pins_of λ_ hp=>nomatch hp
theorem a5v{Y:Cx}(I:Inv X aA Z H s)
  (hf:∀b∈fp,FpOk X aA H b) (hC:s.heap.objs.size<=C) (hacc:s.heap.objs.size<=acc)
  (q:Y.prog=X.prog/\Y.w=X.w/\Y.fs=frs X.stack/\Y.ex=fp/\Y.env.locals=C/\Y.s₀=s/\Y.H₀=H) (J:Inv Y [] Z' H' s') (hn:H' acc=none) (hob:ObjOk X.prog X.w (upd H' acc ho) h' acc ho) (sb:Heap.SameBut C s'.heap h') :
  Inv X aA Z (upd H' acc ho) {s' with heap:=h' }:=by
 have k:∀b o,b≠C->s'.heap.get? b=some o->h'.get? b=some o:=λb o hb e=>sb.extBut b o hb e;have old:∀b o,s.heap.get? b=some o->b≠C/\b≠acc:=λb o e=>⟨Nat.ne_of_lt (Nat.lt_of_lt_of_le (Heap.lt_size e) hC),Nat.ne_of_lt (Nat.lt_of_lt_of_le (Heap.lt_size e) hacc)⟩;obtain⟨q1,q2,q3,q4,q5,q6,q7⟩:=q;have u0:=J.base;rw[q3,q4,q6,q7]at u0;have fC:=J.free;rw[q5]at fC;have jh:=J.hok;rw[q1,q2]at jh;have u:Un (frs X.stack) fp H (upd H' acc ho) s.heap h':=by
  refine⟨λb o e n' hb hx=>k b o (old b o e).1 (u0.keep b o e n' hb hx),λb o e n' hb hx=>?_,λb o e n' hx=>?_,λb o e hx=>?_,λb xs e=>?_,λb o v e=>?_,λb ps e=>?_⟩
  .obtain⟨sl,e1⟩:=u0.slot b o e n' hb hx;exact⟨sl,k b _ (old b o e).1 e1⟩
  .rw[di (old b o e).2];exact u0.free b o e n' hx
  .obtain⟨o',e1⟩:=u0.there b o e hx;exact⟨o',k b _ (old b o e).1 e1⟩
  .rw[di (dq (u0.tups b xs e) hn)];exact u0.tups b xs e
  .rw[di (dq (u0.frzs b o v e) hn)];exact u0.frzs b o v e
  .obtain⟨more,e1⟩:=u0.tbls b ps e;exact⟨more,by rw[di (dq e1 hn)];exact e1⟩
 have hok:HOk X.prog X.w (upd H' acc ho) h':=λb o e=>by
  by_cases hb:b=acc
  .subst hb;rw[gh]at e;cases e
   exact hob
  .rw[di hb]at e;refine(jh b o e).stay (λc v hc q=>k c v ?_ q) (λc q=>by rw[di (dq q hn)];exact q) λc xs q=>by rw[di (dq q hn)];exact q
   rcases hc with z|z
   .rw[z];exact dq e fC
   .exact dq z fC
 have J':=I.call (g':=s'.gens) (t':=s'.toks) (d':=s'.drawn) (ch:=fp) u hok J.bare λb hb=>⟨(hf b hb).2.2.2.1,(hf b hb).2.1,(hf b hb).2.2.2.2.1,(hf b hb).2.2.2.2.2⟩;have eo:=J.os;rw[q6]at eo;obtain⟨hp,g,d,t,o⟩:=s';have eo':o=s.os:=eo;subst eo';exact J'
theorem comp_back{its:List Value}(I:Inv X aA Z H s)
  (hf:∀b∈fp,FpOk X aA H b) (hC:s.heap.objs.size<=C) (hacc:s.heap.objs.size<=acc) (hCa:C≠acc)
  (J:Inv (cxC X N aB cl C fp s H) [] Z' H' s') (hn:H' acc=none) (ha:s'.heap.get? acc=some {cls:=.type "list",data:=.seq its.toArray n}) (rv:Vals ys its) (hz:ys.length<=sizeLine) (sb:Heap.SameBut C s'.heap h') :
  Inv X aA Z (upd H' acc (.lst ys)) {s' with heap:=h' } :=
 a5v (Y:=cxC X N aB cl C fp s H) I hf hC hacc ⟨rfl,rfl,rfl,rfl,rfl,rfl,rfl⟩ J hn ⟨hz,its,n,rv,sb.extBut _ _ (Ne.symm hCa) ha⟩ sb
theorem an4{Y:Cx}(ok:Y.Ok)(hp:Y.pn=[])(hn:H' b=none)(hb:b∈Y.ex):FpOk Y [] H' b :=
 ⟨hn,(ok.exf b hb).1,ok.exfs b hb,.inl hb,(ok.exf b hb).2,λp h=>by rw[hp]at h;exact absurd h (by simp)⟩
theorem aky{Y:Cx}(ok:Y.Ok)(hp:Y.pn=[])(hn:H' b=none)(hb:b=Y.s₀.heap.objs.size)(hl:b≠Y.env.locals)(hc:∀x c,Y.env.cells.lookup x=some c->c≠b):FpOk Y [] H' b :=
 ⟨hn,hl,λz=>by
  obtain⟨_,o,ho,_⟩:=ok.funs.mem z;exact Nat.lt_irrefl _ (Nat.lt_of_lt_of_le (Heap.lt_size ho) (Nat.le_of_eq hb.symm)),.inr (Nat.le_of_eq hb.symm),hc,λp h=>by rw[hp]at h;exact absurd h (by simp)⟩
theorem ae9(I:Inv X aA Z H s)(e:X.env.cells.lookup x=some c):c≠s.heap.objs.size:=λz=>by
 obtain⟨v,o,ho,_⟩:=I.cell x c e;rw[z]at ho;exact Nat.lt_irrefl _ (Heap.lt_size ho)
def a2f(X:Cx)(aA:List (Addr×Obj))(Z:St)(use:Option (Value->Sem Unit))(Q:VK)(Qf:Value->Shared->Prop):Prop :=
 ∀(acc C:Addr) (s6:Shared) (H6:Hp) (m6:Str->Option Value),s6.heap.Ns C m6->FpOk X aA H6 C->(∀h',Heap.SameBut C s6.heap h'->Inv X aA Z H6 {s6 with heap:=h' })->Q (.ref acc) H6->
  compPost (model X.prog X.w) X.A X.xe use Qf (.ref acc) C (.ok .next) s6
theorem a6s:a2f X aA Z none Q (EP X aA Z Q):=λacc C s6 H6 m6 hn _ k q=>⟨m6,hn,λh' sb=>⟨.ref acc,H6,k h' sb,rfl,q⟩⟩
theorem a6t{D:Ends}(hN:X.N.Nodup)(hi:X.N[i]? = some x)(hx:Loc X.env.scope x)(hf:X.fn x=true\/X.env.scope.names.lookup x=some .local) :
  a2f X aA Z (some (assign (.Name x pos') X.env)) (λv H1=>a0v i v Z H1 D.nx) (λ_ s'=>SP X aA D .next s'):=by
 intro acc C s6 H6 m6 hn fp k q
 obtain⟨f1,f2,f3,f4,f5,f6⟩:=fp;have I6:Inv X aA Z H6 s6:=k s6.heap (Heap.SameBut.refl _ _);refine wpAny_assign_Name (a7n (v:=.ref acc) I6 hN hi hx rfl (λs' I' ⟨a,sb,ha⟩=>⟨m6,hn.sameBut sb ?_,λh' sb'=>⟨_,H6,I'.turned (t':=s'.toks) (it:=C) (λb o hb e=>sb'.extBut b o hb e) f1 f2 f4 f5 f6,q⟩⟩) hf)
 rcases ha with ha|ha
 .rw[ha];exact f2
 .exact λz=>f5 x a ha z.symm
theorem aea{Y:Cx}{cnd:Option Expr}{N it:Addr}{fp:List Addr}{tn:Nat->Heap->Prop}{J:It}{Z0:St}{H2:Hp}{s4:Shared}{W:Nat->Nat->List V->Hp->Prop}{Q:VK}(hc:Y.calm=true)(no:∀v s,Y.xe v s->False)(hp0:Y.pn=[])(T:Turn Y.prog Y.w Y.K tg J fp it tn)
  (stat:∀{H':Hp},(∀b∈fp,H' b=none)->∀b∈fp,FpOk Y [] H' b) (statA:∀{H':Hp},H' N=none->FpOk Y [] H' N) (accF:N∉fp) (hg:PG Y tg g) (he:PE Y aD te) (ht:PTO Y cnd tc)
  (turn:∀i m ys H,W i m ys H->(J.stop i H/\∀p,H p=none->Q (.ref p) (upd H p (.lst ys)))\/(J.go i H/\ys.length<sizeLine/\∀x H',J.yld i H x H'->g x Z0 H' λZ2 H2=>Ext Z0 Z2/\tc Z2 H2 λok H2'=>if ok=true then te Z2 H2' (λy H3=>∃m',m'<m/\W (i+1) m' (ys++[y]) H3) else ∃m',m'<m/\W (i+1) m' ys H2'))
  (w0:W 0 m0 [] H2) (K0:Inv Y [] Z0 H2 s4) (st4:tn 0 s4.heap) (f0:∀b∈fp,H2 b=none) (fa:H2 N=none) (hacc:s4.heap.get? N=some {cls:=.type "list",data:=.seq ([]:List Value).toArray 0})
  (fin:∀s6 H6 ys its k,Inv Y [(N,{cls:=.type "list",data:=.seq its.toArray k})] Z0 H6 s6->H6 N=none->Vals ys its->ys.length<=sizeLine->(∀p,H6 p=none->Q (.ref p) (upd H6 p (.lst ys)))->R (.ok .next) s6) :
  codeAny (model Y.prog Y.w) Y.A (.compLoop (.ListComp aD [⟨tg,aF,cnd.toList,0⟩] aB pos) 0 (.ref it) (.ref N) Y.env) R s4:=by
 refine ae8 no (λn s'=>∃i Z' H' ys its k,Inv Y [] Z' H' s'/\Ext Z0 Z'/\tn i s'.heap/\(∀b∈fp,H' b=none)/\H' N=none /\
  s'.heap.get? N=some {cls:=.type "list",data:=.seq its.toArray k}/\Vals ys its/\ys.length<=sizeLine/\W i n ys H') ?_ m0
  ⟨0,_,H2,[],[],0,K0,⟨rfl,λ_ _ z=>z⟩,st4,f0,fa,hacc,.nil,Nat.zero_le _,w0⟩
 rintro n s5 ⟨i,Z5,H5,ys,its,k5,I5,x5,st5,fr5,fa5,ac5,rv5,hz5,w5⟩
 have I5':Inv Y [] Z0 H5 s5:=I5.weak x5.1.symm x5.2;obtain⟨ob,hob⟩:∃ob:Obj,ob={cls:=.type "list",data:=.seq its.toArray k5}:=⟨_,rfl⟩;rw[<-hob]at ac5;have IP:Inv Y [(N,ob)] Z0 H5 s5:=I5'.pins_of λp hp=>by
  rw[List.mem_singleton.mp hp];obtain⟨a0,a1,a2,_⟩:=statA fa5;exact⟨ac5,a0,a1,a2,λv z=>by rw[hob]at z;cases z⟩
 have FB:∀b∈fp,FpOk Y [(N,ob)] H5 b:=λb hb=>by
  obtain⟨b0,b1,b2,b3,b4,b5⟩:=stat fr5 b hb;refine⟨b0,b1,b2,b3,b4,λp hp=>?_⟩;rw[hp0]at hp;rw[List.mem_singleton.mp hp];exact λz=>accF (by have z':N=b:=z;rw[z'];exact hb)
 rcases turn i n ys H5 w5 with⟨stop,qn⟩|⟨go,hlt,step⟩
 .refine thn (T.done Y rfl rfl rfl hc i [(N,ob)] s5 _ H5 _ IP FB st5 stop) ?_
  rintro r s6 ⟨hr,I6⟩
  subst hr;rw[hob]at I6;exact fin s6 H5 ys its k5 I6 fa5 rv5 hz5 qn
 .refine thn (T.item Y rfl rfl rfl hc i [(N,ob)] s5 _ H5 _ IP FB st5 go) ?_
  rintro r s6 ⟨u,hr,h6⟩
  subst hr;refine thn h6 ?_
  rintro _ s7 ⟨x,H7,I7,r7,y7,st7,fr7⟩
  obtain⟨ac7,fa7,_⟩:=I7.pin (N,ob) (by simp)
  have I7':Inv Y (o9 (N::fp) s7.heap) Z0 H7 s7:=by
   show Inv Y ([]++o9 (N::fp) s7.heap) _ _ _;refine Inv.pinned I7.unpinned' (λb hb=>?_) λb hb=>?_
   .rcases List.mem_cons.mp hb with e|e
    .subst e;exact statA fa7
    .exact stat fr7 b e
   .rcases List.mem_cons.mp hb with e|e
    .subst e;exact⟨_,ac7,λv z=>by rw[hob]at z;cases z⟩
    .exact T.obj _ _ st7 b e
  have keep:∀{Z':St} {H9:Hp} {s9:Shared} {ps:List (Addr×Obj)},Inv Y (o9 (N::fp) s7.heap) Z' H9 s9->(s9.heap.get? N=some ob/\H9 N=none)/\∀b∈fp,(∀o,s7.heap.get? b=some o->s9.heap.get? b=some o)/\H9 b=none:=λI9=>by
   refine⟨?_,λb hb=>?_⟩
   .obtain⟨z1,z2,_⟩:=I9.pin (N,ob) (List.mem_append_right _ (gm List.mem_cons_self ac7));exact⟨z1,z2⟩
   .obtain⟨o,e,_⟩:=T.obj _ _ st7 b hb;obtain⟨z1,z2,_⟩:=I9.pin (b,o) (List.mem_append_right _ (gm (List.mem_cons_of_mem _ hb) e));exact⟨λo' e'=>by rw[e]at e';cases e';exact z1,z2⟩
  refine thn (hg _ s7 _ H7 x u _ I7' r7 (step x H7 y7)) ?_
  rintro _ s8 ⟨Z8,H8,I8,x8,q8⟩
  refine thn (ht _ s8 _ H8 _ I8 q8) ?_
  rintro ok s8' ⟨H8',I8',q8'⟩
  cases ok with
  |false =>
   rw[if_neg Bool.false_ne_true]at q8' ⊢;obtain⟨m',hm',w9⟩:=q8';obtain⟨⟨ac9,fa9⟩,k9⟩:=keep (ps:=[]) I8';exact⟨m',hm',i+1,Z8,H8',ys,its,k5,I8'.unpinned',x8,T.keep _ _ _ st7 λb hb o e=>(k9 b hb).1 o e,λb hb=>(k9 b hb).2,fa9,by rw[ac9,hob],rv5,hz5,w9⟩
  |true =>
   rw[if_pos rfl]at q8' ⊢;refine thn (he _ s8' _ H8' _ I8' q8') ?_
   rintro yv s9 ⟨y,H9,I9,r9,m',hm',w9⟩
   obtain⟨⟨ac9,fa9⟩,k9⟩:=keep (ps:=[]) I9;rw[hob]at ac9;have hl:=rv5.length;refine call_meets F.slot_list_append ⟨_,ac9,rfl⟩ F.entry_list_append (F.args_list_append_2 _ _) (PySem.list_append N its.toArray k5 yv (by rw[List.size_toArray];lia)) ⟨ac9,?_⟩
   have q:=PySem.IsL.update ac9 (λa=>a.push yv);have qo:∀b o,b≠N->s9.heap.get? b=some o->(s9.heap.update N (Obj.mapSeq (λa=>a.push yv))).get? b=some o:=λb o hb e=>(Heap.get?_update_other s9.heap _ (Ne.symm hb)).trans e;have q':∃k,(s9.heap.update N (Obj.mapSeq (λa=>a.push yv))).get? N=some {cls:=.type "list",data:=.seq (its++[yv]).toArray k}:=⟨_,by rw[q];simp;rfl⟩
   obtain⟨k9',q9⟩:=q';obtain⟨a0,a1,a2,a3,a4,a5⟩:=statA fa9;refine⟨m',hm',i+1,Z8,H9,ys++[y],its++[yv],k9',(I9.unpinned').turned qo a0 a1 a3 a4 a5,x8,T.keep _ _ _ st7 λb hb o e=>qo b o (λz=>accF (z ▸ hb)) ((k9 b hb).1 o e),λb hb=>(k9 b hb).2,fa9,q9,rv5.append (.cons r9 .nil),?_,w9⟩;rw[List.length_append,List.length_singleton];lia
theorem a5w{aD tg aF:Expr}{cnd:Option Expr}{aB:Scope}{pos ppos:Pos}{cl:List (Str×Addr)}{tt:Option Str}{ts fr:List Str}{ix:List Nat}{wi:TI}{g:TG}{tc:TT}{te:TE}(hc:X.calm=true)(S:CSg X aB cl tt ts fr ix)(hi:PI X tg aF wi)
  (hg:∀C fp s H,PG (cxG X (ts++fr) aB cl tt C fp s H) tg g) (he:∀C fp s H,PE (cxG X (ts++fr) aB cl tt C fp s H) aD te) (ht:∀C fp s H,PTO (cxG X (ts++fr) aB cl tt C fp s H) cnd tc) (hs:∀x,foldedSetIterable aF X.env x=pure x)
  (use:Option (Value->Sem Unit)) {aA:List (Addr×Obj)} {s:Shared} {Z:St} {H:Hp} {Q:VK} {Qf:Value->Shared->Prop} (I:Inv X aA Z H s) (h:a2w wi (jq ts.length ix) g tc te Z H Q) (fin:a2f X aA Z use Q Qf) :
  wpAny (model X.prog X.w) X.A (comprehension (.ListComp aD [⟨tg,aF,cnd.toList,0⟩] aB pos) aB X.env ppos (newList []) false (eval aF X.env) use) Qf X.xe s:=by
 refine wpAny_comprehension_free (use:=use) rfl hs S.clos S.kind S.names (thn (hi aA s Z H _ I h) λv s1 h1=>thn h1 λitv s2 h2=>?_);obtain⟨it,fp,tn,J,H2,e,I2,T,st2,f2,W,⟨m0,w0⟩,turn⟩:=h2;subst e;have hob:∀b∈fp,b<s2.heap.objs.size:=λb hb=>let ⟨o,e,_⟩:=T.obj _ _ st2 b hb;Heap.lt_size e;refine wpAny_newObj_type (a9k S.own S.push S.kind λh4 hns4 hc4 hsb4=>?_);dsimp only at hns4 hc4 hsb4 ⊢
 generalize hH2:s2.heap.push {cls:=.type "list",dict:=none,data:=.seq ([]:List Value).toArray}=G at hns4 hc4 hsb4 ⊢
 have hCs:G.objs.size=s2.heap.objs.size+1:=by rw[<-hH2,Heap.size_push]
 have hCle:s2.heap.objs.size<=G.objs.size:=by lia
 have hne:G.objs.size≠s2.heap.objs.size:=by lia
 have old:∀b o,s2.heap.get? b=some o->h4.get? b=some o:=λb o e=>by
  have hlt:=Heap.lt_size e;exact hsb4 b o (hH2 ▸ Heap.get?_push_of_some _ e)
 have hacc:h4.get? s2.heap.objs.size=some {cls:=.type "list",data:=.seq ([]:List Value).toArray 0} :=
  hsb4 _ _ (hH2 ▸ Heap.get?_push_size _ rfl)
 have K0:Inv (cxG X (ts++fr) aB cl tt G.objs.size fp s2 H2) [] (jq ts.length ix Z) H2 {s2 with heap:=h4} :=
  a9m S I2 f2 hob hCle old hns4 hc4 rfl rfl
 have st4:tn 0 h4:=T.keep _ _ _ st2 λb _ o e=>old b o e;have accF:s2.heap.objs.size∉fp:=λz=>Nat.lt_irrefl _ (hob _ z);have stat:∀{H':Hp},(∀b∈fp,H' b=none)->∀b∈fp,FpOk (cxG X (ts++fr) aB cl tt G.objs.size fp s2 H2) [] H' b:=λhn b hb =>
  an4 (a5u S I2 f2 hob hCle) rfl (hn b hb) hb
 have statA:∀{H':Hp},H' s2.heap.objs.size=none->FpOk (cxG X (ts++fr) aB cl tt G.objs.size fp s2 H2) [] H' s2.heap.objs.size:=λhn =>
  aky (a5u S I2 f2 hob hCle) rfl hn rfl (Ne.symm hne) λx c e=>by
   rcases look e with⟨_,rfl⟩|⟨_,e⟩
   .exact λz=>no3 z hCle
   .exact ae9 I2 (S.sub x c e)
 have loop:codeAny (model X.prog X.w) X.A (.compLoop (.ListComp aD [⟨tg,aF,cnd.toList,0⟩] aB pos) 0 (.ref it) (.ref s2.heap.objs.size) (compEnvC aB (ai8 tt (G.objs.size+1) cl) G.objs.size X.env))
   (compPost (model X.prog X.w) X.A X.xe use Qf (.ref s2.heap.objs.size) G.objs.size) {s2 with heap:=h4} :=
  aea (Y:=cxG X (ts++fr) aB cl tt G.objs.size fp s2 H2) hc (λ_ _ h=>h) rfl T stat statA accF (hg _ _ _ _) (he _ _ _ _) (ht _ _ _ _) turn w0 K0 st4 (λb hb=>(f2 b hb).1) (I2.hok.fresh (Nat.le_refl _)) hacc λs6 H6 ys its k I6 fa rv hz qn=>by
   have e6:=(I6.pin (s2.heap.objs.size,{cls:=.type "list",data:=.seq its.toArray k}) (by show _∈[]++[_];simp)).1
   obtain⟨m6,hn6,_⟩:=I6.loc;exact fin _ _ s6 _ m6 hn6 (I2.fpOk hCle (by rw[di hne];exact I6.free)) (λh' sb=>a5v (Y:=cxG X (ts++fr) aB cl tt G.objs.size fp s2 H2) (ho:=.lst ys) I2 f2 hCle (Nat.le_refl _) ⟨rfl,rfl,rfl,rfl,rfl,rfl,rfl⟩ I6.unpinned' fa ⟨hz,its,k,rv,sb.extBut _ _ (Ne.symm hne) e6⟩ sb) (qn _ fa)
 exact codeAny_compStart_list loop (T.self _ 0 _ _ _ st4 loop)
theorem a89(hc:X.calm=true)(S:CSc X aB cl ts fr ix)(hi:PI X tg aF wi)
  (hg:∀C fp s H,PG (cxC X (ts++fr) aB cl C fp s H) tg g) (he:∀C fp s H,PE (cxC X (ts++fr) aB cl C fp s H) aD te) (hs:∀x,foldedSetIterable aF X.env x=pure x)
  (use:Option (Value->Sem Unit)) (I:Inv X aA Z H s) (h:ae7 wi (jq ts.length ix) g te Z H Q) (fin:a2f X aA Z use Q Qf) :
  wpAny (model X.prog X.w) X.A (comprehension (.ListComp aD [⟨tg,aF,[],0⟩] aB pos) aB X.env ppos (newList []) false (eval aF X.env) use) Qf X.xe s:=by
 refine a5w (cnd:=none) (tc:=λZ H Q=>Q true H) hc S hi hg he (λ_ _ _ _ aA s Z H Q I h=>wpAny_pure ⟨H,I,h⟩) hs use I ?_ fin;unfold a2w a9l;unfold ae7 an3 at h;simpa only[if_true] using h
theorem ai9(hc:X.calm=true)(S:CSc X aB cl ts fr ix)(hi:PI X tg aF wi)
  (hg:∀C fp s H,PG (cxC X (ts++fr) aB cl C fp s H) tg g) (he:∀C fp s H,PE (cxC X (ts++fr) aB cl C fp s H) aD te)
  (hs:∀x,foldedSetIterable aF X.env x=pure x:=by intro _;rfl) :
  PE X (.ListComp aD [⟨tg,aF,[],0⟩] aB pos) (ae7 wi (jq ts.length ix) g te):=by
 intro aA s Z H Q I h
 rw[eval_ListComp];exact a89 hc S hi hg he hs none I h a6s
theorem aia{spos:Pos}(hN:X.N.Nodup)(hi':X.N[i]? = some x)(hx:Loc X.env.scope x)(hc:X.calm=true)(S:CSc X aB cl ts fr ix)(hi:PI X tg aF wi)
  (hg:∀C fp s H,PG (cxC X (ts++fr) aB cl C fp s H) tg g) (he:∀C fp s H,PE (cxC X (ts++fr) aB cl C fp s H) aD te)
  (hs:∀x,foldedSetIterable aF X.env x=pure x:=by intro _;rfl) (hsw:swapsWith (.ListComp aD [⟨tg,aF,[],0⟩] aB pos) (some (.Name x pos')) spos.line X.env=pure true:=by rfl) (hf:Hf X x:=by first|exact .inl rfl|exact .inr rfl|assumption) :
  PS X (.Assign [.Name x pos'] (.ListComp aD [⟨tg,aF,[],0⟩] aB pos) spos) (arc (ae7 wi (jq ts.length ix) g te) (a0v i)):=by
 intro aA s Z H D I h
 rw[exec_Assign_Name_used _ _ _ _ hsw];refine wpAny_bind (wpAny_standAt (wpAny_bind ?_));refine wpAny_bind (wpAny_mono (a89 hc S hi hg he hs (some (assign (.Name x pos') X.env)) I h (a6t hN hi' hx hf)) (λ_ s' hq=>wpAny_pure (wpAny_pure hq)) λ_ _ e=>e)
end
end L2
namespace L2
theorem akz:bootBuiltins "len" = some (.builtin "len"):=PySem.boot_len
theorem a6u:bootBuiltins "isinstance" = some (.builtin "isinstance"):=by first|exact PySem.boot_isinstance|exact PyProof.Rows.boot_isinstance
theorem asl:bootBuiltins "str" = some (.type "str"):=by first|exact PySem.boot_str|exact PyProof.Rows.boot_str
theorem asm:bootBuiltins "all" = some (.builtin "all"):=by first|exact PySem.boot_all|exact PyProof.Rows.boot_all
theorem asn:bootBuiltins "abs" = some (.builtin "abs"):=by first|exact PySem.boot_abs|exact PyProof.Rows.boot_abs
theorem aso:bootBuiltins "int" = some (.type "int"):=by first|exact PySem.boot_int|exact PyProof.Rows.boot_int
theorem aeb:bootBuiltins "list" = some (.type "list"):=by first|exact PySem.boot_list|exact PyProof.Rows.boot_list
theorem aai:bootBuiltins "tuple" = some (.type "tuple"):=by first|exact PySem.boot_tuple|exact PyProof.Rows.boot_tuple
structure Dn (P:Program) (w:World) (K:Fg) (mg:Str->Option Value) (base:Heap) (k:Nat) (x:Str) (ps:List Str) (sp:Sp) (f:Addr) (fd:FuncData):Prop where
 ok:FnOk P w K mg base CX0 k f fd ps sp
 m:mg x=some (.ref f)
 kp:PySem.W.keepIn K (.ref f)=true
 b:Binds K fd ps []
theorem aib:sizeLine=16777216:=sizeLine_eq
theorem an5(h:n<=16777216):n<=sizeLine:=by rw[sizeLine_eq];exact h
theorem CSc.noFree{aB:Scope}(kind:aB.kind=.function)(h:∀y∈aB.names,y.2≠.cell/\y.2≠.free)(names:∀y∈aB.names,y.2=.local->aB.names.lookup y.1=some .local)
  (ht:∀y∈ts,aB.names.lookup y=some .local):CSc X aB [] ts [] []:=by
 have e:(relabel aB X.env).names=aB.names:=by
  show aB.names.map _=_;refine map_eq_self λy hy=>?_;obtain⟨n,k⟩:=y;have:(k == NameKind.free)=false:=by simpa using (h _ hy).2
  simp[this]
 refine⟨closureFor_none λy hy=>(h y hy).2,kind,λ_=>a6r λy hy=>(h y hy).1,λ_=>a9j λy hy=>(h y hy).1,names,(λ_ _ z=>nomatch z),λy z=>?_,rfl,(λ_ _ z=>by simp at z)⟩
 rw[e]at z
 rcases z with z|z
 .exact absurd rfl (h _ (PySem.mem_of_lookup z)).1
 .exact absurd rfl (h _ (PySem.mem_of_lookup z)).2
theorem axz(x y:Str):(x++y).cps.toList=x.cps.toList++y.cps.toList:=by
 show(x.cps++y.cps).toList=_;simp
theorem aec{α:Type}(xs:List α)(k:Nat):a6q xs none (some (k:Int))=xs.take k:=by
 unfold a6q;rw[HT.aad,HT.adu,List.drop_zero,Nat.sub_zero]
 by_cases h:k<=xs.length
 .rw[Nat.min_eq_left h]
 .rw[Nat.min_eq_right (by lia),List.take_of_length_le (Nat.le_refl _),List.take_of_length_le (by lia)]
theorem aed{α:Type}(xs:List α)(k:Nat):a6q xs (some (k:Int)) none=xs.drop k:=by
 unfold a6q;rw[HT.aad,HT.adu]
 by_cases h:k<=xs.length
 .rw[Nat.min_eq_left h,List.take_of_length_le (by rw[List.length_drop];lia)]
 .rw[Nat.min_eq_right (by lia),List.drop_eq_nil_of_le (Nat.le_refl _),List.drop_eq_nil_of_le (by lia),List.take_nil]
end L2
namespace L2
open PyProof.Rows
section
variable{X:Cx}
theorem a4h(hc:X.calm=true)(S:CSc X aB cl ts fr ix)(hi:PI X tg aF wi)
  (hg:∀C fp s H,PG (cxC X (ts++fr) aB cl C fp s H) tg g) (he:∀C fp s H,PE (cxC X (ts++fr) aB cl C fp s H) aD te) (ht:∀C fp s H,PT (cxC X (ts++fr) aB cl C fp s H) cnd tc) (hs:∀x,foldedSetIterable aF X.env x=pure x)
  (use:Option (Value->Sem Unit)) (I:Inv X aA Z H s) (h:a2w wi (jq ts.length ix) g tc te Z H Q) (fin:a2f X aA Z use Q Qf) :
  wpAny (model X.prog X.w) X.A (comprehension (.ListComp aD [⟨tg,aF,[cnd],0⟩] aB pos) aB X.env ppos (newList []) false (eval aF X.env) use) Qf X.xe s :=
 a5w (cnd:=some cnd) hc S hi hg he ht hs use I h fin
theorem ac1(hc:X.calm=true)(S:CSc X aB cl ts fr ix)(hi:PI X tg aF wi)
  (hg:∀C fp s H,PG (cxC X (ts++fr) aB cl C fp s H) tg g) (he:∀C fp s H,PE (cxC X (ts++fr) aB cl C fp s H) aD te) (ht:∀C fp s H,PT (cxC X (ts++fr) aB cl C fp s H) cnd tc)
  (hs:∀x,foldedSetIterable aF X.env x=pure x:=by intro _;rfl) :
  PE X (.ListComp aD [⟨tg,aF,[cnd],0⟩] aB pos) (a2w wi (jq ts.length ix) g tc te):=by
 intro aA s Z H Q I h
 rw[eval_ListComp];exact a4h hc S hi hg he ht hs none I h a6s
theorem a5x{spos:Pos}(hN:X.N.Nodup)(hi':X.N[i]? = some x)(hx:Loc X.env.scope x)(hc:X.calm=true)(S:CSc X aB cl ts fr ix)(hi:PI X tg aF wi)
  (hg:∀C fp s H,PG (cxC X (ts++fr) aB cl C fp s H) tg g) (he:∀C fp s H,PE (cxC X (ts++fr) aB cl C fp s H) aD te) (ht:∀C fp s H,PT (cxC X (ts++fr) aB cl C fp s H) cnd tc)
  (hs:∀x,foldedSetIterable aF X.env x=pure x:=by intro _;rfl) (hsw:swapsWith (.ListComp aD [⟨tg,aF,[cnd],0⟩] aB pos) (some (.Name x pos')) spos.line X.env=pure true:=by rfl) (hf:Hf X x:=by first|exact .inl rfl|exact .inr rfl|assumption) :
  PS X (.Assign [.Name x pos'] (.ListComp aD [⟨tg,aF,[cnd],0⟩] aB pos) spos) (arc (a2w wi (jq ts.length ix) g tc te) (a0v i)):=by
 intro aA s Z H D I h
 rw[exec_Assign_Name_used _ _ _ _ hsw];refine wpAny_bind (wpAny_standAt (wpAny_bind ?_));refine wpAny_bind (wpAny_mono (a4h hc S hi hg he ht hs (some (assign (.Name x pos') X.env)) I h (a6t hN hi' hx hf)) (λ_ s' hq=>wpAny_pure (wpAny_pure hq)) λ_ _ e=>e)
end
section
variable{X:Cx}
noncomputable def an6(T:Str)(c:Nat):Int:=Txt.find T ⟨#[c]⟩
theorem a9n(s sub:Str)(hi limit:Nat):∀(l:List Nat) (st:Array Nat×Nat) (k:Nat),k∈(forIn l st (StrLaws.occBody s sub hi limit)).run.fst.toList->k∈st.fst.toList\/(k+sub.length<=hi/\Builtin.Str.subAt s sub k=true)
 |[],st,k,h=>.inl h
 |a::l,st,k,h=>by
  rw[List.forIn_cons]at h;unfold StrLaws.occBody at h
  split at h
  .rename_i c
   rcases a9n s sub hi limit l _ k h with z|z
   .simp at z
    rcases z with z|z
    .exact .inl (by simpa using z)
    .subst z;exact .inr ⟨c.1.2,c.2⟩
   .exact .inr z
  .rcases a9n s sub hi limit l _ k h with z|z
   .exact .inl z
   .exact .inr z
theorem aic{T:Str}(h:c∈T.cps.toList):∃i:Nat,an6 T c=(i:Int)/\T.cps.toList[i]? = some c/\∃aG,Builtin.Str.occurrences T ⟨#[c]⟩ 0 T.length 1=i::aG:=by
 have h1:=StrLaws.found_one T c;rw[decide_eq_true h]at h1
 cases ho:Builtin.Str.occurrences T ⟨#[c]⟩ 0 T.length 1 with
 |nil=>rw[ho]at h1;cases h1
 |cons i aG =>
  refine⟨i,by simp[an6,Txt.find,ho],?_,aG,rfl⟩
  rw[StrLaws.occ_eq]at ho;have hm:=a9n T ⟨#[c]⟩ T.length 1 (List.range' 0 (T.length+1-0)) (#[],0) i (by rw[ho];exact List.mem_cons_self)
  rcases hm with z|z
  .simp at z
  .exact(StrLaws.subAt_one T c i).mp z
end
theorem CSc.of{X:Cx}{ts fr:List Str}{ix:List Nat}(clos:closureFor aB X.env=pure cl)(kind:aB.kind=.function)
  (nocell:(aB.names.all λp=>p.2 != .cell)=true) (names:(aB.names.all λp=>p.2 != .local || aB.names.lookup p.1 == some .local)=true) (sub:∀p∈cl,X.env.cells.lookup p.1=some p.2)
  (has:((relabel aB X.env).names.all λp => !(p.2 == .cell || p.2 == .free) || (cl.lookup p.1).isSome)=true) (nofn:(ts.all λy=>(relabel aB X.env).names.lookup y == some .local)=true)
  (len:ix.length=fr.length) (vis:((fr.zip ix).all λp=>X.N[p.2]? == some p.1 && (X.env.kindOf p.1 == some .cell || X.env.kindOf p.1 == some .free) && ((relabel aB X.env).names.lookup p.1 == some .cell || (relabel aB X.env).names.lookup p.1 == some .free))=true) :
  CSc X aB cl ts fr ix:=by
 have nc:∀y∈aB.names,y.2≠.cell:=λy hy=>by
  have:=List.all_eq_true.mp nocell y hy
  simpa using this
 refine⟨clos,kind,λ_=>a6r nc,λ_=>a9j nc,λy hy e=>?_,λy c e=>sub _ (PySem.mem_of_lookup e),λy z=>.inr ?_,len,λj y e=>⟨nofun,?_⟩⟩
 .have:=List.all_eq_true.mp names y hy
  rw[e]at this;simpa using this
 .have key:∀k,(relabel aB X.env).names.lookup y=some k->(k == .cell || k == .free)=true->∃c,cl.lookup y=some c:=λk e hk=>by
   have:=List.all_eq_true.mp has _ (PySem.mem_of_lookup e)
   rw[hk]at this;exact Option.isSome_iff_exists.mp (by simpa using this)
  rcases z with z|z
  .exact key _ z rfl
  .exact key _ z rfl
 .obtain⟨hj,_⟩:=List.getElem?_eq_some_iff.mp e;have hj2:j<ix.length:=by lia
  have hm:(y,ix[j])∈fr.zip ix:=by
   rw[List.mem_iff_getElem?];exact⟨j,by rw[List.getElem?_zip_eq_some];exact⟨e,List.getElem?_eq_getElem hj2⟩⟩
  have:=List.all_eq_true.mp vis _ hm
  simp only[Bool.and_eq_true,Bool.or_eq_true,beq_iff_eq]at this;exact⟨ix[j],List.getElem?_eq_getElem hj2,this.1.1,this.1.2,this.2⟩
open PySem.AutoSeq1 in
theorem a4i(l b:Addr)(xs ys:Array Value)(n m:Nat)(dd:Option Addr)(sl:Array (Option Value))(long:¬(!xs.isEmpty && Builtin.List.listTooLong (xs.size+ys.size))=true)(fit1:xs.size<=sizeLine)(fit2:xs.size+ys.size<=sizeLine+1) :
  Meets (Builtin.«list.extend» ⟨[.ref l,.ref b],[]⟩) (λ_ R s=>(s.heap.get? l=some {cls:=.type "list",dict:=none,data:=.seq xs n,slots := #[]}/\s.heap.get? b=some {cls:=.type "tuple",dict:=dd,data:=.seq ys m,slots:=sl})/\R (.ok (.ret Value.none)) {s with heap:=s.heap.update l (Obj.mapSeq (·++ys))}) :=
 .of_wp λprog w A R ⟨hp,gn,dr,tk,os⟩ ⟨⟨hl,hb⟩,q⟩=>by
  have a1:=idx_int;have a2:=AutoSeq1.sub_tuple_tuple;have a3:=AutoSeq1.sub_list_list;have a4:=AutoSeq1.sub_tuple_list;have a5:=AutoSeq1.sub_list_tuple;have both:(xs++ys).size<=sizeLine+1:=by simpa using fit2
  wp_walk using wpAny_updateSeq hl rfl (hz:=fit1) (_hz':=both),wpAny_loadPart' hl,wpAny_loadPart' hb
  exact⟨_,rfl,q⟩
section
variable{X:Cx}
def aaj(K:Fg):V->List V->Hp->VK->Prop:=λx vs H Q=>∃l b xs zs,x=.ref l/\vs=[.ref b]/\H l=some (.lst xs)/\SqT K H b zs/\xs.length+zs.length<=sizeLine/\Q .non (upd H l (.lst (xs++zs)))
theorem ac2:MtM X "list.extend" (aaj X.K):=by
 intro aA s Z H x vs v us Q I rx rv h
 obtain⟨l,b,xs,zs,rfl,rfl,hH,hB,hz,q⟩:=h;cases rx
 obtain⟨u,rfl,ru⟩:=rv.one;cases ru
 obtain⟨z,its,n,r,hl,e⟩:=I.lstM hH;obtain⟨its2,r2,p2,_⟩:=I.tuple hB;have hl2:=r2.length;obtain⟨⟨cls,dd,data,sl⟩,e2,hc,hrest⟩:=id p2;have hsz:its.toArray.size+its2.toArray.size<=sizeLine:=by rw[List.size_toArray,List.size_toArray];lia
 have hlong:¬ (!its.toArray.isEmpty && Builtin.List.listTooLong (its.toArray.size+its2.toArray.size))=true:=by
  rw[a6m hsz,Bool.and_false];exact Bool.false_ne_true
 obtain⟨n2,hd⟩:=(show ∃n2,data=.seq its2.toArray n2 from by first|exact hrest|exact⟨_,hrest.2⟩|(obtain⟨_,n,hd⟩:=hrest;exact⟨n,hd⟩))
 have hc':cls=.type "tuple":=hc;subst hc' hd;refine call_meets F.slot_list_extend ⟨_,e,rfl⟩ F.entry_list_extend (F.args_list_extend_2 _ _)
  (a4i l b its.toArray its2.toArray n n2 dd sl hlong (by rw[List.size_toArray];lia) (by lia)) ⟨⟨e,e2⟩,?_⟩
 refine⟨.non,_,I.lset (its':=its++its2) hH e (by simp) (r.append r2) ?_,rfl,q⟩
 rw[List.length_append];lia
end
end L2
namespace MI
open L2
inductive D where
 |non|bl (b:Bool)|int (i:Int)|str (x:Str)|ty (n:String)|tup (xs:List D)|rol (xs:List D)|ref (i:Nat)|scr (xs:List D)|rod (ks:List Key) (xs:List D)|rdT (ks:List (List Key)) (xs:List D)|exc (c:Str)|ins (c:Str) (ks:List Str) (xs:List D)
inductive O where
 |lst (xs:List D)|dK (kvs:List (Key×D))|dT (kvs:List (List Key×D))|ins (c:Str) (fs:List (Str×D))
abbrev Hd:=List O
abbrev Sd:=List (Option D)
inductive R (α:Type) where
 |ok (a:α) (h:Hd)|ex (c:Str) (h:Hd)|no
noncomputable def R.bind{α β:Type}:R α->(α->Hd->R β)->R β
 |.ok a h,k=>k a h
 |.ex c h,_=>.ex c h
 |.no,_=>.no
inductive Fl where
 |nx (Z:Sd) (h:Hd)|rt (d:D) (h:Hd)|bk (Z:Sd) (h:Hd)|ct (Z:Sd) (h:Hd)|ex (c:Str) (h:Hd)|no
noncomputable def R.fl{α:Type}:R α->(α->Hd->Fl)->Fl
 |.ok a h,k=>k a h
 |.ex c h,_=>.ex c h
 |.no,_=>.no
abbrev SE:=Sd->Hd->R D
abbrev ST:=Sd->Hd->R Bool
abbrev SA:=Sd->Hd->R (List D)
abbrev SS:=Sd->Hd->Fl
def SqF(K:Fg)(H:Hp)(a:Addr)(vs:List V):Prop:=(∃o,H a=some (.frz o (.lst vs)))\/SqL K (λ_=>none) a vs
theorem SqF.l(h:SqF K H a vs):SqL K H a vs:=by
 rcases h with⟨o,h⟩|h
 .exact .inl (.inr ⟨o,h⟩)
 .rcases h with(h|⟨o,h⟩)|h
  .cases h
  .cases h
  .exact .inr h
def SqZ(H:Hp)(a:Addr)(vs:List V):Prop:=∃o,H a=some (.frz o (.lst vs))
theorem SqZ.l(h:SqZ H a vs):SqL K H a vs:=let ⟨o,e⟩:=h; .inl (.inr ⟨o,e⟩)
noncomputable def exO(a:Addr):HO:=.ext λh=>∃o,h.get? a=some o
mutual
inductive Rep (K:Fg) (U:List Addr) (H:Hp):V->D->Prop
 |non:Rep K U H .non .non
 |bl (b:Bool):Rep K U H (.bl b) (.bl b)
 |int (i:Int):Rep K U H (.int i) (.int i)
 |str (x:Str):Rep K U H (.str x) (.str x)
 |ty (n:String):Rep K U H (.ty n) (.ty n)
 |tup {a:Addr} {vs:List V} {xs:List D} (h:H a=some (.tup vs)) (r:Reps K U H vs xs):Rep K U H (.ref a) (.tup xs)
 |rol {a:Addr} {vs:List V} {xs:List D} (h:SqZ H a vs) (r:Reps K U H vs xs):Rep K U H (.ref a) (.rol xs)
 |scr {a:Addr} {vs:List V} {xs:List D} (h:SqF K H a vs) (r:Reps K U H vs xs):Rep K U H (.ref a) (.scr xs)
 |ref {a:Addr} {i:Nat} (h:U[i]? = some a):Rep K U H (.ref a) (.ref i)
 |rod {a:Addr} {o:Obj} {us:List (Key×V)} {ks:List Key} {xs:List D} (h:H a=some (.frz o (.dK us))) (e:us.map (·.1)=ks) (r:Reps K U H (us.map (·.2)) xs):Rep K U H (.ref a) (.rod ks xs)
 |rdT {a:Addr} {o:Obj} {us:List (List Key×V)} {ks:List (List Key)} {xs:List D} (h:H a=some (.frz o (.dT us))) (e:us.map (·.1)=ks) (r:Reps K U H (us.map (·.2)) xs):Rep K U H (.ref a) (.rdT ks xs)
 |exc {a C:Addr} {o:Obj} {c:Str} (h:H a=some (.frz o (exO a))) (hc:o.cls=.ref C) (hn:PySem.W.nsIn K mainGlobals c=some (some (.ref C))):Rep K U H (.ref a) (.exc c)
 |ins {a C dx:Addr} {o:Obj} {c:Str} {us:List (Str×V)} {ks:List Str} {xs:List D} (h:H a=some (.frz o (.ins C dx us))) (hn:PySem.W.nsIn K mainGlobals c=some (some (.ref C))) (e:us.map (·.1)=ks) (r:Reps K U H (us.map (·.2)) xs):Rep K U H (.ref a) (.ins c ks xs)
inductive Reps (K:Fg) (U:List Addr) (H:Hp):List V->List D->Prop
 |nil:Reps K U H [] []
 |cons {v:V} {d:D} {vs:List V} {ds:List D} (r:Rep K U H v d) (rs:Reps K U H vs ds):Reps K U H (v::vs) (d::ds)
end
structure Gw (U:List Addr) (H:Hp) (U':List Addr) (H':Hp):Prop where
 pre:∃m,U'=U++m
 tup:∀a vs,H a=some (.tup vs)->H' a=some (.tup vs)
 frz:∀a o u,H a=some (.frz o u)->H' a=some (.frz o u)
structure Gr (U:List Addr) (H:Hp) (U':List Addr) (H':Hp):Prop where
 pre:∃m,U'=U++m/\∀a∈m,H a=none
 tup:∀a vs,H a=some (.tup vs)->H' a=some (.tup vs)
 frz:∀a o u,H a=some (.frz o u)->H' a=some (.frz o u)
 oth:∀a u,H a=some u->a∉U->H' a=some u
 kp:∀a u,H a=some u->∃u',H' a=some u'
theorem Gr.w(g:Gr U H U' H'):Gw U H U' H':=⟨let ⟨m,e,_⟩:=g.pre; ⟨m,e⟩,g.tup,g.frz⟩
theorem Gr.refl(U:List Addr)(H:Hp):Gr U H U H:=⟨⟨[],by simp,by simp⟩,λ_ _ h=>h,λ_ _ _ h=>h,λ_ _ h _=>h,λ_ u h=>⟨u,h⟩⟩
theorem Gr.trans(a:Gr U H U1 H1)(b:Gr U1 H1 U2 H2):Gr U H U2 H2:=by
 obtain⟨m,rfl,hm⟩:=a.pre;obtain⟨n,rfl,hn⟩:=b.pre;refine⟨⟨m++n,by simp,λx hx=>?_⟩,λx vs h=>b.tup x vs (a.tup x vs h),λx o u h=>b.frz x o u (a.frz x o u h),λx u h hx=>?_,λx u h=>?_⟩
 .rcases List.mem_append.mp hx with hx|hx
  .exact hm x hx
  .cases e:H x with
   |none=>rfl
   |some u =>
    obtain⟨u',e'⟩:=a.kp x u e;rw[hn x hx]at e';cases e'
 .refine b.oth x u (a.oth x u h hx) λz=>?_
  rcases List.mem_append.mp z with z|z
  .exact hx z
  .rw[hm x z]at h;cases h
 .obtain⟨u',e⟩:=a.kp x u h;exact b.kp x u' e
theorem Gw.at(g:Gw U H U' H'){i:Nat}(h:U[i]? = some a):U'[i]? = some a:=by
 obtain⟨m,rfl⟩:=g.pre;rw[List.getElem?_append_left (List.getElem?_eq_some_iff.mp h).1];exact h
theorem Gr.at(g:Gr U H U' H'){i:Nat}(h:U[i]? = some a):U'[i]? = some a:=g.w.at h
theorem SqF.monoW(g:Gw U H U' H')(h:SqF K H a vs):SqF K H' a vs:=by
 rcases h with⟨o,h⟩|h
 .exact .inl ⟨o,g.frz _ _ _ h⟩
 .exact .inr h
theorem SqZ.monoW(g:Gw U H U' H')(h:SqZ H a vs):SqZ H' a vs:=let ⟨o,e⟩:=h; ⟨o,g.frz _ _ _ e⟩
theorem SqZ.mono(g:Gr U H U' H')(h:SqZ H a vs):SqZ H' a vs:=h.monoW g.w
mutual
theorem Rep.monoW(g:Gw U H U' H'):∀{v:V} {d:D},Rep K U H v d->Rep K U' H' v d
 |_,_,.non=>.non
 |_,_,.bl b=>.bl b
 |_,_,.int i=>.int i
 |_,_,.str x=>.str x
 |_,_,.ty n=>.ty n
 |_,_,.tup h r=>.tup (g.tup _ _ h) (Reps.monoW g r)
 |_,_,.rol h r=>.rol (h.monoW g) (Reps.monoW g r)
 |_,_,.scr h r=>.scr (h.monoW g) (Reps.monoW g r)
 |_,_,.ref h=>.ref (g.at h)
 |_,_,.rod h e r=>.rod (g.frz _ _ _ h) e (Reps.monoW g r)
 |_,_,.rdT h e r=>.rdT (g.frz _ _ _ h) e (Reps.monoW g r)
 |_,_,.exc h hc hn=>.exc (g.frz _ _ _ h) hc hn
 |_,_,.ins h hn e r=>.ins (g.frz _ _ _ h) hn e (Reps.monoW g r)
theorem Reps.monoW(g:Gw U H U' H'):∀{vs:List V} {ds:List D},Reps K U H vs ds->Reps K U' H' vs ds
 |_,_,.nil=>.nil
 |_,_,.cons r rs=>.cons (Rep.monoW g r) (Reps.monoW g rs)
end
theorem Rep.mono(g:Gr U H U' H')(r:Rep K U H v d):Rep K U' H' v d:=r.monoW g.w
theorem Reps.mono(g:Gr U H U' H')(r:Reps K U H vs ds):Reps K U' H' vs ds:=r.monoW g.w
section
variable{K:Fg}{U:List Addr}{H:Hp}
theorem Reps.len:Reps K U H vs ds->vs.length=ds.length
 |.nil=>rfl
 |.cons _ rs=>by rw[List.length_cons,List.length_cons,rs.len]
theorem Reps.get:∀{vs:List V} {ds:List D} {i:Nat} {d:D},Reps K U H vs ds->ds[i]? = some d->∃v,vs[i]? = some v/\Rep K U H v d
 |_,_,_,_,.nil,e=>by simp at e
 |_,_,0,_,.cons r _,e=>by simp at e;subst e;exact⟨_,rfl,r⟩
 |_,_,i+1,d,.cons _ rs,e=>by
  obtain⟨u,h1,h2⟩:=Reps.get (i:=i) (d:=d) rs (by simpa using e)
  exact⟨u,by simpa using h1,h2⟩
theorem Reps.app:∀{vs us:List V} {ds es:List D},Reps K U H vs ds->Reps K U H us es->Reps K U H (vs++us) (ds++es)
 |_,_,_,_,.nil,s=>s
 |_,_,_,_,.cons r rs,s=>.cons r (Reps.app rs s)
theorem Reps.set(q:Rep K U H v d):∀{vs:List V} {ds:List D} (i:Nat),Reps K U H vs ds->Reps K U H (vs.set i v) (ds.set i d)
 |_,_,_,.nil=>.nil
 |_,_,0,.cons _ rs=>.cons q rs
 |_,_,i+1,.cons r rs=>.cons r (Reps.set q i rs)
theorem Reps.take:∀{vs:List V} {ds:List D} (n:Nat),Reps K U H vs ds->Reps K U H (vs.take n) (ds.take n)
 |_,_,0,_=>.nil
 |_,_,_+1,.nil=>.nil
 |_,_,n+1,.cons r rs=>.cons r (Reps.take n rs)
theorem Reps.drop:∀{vs:List V} {ds:List D} (n:Nat),Reps K U H vs ds->Reps K U H (vs.drop n) (ds.drop n)
 |_,_,0,r=>r
 |_,_,_+1,.nil=>.nil
 |_,_,n+1,.cons _ rs=>Reps.drop n rs
theorem Reps.erase:∀{vs:List V} {ds:List D} (n:Nat),Reps K U H vs ds->Reps K U H (vs.eraseIdx n) (ds.eraseIdx n)
 |_,_,_,.nil=>.nil
 |_,_,0,.cons _ rs=>rs
 |_,_,n+1,.cons r rs=>.cons r (Reps.erase n rs)
theorem Reps.snoc(r:Reps K U H vs ds)(q:Rep K U H v d):Reps K U H (vs++[v]) (ds++[d]):=r.app (.cons q .nil)
theorem Reps.flat:∀{vs:List V} {ds:List D} (k:Nat),Reps K U H vs ds->Reps K U H (List.replicate k vs).flatten (List.replicate k ds).flatten
 |_,_,0,_=>.nil
 |vs,ds,k+1,r=>by
  rw[List.replicate_succ,List.replicate_succ,List.flatten_cons,List.flatten_cons];exact r.app (Reps.flat k r)
end
def KRep{κ:Type}(K:Fg)(U:List Addr)(H:Hp)(us:List (κ×V))(kvs:List (κ×D)):Prop:=us.map (·.1)=kvs.map (·.1)/\Reps K U H (us.map (·.2)) (kvs.map (·.2))
def ORep(K:Fg)(U:List Addr)(H:Hp)(a:Addr):O->Prop
 |.lst xs=>∃vs,H a=some (.lst vs)/\Reps K U H vs xs
 |.dK kvs=>∃us,H a=some (.dK us)/\KRep K U H us kvs
 |.dT kvs=>∃us,H a=some (.dT us)/\KRep K U H us kvs
 |.ins c fs=>∃C dx us,H a=some (.ins C dx us)/\PySem.W.nsIn K mainGlobals c=some (some (.ref C))/\KRep K U H us fs
structure HRep (K:Fg) (U:List Addr) (H:Hp) (h:Hd):Prop where
 nd:U.Nodup
 len:U.length=h.length
 obj:∀(i:Nat) (a:Addr) (o:O),U[i]? = some a->h[i]? = some o->ORep K U H a o
section
variable{K:Fg}{U:List Addr}{H:Hp}{h:Hd}
theorem ORep.some(r:ORep K U H a o):∃u,H a=some u/\(∀vs,u≠.tup vs)/\(∀o' u',u≠.frz o' u'):=by
 cases o with
 |lst xs=>obtain⟨vs,e,_⟩:=r;exact⟨_,e,λ_ z=>(by cases z),λ_ _ z=>(by cases z)⟩
 |dK kvs=>obtain⟨us,e,_⟩:=r;exact⟨_,e,λ_ z=>(by cases z),λ_ _ z=>(by cases z)⟩
 |dT kvs=>obtain⟨us,e,_⟩:=r;exact⟨_,e,λ_ z=>(by cases z),λ_ _ z=>(by cases z)⟩
 |ins c fs=>obtain⟨C,dx,us,e,_⟩:=r;exact⟨_,e,λ_ z=>(by cases z),λ_ _ z=>(by cases z)⟩
theorem HRep.at(r:HRep K U H h){i:Nat}(e:U[i]? = some a):∃o,h[i]? = some o/\ORep K U H a o:=by
 have hi:i<h.length:=by rw[<-r.len];exact(List.getElem?_eq_some_iff.mp e).1
 exact⟨h[i],List.getElem?_eq_getElem hi,r.obj i a _ e (List.getElem?_eq_getElem hi)⟩
theorem HRep.addr(r:HRep K U H h){i:Nat}(e:h[i]? = some o):∃a,U[i]? = some a/\ORep K U H a o:=by
 have hi:i<U.length:=by rw[r.len];exact(List.getElem?_eq_some_iff.mp e).1
 exact⟨U[i],List.getElem?_eq_getElem hi,r.obj i _ o (List.getElem?_eq_getElem hi) e⟩
theorem HRep.notin(r:HRep K U H h)(e:H p=none):p∉U:=λz=>by
 obtain⟨i,hi⟩:=List.getElem?_of_mem z;obtain⟨o,_,q⟩:=r.at hi;obtain⟨u,q,_⟩:=q.some;rw[e]at q;cases q
theorem ORep.monoW(g:Gw U H U' H')(e:H' a=H a)(r:ORep K U H a o):ORep K U' H' a o:=by
 cases o with
 |lst xs=>obtain⟨vs,h1,h2⟩:=r;exact⟨vs,by rw[e];exact h1,h2.monoW g⟩
 |dK kvs=>obtain⟨us,h1,h2,h3⟩:=r;exact⟨us,by rw[e];exact h1,h2,h3.monoW g⟩
 |dT kvs=>obtain⟨us,h1,h2,h3⟩:=r;exact⟨us,by rw[e];exact h1,h2,h3.monoW g⟩
 |ins c fs=>obtain⟨C,dx,us,h1,hn,h2,h3⟩:=r;exact⟨C,dx,us,by rw[e];exact h1,hn,h2,h3.monoW g⟩
theorem ORep.mono(g:Gr U H U' H')(e:H' a=H a)(r:ORep K U H a o):ORep K U' H' a o:=r.monoW g.w e
theorem ur(e:H p=none)(o:HO):Gr U H U (upd H p o) :=
 ⟨⟨[],by simp,by simp⟩,λa vs h=>by rw[di (dq h e)];exact h,λa o u h=>by rw[di (dq h e)];exact h,λa u h _=>by rw[di (dq h e)];exact h,λa u h=>⟨u,by rw[di (dq h e)];exact h⟩⟩
theorem HRep.aside(r:HRep K U H h)(e:H p=none)(o:HO):HRep K U (upd H p o) h:=by
 refine⟨r.nd,r.len,λi a o' e1 e2=>?_⟩;have q:=r.obj i a o' e1 e2;obtain⟨u,hu,_⟩:=q.some;exact q.mono (ur e o) (di (dq hu e))
theorem a5y(e:H p=none)(o:HO):Gr U H (U++[p]) (upd H p o) :=
 ⟨⟨[p],rfl,by simpa using e⟩,(ur (U:=U) e o).tup,(ur (U:=U) e o).frz,(ur (U:=U) e o).oth,(ur (U:=U) e o).kp⟩
theorem HRep.add(r:HRep K U H h)(e:H p=none)(q:ORep K (U++[p]) (upd H p o) p ob):HRep K (U++[p]) (upd H p o) (h++[ob]):=by
 refine⟨?_,by simp[r.len],λi a o' e1 e2=>?_⟩
 .rw[List.nodup_append];exact⟨r.nd,by simp,λa ha b hb z=>r.notin e (by rw[List.mem_singleton.mp hb]at z;rw[<-z];exact ha)⟩
 .by_cases hi:i<U.length
  .rw[List.getElem?_append_left hi]at e1;rw[List.getElem?_append_left (by rw[<-r.len];exact hi)]at e2
   have q:=r.obj i a o' e1 e2;obtain⟨u,hu,_⟩:=q.some;exact q.mono (a5y e o) (di (dq hu e))
  .have hi2:i<(U++[p]).length:=(List.getElem?_eq_some_iff.mp e1).1;have:i=U.length:=by simp at hi2;lia
   subst this;rw[List.getElem?_append_right (Nat.le_refl _)]at e1;rw[r.len,List.getElem?_append_right (Nat.le_refl _)]at e2;simp at e1 e2;subst e1 e2;exact q
theorem a0u{i:Nat}(r:HRep K U H h)(e:U[i]? = some a)(o:HO):Gr U H U (upd H a o):=by
 obtain⟨_,_,q⟩:=r.at e;obtain⟨u,hu,n1,n2⟩:=q.some;refine⟨⟨[],by simp,by simp⟩,λb vs hb=>?_,λb o' u' hb=>?_,λb u' hb hn=>?_,λb u' hb=>?_⟩
 .rw[di (λz=>by subst z;rw[hu]at hb;exact n1 _ (Option.some.inj hb))];exact hb
 .rw[di (λz=>by subst z;rw[hu]at hb;exact n2 _ _ (Option.some.inj hb))];exact hb
 .rw[di (λz=>hn (by subst z;exact List.mem_of_getElem? e))];exact hb
 .by_cases z:b=a
  .subst z;exact⟨o,gh⟩
  .exact⟨u',by rw[di z];exact hb⟩
theorem HRep.put(r:HRep K U H h){i:Nat}(e:U[i]? = some a)(q:ORep K U (upd H a o) a ob):HRep K U (upd H a o) (h.set i ob):=by
 refine⟨r.nd,by rw[List.length_set];exact r.len,λj b o' e1 e2=>?_⟩
 by_cases hj:i=j
 .subst hj;rw[e]at e1;cases e1
  have hi:i<h.length:=by rw[<-r.len];exact(List.getElem?_eq_some_iff.mp e).1
  rw[List.getElem?_set_self hi]at e2;cases e2
  exact q
 .rw[List.getElem?_set_ne hj]at e2;have hne:b≠a:=λz=>by
   subst z;obtain⟨h1,g1⟩:=List.getElem?_eq_some_iff.mp e;obtain⟨h2,g2⟩:=List.getElem?_eq_some_iff.mp e1;have np:=List.pairwise_iff_getElem.mp r.nd
   rcases Nat.lt_or_gt_of_ne hj with l|l
   .exact np i j h1 h2 l (g1.trans g2.symm)
   .exact np j i h2 h1 l (g2.trans g1.symm)
  exact(r.obj j b o' e1 e2).mono (a0u r e o) (di hne)
end
structure SRep (K:Fg) (U:List Addr) (H:Hp) (Z:St) (τ:Sd):Prop where
 len:Z.length=τ.length
 val:∀(i:Nat) (d:D),τ[i]? = some (some d)->∃v,Z[i]? = some (some v)/\Rep K U H v d
theorem SRep.mono(g:Gr U H U' H')(s:SRep K U H Z τ):SRep K U' H' Z τ :=
 ⟨s.len,λi d e=>let ⟨v,h1,h2⟩:=s.val i d e; ⟨v,h1,h2.mono g⟩⟩
theorem SRep.set(s:SRep K U H Z τ)(r:Rep K U H v d)(i:Nat):SRep K U H (Z.set i (some v)) (τ.set i (some d)):=by
 refine⟨by simp[s.len],λj d' e=>?_⟩
 by_cases hj:i=j
 .subst hj;have hi:i<τ.length:=by
   have:=(List.getElem?_eq_some_iff.mp e).1
   simpa using this
  rw[List.getElem?_set_self hi]at e;cases e
  exact⟨v,by rw[List.getElem?_set_self (by rw[s.len];exact hi)],r⟩
 .rw[List.getElem?_set_ne hj]at e ⊢;exact s.val j d' e
abbrev XD:=Str->List Addr->Hp->Hd->Prop
def out{α β:Type}(K:Fg)(E:XD)(Rp:List Addr->Hp->β->α->Prop)(U:List Addr)(H:Hp)(r:R α)(Q:β->Hp->Prop):Prop :=
 match r with
 |.ok a h=>∀U' H' b,Gr U H U' H'->Rp U' H' b a->HRep K U' H' h->Q b H'
 |.ex c h=>∀U' H',Gr U H U' H'->HRep K U' H' h->E c U' H' h
 |.no=>False
theorem qj{α β:Type}{K:Fg}{E:XD}{Rp:List Addr->Hp->β->α->Prop}{U U1:List Addr}{H H1:Hp}{r:R α}{Q:β->Hp->Prop}(o:out K E Rp U H r Q)(g:Gr U H U1 H1):out K E Rp U1 H1 r Q:=by
 cases r with
 |ok a h=>exact λU' H' b g'=>o U' H' b (g.trans g')
 |ex c h=>exact λU' H' g'=>o U' H' (g.trans g')
 |no=>exact o
theorem bh{α β γ δ:Type}{K:Fg}{E:XD}{Rp:List Addr->Hp->β->α->Prop}{Sp:List Addr->Hp->δ->γ->Prop}{U:List Addr}{H:Hp}{r:R α}{k:α->Hd->R γ}{Q:δ->Hp->Prop}{P:β->Hp->Prop}
  (o:out K E Sp U H (r.bind k) Q) (hP:∀a h U1 H1 b,Gr U H U1 H1->Rp U1 H1 b a->HRep K U1 H1 h->out K E Sp U1 H1 (k a h) Q->P b H1):out K E Rp U H r P:=by
 cases r with
 |ok a h=>exact λU' H' b g r' hr=>hP a h U' H' b g r' hr (qj o g)
 |ex c h=>exact o
 |no=>exact o
abbrev ql(K:Fg):List Addr->Hp->V->D->Prop:=λU H v d=>Rep K U H v d
abbrev b0j(K:Fg):List Addr->Hp->List V->List D->Prop:=λU H v d=>Reps K U H v d
abbrev a96:List Addr->Hp->Bool->Bool->Prop:=λ_ _ a b=>a=b
abbrev b0k:List Addr->Hp->Option Int->Option Int->Prop:=λ_ _ a b=>a=b
def ahf(K:Fg)(E:XD)(U:List Addr)(H:Hp)(r:Fl)(N:Ends):Prop :=
 match r with
 |.nx τ h=>∀U' H' Z,Gr U H U' H'->SRep K U' H' Z τ->HRep K U' H' h->N.nx Z H'
 |.bk τ h=>∀U' H' Z,Gr U H U' H'->SRep K U' H' Z τ->HRep K U' H' h->N.bk Z H'
 |.ct τ h=>∀U' H' Z,Gr U H U' H'->SRep K U' H' Z τ->HRep K U' H' h->N.ct Z H'
 |.rt d h=>∀U' H' v,Gr U H U' H'->Rep K U' H' v d->HRep K U' H' h->N.rt v H'
 |.ex c h=>∀U' H',Gr U H U' H'->HRep K U' H' h->E c U' H' h
 |.no=>False
theorem u6(o:ahf K E U H r N)(g:Gr U H U1 H1):ahf K E U1 H1 r N:=by
 cases r with
 |nx τ h=>exact λU' H' b g'=>o U' H' b (g.trans g')
 |bk τ h=>exact λU' H' b g'=>o U' H' b (g.trans g')
 |ct τ h=>exact λU' H' b g'=>o U' H' b (g.trans g')
 |rt d h=>exact λU' H' b g'=>o U' H' b (g.trans g')
 |ex c h=>exact λU' H' g'=>o U' H' (g.trans g')
 |no=>exact o
theorem p6{α β:Type}{K:Fg}{E:XD}{Rp:List Addr->Hp->β->α->Prop}{U:List Addr}{H:Hp}{r:R α}{k:α->Hd->Fl}{N:Ends}{P:β->Hp->Prop}
  (o:ahf K E U H (r.fl k) N) (hP:∀a h U1 H1 b,Gr U H U1 H1->Rp U1 H1 b a->HRep K U1 H1 h->ahf K E U1 H1 (k a h) N->P b H1):out K E Rp U H r P:=by
 cases r with
 |ok a h=>exact λU' H' b g r' hr=>hP a h U' H' b g r' hr (u6 o g)
 |ex c h=>exact o
 |no=>exact o
def lift{α β:Type}(K:Fg)(E:XD)(Rp:List Addr->Hp->β->α->Prop)(f:Sd->Hd->R α):St->Hp->(β->Hp->Prop)->Prop:=λZ H Q =>
 ∃U τ h,SRep K U H Z τ/\HRep K U H h/\out K E Rp U H (f τ h) Q
noncomputable def a6v(K:Fg)(E:XD)(f:SS):TS:=λN Z H=>∃U τ h,SRep K U H Z τ/\HRep K U H h/\ahf K E U H (f τ h) N
abbrev ME(X:Cx)(E:XD)(e:Expr)(f:SE):Prop:=PE X e (lift X.K E (ql X.K) f)
abbrev MT(X:Cx)(E:XD)(e:Expr)(f:ST):Prop:=PT X e (lift X.K E a96 f)
abbrev MW(X:Cx)(E:XD)(e:Expr)(f:ST):Prop:=PW X e (lift X.K E a96 f)
abbrev MA(X:Cx)(E:XD)(es:List Expr)(f:SA):Prop:=PA X es (lift X.K E (b0j X.K) f)
abbrev MS(X:Cx)(E:XD)(st:Stmt)(f:SS):Prop:=PS X st (a6v X.K E f)
abbrev MSs(X:Cx)(E:XD)(st:List Stmt)(f:SS):Prop:=PSs X st (a6v X.K E f)
theorem PE.weak(h:PE X e t)(i:∀Z H Q,t' Z H Q->t Z H Q):PE X e t':=λaA s Z H Q I q=>h aA s Z H Q I (i _ _ _ q)
theorem PT.weak(h:PT X e t)(i:∀Z H Q,t' Z H Q->t Z H Q):PT X e t':=λaA s Z H Q I q=>h aA s Z H Q I (i _ _ _ q)
theorem PW.weak(h:PW X e t)(i:∀Z H Q,t' Z H Q->t Z H Q):PW X e t':=λwh aA s Z H Q I q=>h wh aA s Z H Q I (i _ _ _ q)
theorem PA.weak(h:PA X e t)(i:∀Z H Q,t' Z H Q->t Z H Q):PA X e t':=λpos aA s Z H Q I q=>h pos aA s Z H Q I (i _ _ _ q)
theorem PS.weak(h:PS X e t)(i:∀N Z H,t' N Z H->t N Z H):PS X e t':=λaA s Z H N I q=>h aA s Z H N I (i _ _ _ q)
theorem PSs.weak(h:PSs X e t)(i:∀N Z H,t' N Z H->t N Z H):PSs X e t':=λaA s Z H N I q=>h aA s Z H N I (i _ _ _ q)
abbrev LINE:Nat:=16777216
theorem ll{n:Nat}(h:n<=LINE):n<=sizeLine:=an5 h
noncomputable def sV(i:Nat):SE:=λτ h=>match τ[i]? with|some (some d)=>.ok d h|_=>.no
noncomputable def sC(d:D):SE:=λ_ h=>.ok d h
noncomputable abbrev sI(i:Int):SE:=sC (.int i)
section
variable{X:Cx}{E:XD}{a b c e:Expr}{fa fb fc:SE}{pos:Pos}
theorem b0l(i:Nat)(hN:X.N[i]? = some x:=by rfl)(hv:Vis X.env.scope x:=by with_unfolding_all first|exact Or.inl rfl|exact Or.inr (Or.inl rfl)|exact Or.inr (Or.inr rfl))(hd:(x == ("__debug__" : Str))=false:=by decide)
  (hcd:(x == ("__classdict__" : Str))=false:=by decide):ME X E (.Name x pos) (sV i):=by
 refine PE.weak (aqw hN hv hd hcd) ?_
 rintro Z H Q ⟨U,τ,h,S,Rh,o⟩
 unfold sV at o
 split at o
 .rename_i d e;obtain⟨v,h1,h2⟩:=S.val i d e;exact⟨v,h1,o U H v (.refl _ _) h2 Rh⟩
 .exact o.elim
theorem asp(h:PE X e (tC v))(r:∀U H,Rep X.K U H v d):ME X E e (sC d) :=
 PE.weak h λZ H Q ⟨U,τ,h,S,Rh,o⟩=>o U H v (.refl _ _) (r U H) Rh
theorem asq{i j pos}:ME X E (.Constant (.int i) j pos) (sC (.int i)):=asp aqx λ_ _=>.int i
theorem ay0{i j pos}:ME X E (.Constant (.bool i) j pos) (sC (.bl i)):=asp ax2 λ_ _=>.bl i
theorem asr{i j pos}:ME X E (.Constant (.str i) j pos) (sC (.str i)):=asp aqz λ_ _=>.str i
theorem ass{j pos}:ME X E (.Constant .none j pos) (sC .non):=asp aqy λ_ _=>.non
theorem aid(hg:Gl X x)(hm:X.mg x=none)(hv:bootBuiltins x=some (.type n))(hn:x ≠ "__name__":=by decide)(hd:(x == ("__debug__" : Str))=false:=by decide):ME X E (.Name x pos) (sC (.ty n)) :=
 asp (ama (v:=.ty n) hg hm hv rfl hn hd) λ_ _=>.ty n
noncomputable def s2(g:D->D->Hd->R D)(fa fb:SE):SE:=λτ h=>(fa τ h).bind λx h1=>(fb τ h1).bind λy h2=>g x y h2
noncomputable def s1(g:D->Hd->R D)(fa:SE):SE:=λτ h=>(fa τ h).bind g
def a2g(K:Fg)(g:D->D->Hd->R D)(r:R2):Prop:=∀(E:XD) U H h x y dx dy Q,Rep K U H x dx->Rep K U H y dy->HRep K U H h->out K E (ql K) U H (g dx dy h) Q->r x y H Q
def b0m(K:Fg)(g:D->Hd->R D)(r:V->Hp->VK->Prop):Prop:=∀(E:XD) U H h x dx Q,Rep K U H x dx->HRep K U H h->out K E (ql K) U H (g dx h) Q->r x H Q
def ad5(K:Fg)(g:List D->Hd->R D)(r:List V->Hp->VK->Prop):Prop:=∀(E:XD) U H h xs ds Q,Reps K U H xs ds->HRep K U H h->out K E (ql K) U H (g ds h) Q->r xs H Q
theorem awm(hs:a2g K g r)(q:lift K E (ql K) (s2 g fa fb) Z H Q):tOp r (lift K E (ql K) fa) (lift K E (ql K) fb) Z H Q:=by
 obtain⟨U,τ,h,S,Rh,o⟩:=q;refine⟨U,τ,h,S,Rh,bh o λd h1 U1 H1 v g1 r1 hr1 o1=>?_⟩;refine⟨U1,τ,h1,S.mono g1,hr1,bh o1 λd2 h2 U2 H2 u g2 r2 hr2 o2=>?_⟩;exact hs E U2 H2 h2 v u d d2 Q (r1.mono g2) r2 hr2 o2
theorem ac3(ho:OpR X (binaryOp op) r)(hs:a2g X.K g r)(ha:ME X E a fa)(hb:ME X E b fb):ME X E (.BinOp a op b pos) (s2 g fa fb) :=
 PE.weak (axf ho ha hb) λZ H Q q=>awm hs q
theorem aee(ho:OpR X (compareOp op) r)(hs:a2g X.K g r)(ha:ME X E a fa)(hb:ME X E b fb)(hm:behindInMarks op b=false):ME X E (.Compare a [op] [b] pos) (s2 g fa fb) :=
 PE.weak (amj ho ha hb hm) λZ H Q q=>awm hs q
theorem ay1(ho:UnR X (unaryOp op) r)(hs:b0m X.K g r)(ha:ME X E a fa):ME X E (.UnaryOp op a pos) (s1 g fa):=by
 refine PE.weak (axg ho ha) ?_
 rintro Z H Q ⟨U,τ,h,S,Rh,o⟩
 exact⟨U,τ,h,S,Rh,bh o λd h1 U1 H1 v g1 r1 hr1 o1=>hs E U1 H1 h1 v d Q r1 hr1 o1⟩
theorem ay2(ho:IxR X r)(hs:a2g X.K g r)(ha:ME X E a fa)(hb:ME X E b fb)(hp:a6j b):ME X E (.Subscript a b pos) (s2 g fa fb) :=
 PE.weak (axq ho ha hb hp) λZ H Q q=>awm hs q
noncomputable def asB(d:D)(h:Hd):R Bool:=match d with|.bl b=>.ok b h|_=>.no
noncomputable def sT(f:SE):ST:=λτ h=>(f τ h).bind asB
theorem an7(hi:∀Z H Q,lift K E (ql K) f Z H Q->t Z H Q)(q:lift K E a96 (sT f) Z H Q):ars t Z H Q:=by
 refine hi Z H _ ?_;obtain⟨U,τ,h,S,Rh,o⟩:=q;refine⟨U,τ,h,S,Rh,bh o λd h1 U1 H1 v g1 r1 hr1 o1=>?_⟩
 cases r1 with
 |bl b=>exact⟨b,rfl,o1 U1 H1 b (.refl _ _) rfl hr1⟩
 |_=>exact o1.elim
theorem a6w(ho:OpR X (compareOp op) r)(hs:a2g X.K g r)(ha:ME X E a fa)(hb:ME X E b fb)(hm:behindInMarks op b=false):MT X E (.Compare a [op] [b] pos) (sT (s2 g fa fb)) :=
 PT.weak (amk ho ha hb hm) λZ H Q q=>an7 (λ_ _ _=>awm hs) q
noncomputable def sCh(g g':D->D->Hd->R D)(fa fb fc:SE):SE:=λτ h=>(fa τ h).bind λx h1=>(fb τ h1).bind λy h2=>(g x y h2).bind λz h3=>match z with
 |.bl true=>(fc τ h3).bind λw h4=>g' y w h4
 |.bl false=>.ok (.bl false) h3
 |_=>.no
theorem asu(hs:a2g K g r)(hs':a2g K g' r')(q:lift K E (ql K) (sCh g g' fa fb fc) Z H Q) :
  akq r r' (lift K E (ql K) fa) (lift K E (ql K) fb) (lift K E (ql K) fc) Z H Q:=by
 obtain⟨U,τ,h,S,Rh,o⟩:=q;refine⟨U,τ,h,S,Rh,bh o λd h1 U1 H1 v g1 r1 hr1 o1=>?_⟩;refine⟨U1,τ,h1,S.mono g1,hr1,bh o1 λd2 h2 U2 H2 u g2 r2 hr2 o2=>?_⟩;refine hs E U2 H2 h2 v u d d2 _ (r1.mono g2) r2 hr2 (bh o2 λd3 h3 U3 H3 z g3 r3 hr3 o3=>?_)
 cases r3 with
 |bl k =>
  refine⟨k,rfl,?_⟩
  cases k with
  |true =>
   rw[if_pos rfl];refine⟨U3,τ,h3,((S.mono g1).mono g2).mono g3,hr3,bh o3 λd4 h4 U4 H4 w g4 r4 hr4 o4=>?_⟩;exact hs' E U4 H4 h4 u w d2 d4 Q ((r2.mono g3).mono g4) r4 hr4 o4
  |false =>
   rw[if_neg Bool.false_ne_true];exact o3 U3 H3 (.bl false) (.refl _ _) (.bl false) hr3
 |_=>exact o3.elim
theorem aie(ho:OpR X (compareOp op) r)(ho':OpR X (compareOp op') r')(hs:a2g X.K g r)(hs':a2g X.K g' r')(ha:ME X E a fa)(hb:ME X E b fb)(hc:ME X E c fc)
  (hm:lastMarks [op,op'] [b,c]=false:=by with_unfolding_all rfl):ME X E (.Compare a [op,op'] [b,c] pos) (sCh g g' fa fb fc) :=
 PE.weak (ahu ho ho' ha hb hc hm) λZ H Q q=>asu hs hs' q
noncomputable def tru(d:D)(h:Hd):R Bool:=match d with
 |.non=>.ok false h
 |.bl b=>.ok b h
 |.int i=>.ok (i != 0) h
 |.str x=>if x.length<=LINE then .ok ((x.length:Int) != 0) h else .no
 |.tup xs=>.ok (!xs.isEmpty) h
 |.rol xs=>.ok (!xs.isEmpty) h
 |.ref i=>match h[i]? with
  |some (.lst xs)=>.ok (!xs.isEmpty) h
  |some (.dK kvs)=>.ok (!kvs.isEmpty) h
  |_=>.no
 |_=>.no
theorem Reps.emp{K:Fg}{U:List Addr}{H:Hp}{vs:List V}{ds:List D}(r:Reps K U H vs ds):vs.isEmpty=ds.isEmpty:=by cases r<;>rfl
theorem KRep.emp{κ:Type}{K:Fg}{U:List Addr}{H:Hp}{us:List (κ×V)}{kvs:List (κ×D)}(r:KRep K U H us kvs):us.isEmpty=kvs.isEmpty:=by
 have:=congrArg List.length r.1
 cases us<;>cases kvs<;>simp at this ⊢
theorem an8{K:Fg}{U:List Addr}{H:Hp}{h:Hd}{x:V}{d:D}{Q:Bool->Hp->Prop}(r:Rep K U H x d)(hr:HRep K U H h)(o:out K E a96 U H (tru d h) Q):∃k,axl K x H k/\Q k H:=by
 cases r with
 |non=>exact⟨false,rfl,o U H _ (.refl _ _) rfl hr⟩
 |bl b=>exact⟨b,rfl,o U H _ (.refl _ _) rfl hr⟩
 |int i=>exact⟨_,rfl,o U H _ (.refl _ _) rfl hr⟩
 |str x =>
  by_cases hl:x.length<=LINE
  .simp only[tru,if_pos hl]at o;exact⟨_,⟨ll hl,rfl⟩,o U H _ (.refl _ _) rfl hr⟩
  .simp only[tru,if_neg hl]at o;exact o.elim
 |ty n=>exact o.elim
 |rod _ _ _=>exact o.elim
 |scr _ _=>exact o.elim
 |rdT _ _ _=>exact o.elim
 |exc _ _ _=>exact o.elim
 |ins _ _ _ _=>exact o.elim
 |tup e rs=>exact⟨_,.inr (.inl ⟨_,SqT.of e,rfl⟩),by rw[rs.emp];exact o U H _ (.refl _ _) rfl hr⟩
 |rol e rs=>exact⟨_,.inl ⟨_,e.l,rfl⟩,by rw[rs.emp];exact o U H _ (.refl _ _) rfl hr⟩
 |@ref a i e =>
  obtain⟨ob,h1,h2⟩:=hr.at e;simp only[tru,h1]at o
  cases ob with
  |lst xs =>
   obtain⟨vs,h3,h4⟩:=h2;exact⟨_,.inl ⟨_,SqL.of h3,rfl⟩,by rw[h4.emp];exact o U H _ (.refl _ _) rfl hr⟩
  |dK kvs =>
   obtain⟨us,h3,h4⟩:=h2;exact⟨_,.inr (.inr ⟨_,h3,rfl⟩),by rw[h4.emp];exact o U H _ (.refl _ _) rfl hr⟩
  |dT kvs=>exact o.elim
  |ins _ _=>exact o.elim
noncomputable def a5j(f:SE):ST:=λτ h=>(f τ h).bind tru
theorem asv(ha:ME X E a fa)(he:∀whole,isTrue a X.env whole=(do let v <-whole;standAt a.pos;holding [v] (truthy v)):=by intro _;rfl):MT X E a (a5j fa):=by
 refine PT.weak (ahv ha he) ?_
 rintro Z H Q ⟨U,τ,h,S,Rh,o⟩
 exact⟨U,τ,h,S,Rh,bh o λd h1 U1 H1 v g1 r1 hr1 o1=>an8 r1 hr1 o1⟩
noncomputable def ac4(f g:ST):ST:=λτ h=>(f τ h).bind λb h1=>if b=true then g τ h1 else .ok false h1
noncomputable def sOr(f g:ST):ST:=λτ h=>(f τ h).bind λb h1=>if b=true then .ok true h1 else g τ h1
noncomputable def a8a(f:ST):ST:=λτ h=>(f τ h).bind λb h1=>.ok (!b) h1
variable{ga gb:ST}
theorem an9(ha:MT X E a ga):MW X E (.BoolOp .And [a] pos) ga:=amb ha
theorem asw(ha:MT X E a ga):MW X E (.BoolOp .Or [a] pos) ga:=ar0 ha
theorem asx{aG:List Expr}(ha:MT X E a ga)(hb:MW X E (.BoolOp .And (b::aG) pos) gb):MW X E (.BoolOp .And (a::b::aG) pos) (ac4 ga gb):=by
 refine PW.weak (ar3 ha hb) ?_
 rintro Z H Q ⟨U,τ,h,S,Rh,o⟩
 refine⟨U,τ,h,S,Rh,bh o λd h1 U1 H1 v g1 r1 hr1 o1=>?_⟩;cases r1
 cases d with
 |true=>exact⟨U1,τ,h1,S.mono g1,hr1,o1⟩
 |false=>exact o1 U1 H1 false (.refl _ _) rfl hr1
theorem ay3{aG:List Expr}(ha:MT X E a ga)(hb:MW X E (.BoolOp .Or (b::aG) pos) gb):MW X E (.BoolOp .Or (a::b::aG) pos) (sOr ga gb):=by
 refine PW.weak (ax3 ha hb) ?_
 rintro Z H Q ⟨U,τ,h,S,Rh,o⟩
 refine⟨U,τ,h,S,Rh,bh o λd h1 U1 H1 v g1 r1 hr1 o1=>?_⟩;cases r1
 cases d with
 |true=>exact o1 U1 H1 true (.refl _ _) rfl hr1
 |false=>exact⟨U1,τ,h1,S.mono g1,hr1,o1⟩
theorem asy(ha:MT X E a ga):MT X E (.UnaryOp .Not a pos) (a8a ga):=by
 refine PT.weak (ar4 ha) ?_
 rintro Z H Q ⟨U,τ,h,S,Rh,o⟩
 refine⟨U,τ,h,S,Rh,bh o λd h1 U1 H1 v g1 r1 hr1 o1=>?_⟩;cases r1
 exact o1 U1 H1 _ (.refl _ _) rfl hr1
noncomputable def a1c(f g:SE):SE:=λτ h=>(f τ h).bind λd h1=>match d with|.bl true=>g τ h1|.bl false=>.ok (.bl false) h1|_=>.no
noncomputable def awn(f g:SE):SE:=λτ h=>(f τ h).bind λd h1=>match d with|.bl true=>.ok (.bl true) h1|.bl false=>g τ h1|_=>.no
noncomputable def a8b(f:SE):SE:=λτ h=>(f τ h).bind λd h1=>match d with|.bl b=>.ok (.bl (!b)) h1|_=>.no
theorem asz{op}(ha:ME X E a fa):ME X E (.BoolOp op [a] pos) fa:=ar5 ha
theorem at6{aG:List Expr}(ha:ME X E a fa)(hb:ME X E (.BoolOp .And (b::aG) pos) fb):ME X E (.BoolOp .And (a::b::aG) pos) (a1c fa fb):=by
 refine PE.weak (ar6 ha hb) ?_
 rintro Z H Q ⟨U,τ,h,S,Rh,o⟩
 refine⟨U,τ,h,S,Rh,bh o λd h1 U1 H1 v g1 r1 hr1 o1=>?_⟩
 cases r1 with
 |bl k =>
  refine⟨k,rfl,?_⟩
  cases k with
  |true=>exact⟨U1,τ,h1,S.mono g1,hr1,o1⟩
  |false=>exact o1 U1 H1 _ (.refl _ _) (.bl _) hr1
 |_=>exact o1.elim
theorem at7(ha:ME X E a fa):ME X E (.UnaryOp .Not a pos) (a8b fa):=by
 refine PE.weak (ar7 ha) ?_
 rintro Z H Q ⟨U,τ,h,S,Rh,o⟩
 refine⟨U,τ,h,S,Rh,bh o λd h1 U1 H1 v g1 r1 hr1 o1=>?_⟩
 cases r1 with
 |bl k=>exact⟨k,rfl,o1 U1 H1 _ (.refl _ _) (.bl _) hr1⟩
 |_=>exact o1.elim
noncomputable def awo(c:ST)(f g:SE):SE:=λτ h=>(c τ h).bind λb h1=>if b=true then f τ h1 else g τ h1
noncomputable def bj:SA:=λ_ h=>.ok [] h
noncomputable def aj(f:SE)(g:SA):SA:=λτ h=>(f τ h).bind λd h1=>(g τ h1).bind λds h2=>.ok (d::ds) h2
variable{es:List Expr}{ka:SA}
theorem at8:MA X E [] bj:=PA.weak a7q λZ H Q ⟨U,τ,h,S,Rh,o⟩=>o U H [] (.refl _ _) .nil Rh
theorem a1d(ha:ME X E e fa)(hr:MA X E es ka)(hs:starEach (e::es) X.env=(false,eval e X.env)::starEach es X.env:=by rfl):MA X E (e::es) (aj fa ka):=by
 refine PA.weak (a1b ha hr hs) ?_
 rintro Z H Q ⟨U,τ,h,S,Rh,o⟩
 refine⟨U,τ,h,S,Rh,bh o λd h1 U1 H1 v g1 r1 hr1 o1=>?_⟩;refine⟨U1,τ,h1,S.mono g1,hr1,bh o1 λd2 h2 U2 H2 u g2 r2 hr2 o2=>?_⟩;exact o2 U2 H2 _ (.refl _ _) (.cons (r1.mono g2) r2) hr2
noncomputable def vf(ds:List D)(h:Hd):R D:=if ds.length<=LINE then .ok (.tup ds) h else .no
noncomputable def a2h(ds:List D)(h:Hd):R D:=if ds.length<=LINE then .ok (.ref h.length) (h++[.lst ds]) else .no
noncomputable def sA(g:List D->Hd->R D)(k:SA):SE:=λτ h=>(k τ h).bind g
theorem a2i(r:Reps K U H vs ds)(hr:HRep K U H h)(o:out K E (ql K) U H (.ok (.tup ds) h) Q):∀p,H p=none->Q (.ref p) (upd H p (.tup vs)):=λp hp =>
 o U _ _ (ur hp _) (.tup gh (r.mono (ur hp _))) (hr.aside hp _)
theorem u9(r:Reps K U H vs ds)(hr:HRep K U H h)(o:out K E (ql K) U H (.ok (.ref h.length) (h++[.lst ds])) Q):∀p,H p=none->Q (.ref p) (upd H p (.lst vs)):=λp hp =>
 o (U++[p]) _ _ (a5y hp _) (.ref (by rw[List.getElem?_append_right (by rw[hr.len];exact Nat.le_refl _),hr.len];simp)) (hr.add hp ⟨_,gh,r.mono (a5y hp _)⟩)
theorem a6x{K:Fg}{U:List Addr}{H:Hp}{h:Hd}{i:Nat}{a:Addr}{vs:List V}{ds:List D}{d:D}{v:V}{Q:VK}(r:Reps K U H vs ds)(hr:HRep K U H h)(hi:U[i]? = some a)(rd:Rep K U H v d)(o:out K E (ql K) U H (.ok d (h.set i (.lst ds))) Q):Q v (upd H a (.lst vs)) :=
 o U _ _ (a0u hr hi _) (rd.mono (a0u hr hi _)) (hr.put hi ⟨_,gh,r.mono (a0u hr hi _)⟩)
theorem at9{x1}(h:MA X E es ka):ME X E (.Tuple es x1 pos) (sA vf ka):=by
 refine PE.weak (aru h) ?_
 rintro Z H Q ⟨U,τ,h,S,Rh,o⟩
 refine⟨U,τ,h,S,Rh,bh o λd h1 U1 H1 v g1 r1 hr1 o1=>?_⟩;unfold vf at o1
 split at o1
 .rename_i hl;exact⟨ll (by rw[r1.len];exact hl),a2i r1 hr1 o1⟩
 .exact o1.elim
theorem ata(h:MA X E es ka):ME X E (.List es pos) (sA a2h ka):=by
 refine PE.weak (arv h) ?_
 rintro Z H Q ⟨U,τ,h,S,Rh,o⟩
 refine⟨U,τ,h,S,Rh,bh o λd h1 U1 H1 v g1 r1 hr1 o1=>?_⟩;unfold a2h at o1
 split at o1
 .rename_i hl;exact⟨ll (by rw[r1.len];exact hl),u9 r1 hr1 o1⟩
 .exact o1.elim
theorem a9o{x:Str}{p:Pos}{id:String}{r:List V->Hp->VK->Prop}{g:List D->Hd->R D}(hc:CallR X (.builtin id) r)(hs:ad5 X.K g r)(hg:Gl X x)(hm:X.mg x=none)(hv:bootBuiltins x=some (.builtin id))(ha:MA X E (e::es) ka)(hn:x ≠ "__name__":=by decide)(hdb:(x == ("__debug__" : Str))=false:=by decide)
  (he:starEach (e::es) X.env=(false,eval e X.env)::starEach es X.env:=by rfl) (hpl:(backTo pos (starEach es X.env)).any (·.1)=false:=by rfl):ME X E (.Call (.Name x p) (e::es) [] pos) (sA g ka):=by
 refine PE.weak (ahy hc hg hm hv ha hn hdb he hpl) ?_
 rintro Z H Q ⟨U,τ,h,S,Rh,o⟩
 exact⟨U,τ,h,S,Rh,bh o λd h1 U1 H1 v g1 r1 hr1 o1=>hs E U1 H1 h1 v d Q r1 hr1 o1⟩
theorem aef{x:Str}{p:Pos}{id:String}{r:List V->Hp->VK->Prop}{g:List D->Hd->R D}(hc:CallR X (.type id) r)(hs:ad5 X.K g r)(hg:Gl X x)(hm:X.mg x=none)(hv:bootBuiltins x=some (.type id))(ha:MA X E (e::es) ka)(hn:x ≠ "__name__":=by decide)(hdb:(x == ("__debug__" : Str))=false:=by decide)
  (he:starEach (e::es) X.env=(false,eval e X.env)::starEach es X.env:=by rfl) (hpl:(backTo pos (starEach es X.env)).any (·.1)=false:=by rfl):ME X E (.Call (.Name x p) (e::es) [] pos) (sA g ka):=by
 refine PE.weak (a7v hc hg hm hv ha hn hdb he hpl) ?_
 rintro Z H Q ⟨U,τ,h,S,Rh,o⟩
 exact⟨U,τ,h,S,Rh,bh o λd h1 U1 H1 v g1 r1 hr1 o1=>hs E U1 H1 h1 v d Q r1 hr1 o1⟩
end
noncomputable def dw(f g:SS):SS:=λτ h=>match f τ h with|.nx τ1 h1=>g τ1 h1|r=>r
noncomputable def sNx:SS:=λτ h=>.nx τ h
noncomputable def sBk:SS:=λτ h=>.bk τ h
noncomputable def a06(f:SE):SS:=λτ h=>(f τ h).fl λd h1=>.rt d h1
noncomputable def vg(f:SE):SS:=λτ h=>(f τ h).fl λ_ h1=>.nx τ h1
noncomputable def sIf(c:ST)(f g:SS):SS:=λτ h=>(c τ h).fl λb h1=>if b=true then f τ h1 else g τ h1
noncomputable def iz(i:Nat)(f:SE):SS:=λτ h=>(f τ h).fl λd h1=>.nx (τ.set i (some d)) h1
noncomputable def ad6(i:Nat)(g:D->D->Hd->R D)(f:SE):SS:=λτ h=>match τ[i]? with
 |some (some x)=>(f τ h).fl λy h1=>(g x y h1).fl λz h2=>.nx (τ.set i (some z)) h2
 |_=>.no
section
variable{X:Cx}{E:XD}{e o:Expr}{es:List Expr}{fa fb fc:SE}{ga:ST}{st:Stmt}{sts a b:List Stmt}{f g:SS}{pos:Pos}
theorem ana:MSs X E [] sNx:=PSs.weak amc λN Z H ⟨U,τ,h,S,Rh,o⟩=>o U H Z (.refl _ _) S Rh
theorem atb(q:a6v K E (dw f g) N Z H):a6v K E f {N with nx:=a6v K E g N} Z H:=by
 obtain⟨U,τ,h,S,Rh,o⟩:=q;refine⟨U,τ,h,S,Rh,?_⟩;unfold dw at o
 cases hf:f τ h with
 |nx τ1 h1 =>
  rw[hf]at o;exact λU1 H1 Z1 g1 S1 R1=>⟨U1,τ1,h1,S1,R1,u6 o g1⟩
 |_=>rw[hf]at o;exact o
theorem aak(h1:MS X E st f)(h2:MSs X E sts g):MSs X E (st::sts) (dw f g):=PSs.weak (ahq h1 h2) λN Z H q=>atb q
theorem aeg(h1:MS X E st f):MSs X E [st] f:=amd h1
theorem aif:MS X E (.Break pos) sBk:=PS.weak ahr λN Z H ⟨U,τ,h,S,Rh,o⟩=>o U H Z (.refl _ _) S Rh
theorem atc(he:ME X E e fa):MS X E (.Return (some e) pos) (a06 fa):=by
 refine PS.weak (ar9 he) ?_
 rintro N Z H ⟨U,τ,h,S,Rh,o⟩
 exact⟨U,τ,h,S,Rh,p6 o λd h1 U1 H1 v g1 r1 hr1 o1=>o1 U1 H1 v (.refl _ _) r1 hr1⟩
theorem anb(he:ME X E e fa)(hs:swapsWith e none pos.line X.env=pure false:=by rfl):MS X E (.Expr e pos) (vg fa):=by
 refine PS.weak (ame he hs) ?_
 rintro N Z H ⟨U,τ,h,S,Rh,o⟩
 exact⟨U,τ,h,S,Rh,p6 o λd h1 U1 H1 v g1 r1 hr1 o1=>o1 U1 H1 Z (.refl _ _) (S.mono g1) hr1⟩
theorem ay4(hc:MT X E c ga)(ha:MSs X E a f)(hb:MSs X E b g):MS X E (.If c a b pos) (sIf ga f g):=by
 refine PS.weak (ax8 hc ha hb) ?_
 rintro N Z H ⟨U,τ,h,S,Rh,o⟩
 refine⟨U,τ,h,S,Rh,p6 o λd h1 U1 H1 v g1 r1 hr1 o1=>?_⟩;cases r1
 cases d with
 |true=>exact⟨U1,τ,h1,S.mono g1,hr1,o1⟩
 |false=>exact⟨U1,τ,h1,S.mono g1,hr1,o1⟩
theorem atd(hN:X.N.Nodup)(hi:X.N[i]? = some x)(hx:Loc X.env.scope x)(he:ME X E e fa)(hs:swapsWith e (some (.Name x pos')) pos.line X.env=pure false:=by rfl)(hf:Hf X x:=by with_unfolding_all first|exact .inl rfl|exact .inr rfl|assumption) :
  MS X E (.Assign [.Name x pos'] e pos) (iz i fa):=by
 refine PS.weak (ard hN hi hx he hs hf) ?_
 rintro N Z H ⟨U,τ,h,S,Rh,o⟩
 exact⟨U,τ,h,S,Rh,p6 o λd h1 U1 H1 v g1 r1 hr1 o1=>o1 U1 H1 _ (.refl _ _) ((S.mono g1).set r1 i) hr1⟩
theorem ate(hN:X.N.Nodup)(hi:X.N[i]? = some x)(hx:Loc X.env.scope x)(ho:OpR X (inplaceOp op) r)(hs:a2g X.K gg r)(he:ME X E e fa)(hf:Hf X x:=by with_unfolding_all first|exact .inl rfl|exact .inr rfl|assumption) :
  MS X E (.AugAssign (.Name x pos') op e pos) (ad6 i gg fa):=by
 refine PS.weak (arf hN hi hx he ho hf) ?_
 rintro N Z H ⟨U,τ,h,S,Rh,o⟩
 unfold ad6 at o
 split at o
 .rename_i d ed;obtain⟨v,h1,h2⟩:=S.val i d ed;refine⟨v,h1,U,τ,h,S,Rh,p6 o λd2 h3 U1 H1 u g1 r1 hr1 o1=>?_⟩;refine hs E U1 H1 h3 v u d d2 _ (h2.mono g1) r1 hr1 (p6 o1 λd3 h4 U2 H2 z g2 r2 hr2 o2=>?_);exact o2 U2 H2 _ (.refl _ _) (((S.mono g1).mono g2).set r2 i) hr2
 .exact o.elim
noncomputable def put(o k v:D)(h:Hd):Option Hd:=match o,k with
 |.ref i,.int j=>match h[i]? with
  |some (.lst xs)=>match ixN xs.length j with
   |some m=>some (h.set i (.lst (xs.set m v)))
   |none=>none
  |_=>none
 |_,_=>none
theorem aeh{K:Fg}{U:List Addr}{H:Hp}{h h':Hd}{o k v:V}{od kd vd:D}{Q:Hp->Prop}(r1:Rep K U H o od)(r2:Rep K U H k kd)(r3:Rep K U H v vd)(hr:HRep K U H h)(e:put od kd vd h=some h')
  (q:∀H',Gr U H U H'->HRep K U H' h'->Q H'):as5 o k v H Q:=by
 cases r1 with
 |@ref a i ha =>
  cases r2 with
  |int j =>
   obtain⟨ob,h1,h2⟩:=hr.at ha
   cases ob with
   |lst xs =>
    obtain⟨vs,h3,h4⟩:=h2;simp only[put,h1]at e
    cases hm:ixN xs.length j with
    |none=>rw[hm]at e;cases e
    |some m =>
     rw[hm]at e;cases e
     exact⟨a,vs,j,m,rfl,rfl,h3,by rw[h4.len];exact hm,q _ (a0u hr ha _) (hr.put ha ⟨_,gh,(h4.set r3 m).mono (a0u hr ha _)⟩)⟩
   |dK _=>simp only[put,h1]at e;cases e
   |dT _=>simp only[put,h1]at e;cases e
   |ins _ _=>simp only[put,h1]at e;cases e
  |_=>cases e
 |_=>cases e
noncomputable def a8c(fe fo fi:SE):SS:=λτ h=>(fe τ h).fl λv h1=>(fo τ h1).fl λo h2=>(fi τ h2).fl λk h3=>match put o k v h3 with|some h4=>.nx τ h4|none=>.no
theorem atf(he:ME X E e fa)(ho:ME X E o fb)(hi:ME X E i fc)
  (hs:swapsWithSole [.Subscript o i pos'] e pos.line X.env=pure false:=by rfl) (hw:swappedStores [.Subscript o i pos'] e X.env=pure none:=by rfl)
  (h1:(assignEach [.Subscript o i pos'] X.env).map (·.2)=[assign (.Subscript o i pos') X.env]:=by rfl)
  (ha:∀v,assign (.Subscript o i pos') X.env v=(do
   let ov <-holding [v] (eval o X.env)
   let iv <-holding [v,ov] (eval i X.env)
   standAt pos'
   holding [v,ov,iv] (setItem ov iv v)
   release [v,ov,iv] []):=by intro _;rfl):MS X E (.Assign [.Subscript o i pos'] e pos) (a8c fa fb fc):=by
 refine PS.weak (ako he (arb ho hi set_list ha) hs hw h1) ?_
 rintro N Z H ⟨U,τ,h,S,Rh,oo⟩
 refine⟨U,τ,h,S,Rh,p6 oo λd h1 U1 H1 v g1 r1 hr1 o1=>?_⟩;refine⟨U1,τ,h1,S.mono g1,hr1,p6 o1 λd2 h2 U2 H2 u g2 r2 hr2 o2=>?_⟩;refine⟨U2,τ,h2,(S.mono g1).mono g2,hr2,p6 o2 λd3 h3 U3 H3 w g3 r3 hr3 o3=>?_⟩
 cases hp:put d2 d3 d h3 with
 |none=>rw[hp]at o3;exact o3.elim
 |some h4 =>
  rw[hp]at o3;exact aeh (r2.mono g3) r3 ((r1.mono g2).mono g3) hr3 hp λH' g4 hr4=>o3 U3 H' Z g4 ((((S.mono g1).mono g2).mono g3).mono g4) hr4
noncomputable def sWh(c:ST)(f:SS):Nat->SS
 |0,_,_=>.no
 |n+1,τ,h=>(c τ h).fl λb h1=>if b=true then (match f τ h1 with|.nx τ2 h2=>sWh c f n τ2 h2|.ct τ2 h2=>sWh c f n τ2 h2|.bk τ2 h2=>.nx τ2 h2|r=>r) else .nx τ h1
theorem aig(n:Nat)(hp:PassesOwn (model X.prog X.w) X.A X.env X.xe)(hc:MT X E c ga)(hb:MSs X E a f):MS X E (.While c a [] pos) (sWh ga f n):=by
 refine PS.weak (aht hp hc hb) λN Z H q=>?_;refine⟨λm Z H=>a6v X.K E (sWh ga f m) N Z H,⟨n,q⟩,?_⟩
 rintro m Z1 H1 ⟨U,τ,h,S,Rh,o⟩
 cases m with
 |zero=>exact o.elim
 |succ m =>
  refine⟨U,τ,h,S,Rh,p6 o λd h1 U1 H1 v g1 r1 hr1 o1=>?_⟩;cases r1
  cases d with
  |false=>exact o1 U1 H1 _ (.refl _ _) (S.mono g1) hr1
  |true =>
   refine⟨λZ' H'=>a6v X.K E (sWh ga f m) N Z' H',λZ' H' q=>⟨m,Nat.lt_succ_self m,q⟩,U1,τ,h1,S.mono g1,hr1,?_⟩;rw[if_pos rfl]at o1
   cases hf:f τ h1 with
   |nx τ2 h2=>rw[hf]at o1;exact λU2 H2 Z2 g2 S2 R2=>⟨U2,τ2,h2,S2,R2,u6 o1 g2⟩
   |ct τ2 h2=>rw[hf]at o1;exact λU2 H2 Z2 g2 S2 R2=>⟨U2,τ2,h2,S2,R2,u6 o1 g2⟩
   |bk τ2 h2=>rw[hf]at o1;exact o1
   |rt d h2=>rw[hf]at o1;exact o1
   |ex c h2=>rw[hf]at o1;exact o1
   |no=>rw[hf]at o1;exact o1.elim
end
abbrev SG:=D->Sd->Hd->Fl
noncomputable def anc(K:Fg)(E:XD)(g:SG):TG:=λv Z H Q=>∃U τ h d,Rep K U H v d/\SRep K U H Z τ/\HRep K U H h/\ahf K E U H (g d τ h) {nx:=Q,rt:=λ_ _=>False}
abbrev MG(X:Cx)(E:XD)(tg:Expr)(g:SG):Prop:=PG X tg (anc X.K E g)
abbrev SGs:=List D->Sd->Hd->Fl
noncomputable def aei(K:Fg)(E:XD)(g:SGs):TGs:=λvs Z H Q=>∃U τ h ds,Reps K U H vs ds/\SRep K U H Z τ/\HRep K U H h/\ahf K E U H (g ds τ h) {nx:=Q,rt:=λ_ _=>False}
abbrev MGs(X:Cx)(E:XD)(tg:List Expr)(g:SGs):Prop:=PGs X tg (aei X.K E g)
theorem PG.weak(h:PG X e t)(i:∀v Z H Q,t' v Z H Q->t v Z H Q):PG X e t':=λaA s Z H v u Q I r q=>h aA s Z H v u Q I r (i _ _ _ _ q)
theorem PGs.weak(h:PGs X e t)(i:∀v Z H Q,t' v Z H Q->t v Z H Q):PGs X e t':=λaA s Z H v u Q I r q=>h aA s Z H v u Q I r (i _ _ _ _ q)
noncomputable def kN(i:Nat):SG:=λd τ h=>.nx (τ.set i (some d)) h
noncomputable def a2j:SGs:=λds τ h=>match ds with|[]=>.nx τ h|_=>.no
noncomputable def g8(g:SG)(k:SGs):SGs:=λds τ h=>match ds with|d::r=>(match g d τ h with|.nx τ1 h1=>k r τ1 h1|_=>.no)|[]=>.no
noncomputable def a2a(n:Nat)(k:SGs):SG:=λd τ h=>match d with|.tup ds=>if ds.length=n then k ds τ h else .no|_=>.no
section
variable{X:Cx}{E:XD}{e:Expr}{es:List Expr}{fa:SE}{pos:Pos}{g:SG}{ks:SGs}
theorem aej(hN:X.N.Nodup)(hi:X.N[i]? = some x)(hx:Loc X.env.scope x)(hf:Hf X x:=by with_unfolding_all first|exact .inl rfl|exact .inr rfl|assumption):MG X E (.Name x pos) (kN i) :=
 PG.weak (a9a hN hi hx hf) λv Z H Q ⟨U,τ,h,d,r,S,Rh,o⟩=>o U H _ (.refl _ _) (S.set r i) Rh
theorem ane:MGs X E [] a2j:=by
 refine PGs.weak a3z ?_
 rintro vs Z H Q ⟨U,τ,h,ds,r,S,Rh,o⟩
 cases r with
 |nil=>exact⟨rfl,o U H Z (.refl _ _) S Rh⟩
 |cons _ _=>exact o.elim
theorem aih(q:aei K E (g8 g ks) vs Z H Q):ahs (anc K E g) (aei K E ks) vs Z H Q:=by
 obtain⟨U,τ,h,ds,r,S,Rh,o⟩:=q
 cases r with
 |nil=>exact o.elim
 |@cons v d vs ds r rs =>
  refine⟨v,vs,rfl,U,τ,h,d,r,S,Rh,?_⟩;simp only[g8]at o
  cases hg:g d τ h with
  |nx τ1 h1 =>
   rw[hg]at o;exact λU1 H1 Z1 g1 S1 R1=>⟨U1,τ1,h1,ds,rs.mono g1,S1,R1,u6 o g1⟩
  |_=>rw[hg]at o;exact o.elim
theorem atg(hc:X.calm=true)(h:MGs X E es ks)(hn:(assignEach es X.env).length=n:=by rfl)(hst:(assignEach es X.env).findIdx? (·.1)=none:=by rfl):MG X E (.Tuple es k pos) (a2a n ks):=by
 refine PG.weak (a7o hc h hn hst) ?_
 rintro v Z H Q ⟨U,τ,h,d,r,S,Rh,o⟩
 cases r with
 |@tup a vs xs e rs =>
  simp only[a2a]at o
  by_cases hl:xs.length=n
  .rw[if_pos hl]at o;exact⟨a,vs,rfl,SqT.of e,by rw[rs.len];exact hl,U,τ,h,xs,rs,S,Rh,o⟩
  .rw[if_neg hl]at o;exact o.elim
 |_=>exact o.elim
noncomputable def a7l(f:SE)(g:SG):SS:=λτ h=>(f τ h).fl λd h1=>match g d τ h1 with|.nx τ2 h2=>.nx τ2 h2|_=>.no
theorem ath(he:ME X E e fa)(hg:MG X E tg g)(hs:swapsWithSole [tg] e pos.line X.env=pure false:=by rfl)(hw:swappedStores [tg] e X.env=pure none:=by rfl)
  (h1:(assignEach [tg] X.env).map (·.2)=[assign tg X.env]:=by rfl):MS X E (.Assign [tg] e pos) (a7l fa g):=by
 refine PS.weak (ako he hg hs hw h1) ?_
 rintro N Z H ⟨U,τ,h,S,Rh,o⟩
 refine⟨U,τ,h,S,Rh,p6 o λd h1 U1 H1 v g1 r1 hr1 o1=>⟨U1,τ,h1,d,r1,S.mono g1,hr1,?_⟩⟩
 cases hg:g d τ h1 with
 |nx τ1 h1=>rw[hg]at o1;exact o1
 |_=>rw[hg]at o1;exact o1.elim
end
structure Itm where
 xs:List D
 ck:Hd->Prop
def ahg(K:Fg)(U0:List Addr)(H0:Hp)(J:It)(it:Itm):Prop:=∀U H h,Gr U0 H0 U H->HRep K U H h->it.ck h->
 (∀(i:Nat) (d:D),it.xs[i]? = some d->J.go i H/\∀x H',J.yld i H x H'->Gr U H U H'/\Rep K U H' x d/\HRep K U H' h)/\J.stop it.xs.length H
abbrev anf(K:Fg):List Addr->Hp->It->Itm->Prop:=λU H J it=>ahg K U H J it
abbrev SI:=Sd->Hd->R Itm
abbrev MI(X:Cx)(E:XD)(tg aF:Expr)(f:SI):Prop:=PI X tg aF (lift X.K E (anf X.K) f)
noncomputable def zq(x:Str):List D:=x.cps.toList.map λc=>D.str ⟨#[c]⟩
noncomputable def ahh(d:D)(h:Hd):R Itm:=match d with
 |.tup xs=>.ok ⟨xs,λ_=>True⟩ h
 |.rol xs=>.ok ⟨xs,λ_=>True⟩ h
 |.str x=>.ok ⟨zq x,λ_=>True⟩ h
 |.ref i=>match h[i]? with
  |some (.lst xs)=>.ok ⟨xs,λh=>h[i]? = some (.lst xs)⟩ h
  |_=>.no
 |_=>.no
noncomputable def sIt(f:SE):SI:=λτ h=>(f τ h).bind ahh
theorem al0(hl:∀U H h,Gr U0 H0 U H->HRep K U H h->ck h->∃vs,SqL K H a vs/\Reps K U H vs xs):ahg K U0 H0 (Itl K a) ⟨xs,ck⟩:=by
 intro U H h g hr c
 obtain⟨vs,h1,h2⟩:=hl U H h g hr c;refine⟨λi d e=>?_,⟨vs,h1,by rw[h2.len];exact Nat.le_refl _⟩⟩
 obtain⟨v,e1,r⟩:=h2.get e;refine⟨⟨vs,v,h1,e1⟩,λx H' y=>?_⟩;obtain⟨rfl,y⟩:=y;have:=y vs h1;rw[e1]at this;cases this
 exact⟨.refl _ _,r,hr⟩
theorem ati(hl:ME X E l f):MI X E tg l (sIt f):=by
 rintro aA s Z H Rr I ⟨U,τ,h,S,Rh,o⟩
 unfold sIt at o
 cases hf:f τ h with
 |no=>rw[hf]at o;exact o.elim
 |ex c h1 =>
  rw[hf]at o;exact akx hl aA s Z H Rr I ⟨U,τ,h,S,Rh,by rw[hf];exact o⟩
 |ok d h1 =>
  rw[hf]at o
  cases d with
  |tup xs =>
   refine ari hl aA s Z H Rr I ⟨U,τ,h,S,Rh,?_⟩;rw[hf]
   intro U1 H1 v g1 r1 hr1
   cases r1 with
   |@tup a vs _ e rs =>
    refine⟨a,rfl,⟨vs,SqT.of e⟩,o U1 H1 _ g1 ?_ hr1⟩
    intro U2 H2 h2 g2 hr2 _
    have e2:=g2.tup _ _ e;have rs2:=rs.mono g2;refine⟨λi d ed=>?_,⟨vs,SqT.of e2,by rw[rs2.len];exact Nat.le_refl _⟩⟩
    obtain⟨v,e1,r⟩:=rs2.get ed;refine⟨⟨vs,v,SqT.of e2,e1⟩,λx H' y=>?_⟩;obtain⟨rfl,y⟩:=y;have:=y vs (SqT.of e2);rw[e1]at this;cases this
    exact⟨.refl _ _,r,hr2⟩
  |rol xs =>
   refine adh hl aA s Z H Rr I ⟨U,τ,h,S,Rh,?_⟩;rw[hf]
   intro U1 H1 v g1 r1 hr1
   cases r1 with
   |@rol a vs _ e rs =>
    refine⟨a,rfl,⟨vs,e.l⟩,o U1 H1 _ g1 ?_ hr1⟩;exact al0 (λU2 H2 h2 g2 hr2 _=>⟨vs,(e.mono g2).l,rs.mono g2⟩)
  |str x =>
   refine akx hl aA s Z H Rr I ⟨U,τ,h,S,Rh,?_⟩;rw[hf]
   intro U1 H1 v g1 r1 hr1
   cases r1
   refine⟨x,rfl,o U1 H1 _ g1 ?_ hr1⟩
   intro U2 H2 h2 g2 hr2 _
   refine⟨λi d ed=>?_,by show(zq x).length=_;simp[zq]⟩
   simp only[zq,List.getElem?_map,Option.map_eq_some_iff]at ed;obtain⟨c,ec,rfl⟩:=ed;refine⟨by show i<x.cps.size;have:=(List.getElem?_eq_some_iff.mp ec).1;simpa using this,λy H' q=>?_⟩
   obtain⟨rfl,c',ec',rfl⟩:=q;rw[ec]at ec';cases ec'
   exact⟨.refl _ _,.str _,hr2⟩
  |ref i =>
   simp only[R.bind,ahh]at o
   cases ho:h1[i]? with
   |none=>rw[ho]at o;exact o.elim
   |some ob =>
    rw[ho]at o
    cases ob with
    |dK _=>exact o.elim
    |dT _=>exact o.elim
    |ins _ _=>exact o.elim
    |lst xs =>
     refine adh hl aA s Z H Rr I ⟨U,τ,h,S,Rh,?_⟩;rw[hf]
     intro U1 H1 v g1 r1 hr1
     cases r1 with
     |@ref a _ e =>
      obtain⟨vs,e1,rs⟩:=hr1.obj i a _ e ho;refine⟨a,rfl,⟨vs,SqL.of e1⟩,o U1 H1 _ g1 ?_ hr1⟩;refine al0 (λU2 H2 h2 g2 hr2 c=>?_);obtain⟨us,e3,rs3⟩:=hr2.obj i a _ (g2.at e) c;exact⟨us,SqL.of e3,rs3⟩
  |_=>exact o.elim
noncomputable def rng(lo:Int)(n:Nat):List D:=(List.range n).map λi=>D.int (lo+(i:Nat))
def B62(j:Int):Prop := -(2^62)<=j/\j<2^62
instance (j:Int):Decidable (B62 j):=by unfold B62;exact inferInstance
noncomputable def a0k(ds:List D)(h:Hd):R Itm:=match ds with
 |[.int j]=>if B62 j then .ok ⟨rng 0 j.toNat,λ_=>True⟩ h else .no
 |_=>.no
noncomputable def a07(ds:List D)(h:Hd):R Itm:=match ds with
 |[.int i,.int j]=>if B62 i/\B62 j then .ok ⟨rng i (j-i).toNat,λ_=>True⟩ h else .no
 |_=>.no
noncomputable def sRg(g:List D->Hd->R Itm)(k:SA):SI:=λτ h=>(k τ h).bind g
theorem al1(lo:Int)(n:Nat):ahg K U0 H0 (Itr lo n) ⟨rng lo n,λ_=>True⟩:=by
 intro U H h g hr _
 refine⟨λi d ed=>?_,by show n<=(rng lo n).length;simp[rng]⟩
 simp only[rng,List.getElem?_map,Option.map_eq_some_iff]at ed;obtain⟨j,ej,rfl⟩:=ed;obtain⟨hj,e⟩:=List.getElem?_eq_some_iff.mp ej;simp at e hj;subst e;refine⟨hj,λy H' q=>?_⟩;obtain⟨rfl,rfl⟩:=q;exact⟨.refl _ _,.int _,hr⟩
theorem ang(hg:Gl X "range")(hm:X.mg "range" = none)(ha:MA X E [a] k)(hs:starEach [a] X.env=[(false,eval a X.env)]:=by rfl):MI X E tg (.Call (.Name "range" p) [a] [] pos) (sRg a0k k):=by
 rintro aA s Z H Rr I ⟨U,τ,h,S,Rh,o⟩
 refine adi hg hm ha hs aA s Z H Rr I ⟨U,τ,h,S,Rh,bh o λds h1 U1 H1 vs g1 r1 hr1 o1=>?_⟩;unfold a0k at o1
 split at o1
 .rename_i j
  cases r1 with
  |cons r rs =>
   cases r;cases rs
   by_cases hb:B62 j
   .rw[if_pos hb]at o1;exact⟨j,rfl,hb.1,hb.2,o1 U1 H1 _ (.refl _ _) (al1 0 j.toNat) hr1⟩
   .rw[if_neg hb]at o1;exact o1.elim
 .exact o1.elim
theorem anh(hg:Gl X "range")(hm:X.mg "range" = none)(ha:MA X E [a,b] k)(hs:starEach [a,b] X.env=[(false,eval a X.env),(false,eval b X.env)]:=by rfl)(hs2:starEach [b] X.env=[(false,eval b X.env)]:=by rfl):MI X E tg (.Call (.Name "range" p) [a,b] [] pos) (sRg a07 k):=by
 rintro aA s Z H Rr I ⟨U,τ,h,S,Rh,o⟩
 refine adk hg hm ha hs hs2 aA s Z H Rr I ⟨U,τ,h,S,Rh,bh o λds h1 U1 H1 vs g1 r1 hr1 o1=>?_⟩;unfold a07 at o1
 split at o1
 .rename_i i j
  cases r1 with
  |cons r rs =>
   cases r
   cases rs with
   |cons r rs =>
   cases r;cases rs
   by_cases hb:B62 i/\B62 j
   .rw[if_pos hb]at o1;exact⟨i,j,rfl,⟨hb.1.1,hb.1.2,hb.2.1,hb.2.2⟩,o1 U1 H1 _ (.refl _ _) (al1 i _) hr1⟩
   .rw[if_neg hb]at o1;exact o1.elim
 .exact o1.elim
open Classical in
noncomputable def forL(ck:Hd->Prop)(g:SG)(b:SS):List D->Sd->Hd->Fl
 |[],τ,h=>if ck h then .nx τ h else .no
 | x::xs,τ,h=>if ck h then (match g x τ h with
   |.nx τ1 h1=>(match b τ1 h1 with
    |.nx τ2 h2=>forL ck g b xs τ2 h2
    |.ct τ2 h2=>forL ck g b xs τ2 h2
    |.bk τ2 h2=>.nx τ2 h2
    |r=>r)
   |_=>.no) else .no
noncomputable def a2x(f:SI)(g:SG)(b:SS):SS:=λτ h=>(f τ h).fl λit h1=>forL it.ck g b it.xs τ h1
theorem ani(ir:ahg K U0 H0 J it)(S:SRep K U0 H0 Z0 τ0)(Rh:HRep K U0 H0 h0)(o:ahf K E U0 H0 (forL it.ck g b it.xs τ0 h0) N) :
  ∃W:Nat->Nat->St->Hp->Prop,(∃m,W 0 m Z0 H0)/\∀i m Z H,W i m Z H->
   (J.stop i H/\N.nx Z H)\/(J.go i H/\∃M:St->Hp->Prop,(∀Z' H',M Z' H'->∃m',m'<m/\W (i+1) m' Z' H')/\∀x H',J.yld i H x H'->anc K E g x Z H' λZ2 H2=>a6v K E b {N with nx:=M,ct:=M,bk:=N.nx} Z2 H2):=by
 refine⟨λi m Z H=>m=it.xs.length-i/\i<=it.xs.length/\∃U τ h,Gr U0 H0 U H/\SRep K U H Z τ/\HRep K U H h/\ahf K E U H (forL it.ck g b (it.xs.drop i) τ h) N,⟨_,rfl,Nat.zero_le _,U0,τ0,h0,.refl _ _,S,Rh,o⟩,?_⟩
 rintro i m Z H ⟨rfl,hi,U,τ,h,g0,S,Rh,o⟩
 by_cases hlt:i<it.xs.length
 .rw[List.drop_eq_getElem_cons hlt,forL]at o
  by_cases hc:it.ck h
  .rw[if_pos hc]at o;obtain⟨go,yl⟩:=(ir U H h g0 Rh hc).1 i _ (List.getElem?_eq_getElem hlt);refine .inr ⟨go,λZ' H'=>it.xs.length-(i+1)<it.xs.length-i/\∃U τ h,Gr U0 H0 U H'/\SRep K U H' Z' τ/\HRep K U H' h/\ahf K E U H' (forL it.ck g b (it.xs.drop (i+1)) τ h) N,λZ' H' q=>⟨_,q.1,rfl,hlt,q.2⟩,λx H' y=>?_⟩;obtain⟨g1,r1,hr1⟩:=yl x H' y;refine⟨U,τ,h,_,r1,S.mono g1,hr1,?_⟩;have o':=u6 o g1
   cases hg:g it.xs[i] τ h with
   |nx τ1 h1 =>
    rw[hg]at o';dsimp only at o'
    intro U2 H2 Z2 g2 S2 R2
    refine⟨U2,τ1,h1,S2,R2,?_⟩;have o2:=u6 o' g2;have gg:=(g0.trans g1).trans g2
    cases hb:b τ1 h1 with
    |nx τ2 h2=>rw[hb]at o2;exact λU3 H3 Z3 g3 S3 R3=>⟨by lia,U3,τ2,h2,gg.trans g3,S3,R3,u6 o2 g3⟩
    |ct τ2 h2=>rw[hb]at o2;exact λU3 H3 Z3 g3 S3 R3=>⟨by lia,U3,τ2,h2,gg.trans g3,S3,R3,u6 o2 g3⟩
    |bk τ2 h2=>rw[hb]at o2;exact o2
    |rt d h2=>rw[hb]at o2;exact o2
    |ex c h2=>rw[hb]at o2;exact o2
    |no=>rw[hb]at o2;exact o2.elim
   |_=>rw[hg]at o';exact o'.elim
  .rw[if_neg hc]at o;exact o.elim
 .have e:i=it.xs.length:=by lia
  subst e;rw[List.drop_eq_nil_of_le (Nat.le_refl _),forL]at o
  by_cases hc:it.ck h
  .rw[if_pos hc]at o;exact .inl ⟨(ir U H h g0 Rh hc).2,o U H Z (.refl _ _) S Rh⟩
  .rw[if_neg hc]at o;exact o.elim
theorem atj{X:Cx}(hp:PassesOwn (model X.prog X.w) X.A X.env X.xe)(hc:X.calm=true)(hi:MI X E tg aF f)(hg:MG X E tg g)(hb:MSs X E body b)(hs:∀x,foldedSetIterable aF X.env x=pure x:=by intro _;rfl):MS X E (.For tg aF body [] pos) (a2x f g b):=by
 refine PS.weak (arj hp hc hi hg hb hs) ?_
 rintro N Z H ⟨U,τ,h,S,Rh,o⟩
 exact⟨U,τ,h,S,Rh,p6 o λit h1 U1 H1 J g1 r1 hr1 o1=>ani r1 (S.mono g1) hr1 o1⟩
end MI
namespace MI
open L2
theorem R.bind_assoc{α β γ:Type}(r:R α)(f:α->Hd->R β)(g:β->Hd->R γ):(r.bind f).bind g=r.bind λa h=>(f a h).bind g:=by cases r<;>rfl
open Classical in
noncomputable def mapR(ck:Hd->Prop)(f:D->Hd->R D):List D->Hd->R (List D)
 |[],h=>if ck h then .ok [] h else .no
 |x::xs,h=>if ck h then (f x h).bind λy h1=>(mapR ck f xs h1).bind λys h2=>.ok (y::ys) h2 else .no
open Classical in
noncomputable def ahi(ck:Hd->Prop)(f:D->Hd->R (Option D)):List D->Hd->R (List D)
 |[],h=>if ck h then .ok [] h else .no
 |x::xs,h=>if ck h then (f x h).bind λy h1=>(ahi ck f xs h1).bind λys h2=>.ok (y.toList++ys) h2 else .no
noncomputable def frs'(ix:List Nat)(τ:Sd):Sd:=ix.map λi=>(τ[i]?).join
noncomputable def t1(d:D):Option Sd:=some [some d]
noncomputable def tN(n:Nat)(d:D):Option Sd:=match d with|.tup ds=>if ds.length=n then some (ds.map some) else none|_=>none
noncomputable def a6y(t:D->Option Sd)(fe:SE)(aG:Sd)(x:D)(h:Hd):R D:=match t x with|some ts=>fe (ts++aG) h|none=>.no
noncomputable def a8d(t:D->Option Sd)(c:ST)(fe:SE)(aG:Sd)(x:D)(h:Hd):R (Option D):=match t x with
 |some ts=>(c (ts++aG) h).bind λb h1=>if b=true then (fe (ts++aG) h1).bind λy h2=>.ok (some y) h2 else .ok none h1
 |none=>.no
noncomputable def a7m(yd zs:List D)(h:Hd):R D:=.ok (.ref h.length) (h++[.lst (yd++zs)])
theorem atk(r:R D)(m:Hd->R (List D))(yd:List D):(r.bind λy h1=>(m h1).bind λys h2=>.ok (y::ys) h2).bind (a7m yd)=r.bind λy h1=>(m h1).bind (a7m (yd++[y])):=by
 cases r with
 |ok y h1 =>
  show((m h1).bind _).bind _=(m h1).bind _
  cases m h1 with
  |ok ys h2=>simp[R.bind,a7m]
  |_=>rfl
 |_=>rfl
theorem ay5(r:R (Option D))(m:Hd->R (List D))(yd:List D):(r.bind λy h1=>(m h1).bind λys h2=>.ok (y.toList++ys) h2).bind (a7m yd)=r.bind λy h1=>(m h1).bind (a7m (yd++y.toList)):=by
 cases r with
 |ok y h1 =>
  show((m h1).bind _).bind _=(m h1).bind _
  cases m h1 with
  |ok ys h2=>simp[R.bind,a7m]
  |_=>rfl
 |_=>rfl
noncomputable def wj(fi:SI)(t:D->Option Sd)(fe:SE)(ix:List Nat):SE:=λτ h=>(fi τ h).bind λit h1=>if it.xs.length<=LINE then (mapR it.ck (a6y t fe (frs' ix τ)) it.xs h1).bind (a7m []) else .no
noncomputable def zu(fi:SI)(t:D->Option Sd)(c:ST)(fe:SE)(ix:List Nat):SE:=λτ h=>(fi τ h).bind λit h1=>if it.xs.length<=LINE then (ahi it.ck (a8d t c fe (frs' ix τ)) it.xs h1).bind (a7m []) else .no
def a97(K:Fg)(n:Nat)(g:TG)(t:D->Option Sd):Prop:=∀U H v d ts (r:St) (Q:St->Hp->Prop),Rep K U H v d->t d=some ts->(∀us:St,us.length=n->SRep K U H us ts->Q (us++r) H)->g v (List.replicate n none++r) H Q
theorem a6z:SRep K U H [] []:=⟨rfl,λi d e=>by simp at e⟩
theorem yr(r:Rep K U H v d)(s:SRep K U H Z τ):SRep K U H (some v::Z) (some d::τ):=by
 refine⟨by simp[s.len],λi d' e=>?_⟩
 cases i with
 |zero=>simp at e;subst e;exact⟨v,rfl,r⟩
 |succ i=>simpa using s.val i d' (by simpa using e)
theorem a1p(s:SRep K U H Z τ)(s':SRep K U H Z' τ'):SRep K U H (Z++Z') (τ++τ'):=by
 refine⟨by simp[s.len,s'.len],λi d e=>?_⟩
 by_cases hi:i<τ.length
 .rw[List.getElem?_append_left hi]at e;rw[List.getElem?_append_left (by rw[s.len];exact hi)]
  exact s.val i d e
 .rw[List.getElem?_append_right (by lia)]at e
  rw[List.getElem?_append_right (by rw[s.len];lia),s.len]
  exact s'.val _ d e
theorem a1q(s:SRep K U H Z τ)(ix:List Nat):SRep K U H (ix.map λi=>(Z[i]?).join) (frs' ix τ):=by
 refine⟨by simp[frs'],λj d e=>?_⟩
 simp only[frs',List.getElem?_map,Option.map_eq_some_iff]at e;obtain⟨i,hi,e⟩:=e;have:τ[i]? = some (some d):=by
  cases q:τ[i]? with
  |none=>rw[q]at e;cases e
  |some o=>rw[q]at e;simp at e;rw[e]
 obtain⟨v,h1,h2⟩:=s.val i d this;exact⟨v,by simp[hi,h1],h2⟩
theorem a2b:a97 K 1 (a0v 0) t1:=λU H v d ts r Q hr e q=>by
 cases e
 exact q [some v] rfl (yr hr a6z)
theorem atl{α:Type}{xs:List α}(h:xs.length=n+1):∃x ys,xs=x::ys:=by cases xs with|nil=>cases h|cons x ys=>exact⟨x,ys,rfl⟩
theorem al3{vs:List V}{d:D}{ds:List D}(r:Reps K U H vs (d::ds)):∃v us,vs=v::us/\Rep K U H v d/\Reps K U H us ds:=by cases r with|cons r rs=>exact⟨_,_,rfl,r,rs⟩
theorem aal:a97 K 2 (L2.vf K 2 (ahs (a0v 0) (ahs (a0v 1) az9))) (tN 2):=λU H v d ts r Q hr e q=>by
 unfold tN at e
 cases hr with
 |@tup a vs xs h rs =>
  simp only at e
  split at e
  .rename_i hl;cases e
   obtain⟨x1,xs,rfl⟩:=atl hl;obtain⟨x2,xs,rfl⟩:=atl (Nat.succ.inj hl);obtain rfl:=List.length_eq_zero_iff.mp (Nat.succ.inj (Nat.succ.inj hl));obtain⟨v1,vs,rfl,r1,rs⟩:=al3 rs;obtain⟨v2,vs,rfl,r2,rs⟩:=al3 rs;cases rs
   exact⟨a,_,rfl,SqT.of h,rfl,_,_,rfl,_,_,rfl,rfl,q [some _,some _] rfl (yr r1 (yr r2 a6z))⟩
  .cases e
 |_=>cases e
theorem a9p{us:St}(h:us.length=n):L2.Ext (List.replicate n none++r) (us++r):=by
 refine⟨by simp[h],λi v e=>?_⟩
 by_cases hi:i<n
 .rw[List.getElem?_append_left (by simpa using hi),List.getElem?_replicate,if_pos hi]at e
  cases e
 .rw[List.getElem?_append_right (by simpa using hi),List.length_replicate]at e
  rw[List.getElem?_append_right (by lia),h]
  exact e
theorem aam(ir:ahg K U0 H0 J it)(tg:a97 K n g t)(S:SRep K U0 H0 r rd)(Rh:HRep K U0 H0 h0)(hl:it.xs.length<=LINE)
  (o:out K E (ql K) U0 H0 ((mapR it.ck (a6y t fe rd) it.xs h0).bind (a7m [])) Q):an3 J (List.replicate n none++r) g (lift K E (ql K) fe) Q H0:=by
 refine⟨λi m ys H=>m=it.xs.length-i/\i<=it.xs.length/\ys.length<=i/\∃U h yd,Gr U0 H0 U H/\HRep K U H h/\Reps K U H ys yd/\out K E (ql K) U H ((mapR it.ck (a6y t fe rd) (it.xs.drop i) h).bind (a7m yd)) Q,
  ⟨_,rfl,Nat.zero_le _,Nat.zero_le _,U0,h0,[],.refl _ _,Rh,.nil,o⟩,?_⟩
 rintro i m ys H ⟨rfl,hi,hy,U,h,yd,g0,Rh,ry,o⟩
 by_cases hlt:i<it.xs.length
 .rw[List.drop_eq_getElem_cons hlt,mapR]at o
  by_cases hc:it.ck h
  .rw[if_pos hc,atk]at o;obtain⟨go,yl⟩:=(ir U H h g0 Rh hc).1 i _ (List.getElem?_eq_getElem hlt);refine .inr ⟨go,Nat.lt_of_le_of_lt hy (Nat.lt_of_lt_of_le hlt (ll hl)),λx H' y=>?_⟩;obtain⟨g1,r1,hr1⟩:=yl x H' y;have o':=qj o g1
   cases ht:t it.xs[i] with
   |none=>simp only[a6y,ht]at o';exact o'.elim
   |some ts =>
    simp only[a6y,ht]at o';refine tg U H' x _ ts r _ r1 ht λus hus su=>⟨a9p hus,U,ts++rd,h,a1p su (S.mono (g0.trans g1)),hr1,bh o' λd2 h2 U2 H2 u g2 r2 hr2 o2=>?_⟩;refine⟨it.xs.length-(i+1),by lia,rfl,hlt,by simp;lia,U2,h2,yd++[d2],(g0.trans g1).trans g2,hr2,((ry.mono g1).mono g2).snoc r2,o2⟩
  .rw[if_neg hc]at o;exact o.elim
 .have e:i=it.xs.length:=by lia
  subst e;rw[List.drop_eq_nil_of_le (Nat.le_refl _),mapR]at o
  by_cases hc:it.ck h
  .rw[if_pos hc]at o;refine .inl ⟨(ir U H h g0 Rh hc).2,u9 (E:=E) ry Rh ?_⟩;simpa[R.bind,a7m] using o
  .rw[if_neg hc]at o;exact o.elim
theorem a8e(ir:ahg K U0 H0 J it)(tg:a97 K n g t)(S:SRep K U0 H0 r rd)(Rh:HRep K U0 H0 h0)(hl:it.xs.length<=LINE)
  (o:out K E (ql K) U0 H0 ((ahi it.ck (a8d t c fe rd) it.xs h0).bind (a7m [])) Q):a9l J (List.replicate n none++r) g (lift K E a96 c) (lift K E (ql K) fe) Q H0:=by
 refine⟨λi m ys H=>m=it.xs.length-i/\i<=it.xs.length/\ys.length<=i/\∃U h yd,Gr U0 H0 U H/\HRep K U H h/\Reps K U H ys yd/\out K E (ql K) U H ((ahi it.ck (a8d t c fe rd) (it.xs.drop i) h).bind (a7m yd)) Q,
  ⟨_,rfl,Nat.zero_le _,Nat.zero_le _,U0,h0,[],.refl _ _,Rh,.nil,o⟩,?_⟩
 rintro i m ys H ⟨rfl,hi,hy,U,h,yd,g0,Rh,ry,o⟩
 by_cases hlt:i<it.xs.length
 .rw[List.drop_eq_getElem_cons hlt,ahi]at o
  by_cases hc:it.ck h
  .rw[if_pos hc,ay5]at o;obtain⟨go,yl⟩:=(ir U H h g0 Rh hc).1 i _ (List.getElem?_eq_getElem hlt);refine .inr ⟨go,Nat.lt_of_le_of_lt hy (Nat.lt_of_lt_of_le hlt (ll hl)),λx H' y=>?_⟩;obtain⟨g1,r1,hr1⟩:=yl x H' y;have o':=qj o g1
   cases ht:t it.xs[i] with
   |none=>simp only[a8d,ht]at o';exact o'.elim
   |some ts =>
    simp only[a8d,ht]at o';rw[R.bind_assoc]at o';refine tg U H' x _ ts r _ r1 ht λus hus su=>⟨a9p hus,U,ts++rd,h,a1p su (S.mono (g0.trans g1)),hr1,bh o' λb h1 U1 H1 b' g2 rb hrb ob=>?_⟩;have su1:SRep K U1 H1 (us++r) (ts++rd):=(a1p su (S.mono (g0.trans g1))).mono g2;cases rb
    cases b with
    |true =>
     rw[if_pos rfl]at ob ⊢;rw[R.bind_assoc]at ob;refine⟨U1,ts++rd,h1,su1,hrb,bh ob λd2 h2 U2 H2 u g3 r2 hr2 o2=>?_⟩;refine⟨it.xs.length-(i+1),by lia,rfl,hlt,by simp;lia,U2,h2,yd++[d2],((g0.trans g1).trans g2).trans g3,hr2,(((ry.mono g1).mono g2).mono g3).snoc r2,?_⟩
     simpa[R.bind] using o2
    |false =>
     rw[if_neg Bool.false_ne_true]at ob ⊢;refine⟨it.xs.length-(i+1),by lia,rfl,hlt,by lia,U1,h1,yd,(g0.trans g1).trans g2,hrb,(ry.mono g1).mono g2,?_⟩
     simpa[R.bind] using ob
  .rw[if_neg hc]at o;exact o.elim
 .have e:i=it.xs.length:=by lia
  subst e;rw[List.drop_eq_nil_of_le (Nat.le_refl _),ahi]at o
  by_cases hc:it.ck h
  .rw[if_pos hc]at o;refine .inl ⟨(ir U H h g0 Rh hc).2,u9 (E:=E) ry Rh ?_⟩;simpa[R.bind,a7m] using o
  .rw[if_neg hc]at o;exact o.elim
section
variable{X:Cx}{E:XD}{aD tg aF cnd:Expr}{aB:Scope}{pos:Pos}{cl:List (Str×Addr)}{ts fr:List Str}{ix:List Nat}{fi:SI}{g:TG}{t:D->Option Sd}{fe:SE}{fc:ST}
theorem a2k(hc:X.calm=true)(S:CSc X aB cl ts fr ix)(hi:MI X E tg aF fi)(hg:∀C fp s H,PG (cxC X (ts++fr) aB cl C fp s H) tg g)(ht:a97 X.K ts.length g t)(he:∀C fp s H,ME (cxC X (ts++fr) aB cl C fp s H) E aD fe)
  (hs:∀x,foldedSetIterable aF X.env x=pure x:=by intro _;rfl):ME X E (.ListComp aD [⟨tg,aF,[],0⟩] aB pos) (wj fi t fe ix):=by
 refine PE.weak (ai9 (te:=lift X.K E (ql X.K) fe) hc S hi hg he hs) ?_
 rintro Z H Q ⟨U,τ,h,Sr,Rh,o⟩
 refine⟨U,τ,h,Sr,Rh,bh o λit h1 U1 H1 J g1 r1 hr1 o1=>?_⟩
 by_cases hl:it.xs.length<=LINE
 .rw[if_pos hl]at o1;exact aam r1 ht (a1q (Sr.mono g1) ix) hr1 hl o1
 .rw[if_neg hl]at o1;exact o1.elim
theorem aii(hc:X.calm=true)(S:CSc X aB cl ts fr ix)(hi:MI X E tg aF fi)(hg:∀C fp s H,PG (cxC X (ts++fr) aB cl C fp s H) tg g)(ht:a97 X.K ts.length g t)(he:∀C fp s H,ME (cxC X (ts++fr) aB cl C fp s H) E aD fe)
  (hq:∀C fp s H,MT (cxC X (ts++fr) aB cl C fp s H) E cnd fc)
  (hs:∀x,foldedSetIterable aF X.env x=pure x:=by intro _;rfl):ME X E (.ListComp aD [⟨tg,aF,[cnd],0⟩] aB pos) (zu fi t fc fe ix):=by
 refine PE.weak (ac1 (te:=lift X.K E (ql X.K) fe) (tc:=lift X.K E a96 fc) hc S hi hg he hq hs) ?_
 rintro Z H Q ⟨U,τ,h,Sr,Rh,o⟩
 refine⟨U,τ,h,Sr,Rh,bh o λit h1 U1 H1 J g1 r1 hr1 o1=>?_⟩
 by_cases hl:it.xs.length<=LINE
 .rw[if_pos hl]at o1;exact a8e r1 ht (a1q (Sr.mono g1) ix) hr1 hl o1
 .rw[if_neg hl]at o1;exact o1.elim
end
mutual
def clo(n:Nat):D->Prop
 |.tup xs=>clos n xs
 |.rol xs=>clos n xs
 |.rod _ xs=>clos n xs
 |.scr xs=>clos n xs
 |.rdT _ xs=>clos n xs
 |.ins _ _ xs=>clos n xs
 |.ref i=>i<n
 |_=>True
def clos(n:Nat):List D->Prop
 |[]=>True
 |x::xs=>clo n x/\clos n xs
end
mutual
theorem Rep.clo:∀{v:V} {d:D},Rep K U H v d->clo U.length d
 |_,_,.non=>by simp[MI.clo]
 |_,_,.bl b=>by simp[MI.clo]
 |_,_,.int i=>by simp[MI.clo]
 |_,_,.str x=>by simp[MI.clo]
 |_,_,.ty n=>by simp[MI.clo]
 |_,_,.tup h r=>by simp only[MI.clo];exact Reps.clo r
 |_,_,.rol h r=>by simp only[MI.clo];exact Reps.clo r
 |_,_,.ref h=>by simp only[MI.clo];exact(List.getElem?_eq_some_iff.mp h).1
 |_,_,.rod h e r=>by simp only[MI.clo];exact Reps.clo r
 |_,_,.scr h r=>by simp only[MI.clo];exact Reps.clo r
 |_,_,.rdT h e r=>by simp only[MI.clo];exact Reps.clo r
 |_,_,.exc h hc hn=>by simp[MI.clo]
 |_,_,.ins h hn e r=>by simp only[MI.clo];exact Reps.clo r
theorem Reps.clo:∀{vs:List V} {ds:List D},Reps K U H vs ds->clos U.length ds
 |_,_,.nil=>by simp[MI.clos]
 |_,_,.cons r rs=>by simp only[MI.clos];exact⟨Rep.clo r,Reps.clo rs⟩
end
mutual
theorem Rep.cut:∀{v:V} {d:D},Rep K U H v d->clo n d->Rep K (U.take n) H v d
 |_,_,.non,_=>.non
 |_,_,.bl b,_=>.bl b
 |_,_,.int i,_=>.int i
 |_,_,.str x,_=>.str x
 |_,_,.ty n,_=>.ty n
 |_,_,.tup h r,c=>.tup h (Reps.cut r (by simpa only[MI.clo] using c))
 |_,_,.rol h r,c=>.rol h (Reps.cut r (by simpa only[MI.clo] using c))
 |_,_,.ref h,c=>.ref (by simp only[MI.clo]at c;rw[List.getElem?_take,if_pos c];exact h)
 |_,_,.rod h e r,c=>.rod h e (Reps.cut r (by simpa only[MI.clo] using c))
 |_,_,.scr h r,c=>.scr h (Reps.cut r (by simpa only[MI.clo] using c))
 |_,_,.rdT h e r,c=>.rdT h e (Reps.cut r (by simpa only[MI.clo] using c))
 |_,_,.exc h hc hn,_=>.exc h hc hn
 |_,_,.ins h hn e r,c=>.ins h hn e (Reps.cut r (by simpa only[MI.clo] using c))
theorem Reps.cut:∀{vs:List V} {ds:List D},Reps K U H vs ds->clos n ds->Reps K (U.take n) H vs ds
 |_,_,.nil,_=>.nil
 |_,_,.cons r rs,c=>by simp only[MI.clos]at c;exact .cons (Rep.cut r c.1) (Reps.cut rs c.2)
end
def a00(n:Nat):O->Prop
 |.lst xs=>clos n xs
 |.dK kvs=>clos n (kvs.map (·.2))
 |.dT kvs=>clos n (kvs.map (·.2))
 |.ins _ fs=>clos n (fs.map (·.2))
def atm(n:Nat)(h:Hd):Prop:=∀o∈h,a00 n o
theorem ORep.clo(r:ORep K U H a o):a00 U.length o:=by
 cases o with
 |lst xs=>obtain⟨vs,_,r⟩:=r;exact r.clo
 |dK kvs=>obtain⟨us,_,_,r⟩:=r;exact r.clo
 |dT kvs=>obtain⟨us,_,_,r⟩:=r;exact r.clo
 |ins _ _=>obtain⟨_,_,us,_,_,_,r⟩:=r;exact r.clo
theorem ORep.cut(r:ORep K U H a o)(c:a00 n o):ORep K (U.take n) H a o:=by
 cases o with
 |lst xs=>obtain⟨vs,h,r⟩:=r;exact⟨vs,h,r.cut c⟩
 |dK kvs=>obtain⟨us,h,e,r⟩:=r;exact⟨us,h,e,r.cut c⟩
 |dT kvs=>obtain⟨us,h,e,r⟩:=r;exact⟨us,h,e,r.cut c⟩
 |ins _ _=>obtain⟨C,dx,us,h,hn,e,r⟩:=r;exact⟨C,dx,us,h,hn,e,r.cut c⟩
theorem HRep.clo(r:HRep K U H h):atm h.length h:=λo ho=>by
 obtain⟨i,hi⟩:=List.getElem?_of_mem ho;obtain⟨a,_,q⟩:=r.addr hi;rw[<-r.len];exact q.clo
theorem HRep.cut(r:HRep K U H (h++g))(c:atm h.length h):HRep K (U.take h.length) H h:=by
 refine⟨r.nd.sublist (List.take_sublist _ _),?_,λi a o e1 e2=>?_⟩
 .have:=r.len
  rw[List.length_append]at this;rw[List.length_take];lia
 .have hi:i<h.length:=(List.getElem?_eq_some_iff.mp e2).1;rw[List.getElem?_take,if_pos hi]at e1;exact(r.obj i a o e1 (by rw[List.getElem?_append_left hi];exact e2)).cut (c o (List.mem_of_getElem? e2))
noncomputable def X0:XD:=λ_ _ _ _=>False
abbrev SF:=List D->Hd->R D
noncomputable def aan(K:Fg)(n:Nat)(F:SF):Sp:=λvs H Q _=>vs.length=n/\∃U ds h,Reps K U H vs ds/\HRep K U H h/\out K X0 (ql K) U H (F ds h) Q
noncomputable def a2c(n:Nat)(ds:List D):Sd:=ds.map some++List.replicate (n-ds.length) none
noncomputable def ou(b:SS)(n:Nat)(ds:List D)(h:Hd):R D:=match b (a2c n ds) h with
 |.rt d h1=>.ok d h1
 |.nx _ h1=>.ok .non h1
 |.ex c h1=>.ex c h1
 |_=>.no
def Rf(n:Nat)(r' r:R D):Prop:=match r with
 |.no=>True
 |.ok d h1=>∃g,r'=.ok d (h1++g)/\(g=[]\/(n<=h1.length/\clo h1.length d/\atm h1.length h1))
 |.ex c h1=>∃g,r'=.ex c (h1++g)/\(g=[]\/(n<=h1.length/\atm h1.length h1))
theorem Rf.same(h:r'=r):Rf n r' r:=by
 subst h
 cases r' with
 |ok d h1=>exact⟨[],by simp,.inl rfl⟩
 |ex c h1=>exact⟨[],by simp,.inl rfl⟩
 |no=>exact True.intro
theorem ac6(r:Reps K U H vs ds):SRep K U H (start N vs) (a2c N.length ds):=by
 refine a1p ?_ ?_
 .clear N
  induction r using Reps.rec (motive_1:=λ_ _ _=>True) with
  |nil=>exact a6z
  |cons r rs _ ih=>exact yr r ih
  |_=>trivial
 .rw[r.len];exact⟨by simp,λi d e=>by rw[List.getElem?_replicate]at e;split at e<;>cases e⟩
theorem al4(g:Gr U H U' H')(hn:U.length<=n):Gr U H (U'.take n) H':=by
 obtain⟨m,rfl,hm⟩:=g.pre;exact⟨⟨m.take (n-U.length),by rw[List.take_append,List.take_of_length_le hn],λa ha=>hm a (List.mem_of_mem_take ha)⟩,g.tup,g.frz,g.oth,g.kp⟩
section
variable{P:Program}{w:World}{K:Fg}{mg:Str->Option Value}{base:Heap}
theorem atn(Fu:Fun K x qual st f fd)(S:FnScope N ps (gj st))
  (hb:∀(cdv:Value) (A:Around) (outer:List Env) (s:Shared) (H:Hp) (E:XK),Room k (A.deeper (PyProof.Rows.envOfC qual (gj st) s.heap.objs.size f cdv))->MSs (ahe CX0 P w K mg base N qual (gj st) f cdv A outer s H E).nox X0 (wg st) b)
  (hF:∀ds h,ds.length=ps.length->clos h.length ds->atm h.length h->Rf h.length (ou b N.length ds h) (F ds h)):FnOk P w K mg base CX0 (k+1) f fd ps (aan K ps.length F):=by
 refine Fu.ok S (λvs H Q E h=>h.1) λcdv A outer s H vs Q E hr h=>⟨_,hb cdv A outer s H E hr,?_⟩;obtain⟨hl,U,ds,h,r,hr',o⟩:=h;refine⟨U,a2c N.length ds,h,ac6 r,hr',?_⟩;have q:=hF ds h (by rw[<-r.len];exact hl) (by rw[<-hr'.len];exact r.clo) hr'.clo
 unfold ou at q
 cases hFd:F ds h with
 |no=>rw[hFd]at o;exact o.elim
 |ex c h1 =>
  rw[hFd]at q o;obtain⟨g,e,cl⟩:=q;have fin:∀U' H',Gr U H U' H'->HRep K U' H' (h1++g)->X0 c U' H' (h1++g):=λU' H' g1 hr1=>by
   rcases cl with rfl|⟨hn,c2⟩
   .rw[List.append_nil]at hr1;exact o U' H' g1 hr1
   .exact o (U'.take h1.length) H' (al4 g1 (by rw[hr'.len];exact hn)) (hr1.cut c2)
  cases hbd:b (a2c N.length ds) h with
  |ex c' h' =>
   rw[hbd]at e
   injection e with e1 e2
   subst e1 e2;exact fin
  |_=>rw[hbd]at e;cases e
 |ok d h1 =>
  rw[hFd]at q o;obtain⟨g,e,cl⟩:=q;have fin:∀U' H' v,Gr U H U' H'->Rep K U' H' v d->HRep K U' H' (h1++g)->Q v H':=λU' H' v g1 r1 hr1=>by
   rcases cl with rfl|⟨hn,c1,c2⟩
   .rw[List.append_nil]at hr1;exact o U' H' v g1 r1 hr1
   .exact o (U'.take h1.length) H' v (al4 g1 (by rw[hr'.len];exact hn)) (r1.cut c1) (hr1.cut c2)
  cases hbd:b (a2c N.length ds) h with
  |rt d' h' =>
   rw[hbd]at e
   injection e with e1 e2
   subst e1 e2;exact fin
  |nx τ' h' =>
   rw[hbd]at e
   injection e with e1 e2
   subst e1 e2;exact λU' H' Z' g1 S1 hr1=>fin U' H' .non g1 .non hr1
  |_=>rw[hbd]at e;cases e
end
section
variable{K:Fg}{E:XD}{U:List Addr}{H:Hp}{h:Hd}{Q:VK}
theorem ans(o:out K E (ql K) U H (.ok d h) Q)(r:Rep K U H v d)(hr:HRep K U H h):Q v H:=o U H v (.refl _ _) r hr
theorem HRep.lst(hr:HRep K U H h){i:Nat}{a:Addr}{xs:List D}(e:U[i]? = some a)(hi:h[i]? = some (.lst xs)):∃vs,H a=some (.lst vs)/\Reps K U H vs xs:=hr.obj i a _ e hi
end
noncomputable def a6h:D->D->Hd->R D
 |.int i,.int j,h=>.ok (.int (i-j)) h
 |_,_,_=>.no
noncomputable def ad7:D->D->Hd->R D
 |.int i,.int j,h=>if 0<j then .ok (.int (i%j)) h else .no
 |_,_,_=>.no
noncomputable def aao:D->D->Hd->R D
 |.int i,.int j,h=>if 0<j/\j<1073741824 then .ok (.int (i / j)) h else .no
 |_,_,_=>.no
noncomputable def aek:D->D->Hd->R D
 |.int i,.int j,h=>if 0<=j/\j<=1000000/\i.natAbs<2^64 then .ok (.int (i^j.toNat)) h else .no
 |_,_,_=>.no
section
variable{X:Cx}{K:Fg}
theorem anj:a2g K a6h (rI0 λi j=>.int (i-j)):=by
 intro E U H h x y dx dy Q rx ry hr o
 cases rx with
 |int i =>
  cases ry with
  |int j=>exact⟨i,j,rfl,rfl,ans o (.int _) hr⟩
  |_=>exact o.elim
 |_=>exact o.elim
theorem ank:a2g K ad7 (rI (λ_ j=>0<j) λi j=>.int (i%j)):=by
 intro E U H h x y dx dy Q rx ry hr o
 cases rx with
 |int i =>
  cases ry with
  |int j =>
   by_cases hc:0<j
   .simp only[ad7,if_pos hc]at o;exact⟨i,j,rfl,rfl,hc,ans o (.int _) hr⟩
   .simp only[ad7,if_neg hc]at o;exact o.elim
  |_=>exact o.elim
 |_=>exact o.elim
theorem anl:a2g K aao (rI azb λi j=>.int (i / j)):=by
 intro E U H h x y dx dy Q rx ry hr o
 cases rx with
 |int i =>
  cases ry with
  |int j =>
   by_cases hc:0<j/\j<1073741824
   .simp only[aao,if_pos hc]at o;exact⟨i,j,rfl,rfl,hc,ans o (.int _) hr⟩
   .simp only[aao,if_neg hc]at o;exact o.elim
  |_=>exact o.elim
 |_=>exact o.elim
theorem anm:a2g K aek (rI azc λi j=>.int (i^j.toNat)):=by
 intro E U H h x y dx dy Q rx ry hr o
 cases rx with
 |int i =>
  cases ry with
  |int j =>
   by_cases hc:0<=j/\j<=1000000/\i.natAbs<2^64
   .simp only[aek,if_pos hc]at o;exact⟨i,j,rfl,rfl,hc,ans o (.int _) hr⟩
   .simp only[aek,if_neg hc]at o;exact o.elim
  |_=>exact o.elim
 |_=>exact o.elim
variable{E:XD}{a b e:Expr}{es:List Expr}{fa fb:SE}{ka:SA}{pos:Pos}
theorem ato(ha:ME X E a fa)(hb:ME X E b fb):ME X E (.BinOp a .Sub b pos) (s2 a6h fa fb):=ac3 arl anj ha hb
theorem atp(ha:ME X E a fa)(hb:ME X E b fb):ME X E (.BinOp a .Mod b pos) (s2 ad7 fa fb):=ac3 aro ank ha hb
theorem atq(ha:ME X E a fa)(hb:ME X E b fb):ME X E (.BinOp a .FloorDiv b pos) (s2 aao fa fb):=ac3 amg anl ha hb
theorem atr(ha:ME X E a fa)(hb:ME X E b fb):ME X E (.BinOp a .Pow b pos) (s2 aek fa fb):=ac3 arp anm ha hb
noncomputable def ad8:D->Hd->R D
 |.int i,h=>.ok (.int (-i)) h
 |_,_=>.no
theorem atu(ha:ME X E a fa):ME X E (.UnaryOp .USub a pos) (s1 ad8 fa):=ay1 arq (λE U H h x dx Q rx hr o=>by
 cases rx with
 |int i=>exact⟨i,rfl,ans o (.int _) hr⟩
 |_=>exact o.elim) ha
noncomputable def gLt:D->D->Hd->R D
 |.int i,.int j,h=>.ok (.bl (decide (i<j))) h
 |.str i,.str j,h=>.ok (.bl (decide (i.cps.toList<j.cps.toList))) h
 |_,_,_=>.no
noncomputable def gLe:D->D->Hd->R D
 |.int i,.int j,h=>.ok (.bl (decide (i<=j))) h
 |.str i,.str j,h=>.ok (.bl (!decide (j.cps.toList<i.cps.toList))) h
 |_,_,_=>.no
noncomputable def gGt:D->D->Hd->R D
 |.int i,.int j,h=>.ok (.bl (decide (j<i))) h
 |_,_,_=>.no
noncomputable def gGe:D->D->Hd->R D
 |.int i,.int j,h=>.ok (.bl (decide (j<=i))) h
 |_,_,_=>.no
theorem atv:a2g K gLt (λx y H Q=>rI0 (λi j=>.bl (decide (i<j))) x y H Q\/∃i j,x=.str i/\y=.str j/\Q (.bl (decide (i.cps.toList<j.cps.toList))) H):=by
 intro E U H h x y dx dy Q rx ry hr o
 cases rx with
 |int i =>
  cases ry with
  |int j=>exact .inl ⟨i,j,rfl,rfl,ans o (.bl _) hr⟩
  |_=>exact o.elim
 |str i =>
  cases ry with
  |str j=>exact .inr ⟨i,j,rfl,rfl,ans o (.bl _) hr⟩
  |_=>exact o.elim
 |_=>exact o.elim
theorem ael:a2g K gLe (λx y H Q=>rI0 (λi j=>.bl (decide (i<=j))) x y H Q\/∃i j,x=.str i/\y=.str j/\Q (.bl (!decide (j.cps.toList<i.cps.toList))) H):=by
 intro E U H h x y dx dy Q rx ry hr o
 cases rx with
 |int i =>
  cases ry with
  |int j=>exact .inl ⟨i,j,rfl,rfl,ans o (.bl _) hr⟩
  |_=>exact o.elim
 |str i =>
  cases ry with
  |str j=>exact .inr ⟨i,j,rfl,rfl,ans o (.bl _) hr⟩
  |_=>exact o.elim
 |_=>exact o.elim
theorem atw:a2g K gGt (rI0 λi j=>.bl (decide (j<i))):=by
 intro E U H h x y dx dy Q rx ry hr o
 cases rx with
 |int i =>
  cases ry with
  |int j=>exact⟨i,j,rfl,rfl,ans o (.bl _) hr⟩
  |_=>exact o.elim
 |_=>exact o.elim
theorem atx:a2g K gGe (rI0 λi j=>.bl (decide (j<=i))):=by
 intro E U H h x y dx dy Q rx ry hr o
 cases rx with
 |int i =>
  cases ry with
  |int j=>exact⟨i,j,rfl,rfl,ans o (.bl _) hr⟩
  |_=>exact o.elim
 |_=>exact o.elim
noncomputable def a5k:D->Bool
 |.non=>true
 |_=>false
theorem aem(r:Rep K U H x .non):x=.non:=by cases r;rfl
theorem aap{b:Bool}(r:Rep K U H x (.bl b)):x=.bl b:=by cases r;rfl
theorem aen{i:Int}(r:Rep K U H x (.int i)):x=.int i:=by cases r;rfl
theorem aaq(r:Rep K U H x d):decide (x=.non)=a5k d:=by cases r<;>simp[a5k]
noncomputable def gIs(x y:D)(h:Hd):R D:=match y with
 |.non=>.ok (.bl (a5k x)) h
 |.bl j=>(match x with|.bl i=>.ok (.bl (i == j)) h|_=>.no)
 |_=>.no
noncomputable def a5z(x y:D)(h:Hd):R D:=match y with
 |.non=>.ok (.bl (!a5k x)) h
 |.bl j=>(match x with|.bl i=>.ok (.bl (i != j)) h|_=>.no)
 |_=>.no
theorem al5:a2g K gIs (λx y H Q=>(y=.non/\Q (.bl (decide (x=.non))) H)\/∃i j,x=.bl i/\y=.bl j/\Q (.bl (i == j)) H):=by
 intro E U H h x y dx dy Q rx ry hr o
 cases dy with
 |non=>exact .inl ⟨aem ry,by rw[aaq rx];exact ans o (.bl _) hr⟩
 |bl j =>
  cases dx with
  |bl i=>exact .inr ⟨i,j,aap rx,aap ry,ans o (.bl _) hr⟩
  |_=>exact o.elim
 |_=>exact o.elim
theorem aeo:a2g K a5z (λx y H Q=>(y=.non/\Q (.bl (!decide (x=.non))) H)\/∃i j,x=.bl i/\y=.bl j/\Q (.bl (i != j)) H):=by
 intro E U H h x y dx dy Q rx ry hr o
 cases dy with
 |non=>exact .inl ⟨aem ry,by rw[aaq rx];exact ans o (.bl _) hr⟩
 |bl j =>
  cases dx with
  |bl i=>exact .inr ⟨i,j,aap rx,aap ry,ans o (.bl _) hr⟩
  |_=>exact o.elim
 |_=>exact o.elim
noncomputable def a8f:D->Bool
 |.non=>true|.bl _=>true|.int _=>true|.str _=>true
 |_=>false
noncomputable def fvD:D->Option V
 |.non=>some .non|.bl b=>some (.bl b)|.int i=>some (.int i)|.str x=>some (.str x)
 |_=>none
theorem aij{d:D}(r:Rep K U H x d)(f:a8f d=true):fvD d=some x:=by
 cases r<;>first|rfl|(cases f;done)
theorem fvs{d e:D}{P:D->V->D->V->Prop}(h:∀d x e y,fvD d=some x->fvD e=some y->P d x e y)(r:Rep K U H x d)(q:Rep K U H y e)(f:a8f d=true)(g:a8f e=true):P d x e y:=h d x e y (aij r f) (aij q g)
end
section
variable{X:Cx}{K:Fg}{E:XD}{a b e o:Expr}{es:List Expr}{fa fb:SE}{ka:SA}{pos:Pos}
noncomputable def a0l(d:D)(h:Hd):Option (List D):=match d with
 |.tup xs=>some xs
 |.rol xs=>some xs
 |.ref i=>match h[i]? with|some (.lst xs)=>some xs|_=>none
 |_=>none
noncomputable def gIx(x y:D)(h:Hd):R D:=match y with
 |.int i=>(match x with
  |.str z=>if z.length<=LINE then (match atI z.cps.toList i with|some c=>.ok (.str ⟨#[c]⟩) h|none=>.no) else .no
  |x=>match a0l x h with
   |some xs=>(match atI xs i with|some d=>.ok d h|none=>.no)
   |none=>.no)
 |_=>.no
theorem aar(r:Reps K U H vs xs)(e:atI xs i=some d):∃v,atI vs i=some v/\Rep K U H v d:=by
 unfold atI at e ⊢;rw[r.len]
 cases hx:ixN xs.length i with
 |none=>rw[hx]at e;cases e
 |some j=>rw[hx]at e;exact r.get e
theorem aty:a2g K gIx (rIx K):=by
 intro E U H h x y dx dy Q rx ry hr o
 cases ry with
 |int i =>
  have go:∀{p:Addr} {vs:List V} {xs:List D},Reps K U H vs xs->out K E (ql K) U H (match atI xs i with|some d=>.ok d h|none=>.no) Q->∃v,atI vs i=some v/\Q v H:=λ{p vs xs} r o=>by
   cases he:atI xs i with
   |none=>rw[he]at o;exact o.elim
   |some d =>
    rw[he]at o;obtain⟨v,h1,h2⟩:=aar r he;exact⟨v,h1,ans o h2 hr⟩
  cases rx with
  |str z =>
   by_cases hc:z.length<=LINE
   .simp only[gIx,if_pos hc]at o
    cases he:atI z.cps.toList i with
    |none=>rw[he]at o;exact o.elim
    |some c=>rw[he]at o;exact .inr (.inr ⟨z,i,c,rfl,rfl,ll hc,he,ans o (.str _) hr⟩)
   .simp only[gIx,if_neg hc]at o;exact o.elim
  |@tup p vs xs hp r =>
   simp only[gIx,a0l]at o;obtain⟨v,h1,h2⟩:=go (p:=p) r o;exact .inr (.inl ⟨p,vs,i,v,rfl,rfl,SqT.of hp,h1,h2⟩)
  |@rol p vs xs hp r =>
   simp only[gIx,a0l]at o;obtain⟨v,h1,h2⟩:=go (p:=p) r o;exact .inl ⟨p,vs,i,v,rfl,rfl,hp.l,h1,h2⟩
  |@ref p j hp =>
   obtain⟨ob,e1,e2⟩:=hr.at hp
   cases ob with
   |lst xs =>
    simp only[gIx,a0l,e1]at o;obtain⟨vs,h3,h4⟩:=e2;obtain⟨v,h1,h2⟩:=go (p:=p) h4 o;exact .inl ⟨p,vs,i,v,rfl,rfl,SqL.of h3,h1,h2⟩
   |dK _=>simp only[gIx,a0l,e1]at o;exact o.elim
   |dT _=>simp only[gIx,a0l,e1]at o;exact o.elim
   |ins _ _=>simp only[gIx,a0l,e1]at o;exact o.elim
  |_=>exact o.elim
 |_=>exact o.elim
theorem ano(ha:ME X E a fa)(hb:ME X E b fb)(hp:a6j b):ME X E (.Subscript a b pos) (s2 gIx fa fb):=ay2 as4 aty ha hb hp
abbrev SO:=Sd->Hd->R (Option Int)
abbrev MO(X:Cx)(E:XD)(e:Option Expr)(f:SO):Prop:=PO X e (lift X.K E b0k f)
noncomputable def oN:SO:=λ_ h=>.ok none h
noncomputable def oS(f:SE):SO:=λτ h=>(f τ h).bind λd h1=>match d with|.int i=>.ok (some i) h1|_=>.no
theorem PO.weak{e:Option Expr}{t t':St->Hp->(Option Int->Hp->Prop)->Prop}(h:PO X e t)(i:∀Z H Q,t' Z H Q->t Z H Q):PO X e t':=λaA s Z H Q I q=>h aA s Z H Q I (i _ _ _ q)
theorem anp:MO X E none oN:=PO.weak amq λZ H Q ⟨U,τ,h,S,Rh,o⟩=>o U H none (.refl _ _) rfl Rh
theorem anq(he:ME X E e fa):MO X E (some e) (oS fa):=by
 refine PO.weak (amr he) ?_
 rintro Z H Q ⟨U,τ,h,S,Rh,o⟩
 refine⟨U,τ,h,S,Rh,bh o λd h1 U1 H1 v g1 r1 hr1 o1=>?_⟩
 cases r1 with
 |int i=>exact⟨i,rfl,o1 U1 H1 _ (.refl _ _) rfl hr1⟩
 |_=>exact o1.elim
def whole(n:Nat)(lo hi:Option Int):Prop:=HT.sIx n 0 lo=0/\HT.sIx n n hi=n
instance (n:Nat) (lo hi:Option Int):Decidable (whole n lo hi):=by unfold whole;exact inferInstance
noncomputable def gSl(d:D)(lo hi:Option Int)(h:Hd):R D:=match d with
 |.str z=>if z.length<=LINE then .ok (.str ⟨(a6q z.cps.toList lo hi).toArray⟩) h else .no
 |.tup xs=>if ¬ whole xs.length lo hi then .ok (.tup (a6q xs lo hi)) h else .no
 |.rol xs=>.ok (.ref h.length) (h++[.lst (a6q xs lo hi)])
 |.scr xs=>.ok (.ref h.length) (h++[.lst (a6q xs lo hi)])
 |.ref i=>match h[i]? with|some (.lst xs)=>.ok (.ref h.length) (h++[.lst (a6q xs lo hi)])|_=>.no
 |_=>.no
theorem a2o(r:Reps K U H vs xs)(lo hi:Option Int):Reps K U H (aks vs lo hi) (a6q xs lo hi):=by
 unfold aks a6q;rw[r.len];exact(r.drop _).take _
theorem aas(rx:Rep K U H x d)(hr:HRep K U H h)(o:out K E (ql K) U H (gSl d lo hi h) Q):axy x lo hi H Q\/axp K x lo hi H Q\/axr K x lo hi H Q:=by
 cases rx with
 |str z =>
  by_cases hc:z.length<=LINE
  .simp only[gSl,if_pos hc]at o;exact .inl ⟨z,rfl,ll hc,ans o (.str _) hr⟩
  .simp only[gSl,if_neg hc]at o;exact o.elim
 |@tup p vs xs hp r =>
  by_cases hc:¬ whole xs.length lo hi
  .simp only[gSl,if_pos hc]at o;exact .inr (.inl ⟨p,vs,rfl,SqT.of hp,by rw[r.len];exact hc,a2i (a2o r lo hi) hr o⟩)
  .simp only[gSl,if_neg hc]at o;exact o.elim
 |@rol p vs xs hp r=>exact .inr (.inr ⟨p,vs,rfl,hp.l,u9 (a2o r lo hi) hr o⟩)
 |@scr p vs xs hp r=>exact .inr (.inr ⟨p,vs,rfl,hp.l,u9 (a2o r lo hi) hr o⟩)
 |@ref p j hp =>
  obtain⟨ob,e1,e2⟩:=hr.at hp
  cases ob with
  |lst xs =>
   simp only[gSl,e1]at o;obtain⟨vs,h3,h4⟩:=e2;exact .inr (.inr ⟨p,vs,rfl,SqL.of h3,u9 (a2o h4 lo hi) hr o⟩)
  |dK _=>simp only[gSl,e1]at o;exact o.elim
  |dT _=>simp only[gSl,e1]at o;exact o.elim
  |ins _ _=>simp only[gSl,e1]at o;exact o.elim
 |_=>exact o.elim
noncomputable def oh:List D->Hd->R D
 |[.str z],h=>if z.length<=LINE then .ok (.int z.length) h else .no
 |[x],h=>(match a0l x h with|some xs=>.ok (.int xs.length) h|none=>.no)
 |_,_=>.no
theorem anr:ad5 K oh (λxs H Q=>(∃p ys,xs=[.ref p]/\(SqL K H p ys\/SqT K H p ys)/\Q (.int ys.length) H)\/∃z,xs=[.str z]/\z.length<=sizeLine/\Q (.int z.length) H):=by
 intro E U H h xs ds Q r hr o
 cases r with
 |nil=>exact o.elim
 |cons r rs =>
  cases rs with
  |cons _ _=>exact(show False by cases r<;>exact o).elim
  |nil =>
   cases r with
   |str z =>
    by_cases hc:z.length<=LINE
    .simp only[oh,if_pos hc]at o;exact .inr ⟨z,rfl,ll hc,ans o (.int _) hr⟩
    .simp only[oh,if_neg hc]at o;exact o.elim
   |@tup p vs xs hp r=>simp only[oh,a0l]at o;exact .inl ⟨p,vs,rfl,.inr (SqT.of hp),by rw[r.len];exact ans o (.int _) hr⟩
   |@rol p vs xs hp r=>simp only[oh,a0l]at o;exact .inl ⟨p,vs,rfl,.inl hp.l,by rw[r.len];exact ans o (.int _) hr⟩
   |@ref p j hp =>
    obtain⟨ob,e1,e2⟩:=hr.at hp
    cases ob with
    |lst xs =>
     simp only[oh,a0l,e1]at o;obtain⟨vs,h3,h4⟩:=e2;exact .inl ⟨p,vs,rfl,.inl (SqL.of h3),by rw[h4.len];exact ans o (.int _) hr⟩
    |dK _=>simp only[oh,a0l,e1]at o;exact o.elim
    |dT _=>simp only[oh,a0l,e1]at o;exact o.elim
    |ins _ _=>simp only[oh,a0l,e1]at o;exact o.elim
   |_=>exact o.elim
noncomputable def atz:List D->Hd->R D
 |[.int i],h=>.ok (.int (if i<0 then -i else i)) h
 |_,_=>.no
theorem ant:ad5 K atz (λxs H Q=>∃i,xs=[.int i]/\Q (.int (if i<0 then -i else i)) H):=by
 intro E U H h xs ds Q r hr o
 unfold atz at o
 split at o
 .cases r with|cons r rs=>cases r;cases rs;exact⟨_,rfl,ans o (.int _) hr⟩
 .exact o.elim
noncomputable def a0w:List D->Hd->R D
 |[.int i,.int j],h=>.ok (.int (if j > i then j else i)) h
 |_,_=>.no
noncomputable def a0x:List D->Hd->R D
 |[.int i,.int j],h=>.ok (.int (if j<i then j else i)) h
 |_,_=>.no
theorem aik:ad5 K a0w (λxs H Q=>∃i j,xs=[.int i,.int j]/\Q (.int (if j > i then j else i)) H):=by
 intro E U H h xs ds Q r hr o
 unfold a0w at o
 split at o
 .cases r with|cons r rs=>cases rs with|cons q rs=>cases r;cases q;cases rs;exact⟨_,_,rfl,ans o (.int _) hr⟩
 .exact o.elim
theorem ail:ad5 K a0x (λxs H Q=>∃i j,xs=[.int i,.int j]/\Q (.int (if j<i then j else i)) H):=by
 intro E U H h xs ds Q r hr o
 unfold a0x at o
 split at o
 .cases r with|cons r rs=>cases rs with|cons q rs=>cases r;cases q;cases rs;exact⟨_,_,rfl,ans o (.int _) hr⟩
 .exact o.elim
noncomputable def awp:List D->Hd->R D
 |[.int i],h=>.ok (.int i) h
 |[.bl k],h=>.ok (.int (if k then 1 else 0)) h
 |_,_=>.no
noncomputable def tyD(d:D)(h:Hd):Option String:=match d with
 |.non=>some "NoneType" |.bl _=>some "bool" |.int _=>some "int" |.str _=>some "str" |.tup _=>some "tuple" |.rol _=>some "list"
 |.ref i=>(match h[i]? with|some (.lst _)=>some "list" |some (.dK _)=>some "dict" |_=>none)
 |_=>none
noncomputable def ahj(t T:String):Option Bool :=
 if t∈["NoneType","bool","int","str","tuple","list","dict"]/\T∈["bool","int","str","tuple","list","dict"] then some (t == T || (t == "bool" && T == "int")) else none
theorem aep{t T:String}{b:Bool}(e:ahj t T=some b):PySem.W.kitOne K (.type t) (.type T)=some b:=by
 unfold ahj at e
 split at e
 .rename_i h;obtain⟨h1,h2⟩:=h;simp only[List.mem_cons,List.not_mem_nil,or_false]at h1 h2
  rcases h1 with rfl|rfl|rfl|rfl|rfl|rfl|rfl<;>rcases h2 with rfl|rfl|rfl|rfl|rfl|rfl<;>(cases e;rfl)
 .cases e
noncomputable def al6:List D->Hd->R D
 |[x,.ty T],h=>(match tyD x h with|some t=>(match ahj t T with|some b=>.ok (.bl b) h|none=>.no)|none=>.no)
 |_,_=>.no
theorem au0(r:Rep K U H x d)(hr:HRep K U H h)(e:tyD d h=some t):TyOf K H x (.type t):=by
 cases r with
 |non=>cases e;exact .non
 |bl b=>cases e;exact .bl b
 |int b=>cases e;exact .int b
 |str b=>cases e;exact .str b
 |ty _=>cases e
 |tup hp r=>cases e;exact .tup hp
 |rol hp r=>cases e;obtain⟨o,hp⟩:=hp;exact .frz hp
 |scr _ _=>cases e
 |rod _ _ _=>cases e
 |rdT _ _ _=>cases e
 |exc _ _ _=>cases e
 |ins _ _ _ _=>cases e
 |ref hp =>
  obtain⟨ob,e1,e2⟩:=hr.at hp
  cases ob with
  |lst xs=>simp only[tyD,e1]at e;cases e;obtain⟨vs,h3,h4⟩:=e2;exact .lst h3
  |dK _=>simp only[tyD,e1]at e;cases e;obtain⟨vs,h3,h4⟩:=e2;exact .dK h3
  |dT _=>simp only[tyD,e1]at e;cases e
  |ins _ _=>simp only[tyD,e1]at e;cases e
theorem anu:ad5 K al6 (λxs H Q=>∃x T t b,xs=[x,.ty T]/\TyOf K H x t/\PySem.W.kitOne K t (.type T)=some b/\Q (.bl b) H):=by
 intro E U H h xs ds Q r hr o
 unfold al6 at o
 split at o
 .rename_i d T
  cases r with
  |cons r rs =>
   cases rs with
   |cons q rs =>
    cases q;cases rs
    cases ht:tyD d h with
    |none=>rw[ht]at o;exact o.elim
    |some t =>
     rw[ht]at o
     cases hb:ahj t T with
     |none=>simp only[hb]at o;exact o.elim
     |some b =>
      simp only[hb]at o;exact⟨_,T,.type t,b,rfl,au0 r hr ht,aep hb,ans o (.bl _) hr⟩
 .exact o.elim
end
section
variable{X:Cx}{K:Fg}{E:XD}{a b e o:Expr}{es:List Expr}{fa fb fo:SE}{ka:SA}{pos apos cpos:Pos}{name:Str}{idn:String}
def awq(K:Fg)(g:D->List D->Hd->R D)(r:V->List V->Hp->VK->Prop):Prop:=∀(E:XD) U H h x dx xs ds Q,Rep K U H x dx->Reps K U H xs ds->HRep K U H h->out K E (ql K) U H (g dx ds h) Q->r x xs H Q
noncomputable def isL(d:D)(h:Hd):Bool:=match d with|.ref i=>(match h[i]? with|some (.lst _)=>true|_=>false)|.rol _=>true|_=>false
noncomputable def sML(g:D->List D->Hd->R D)(f:SE)(k:SA):SE:=λτ h=>(f τ h).bind λd h1=>if isL d h1=true then (k τ h1).bind λds h2=>g d ds h2 else .no
theorem au1(r:Rep K U H x d)(hr:HRep K U H h)(e:isL d h=true):tyV K "list" x H:=by
 cases r with
 |rol hp _=>exact .inl ⟨rfl,_,hp.l⟩
 |ref hp =>
  obtain⟨ob,e1,e2⟩:=hr.at hp
  cases ob with
  |lst xs=>obtain⟨vs,h3,_⟩:=e2;exact .inl ⟨rfl,_,SqL.of h3⟩
  |dK _=>simp[isL,e1]at e
  |dT _=>simp[isL,e1]at e
  |ins _ _=>simp[isL,e1]at e
 |_=>cases e
theorem anv(slot:Slot "list" name idn)(hty:typeOf (.builtin idn)=pure (.type "method_descriptor"))(hm:MtR X idn r)(hs:awq X.K g r)(ho:ME X E o fo)(ha:MA X E (e::es) ka)
  (hbase:attributeBase o name X.env (eval o X.env)=eval o X.env:=by rfl)
  (hfew:((backTo cpos (starEach (e::es) X.env)).all (λx => !x.1) && (backToKw cpos (keywordEach [] X.env)).all (λx=>x.1.isSome)
   && decide ((e::es).length+([]:List Keyword).length+(if ([]:List Keyword).isEmpty then 0 else 1)<30))=true:=by rfl)
  (hline:(apos.endLine == cpos.line)=true:=by rfl) (hst:starEach (e::es) X.env=(false,eval e X.env)::starEach es X.env:=by rfl) (hplain:(backTo cpos (starEach es X.env)).any (·.1)=false:=by rfl) :
  ME X E (.Call (.Attribute o name apos) (e::es) [] cpos) (sML g fo ka):=by
 refine PE.weak (axs PySem.F.plainAttrs_list slot hty hm ho ha hbase hfew hline hst hplain) ?_
 rintro Z H Q ⟨U,τ,h,S,Rh,o⟩
 refine⟨U,τ,h,S,Rh,bh o λd h1 U1 H1 v g1 r1 hr1 o1=>?_⟩
 by_cases hc:isL d h1=true
 .rw[if_pos hc]at o1;refine⟨au1 r1 hr1 hc,U1,τ,h1,S.mono g1,hr1,bh o1 λds h2 U2 H2 vs g2 r2 hr2 o2=>?_⟩;exact hs E U2 H2 h2 v d vs ds Q (r1.mono g2) r2 hr2 o2
 .rw[if_neg hc]at o1;exact o1.elim
noncomputable def a3k:D->List D->Hd->R D
 |.ref i,[y],h=>(match h[i]? with|some (.lst xs)=>if xs.length<LINE then .ok .non (h.set i (.lst (xs++[y]))) else .no|_=>.no)
 |_,_,_=>.no
theorem anw:awq K a3k adx:=by
 intro E U H h x dx xs ds Q rx r hr o
 unfold a3k at o
 split at o
 .rename_i i y
  cases rx with
  |@ref p _ hp =>
   cases r with
   |cons r1 rs =>
    cases rs
    split at o
    .rename_i xs hx;obtain⟨vs,h3,h4⟩:=hr.lst hp hx
     split at o
     .rename_i hc;exact⟨p,vs,_,rfl,rfl,h3,by rw[h4.len,aib];exact hc,a6x (h4.snoc r1) hr hp .non o⟩
     .exact o.elim
    .exact o.elim
 .exact o.elim
noncomputable def a2p:D->List D->Hd->R D
 |.ref i,[.int j],h=>(match h[i]? with|some (.lst xs)=>(match ixN xs.length j with|some k=>(match xs[k]? with|some y=>if xs.length<=LINE then .ok y (h.set i (.lst (xs.eraseIdx k))) else .no|none=>.no)|none=>.no)|_=>.no)
 |_,_,_=>.no
theorem aeq:awq K a2p aku:=by
 intro E U H h x dx xs ds Q rx r hr o
 unfold a2p at o
 split at o
 .rename_i i j
  cases rx with
  |@ref p _ hp =>
   cases r with
   |cons r1 rs =>
    cases r1;cases rs
    split at o
    .rename_i xs hx;obtain⟨vs,h3,h4⟩:=hr.lst hp hx
     split at o
     .rename_i k hk
      split at o
      .rename_i y hy
       split at o
       .rename_i hl;obtain⟨v,h5,h6⟩:=h4.get hy;obtain⟨q1,q2,q3,q4⟩:=a9b hk;have hl':xs.length<=16777216:=hl;exact⟨p,vs,j,k,v,rfl,rfl,h3,by lia,by lia,by rw[h4.len];exact q1,h5,a6x (h4.erase k) hr hp h6 o⟩
       .exact o.elim
      .exact o.elim
     .exact o.elim
    .exact o.elim
 .exact o.elim
noncomputable def a4j:List D->Hd->R D
 |[.str z],h=>if z.length<=LINE then .ok (.ref h.length) (h++[.lst (zq z)]) else .no
 |[x],h=>(match a0l x h with|some xs=>.ok (.ref h.length) (h++[.lst xs])|none=>.no)
 |_,_=>.no
theorem a2y(z:Str):Reps K U H (xq z) (zq z):=by
 unfold xq zq
 induction z.cps.toList with
 |nil=>exact .nil
 |cons c cs ih=>exact .cons (.str _) ih
theorem aim:ad5 K a4j (λxs H Q=>(∃p ys,xs=[.ref p]/\(SqL K H p ys\/SqT K H p ys)/\∀l,H l=none->Q (.ref l) (upd H l (.lst ys)))\/∃z,xs=[.str z]/\z.length<=sizeLine/\∀l,H l=none->Q (.ref l) (upd H l (.lst (xq z)))):=by
 intro E U H h xs ds Q r hr o
 cases r with
 |nil=>exact o.elim
 |cons r rs =>
  cases rs with
  |cons _ _=>exact(show False by cases r<;>exact o).elim
  |nil =>
   cases r with
   |str z =>
    by_cases hc:z.length<=LINE
    .simp only[a4j,if_pos hc]at o;exact .inr ⟨z,rfl,ll hc,u9 (a2y z) hr o⟩
    .simp only[a4j,if_neg hc]at o;exact o.elim
   |@tup p vs xs hp r=>simp only[a4j,a0l]at o;exact .inl ⟨p,vs,rfl,.inr (SqT.of hp),u9 r hr o⟩
   |@rol p vs xs hp r=>simp only[a4j,a0l]at o;exact .inl ⟨p,vs,rfl,.inl hp.l,u9 r hr o⟩
   |@ref p j hp =>
    obtain⟨ob,e1,e2⟩:=hr.at hp
    cases ob with
    |lst xs =>
     simp only[a4j,a0l,e1]at o;obtain⟨vs,h3,h4⟩:=e2;exact .inl ⟨p,vs,rfl,.inl (SqL.of h3),u9 h4 hr o⟩
    |dK _=>simp only[a4j,a0l,e1]at o;exact o.elim
    |dT _=>simp only[a4j,a0l,e1]at o;exact o.elim
    |ins _ _=>simp only[a4j,a0l,e1]at o;exact o.elim
   |_=>exact o.elim
noncomputable def xr:List D->Hd->R D
 |[.str z],h=>if z.length<=LINE then .ok (.tup (zq z)) h else .no
 |[x],h=>(match a0l x h with|some xs=>.ok (.tup xs) h|none=>.no)
 |_,_=>.no
theorem aer:ad5 K xr (λxs H Q=>(∃p ys,xs=[.ref p]/\((SqL K H p ys/\∀l,H l=none->Q (.ref l) (upd H l (.tup ys)))\/(SqT K H p ys/\Q (.ref p) H)))\/∃z,xs=[.str z]/\z.length<=sizeLine/\∀l,H l=none->Q (.ref l) (upd H l (.tup (xq z)))):=by
 intro E U H h xs ds Q r hr o
 cases r with
 |nil=>exact o.elim
 |cons r rs =>
  cases rs with
  |cons _ _=>exact(show False by cases r<;>exact o).elim
  |nil =>
   cases r with
   |str z =>
    by_cases hc:z.length<=LINE
    .simp only[xr,if_pos hc]at o;exact .inr ⟨z,rfl,ll hc,a2i (a2y z) hr o⟩
    .simp only[xr,if_neg hc]at o;exact o.elim
   |@tup p vs xs hp r=>simp only[xr,a0l]at o;exact .inl ⟨p,vs,rfl,.inr ⟨SqT.of hp,ans o (.tup hp r) hr⟩⟩
   |@rol p vs xs hp r=>simp only[xr,a0l]at o;exact .inl ⟨p,vs,rfl,.inl ⟨hp.l,a2i r hr o⟩⟩
   |@ref p j hp =>
    obtain⟨ob,e1,e2⟩:=hr.at hp
    cases ob with
    |lst xs =>
     simp only[xr,a0l,e1]at o;obtain⟨vs,h3,h4⟩:=e2;exact .inl ⟨p,vs,rfl,.inl ⟨SqL.of h3,a2i h4 hr o⟩⟩
    |dK _=>simp only[xr,a0l,e1]at o;exact o.elim
    |dT _=>simp only[xr,a0l,e1]at o;exact o.elim
    |ins _ _=>simp only[xr,a0l,e1]at o;exact o.elim
   |_=>exact o.elim
noncomputable def anx:List D->Option (List Bool)
 |[]=>some []
 |.bl z::r=>(anx r).map (z::·)
 |_::_=>none
theorem a9q:∀{vs:List V} {xs:List D} {zs:List Bool},Reps K U H vs xs->anx xs=some zs->vs=zs.map V.bl
 |_,_,_,.nil,e=>by cases e;rfl
 |_,_,zs,.cons (d:=d) r rs,e=>by
  cases r with
  |bl z =>
   simp only[anx,Option.map_eq_some_iff]at e;obtain⟨ws,h1,rfl⟩:=e;rw[a9q rs h1];rfl
  |_=>cases e
theorem ain(bs:List Bool):anx (bs.map D.bl)=some bs:=by
 induction bs with
 |nil=>rfl
 |cons b bs ih=>simp[anx,ih]
noncomputable def aqk:List D->Hd->R D
 |[.ref i],h=>(match h[i]? with|some (.lst xs)=>(match anx xs with|some bs=>.ok (.bl (bs.all id)) h|none=>.no)|_=>.no)
 |[.rol xs],h=>(match anx xs with|some bs=>.ok (.bl (bs.all id)) h|none=>.no)
 |_,_=>.no
theorem anz:ad5 K aqk (λxs H Q=>∃(p:Addr) (bs:List Bool),xs=[.ref p]/\SqL K H p (bs.map V.bl)/\Q (.bl (bs.all id)) H):=by
 intro E U H h xs ds Q r hr o
 unfold aqk at o
 split at o
 .cases r with
  |cons r rs =>
   cases rs
   cases r with
   |@ref p _ hp =>
    split at o
    .rename_i xs hx;obtain⟨vs,h3,h4⟩:=hr.lst hp hx
     split at o
     .rename_i bs hb;exact⟨p,bs,rfl,SqL.of (by rw[h3,a9q h4 hb]),ans o (.bl _) hr⟩
     .exact o.elim
    .exact o.elim
 .cases r with
  |cons r rs =>
   cases rs
   cases r with
   |@rol p vs xs hp r =>
    split at o
    .rename_i bs hb;exact⟨p,bs,rfl,by rw[<-a9q r hb];exact hp.l,ans o (.bl _) hr⟩
    .exact o.elim
 .exact o.elim
end
end MI
theorem L2.Room.u(r:L2.Room k A):A.units+64<PySem.cLine:=r.units
namespace MI
open L2
mutual
def eqD:D->D->Bool
 |.non,.non=>true
 |.bl a,.bl b=>a == b
 |.bl a,.int b=>(if a then 1 else 0) == b
 |.int a,.bl b=>a == (if b then 1 else 0)
 |.int a,.int b=>a == b
 |.str a,.str b=>a == b
 |.tup xs,.tup ys=>al7 xs ys
 |_,_=>false
def al7:List D->List D->Bool
 |[],[]=>true
 |x::xs,y::ys=>eqD x y && al7 xs ys
 |_,_=>false
end
noncomputable def pur:Nat->D->Bool
 |_,.non=>true
 |_,.bl _=>true
 |_,.int _=>true
 |_,.str _=>true
 |n+1,.tup xs=>xs.all (pur n)
 |_,_=>false
noncomputable def pairE(xs ys:List D)(j:Nat):Bool:=match xs[j]?,ys[j]? with|some x,some y=>eqD x y|_,_=>false
theorem a70:∀xs ys:List D,((List.range (min xs.length ys.length)).all (pairE xs ys) && xs.length == ys.length)=al7 xs ys
 |[],[]=>by simp[al7]
 |[],_::_=>by simp[al7]
 |_::_,[]=>by simp[al7]
 |x::xs,y::ys=>by
  have ih:=a70 xs ys;rw[show min (x::xs).length (y::ys).length=min xs.length ys.length+1 by simp only[List.length_cons];lia,List.range_succ_eq_map]
  rw[List.all_cons,List.all_map];have e:(pairE (x::xs) (y::ys) ∘ Nat.succ)=pairE xs ys:=by funext j;simp[pairE]
  rw[e];simp only[al7];rw[<-ih];have e2:((x::xs).length == (y::ys).length)=(xs.length == ys.length):=by simp
  rw[e2,Bool.and_assoc];rfl
section
variable{K:Fg}{U:List Addr}{H:Hp}
theorem a71{xs:List D}(r:Rep K U H v (.tup xs)):∃a vs,v=.ref a/\H a=some (.tup vs)/\Reps K U H vs xs:=by cases r with|@tup a vs _ h rs=>exact⟨a,vs,rfl,h,rs⟩
theorem al8(r:Rep K U H v d)(q:Rep K U H v e)(f:a8f d=true)(g:a8f e=true):eqD d e=true:=by
 have h:=aij r f;have h':=aij q g
 cases d<;>first|(cases h;done)|(cases h;cases e<;>first|(cases h';done)|(cases h';simp[eqD]))
theorem a08(r:Rep K U H v d)(p:pur n d=true):(∃xs,d=.tup xs)\/(a9c v=true/\a8f d=true):=by
 cases r<;>first|exact .inr ⟨rfl,rfl⟩|exact .inl ⟨_,rfl⟩|(cases n<;>cases p)
theorem a72(r:Rep K U H x d)(q:Rep K U H y e)(f:a8f d=true)(g:a8f e=true):eqV x y=eqD d e:=by
 refine fvs (P:=λd x c y=>eqV x y=eqD d c) (λd x e y h h'=>?_) r q f g
 cases d<;>first|(cases h;done)|(cases h;cases e<;>first|(cases h';done)|(cases h';first|rfl|(simp[eqV,eqD];done)))
theorem aio:∀(n:Nat) {v:V} {d e:D},Rep K U H v d->Rep K U H v e->pur n d=true->pur n e=true->eqD d e=true:=by
 intro n
 induction n with
 |zero =>
  intro v d e r q p1 p2
  rcases a08 r p1 with⟨xs,rfl⟩|⟨f1,g1⟩
  .cases p1
  rcases a08 q p2 with⟨xs,rfl⟩|⟨f2,g2⟩
  .cases p2
  exact al8 r q g1 g2
 |succ n ih =>
  intro v d e r q p1 p2
  rcases a08 r p1 with⟨xs,rfl⟩|⟨f1,g1⟩
  .rcases a08 q p2 with⟨ys,rfl⟩|⟨f2,g2⟩
   .obtain⟨a,vs,rfl,h,rs⟩:=a71 r;obtain⟨b,us,z,h',qs⟩:=a71 q;cases z
    rw[h]at h';cases h'
    simp only[eqD];simp only[pur,List.all_eq_true]at p1 p2
    clear h r q
    induction rs using Reps.rec (motive_1:=λ_ _ _=>True) generalizing ys with
    |nil=>cases qs;rfl
    |cons r rs _ ih2 =>
     cases qs with
     |cons q qs =>
      simp only[al7,Bool.and_eq_true];exact⟨ih r q (p1 _ (List.mem_cons_self ..)) (p2 _ (List.mem_cons_self ..)),ih2 _ qs (λx hx=>p1 x (List.mem_cons_of_mem _ hx)) (λx hx=>p2 x (List.mem_cons_of_mem _ hx))⟩
    |_=>trivial
   .obtain⟨a,vs,rfl,h,rs⟩:=a71 r;cases f2
  .rcases a08 q p2 with⟨ys,rfl⟩|⟨f2,g2⟩
   .obtain⟨a,vs,rfl,h,rs⟩:=a71 q;cases f1
   .exact al8 r q g1 g2
open SeqAt in
theorem au2{s:Shared}(hok:HOk P w H s.heap):∀(n:Nat) (A:Around) {x y:V} {u v:Value} {d e:D},Rep K U H x d->Rep K U H y e->RelV x u->RelV y v->pur n d=true->pur n e=true->A.units+n<cLine->EqAt A s u v (eqD d e):=by
 intro n
 induction n with
 |zero =>
  intro A x y u v d e r q rx ry p1 p2 hu
  rcases a08 r p1 with⟨xs,rfl⟩|⟨f1,f2⟩
  .cases p1
  .rcases a08 q p2 with⟨xs,rfl⟩|⟨g1,g2⟩
   .cases p2
   .rw[<-a72 r q f2 g2];exact akt rx ry f1 g1
 |succ n ih =>
  intro A x y u v d e r q rx ry p1 p2 hu
  rcases a08 r p1 with⟨xs,rfl⟩|⟨f1,f2⟩
  .cases r with
   |@tup a vs _ ha rs =>
    cases rx
    obtain⟨_,its,r1,t1⟩:=(Rd.of ha).ok hok
    rcases a08 q p2 with⟨ys,rfl⟩|⟨g1,g2⟩
    .cases q with
     |@tup b us _ hb qs =>
      cases ry
      obtain⟨_,its2,r2,t2⟩:=(Rd.of hb).ok hok
      by_cases hab:a=b
      .subst hab;rw[aio (n+1) (.tup ha rs) (.tup hb qs) p1 p2];exact EqAt.same _
      .have l1:its.toArray.size=xs.length:=by rw[List.size_toArray,<-r1.length,rs.len]
       have l2:its2.toArray.size=ys.length:=by rw[List.size_toArray,<-r2.length,qs.len]
       have:=RcAt.tuples (A:=A) (s:=s) (e:=pairE xs ys) t1 t2 (by lia) (λj h1 h2=>by
        have j1:j<xs.length:=by lia
        have j2:j<ys.length:=by lia
        obtain⟨v1,e1,q1⟩:=rs.get (List.getElem?_eq_getElem j1);obtain⟨v2,e2,q2⟩:=qs.get (List.getElem?_eq_getElem j2);obtain⟨u1,e3,q3⟩:=r1.get e1;obtain⟨u2,e4,q4⟩:=r2.get e2;have f1:its.toArray[j]=u1:=by simpa using (List.getElem?_eq_some_iff.mp e3).2
        have f2:its2.toArray[j]=u2:=by simpa using (List.getElem?_eq_some_iff.mp e4).2
        have pe:pairE xs ys j=eqD xs[j] ys[j]:=by simp[pairE,List.getElem?_eq_getElem j1,List.getElem?_eq_getElem j2]
        rw[f1,f2,pe];simp only[pur,List.all_eq_true]at p1 p2;exact ih A.in1 q1 q2 q3 q4 (p1 _ (List.getElem_mem j1)) (p2 _ (List.getElem_mem j2)) (by rw[Around.in1_units];lia))
       rw[l1,l2,a70]at this;exact EqAt.of_refs hab this
    .have e0:eqD (.tup xs) e=false:=by cases e<;>first|rfl|(cases g2;done)
     rw[e0]
     cases y with
     |non=>cases ry;exact EqAt.tuple_none t1 (by lia)
     |bl b=>cases ry;exact EqAt.tuple_bool b t1 (by lia)
     |int b=>obtain⟨t,rfl⟩:=ry;exact EqAt.tuple_int b t t1 (by lia)
     |str b=>obtain⟨t,rfl⟩:=ry;exact EqAt.tuple_str b t t1 (by lia)
     |_=>cases g1
  .rcases a08 q p2 with⟨ys,rfl⟩|⟨g1,g2⟩
   .cases q with
    |@tup b us _ hb qs =>
     cases ry
     obtain⟨_,its2,r2,t2⟩:=(Rd.of hb).ok hok;have e0:eqD d (.tup ys)=false:=by cases d<;>first|rfl|(cases f2;done)
     rw[e0]
     cases x with
     |non=>cases rx;exact EqAt.none_tuple t2 (by lia)
     |bl b=>cases rx;exact EqAt.bool_tuple b t2 (by lia)
     |int b=>obtain⟨t,rfl⟩:=rx;exact EqAt.int_tuple b t t2 (by lia)
     |str b=>obtain⟨t,rfl⟩:=rx;exact EqAt.str_tuple b t t2 (by lia)
     |_=>cases f1
   .rw[<-a72 r q f2 g2];exact akt rx ry f1 g1
open SeqAt in
theorem au3(ry:RelV y u)(rx:RelV x v)(fy:a9c y=true)(fx:a9c x=true):RcAt A s u v (eqV y x):=by
 cases y with
 |non =>
  cases ry
  cases x with
  |non=>cases rx;exact RcAt.none_none
  |bl b=>cases rx;exact RcAt.none_bool b
  |int b=>obtain⟨t,rfl⟩:=rx;exact RcAt.none_int b t
  |str b=>obtain⟨t,rfl⟩:=rx;exact RcAt.none_str b t
  |_=>cases fx
 |bl a =>
  cases ry
  cases x with
  |non=>cases rx;exact RcAt.bool_none a
  |bl b=>cases rx;exact RcAt.bool_bool a b
  |int b=>obtain⟨t,rfl⟩:=rx;exact RcAt.bool_int a b t
  |str b=>obtain⟨t,rfl⟩:=rx;exact RcAt.bool_str a b t
  |_=>cases fx
 |int a =>
  obtain⟨t',rfl⟩:=ry
  cases x with
  |non=>cases rx;exact RcAt.int_none a t'
  |bl b=>cases rx;exact RcAt.int_bool a t' b
  |int b=>obtain⟨t,rfl⟩:=rx;exact RcAt.int_int a t' b t
  |str b=>obtain⟨t,rfl⟩:=rx;exact RcAt.int_str a t' b t
  |_=>cases fx
 |str a =>
  obtain⟨t',rfl⟩:=ry
  cases x with
  |non=>cases rx;exact RcAt.str_none a t'
  |bl b=>cases rx;exact RcAt.str_bool a t' b
  |int b=>obtain⟨t,rfl⟩:=rx;exact RcAt.str_int a t' b t
  |str b=>obtain⟨t,rfl⟩:=rx;exact RcAt.str_str a t' b t
  |_=>cases fx
 |_=>cases fy
open SeqAt in
theorem aip(ry:RelV y u)(rx:RelV x v)(fy:a9c y=true)(fx:a9c x=true):RcNeAt A s u v (!eqV y x):=by
 cases y with
 |non =>
  cases ry
  cases x with
  |non=>cases rx;exact RcNeAt.none_none
  |bl b=>cases rx;exact RcNeAt.none_bool b
  |int b=>obtain⟨t,rfl⟩:=rx;exact RcNeAt.none_int b t
  |str b=>obtain⟨t,rfl⟩:=rx;exact RcNeAt.none_str b t
  |_=>cases fx
 |bl a =>
  cases ry
  cases x with
  |non=>cases rx;exact RcNeAt.bool_none a
  |bl b=>cases rx;exact RcNeAt.bool_bool a b
  |int b=>obtain⟨t,rfl⟩:=rx;exact RcNeAt.bool_int a b t
  |str b=>obtain⟨t,rfl⟩:=rx;exact RcNeAt.bool_str a b t
  |_=>cases fx
 |int a =>
  obtain⟨t',rfl⟩:=ry
  cases x with
  |non=>cases rx;exact RcNeAt.int_none a t'
  |bl b=>cases rx;exact RcNeAt.int_bool a t' b
  |int b=>obtain⟨t,rfl⟩:=rx;exact RcNeAt.int_int a t' b t
  |str b=>obtain⟨t,rfl⟩:=rx;exact RcNeAt.int_str a t' b t
  |_=>cases fx
 |str a =>
  obtain⟨t',rfl⟩:=ry
  cases x with
  |non=>cases rx;exact RcNeAt.str_none a t'
  |bl b=>cases rx;exact RcNeAt.str_bool a t' b
  |int b=>obtain⟨t,rfl⟩:=rx;exact RcNeAt.str_int a t' b t
  |str b=>obtain⟨t,rfl⟩:=rx;exact RcNeAt.str_str a t' b t
  |_=>cases fx
 |_=>cases fy
open SeqAt in
theorem tops{s:Shared}{A:Around}(hok:HOk P w H s.heap)(r:Rep K U H x d)(q:Rep K U H y e)(rx:RelV x u)(ry:RelV y v)(p1:pur 60 d=true)(p2:pur 60 e=true)(hu:A.units+64<cLine) :
  RcAt A s u v (eqD d e)/\RcNeAt A s u v (!eqD d e):=by
 rcases a08 r p1 with⟨xs,rfl⟩|⟨f1,f2⟩
 .cases r with
  |@tup a vs _ ha rs =>
   cases rx
   obtain⟨_,its,r1,t1⟩:=(Rd.of ha).ok hok
   rcases a08 q p2 with⟨ys,rfl⟩|⟨g1,g2⟩
   .cases q with
    |@tup b us _ hb qs =>
     cases ry
     obtain⟨_,its2,r2,t2⟩:=(Rd.of hb).ok hok;have l1:its.toArray.size=xs.length:=by rw[List.size_toArray,<-r1.length,rs.len]
     have l2:its2.toArray.size=ys.length:=by rw[List.size_toArray,<-r2.length,qs.len]
     have step:∀j (h1:j<its.toArray.size) (h2:j<its2.toArray.size),EqAt A.in1 s its.toArray[j] its2.toArray[j] (pairE xs ys j):=λj h1 h2=>by
      have j1:j<xs.length:=by lia
      have j2:j<ys.length:=by lia
      obtain⟨v1,e1,q1⟩:=rs.get (List.getElem?_eq_getElem j1);obtain⟨v2,e2,q2⟩:=qs.get (List.getElem?_eq_getElem j2);obtain⟨u1,e3,q3⟩:=r1.get e1;obtain⟨u2,e4,q4⟩:=r2.get e2;have f1:its.toArray[j]=u1:=by simpa using (List.getElem?_eq_some_iff.mp e3).2
      have f2:its2.toArray[j]=u2:=by simpa using (List.getElem?_eq_some_iff.mp e4).2
      have pe:pairE xs ys j=eqD xs[j] ys[j]:=by simp[pairE,List.getElem?_eq_getElem j1,List.getElem?_eq_getElem j2]
      rw[f1,f2,pe];simp only[pur,List.all_eq_true]at p1 p2;exact au2 hok 59 A.in1 q1 q2 q3 q4 (p1 _ (List.getElem_mem j1)) (p2 _ (List.getElem_mem j2)) (by rw[Around.in1_units];lia)
     have c1:=RcAt.tuples (A:=A) (s:=s) (e:=pairE xs ys) t1 t2 (by lia) step
     have c2:=RcNeAt.tuples (A:=A) (s:=s) (e:=pairE xs ys) t1 t2 (by lia) step
     rw[l1,l2,a70]at c1 c2;exact⟨c1,c2⟩
   .have e0:eqD (.tup xs) e=false:=by cases e<;>first|rfl|(cases g2;done)
    rw[e0]
    cases y with
    |non=>cases ry;exact⟨RcAt.tuple_none t1 (by lia),RcNeAt.tuple_none t1 (by lia)⟩
    |bl b=>cases ry;exact⟨RcAt.tuple_bool b t1 (by lia),RcNeAt.tuple_bool b t1 (by lia)⟩
    |int b=>obtain⟨t,rfl⟩:=ry;exact⟨RcAt.tuple_int b t t1 (by lia),RcNeAt.tuple_int b t t1 (by lia)⟩
    |str b=>obtain⟨t,rfl⟩:=ry;exact⟨RcAt.tuple_str b t t1 (by lia),RcNeAt.tuple_str b t t1 (by lia)⟩
    |_=>cases g1
 .rcases a08 q p2 with⟨ys,rfl⟩|⟨g1,g2⟩
  .cases q with
   |@tup b us _ hb qs =>
    cases ry
    obtain⟨_,its2,r2,t2⟩:=(Rd.of hb).ok hok;have e0:eqD d (.tup ys)=false:=by cases d<;>first|rfl|(cases f2;done)
    rw[e0]
    cases x with
    |non=>cases rx;exact⟨RcAt.none_tuple t2 (by lia),RcNeAt.none_tuple t2 (by lia)⟩
    |bl b=>cases rx;exact⟨RcAt.bool_tuple b t2 (by lia),RcNeAt.bool_tuple b t2 (by lia)⟩
    |int b=>obtain⟨t,rfl⟩:=rx;exact⟨RcAt.int_tuple b t t2 (by lia),RcNeAt.int_tuple b t t2 (by lia)⟩
    |str b=>obtain⟨t,rfl⟩:=rx;exact⟨RcAt.str_tuple b t t2 (by lia),RcNeAt.str_tuple b t t2 (by lia)⟩
    |_=>cases f1
  .rw[<-a72 r q f2 g2];exact⟨au3 rx ry f1 g1,aip rx ry f1 g1⟩
noncomputable def azh(K:Fg):R2:=λx y H Q=>∃U d e,Rep K U H x d/\Rep K U H y e/\pur 60 d=true/\pur 60 e=true/\Q (.bl (eqD d e)) H
noncomputable def azi(K:Fg):R2:=λx y H Q=>∃U d e,Rep K U H x d/\Rep K U H y e/\pur 60 d=true/\pur 60 e=true/\Q (.bl (!eqD d e)) H
theorem al9{X:Cx}(hu:X.A.units+64<cLine):OpR X (compareOp .Eq) (azh X.K):=by
 intro aA s Z H x y v u Q I rx ry h
 obtain⟨U,d,e,r,q,p1,p2,hq⟩:=h;exact(tops (A:=X.A) I.hok r q rx ry p1 p2 hu).1 X.prog X.w X.xe _ ⟨.bl _,H,I,rfl,hq⟩
theorem au4{X:Cx}(hu:X.A.units+64<cLine):OpR X (compareOp .NotEq) (azi X.K):=by
 intro aA s Z H x y v u Q I rx ry h
 obtain⟨U,d,e,r,q,p1,p2,hq⟩:=h;exact(tops (A:=X.A) I.hok r q rx ry p1 p2 hu).2 X.prog X.w X.xe _ ⟨.bl _,H,I,rfl,hq⟩
noncomputable def hEq(x y:D)(h:Hd):R D:=if pur 60 x=true/\pur 60 y=true then .ok (.bl (eqD x y)) h else .no
noncomputable def hNe(x y:D)(h:Hd):R D:=if pur 60 x=true/\pur 60 y=true then .ok (.bl (!eqD x y)) h else .no
theorem aes:a2g K hEq (azh K):=by
 intro E U H h x y dx dy Q rx ry hr o
 unfold hEq at o
 split at o
 .rename_i hc;exact⟨U,dx,dy,rx,ry,hc.1,hc.2,ans o (.bl _) hr⟩
 .exact o.elim
theorem ao0:a2g K hNe (azi K):=by
 intro E U H h x y dx dy Q rx ry hr o
 unfold hNe at o
 split at o
 .rename_i hc;exact⟨U,dx,dy,rx,ry,hc.1,hc.2,ans o (.bl _) hr⟩
 .exact o.elim
end
section
variable{X:Cx}{E:XD}{K:Fg}
noncomputable def au5:SE:=λ_ h=>.ok (.ref h.length) (h++[.dK []])
theorem ao1:ME X E (.Dict [] [] pos) au5:=by
 refine PE.weak ai4 λZ H Q ⟨U,τ,h,S,Rh,o⟩=>λp hp=>?_;exact o (U++[p]) _ _ (a5y hp _) (.ref (by rw[List.getElem?_append_right (by rw[Rh.len];exact Nat.le_refl _),Rh.len];simp)) (Rh.add hp ⟨[],gh,rfl,.nil⟩)
noncomputable def a5l:D->D->Hd->R D
 |.int i,.int j,h=>.ok (.int (i+j)) h
 |.str x,.str y,h=>if x.length+y.length<=LINE then .ok (.str (x++y)) h else .no
 |_,_,_=>.no
theorem aat:a2g K a5l (λx y H Q=>rI0 (λi j=>.int (i+j)) x y H Q\/∃i j,x=.str i/\y=.str j/\i.length+j.length<=sizeLine/\Q (.str (i++j)) H):=by
 intro E U H h x y dx dy Q rx ry hr o
 cases rx with
 |int i =>
  cases ry with
  |int j=>exact .inl ⟨i,j,rfl,rfl,ans o (.int _) hr⟩
  |_=>exact o.elim
 |str i =>
  cases ry with
  |str j =>
   by_cases hc:i.length+j.length<=LINE
   .simp only[a5l,if_pos hc]at o;exact .inr ⟨i,j,rfl,rfl,ll hc,ans o (.str _) hr⟩
   .simp only[a5l,if_neg hc]at o;exact o.elim
  |_=>exact o.elim
 |_=>exact o.elim
theorem au6:bootBuiltins "max" = some (.builtin "max"):=by first|exact PySem.boot_max|exact PyProof.Rows.boot_max
theorem au7:bootBuiltins "min" = some (.builtin "min"):=by first|exact PySem.boot_min|exact PyProof.Rows.boot_min
theorem ao2:bootBuiltins "bool" = some (.type "bool"):=by first|exact PySem.boot_bool|exact PyProof.Rows.boot_bool
theorem aiq(h1:MG X E e g)(h2:MGs X E es ks)(hs:(assignEach (e::es) X.env).map (·.2)=assign e X.env::(assignEach es X.env).map (·.2):=by rfl):MGs X E (e::es) (g8 g ks) :=
 PGs.weak (yc h1 h2 hs) λvs Z H Q q=>aih q
end
end MI
namespace ZP
open PySem.Builtin PySem.Builtin.SmallTypes
section
variable{prog:Program}{w:World}{A:Around}{E:Value->Shared->Prop}{s:Shared}
theorem ao3{α:Type}{Q:α->Shared->Prop}(hh:A.handled=none)(q:∀h' e,(∀b o,s.heap.get? b=some o->h'.get? b=some o)->(∃o,h'.get? e=some o/\o.cls=.type "StopIteration")->E (.ref e) {s with heap:=h' }) :
  wpAny (model prog w) A (stopIteration:Sem α) Q E s:=by
 have none_first:firstArgMember (.type "StopIteration") []=pure Value.none:=by first|rfl|(simp only[firstArgMember];rfl)
 rw[stopIteration]
 apply wpAny_bind
 rw[newExc,newTuple]
 apply wpAny_bind
 apply wpAny_newObj_type _ (by size_fits)
 rw[none_first,pure_bind]
 apply wpAny_newObj_type _ (by size_fits)
 apply wpAny_raiseNew_none hh
 exact q _ _ (λb o z=>Heap.get?_push_of_some _ (Heap.get?_push_of_some _ z)) ⟨_,Heap.get?_push_size _ rfl,rfl⟩
theorem air(hi:s.heap.IsTupleIter it t i)(ht:s.heap.IsTuple t aC)(hx:aC[i]? = some x)
  (q:∀h',h'.IsTupleIter it t (i+1)->Heap.SameBut it s.heap h'->Q x {s with heap:=h' }):wpAny (model prog w) A (nextOf (.ref it)) Q E s:=by
 have ty:=hi.typeIs;obtain⟨o,e1,e2,e3⟩:=id hi;obtain⟨p,f1,f2,n,f3⟩:=ht;rw[nextOf]
 apply wpAny_bind
 apply wpAny_callSpecial?_slot (name:=Str.ofString "__next__") ty F.slot_tuple_iterator_next
 apply wpAny_call_entry F.slot_tuple_iterator_next ty F.entry_tuple_iterator_next _ (F.args_tuple_iterator_next_1 _)
 change wpAny (model prog w) A.in1 (field (.ref it) 0>>=_) _ _ _
 apply wpAny_bind;apply wpAny_field e1 e3 (x:=.ref t) rfl
 change wpAny (model prog w) A.in1 (field (.ref it) 1>>=_) _ _ _
 apply wpAny_bind;apply wpAny_field e1 e3 (x:=.int i 0) rfl
 change wpAny (model prog w) A.in1 (seqItems? (.ref t)>>=_) _ _ _
 apply wpAny_bind;apply wpAny_seqItems f1 f3
 dsimp only;rw[Int.toNat_natCast,hx]
 apply wpAny_bind
 obtain⟨c,dd,dt,sl⟩:=o;simp only at e2 e3;subst e2 e3
 apply wpAny_setField e1 rfl (Nat.lt_succ_self 1)
 apply wpAny_pure
 exact⟨x,rfl,wpAny_pure (q _ ⟨_,Heap.get?_update_self _ e1 rfl,rfl,rfl⟩ (Heap.SameBut.update ..))⟩
theorem ao4{it t:Addr}{i:Nat}{aC:Array Value}{Q:Value->Shared->Prop}(hh:A.handled=none)(hi:s.heap.IsTupleIter it t i)(ht:s.heap.IsTuple t aC)(hx:aC[i]? = none)
  (q:∀h' e,Heap.ExtBut it s.heap h'->(∃o,h'.get? e=some o/\o.cls=.type "StopIteration")->E (.ref e) {s with heap:=h' }):wpAny (model prog w) A (nextOf (.ref it)) Q E s:=by
 have ty:=hi.typeIs;obtain⟨o,e1,e2,e3⟩:=id hi;obtain⟨p,f1,f2,n,f3⟩:=ht;rw[nextOf]
 apply wpAny_bind
 apply wpAny_callSpecial?_slot (name:=Str.ofString "__next__") ty F.slot_tuple_iterator_next
 apply wpAny_call_entry F.slot_tuple_iterator_next ty F.entry_tuple_iterator_next _ (F.args_tuple_iterator_next_1 _)
 change wpAny (model prog w) A.in1 (field (.ref it) 0>>=_) _ _ _
 apply wpAny_bind;apply wpAny_field e1 e3 (x:=.ref t) rfl
 change wpAny (model prog w) A.in1 (field (.ref it) 1>>=_) _ _ _
 apply wpAny_bind;apply wpAny_field e1 e3 (x:=.int i 0) rfl
 change wpAny (model prog w) A.in1 (seqItems? (.ref t)>>=_) _ _ _
 apply wpAny_bind;apply wpAny_seqItems f1 f3
 dsimp only;rw[Int.toNat_natCast,hx];dsimp only;obtain⟨c,dd,dt,sl⟩:=o;simp only at e2 e3;subst e2 e3
 apply wpAny_bind;apply wpAny_rule
 apply wpAny_bind;apply wpAny_setField e1 rfl (Nat.succ_pos 1)
 apply ao3 (show A.in1.handled=none from hh)
 exact λh' e k z=>q h' e (λb o nb eb=>k b o ((Heap.SameBut.update ..).extBut b o nb eb)) z
theorem aet{A:Around}(hh:A.handled=none)(it t:Addr)(ne:t≠it)(aC:Array Value):Draws prog w A it [it,t] aC.size (λi v=>aC[i]? = some v) (λi h=>h.IsTupleIter it t i/\h.IsTuple t aC) where
 live:=λ_ _ st=>let ⟨o,e,_⟩:=st.1; ⟨o,e⟩
 frame:=λ_ _ _ st k=>⟨let ⟨o,e,r⟩:=st.1; ⟨o,k it (by simp) o e,r⟩,let ⟨o,e,r⟩:=st.2; ⟨o,k t (by simp) o e,r⟩⟩
 item:=λi s Q E hi st q=>air st.1 st.2 (Array.getElem?_eq_getElem hi) λh' a b=>q _ h' s.toks (Array.getElem?_eq_getElem hi) ⟨a,st.2.extBut b.extBut ne⟩ b
 done:=λs Q E st q=>ao4 hh st.1 st.2 (by simp) q
end
structure Ap (z TI TO i1 i2:Addr) (p q:List Addr):Prop where
 m1:i1∈p
 m2:i2∈q
 z1:z∉p
 z2:z∉q
 o1:TO∉p
 o2:TO∉q
 oz:TO≠z
 x1:i1∉q
 x2:i2∉p
section
variable{prog:Program}{w:World}{A:Around}{E:Value->Shared->Prop}{s:Shared}{z TI TO i1 i2:Addr}{p q:List Addr}{n1 n2 k:Nat}{P1 P2:Nat->Value->Prop}{S1 S2:Nat->Heap->Prop}{a b:Value}
theorem far{D:Draws prog w A i1 p n1 P1 S1}(sb:Heap.SameBut c h h')(nc:c∉p)(st:S1 k h):S1 k h':=D.frame _ _ _ st λx hx o e=>sb.extBut x o (λy=>nc (y ▸ hx)) e
theorem aeu(hz:IsZip s.heap z TI TO .none)(hi:IsPair s.heap TI (.ref i1) (.ref i2))(ho:IsPair s.heap TO a b)(oz:TO≠z)
  (go:∀h1,IsZip h1 z TI TO .ellipsis->Heap.SameBut z s.heap h1->wpAny (model prog w) A (nextOf (.ref i1))
   (λx s2=>IsPair s2.heap TO a b/\∀h3,IsPair h3 TO x b->Heap.SameBut TO s2.heap h3->wpAny (model prog w) A (nextOf (.ref i2))
    (λy s4=>IsPair s4.heap TO x b/\∀h5,IsPair h5 TO x y->Heap.SameBut TO s4.heap h5->IsZip h5 z TI TO .ellipsis/\∀h8,IsZip h8 z TI TO (rawInt h5.objs.size)->IsPair h8 h5.objs.size x y->h8.objs.size=h5.objs.size+1->
     (∀c o,c≠z->h5.get? c=some o->h8.get? c=some o)->Q (.done (.ret (.ref h5.objs.size))) {s4 with heap:=h8})
    (λe s4=>wpAny (model prog w) A (setField (.ref z) 0 .none) (λ_ s5=>E e s5) E s4) {s2 with heap:=h3})
   (λe s2=>wpAny (model prog w) A (setField (.ref z) 0 .none) (λ_ s3=>E e s3) E s2) {s with heap:=h1}) :
  wpAny (model prog w) A (Builtin.«zip.__next__» ⟨[.ref z],[]⟩) Q E s:=by
 change wpAny (model prog w) A (field (.ref z) 2>>=_) _ _ _
 apply wpAny_bind;apply wpAny_field hz rfl (x:=.bool false) rfl
 change wpAny (model prog w) A (field (.ref z) 3>>=_) _ _ _
 apply wpAny_bind;apply wpAny_field hz rfl (x:=.ref TI) rfl
 apply wpAny_bind;apply wpAny_seqItems hi rfl
 change wpAny (model prog w) A (ownedTupleIsFree (.ref z)>>=_) _ _ _
 apply wpAny_bind
 rw[ownedTupleIsFree]
 apply wpAny_bind;apply wpAny_field hz rfl (x:=.none) rfl
 apply wpAny_pure
 rw[if_pos rfl]
 apply wpAny_bind;apply wpAny_rule
 apply wpAny_bind;apply wpAny_field hz rfl (x:=.ref TO) rfl
 apply wpAny_bind;apply wpAny_setField_rec hz (Nat.succ_pos _)
 intro h1 z1 b1
 apply wpAny_bind
 simp only[List.zipIdx_cons,List.zipIdx_nil,List.forIn_cons,List.forIn_nil]
 apply wpAny_bind;apply wpAny_bind;apply wpAny_onRaise
 change wpAny (model prog w) A (nextOf (.ref i1)>>=_) _ _ _
 apply wpAny_bind
 apply wpAny_mono (go h1 z1 b1) _ λ_ _ r=>r
 rintro x s2 ⟨o2,g2⟩
 apply wpAny_pure
 apply wpAny_bind;apply wpAny_seqItems o2 rfl
 apply wpAny_bind;apply wpAny_updateSeq_pair o2
 intro h3 o3 b3
 apply wpAny_bind;apply wpAny_letGo;apply wpAny_pure
 apply wpAny_bind;apply wpAny_bind;apply wpAny_onRaise
 change wpAny (model prog w) A (nextOf (.ref i2)>>=_) _ _ _
 apply wpAny_bind
 apply wpAny_mono (g2 h3 o3 b3) _ λ_ _ r=>r
 rintro y s4 ⟨o4,g4⟩
 apply wpAny_pure
 apply wpAny_bind;apply wpAny_seqItems o4 rfl
 apply wpAny_bind;apply wpAny_updateSeq_pair o4
 intro h5 o5 b5
 obtain⟨z5,g5⟩:=g4 h5 o5 b5
 apply wpAny_bind;apply wpAny_letGo;apply wpAny_pure;apply wpAny_pure
 apply wpAny_bind;apply wpAny_seqItems o5 rfl
 apply wpAny_bind;refine wpAny_newTuple ?_ (by show 2<=sizeLine;decide)
 change wpAny (model prog w) A (ownedTupleHandOut (.ref z) (.ref h5.objs.size)>>=_) _ _ _
 apply wpAny_bind
 rw[ownedTupleHandOut];have z6:IsZip (h5.push {cls:=.type "tuple",data:=.seq #[x,y]}) z TI TO .ellipsis:=Heap.get?_push_of_some _ z5;have lt:z<h5.objs.size:=Heap.lt_size z5
 apply wpAny_bind;apply wpAny_setField_rec z6 (Nat.succ_pos _)
 intro h7 z7 b7
 apply wpAny_setField_rec z7 (by show 1<5;decide)
 intro h8 z8 b8
 apply wpAny_pure
 refine g5 h8 z8 (b8.extBut _ _ (Nat.ne_of_gt lt) (b7.extBut _ _ (Nat.ne_of_gt lt) (Heap.get?_push_size _ rfl))) ?_ λc o nc e=>b8.extBut _ _ nc (b7.extBut _ _ nc (Heap.get?_push_of_some _ e));rw[b8.1,b7.1,Heap.size_push]
theorem ais{Q:Value->Shared->Prop}(D1:Draws prog w A i1 p n1 P1 S1)(D2:Draws prog w A i2 q n2 P2 S2)(ap:Ap z TI TO i1 i2 p q)(hz:IsZip s.heap z TI TO .none)(hi:IsPair s.heap TI (.ref i1) (.ref i2))(ho:IsPair s.heap TO a b)
  (s1:S1 k s.heap) (s2:S2 k s.heap) (k1:k<n1) (k2:k<n2)
  (hQ:∀x y h' tk,P1 k x->P2 k y->IsZip h' z TI TO (rawInt s.heap.objs.size)->IsPair h' TO x y->S1 (k+1) h'->S2 (k+1) h'->IsPair h' s.heap.objs.size x y->h'.objs.size=s.heap.objs.size+1->
   (∀c o,c≠z->c≠TO->c≠i1->c≠i2->s.heap.get? c=some o->h'.get? c=some o)->Q (.ref s.heap.objs.size) {s with heap:=h',toks:=tk}) :
  wpAny (model prog w) A (Builtin.«zip.__next__» ⟨[.ref z],[]⟩) (λfin s'=>∃v,fin=.done (.ret v)/\Q v s') E s:=by
 have ni1:i1≠z:=λe=>ap.z1 (e ▸ ap.m1);have ni2:i2≠z:=λe=>ap.z2 (e ▸ ap.m2);have no1:TO≠i1:=λe=>ap.o1 (e ▸ ap.m1);have no2:TO≠i2:=λe=>ap.o2 (e ▸ ap.m2);refine aeu hz hi ho ap.oz λh1 z1 b1=>?_;refine D1.item k _ _ _ k1 (far (D:=D1) b1 ap.z1 s1) λx h2 t2 px st2 b2=>?_;refine⟨b2.extBut _ _ no1 (b1.extBut _ _ ap.oz ho),λh3 o3 b3=>?_⟩;refine D2.item k _ _ _ k2 (far (D:=D2) b3 ap.o2 (far (D:=D2) b2 ap.x1 (far (D:=D2) b1 ap.z2 s2))) λy h4 t4 py st4 b4=>?_;refine⟨b4.extBut _ _ no2 o3,λh5 o5 b5=>⟨b5.extBut _ _ ap.oz.symm (b4.extBut _ _ ni2.symm (b3.extBut _ _ ap.oz.symm (b2.extBut _ _ ni1.symm z1))),λh8 z8 t8 l8 k8=>⟨_,rfl,?_⟩⟩⟩
 have sz:h5.objs.size=s.heap.objs.size:=by rw[b5.1,b4.1,b3.1,b2.1,b1.1]
 have g1:S1 (k+1) h8:=D1.frame _ _ _ (far (D:=D1) b5 ap.o1 (far (D:=D1) b4 ap.x2 (far (D:=D1) b3 ap.o1 st2))) λc hc o e=>k8 c o (λy=>ap.z1 (y ▸ hc)) e;have g2:S2 (k+1) h8:=D2.frame _ _ _ (far (D:=D2) b5 ap.o2 st4) λc hc o e=>k8 c o (λy=>ap.z2 (y ▸ hc)) e;rw[sz]at z8 t8 l8 ⊢;exact hQ x y h8 t4 px py z8 (k8 _ _ ap.oz o5) g1 g2 t8 l8 λc o c1 c2 c3 c4 e=>k8 c o c1 (b5.extBut _ _ c2 (b4.extBut _ _ c4 (b3.extBut _ _ c2 (b2.extBut _ _ c3 (b1.extBut _ _ c1 e)))))
theorem ao5(D1:Draws prog w A i1 p n1 P1 S1)(D2:Draws prog w A i2 q n2 P2 S2)(ap:Ap z TI TO i1 i2 p q)(hz:IsZip s.heap z TI TO .none)(hi:IsPair s.heap TI (.ref i1) (.ref i2))(ho:IsPair s.heap TO a b)
  (s1:S1 k s.heap) (s2:S2 k s.heap) (kk:k=n1\/(k<n1/\k=n2))
  (hE:∀h' tk e,(∀c o,c≠z->c≠TO->c≠i1->c≠i2->s.heap.get? c=some o->h'.get? c=some o)->(∃o,h'.get? e=some o/\o.cls=.type "StopIteration")->E (.ref e) {s with heap:=h',toks:=tk}) :
  wpAny (model prog w) A (Builtin.«zip.__next__» ⟨[.ref z],[]⟩) Q E s:=by
 have ni1:i1≠z:=λe=>ap.z1 (e ▸ ap.m1);have ni2:i2≠z:=λe=>ap.z2 (e ▸ ap.m2);have no1:TO≠i1:=λe=>ap.o1 (e ▸ ap.m1);have stop:∀{h:Heap} {e:Addr},(∃o,h.get? e=some o/\o.cls=.type "StopIteration")->IsZip h z TI TO .ellipsis->e≠z:=λ{h e} ⟨o,eo,ec⟩ zz y=>by
  subst y;rw[zz]at eo;cases eo;simp at ec
 refine aeu hz hi ho ap.oz λh1 z1 b1=>?_
 rcases kk with rfl|⟨k1,rfl⟩
 .refine D1.done _ _ _ (far (D:=D1) b1 ap.z1 s1) λh2 e x2 st=>?_;have z2:IsZip h2 z TI TO .ellipsis:=x2 _ _ ni1.symm z1;have ne:=stop st z2;obtain⟨oe,f1,f2⟩:=st;refine wpAny_setField_rec z2 (Nat.succ_pos _) λh3 _ b3=>?_;exact hE h3 _ e (λc o c1 _ c3 _ y=>b3.extBut _ _ c1 (x2 _ _ c3 (b1.extBut _ _ c1 y))) ⟨oe,b3.extBut _ _ ne f1,f2⟩
 .refine D1.item k _ _ _ k1 (far (D:=D1) b1 ap.z1 s1) λx h2 t2 px st2 b2=>?_;refine⟨b2.extBut _ _ no1 (b1.extBut _ _ ap.oz ho),λh3 o3 b3=>?_⟩;refine D2.done _ _ _ (far (D:=D2) b3 ap.o2 (far (D:=D2) b2 ap.x1 (far (D:=D2) b1 ap.z2 s2))) λh4 e x4 st=>?_;have z4:IsZip h4 z TI TO .ellipsis:=x4 _ _ ni2.symm (b3.extBut _ _ ap.oz.symm (b2.extBut _ _ ni1.symm z1));have ne:=stop st z4;obtain⟨oe,f1,f2⟩:=st;refine wpAny_setField_rec z4 (Nat.succ_pos _) λh5 _ b5=>?_;exact hE h5 _ e (λc o c1 c2 c3 c4 y=>b5.extBut _ _ c1 (x4 _ _ c4 (b3.extBut _ _ c2 (b2.extBut _ _ c3 (b1.extBut _ _ c1 y))))) ⟨oe,b5.extBut _ _ ne f1,f2⟩
theorem next_item{Q:Option Value->Shared->Prop}(D1:Draws prog w A.in1 i1 p n1 P1 S1)(D2:Draws prog w A.in1 i2 q n2 P2 S2)(ap:Ap z TI TO i1 i2 p q)(hz:IsZip s.heap z TI TO .none)(hi:IsPair s.heap TI (.ref i1) (.ref i2))(ho:IsPair s.heap TO a b)
  (s1:S1 k s.heap) (s2:S2 k s.heap) (k1:k<n1) (k2:k<n2)
  (hQ:∀x y h' tk,P1 k x->P2 k y->IsZip h' z TI TO (rawInt s.heap.objs.size)->IsPair h' TO x y->S1 (k+1) h'->S2 (k+1) h'->IsPair h' s.heap.objs.size x y->h'.objs.size=s.heap.objs.size+1->
   (∀c o,c≠z->c≠TO->c≠i1->c≠i2->s.heap.get? c=some o->h'.get? c=some o)->Q (some (.ref s.heap.objs.size)) {s with heap:=h',toks:=tk}):wpAny (model prog w) A (pyNext (.ref z)) Q E s:=by
 have ty:s.TypeIs (.ref z) "zip":=⟨_,hz,rfl⟩;rw[pyNext]
 apply wpAny_bind;apply wpAny_attempt
 apply wpAny_callSpecial?_slot (name:=Str.ofString "__next__") ty F.slot_zip_next
 apply wpAny_call_entry F.slot_zip_next ty F.entry_zip_next _ (F.args_zip_next_1 _)
 exact ais D1 D2 ap hz hi ho s1 s2 k1 k2 λx y h' tk c1 c2 c3 c4 c5 c6 c7 c8 c9=>wpAny_pure (hQ x y h' tk c1 c2 c3 c4 c5 c6 c7 c8 c9)
theorem next_end(D1:Draws prog w A.in1 i1 p n1 P1 S1)(D2:Draws prog w A.in1 i2 q n2 P2 S2)(ap:Ap z TI TO i1 i2 p q)(hz:IsZip s.heap z TI TO .none)(hi:IsPair s.heap TI (.ref i1) (.ref i2))(ho:IsPair s.heap TO a b)
  (s1:S1 k s.heap) (s2:S2 k s.heap) (kk:k=n1\/(k<n1/\k=n2))
  (hQ:∀h' tk,(∀c o,c≠z->c≠TO->c≠i1->c≠i2->s.heap.get? c=some o->h'.get? c=some o)->Q none {s with heap:=h',toks:=tk}):wpAny (model prog w) A (pyNext (.ref z)) Q E s:=by
 have ty:s.TypeIs (.ref z) "zip":=⟨_,hz,rfl⟩;rw[pyNext]
 apply wpAny_bind;apply wpAny_attempt
 apply wpAny_callSpecial?_slot (name:=Str.ofString "__next__") ty F.slot_zip_next
 apply wpAny_call_entry F.slot_zip_next ty F.entry_zip_next _ (F.args_zip_next_1 _)
 refine ao5 D1 D2 ap hz hi ho s1 s2 kk ?_
 rintro h' tk e kp ⟨o,f1,f2⟩
 refine wpAny_bind (wpAny_isInstance (b:=true) (T := "StopIteration") ⟨o,f1,f2⟩ isSubtype_stop (wpAny_pure (hQ h' tk kp)))
end
end ZP
namespace ZP
open PySem.Builtin PySem.Builtin.SmallTypes L2
inductive Srk where
 |tup (a:Addr)|lst (a:Addr)|str (x:Str)
noncomputable def Srk.v:Srk->V
 |.tup a=>.ref a
 |.lst a=>.ref a
 |.str x=>.str x
noncomputable def its(H:Hp):Srk->Option (List V)
 |.tup a=>match H a with|some (.tup vs)=>some vs|_=>none
 |.lst a=>match H a with|some (.lst vs)=>some vs|some (.frz _ (.lst vs))=>some vs|_=>none
 |.str x=>some (xq x)
def own(it:Addr)(t:Tok):Srk->Nat->Heap->Prop
 |.tup a,i,h=>h.IsTupleIter it a i
 |.lst a,i,h=>h.IsListIter it a i
 |.str x,i,h=>h.IsStrIter it (strIterType x) x t i
noncomputable def iob(t:Tok):Srk->Obj
 |.tup a=>{cls:=.type "tuple_iterator",data:=.fields #[.ref a,.int 0 0]}
 |.lst a=>{cls:=.type "list_iterator",data:=.fields #[.ref a,.int 0 0]}
 |.str x=>{cls:=.type (strIterType x),data:=.fields #[.str x t,.int 0 0]}
noncomputable def val(t:Tok):Srk->Value
 |.tup a=>.ref a
 |.lst a=>.ref a
 |.str x=>.str x t
def cont(h:Heap):Srk->List Value->Prop
 |.tup a,us=>h.IsTuple a us.toArray
 |.lst a,us=>h.IsList a us.toArray
 |.str x,us=>True
theorem aql{h:Heap}(e:h.get? it=some (iob t k)):own it t k 0 h:=by
 cases k with
 |tup a=>exact⟨_,e,rfl,rfl⟩
 |lst a=>exact⟨_,e,rfl,rfl⟩
 |str x=>exact⟨_,e,rfl,rfl⟩
theorem wu(o:own it t k i h):∃ob,h.get? it=some ob/\∀v,ob.data≠.cell v:=by
 cases k with
 |tup a=>obtain⟨ob,e,_,d⟩:=o;exact⟨ob,e,λv z=>by rw[d]at z;cases z⟩
 |lst a=>obtain⟨ob,e,_,d⟩:=o;exact⟨ob,e,λv z=>by rw[d]at z;cases z⟩
 |str x=>obtain⟨ob,e,_,d⟩:=o;exact⟨ob,e,λv z=>by rw[d]at z;cases z⟩
theorem qm{h':Heap}(o:own it t k i h)(kk:∀ob,h.get? it=some ob->h'.get? it=some ob):own it t k i h':=by
 cases k with
 |tup a=>obtain⟨ob,e,r⟩:=o;exact⟨ob,kk _ e,r⟩
 |lst a=>obtain⟨ob,e,r⟩:=o;exact⟨ob,kk _ e,r⟩
 |str x=>obtain⟨ob,e,r⟩:=o;exact⟨ob,kk _ e,r⟩
section
variable{P:Program}{w:World}{H:Hp}{s:Shared}
theorem a1e(I:Inv X aA Z H s)(e:its H k=some xs):∃us,cont s.heap k us/\((∀x,k≠.str x)->Vals xs us):=by
 cases k with
 |tup a =>
  cases q:H a with
  |none=>simp[its,q]at e
  |some o =>
   cases o with
   |tup vs =>
    simp[its,q]at e;subst e
    obtain⟨us,r,t,_⟩:=I.tuple (SqT.of q);exact⟨us,t,λ_=>r⟩
   |_=>simp[its,q]at e
 |lst a =>
  cases q:H a with
  |none=>simp[its,q]at e
  |some o =>
   cases o with
   |lst vs =>
    simp[its,q]at e;subst e
    obtain⟨us,r,t,_⟩:=I.list (SqL.of q);exact⟨us,t.isList,λ_=>r⟩
   |frz ob u =>
    cases u with
    |lst vs =>
     simp[its,q]at e;subst e
     obtain⟨us,r,t,_⟩:=I.list (.inl (.inr ⟨_,q⟩));exact⟨us,t.isList,λ_=>r⟩
    |_=>simp[its,q]at e
   |_=>simp[its,q]at e
 |str x=>exact⟨[],True.intro,λn=>absurd rfl (n x)⟩
theorem wy(I:Inv X aA Z H s)(e:its H k=some xs)(hn:H it=none) :
  ∃(cs:List Addr) (P1:Nat->Value->Prop) (S1:Nat->Heap->Prop),(∀A:Around,A.handled=none->Draws X.prog X.w A it (it::cs) xs.length P1 S1)/\(∀i,own it t k i s.heap->S1 i s.heap)/\(∀i h,S1 i h->own it t k i h)/\(∀c∈cs,H c≠none) /\
   ∀i v,P1 i v->∃x,xs[i]? = some x/\RelV x v:=by
 cases k with
 |tup a =>
  obtain⟨us,c,r⟩:=a1e I e;have r:=r (by intro x z;cases z)
  have ha:H a≠none:=λz=>by simp[its,z]at e
  have l:us.toArray.size=xs.length:=by rw[List.size_toArray,r.length]
  refine⟨[a],λi v=>us.toArray[i]? = some v,λi h=>h.IsTupleIter it a i/\h.IsTuple a us.toArray,λA hA=>?_,λi o=>⟨o,c⟩,λi h z=>z.1,λc hc=>by rw[List.mem_singleton.mp hc];exact ha,λi v z=>?_⟩
  .have:=aet (prog:=X.prog) (w:=X.w) hA it a (λy=>ha (y ▸ hn)) us.toArray
   rw[l]at this;exact this
  .have z':us[i]? = some v:=by simpa using z
   have hi:i<xs.length:=by rw[r.length];exact(List.getElem?_eq_some_iff.mp z').1
   obtain⟨u,e1,e2⟩:=r.get (List.getElem?_eq_getElem hi);rw[z']at e1;cases e1
   exact⟨_,List.getElem?_eq_getElem hi,e2⟩
 |lst a =>
  obtain⟨us,c,r⟩:=a1e I e;have r:=r (by intro x z;cases z)
  have ha:H a≠none:=λz=>by simp[its,z]at e
  have l:us.toArray.size=xs.length:=by rw[List.size_toArray,r.length]
  refine⟨[a],λi v=>us.toArray[i]? = some v,λi h=>h.IsListIter it a i/\h.IsList a us.toArray,λA hA=>?_,λi o=>⟨o,c⟩,λi h z=>z.1,λc hc=>by rw[List.mem_singleton.mp hc];exact ha,λi v z=>?_⟩
  .have:=Draws.list (prog:=X.prog) (w:=X.w) hA it a (λy=>ha (y ▸ hn)) us.toArray
   rw[l]at this;exact this
  .have z':us[i]? = some v:=by simpa using z
   have hi:i<xs.length:=by rw[r.length];exact(List.getElem?_eq_some_iff.mp z').1
   obtain⟨u,e1,e2⟩:=r.get (List.getElem?_eq_getElem hi);rw[z']at e1;cases e1
   exact⟨_,List.getElem?_eq_getElem hi,e2⟩
 |str x =>
  cases e
  have l:(xq x).length=x.cps.size:=by simp[xq]
  refine⟨[],λi v=>∃c u,x.cps[i]? = some c/\v=.str ⟨#[c]⟩ u,λi h=>h.IsStrIter it (strIterType x) x t i,λA hA=>?_,λi o=>o,λi h z=>z,λc hc=>(by cases hc),λi v z=>?_⟩
  .rw[l]
   cases ha:x.cps.all (· < 128)
   .have:=Draws.strWide (prog:=X.prog) (w:=X.w) hA it x t
    simpa[strIterType,ha] using this
   .have:=Draws.strAscii (prog:=X.prog) (w:=X.w) hA it x t
    simpa[strIterType,ha] using this
  .obtain⟨c,u,e1,rfl⟩:=z;exact⟨.str ⟨#[c]⟩,by simp[xq,e1],⟨_,rfl⟩⟩
end
noncomputable def ItZ(k1 k2:Srk):It where
 go:=λi H=>∃xs ys x y,its H k1=some xs/\its H k2=some ys/\xs[i]? = some x/\ys[i]? = some y
 yld:=λi H v H'=>∃xs ys x y p,its H k1=some xs/\its H k2=some ys/\xs[i]? = some x/\ys[i]? = some y/\H p=none/\v=.ref p/\H'=upd H p (.tup [x,y])
 stop:=λi H=>∃xs ys,its H k1=some xs/\its H k2=some ys/\(i=xs.length\/(i<xs.length/\i=ys.length))
def tnZ(z TI TO i1 i2:Addr)(t1 t2:Tok)(k1 k2:Srk)(i:Nat)(h:Heap):Prop :=
 IsZip h z TI TO .none/\IsPair h TI (.ref i1) (.ref i2)/\(∃a b,IsPair h TO a b)/\own i1 t1 k1 i h/\own i2 t2 k2 i h
structure Far (z TI TO i1 i2:Addr):Prop where
 a:TI≠z
 b:TO≠z
 c:i1≠z
 d:i2≠z
 e:TI≠TO
 f:TI≠i1
 g:TI≠i2
 h:TO≠i1
 i:TO≠i2
 j:i1≠i2
theorem a2z{X:Cx}{aA:List (Addr×Obj)}{Z:St}{H:Hp}{s:Shared}{h':Heap}{t':Nat}{ch:List Addr}(I:Inv X aA Z H s)(hf:∀b∈ch,FpOk X aA H b)(k:∀b o,b∉ch->s.heap.get? b=some o->h'.get? b=some o) :
  Inv X aA Z H {s with heap:=h',toks:=t' }:=by
 have nit:∀b u,H b=some u->b∉ch:=λb u e z=>by rw[(hf b z).1]at e;cases e
 refine I.step (g':=s.gens) (d':=s.drawn) (ch:=ch) (λb hb=>?_) (λb o _ _ hc e _=>k b o hc e) (λb o _ _ hc e _=>⟨o.slots,k b o hc e⟩) (λ_ _ _ _ n=>n) (λb o hc e=>⟨o,k b o hc e⟩) (λ_ _ e=>e) (λ_ _ _ e=>e)
  (λb ps e=>⟨#[],by rw[e];simp⟩) (λm hm=>?_) (λb u e=>?_) I.bare
 .obtain⟨_,f1,_,f3,f4,f5⟩:=hf b hb;exact⟨f3,f1,f4,f5⟩
 .obtain⟨o,es,ep,ho,r⟩:=hm;exact⟨o,es,ep,k _ o (λz=>(hf _ z).2.1 rfl) ho,r⟩
 .refine(I.hok b u e).stay (λc v hc q=>k c v ?_ q) (λ_ q=>q) λ_ _ q=>q
  rcases hc with z|z
  .rw[z];exact nit b u e
  .exact nit c _ z
theorem ait{P:Program}{w:World}{K:Fg}{elts:List Expr}{x1:Nat}{pos:Pos}{z TI TO i1 i2:Addr}{t1 t2:Tok}{k1 k2:Srk}(f:Far z TI TO i1 i2):Turn P w K (.Tuple elts x1 pos) (ItZ k1 k2) [z,TI,TO,i1,i2] z (tnZ z TI TO i1 i2 t1 t2 k1 k2) where
 mem:=by simp
 obj:=λi h st b hb=>by
  obtain⟨h1,h2,⟨a,b',h3⟩,h4,h5⟩:=st;simp only[List.mem_cons,List.not_mem_nil,or_false]at hb
  rcases hb with rfl|rfl|rfl|rfl|rfl
  .exact⟨_,h1,λv z=>(by cases z)⟩
  .exact⟨_,h2,λv z=>(by cases z)⟩
  .exact⟨_,h3,λv z=>(by cases z)⟩
  .exact wu h4
  .exact wu h5
 keep:=λi h h' st k=>by
  obtain⟨h1,h2,⟨a,b',h3⟩,h4,h5⟩:=st;exact⟨k z (by simp) _ h1,k TI (by simp) _ h2,⟨a,b',k TO (by simp) _ h3⟩,qm h4 λob e=>k i1 (by simp) ob e,qm h5 λob e=>k i2 (by simp) ob e⟩
 item:=by
  intro X hP hw hK hc i aA s Z H E I hf st hg
  subst hP hw hK;obtain⟨xs,ys,x,y,e1,e2,g1,g2⟩:=hg;obtain⟨h1,h2,⟨a,b,h3⟩,h4,h5⟩:=st;have n:∀c∈[z,TI,TO,i1,i2],H c=none:=λc hc=>(hf c hc).1;obtain⟨cs,P1,S1,D1,a1,b1,c1,d1⟩:=wy I (t:=t1) e1 (n i1 (by simp))
  obtain⟨ds,P2,S2,D2,a2,b2,c2,d2⟩:=wy I (t:=t2) e2 (n i2 (by simp))
  have hd:=I.ok.hd hc;have out1:∀c,H c=none->c∉cs:=λc e z=>c1 c z e;have out2:∀c,H c=none->c∉ds:=λc e z=>c2 c z e;have ap:Ap z TI TO i1 i2 (i1::cs) (i2::ds):=⟨by simp,by simp,by simp[f.c.symm,out1 z (n z (by simp))],by simp[f.d.symm,out2 z (n z (by simp))],by simp[f.h,out1 TO (n TO (by simp))],by simp[f.i,out2 TO (n TO (by simp))],f.b,by simp[f.j,out2 i1 (n i1 (by simp))],by simp[f.j.symm,out1 i2 (n i2 (by simp))]⟩
  refine next_item (D1 X.A.in1 hd) (D2 X.A.in1 hd) ap h1 h2 h3 (a1 i h4) (a2 i h5) (List.getElem?_eq_some_iff.mp g1).1 (List.getElem?_eq_some_iff.mp g2).1 λu v h' tk pu pv z' to' s1' s2' pr sz kp=>?_;obtain⟨x',q1,r1⟩:=d1 i u pu;obtain⟨y',q2,r2⟩:=d2 i v pv;rw[g1]at q1;cases q1
  rw[g2]at q2;cases q2
  refine⟨_,rfl,wpAny_letOwnedTupleGo_zip z' λh2' z2' sb=>?_⟩;have hp:H s.heap.objs.size=none:=I.hok.fresh (Nat.le_refl _);have lt:∀c∈[z,TI,TO,i1,i2],c<s.heap.objs.size:=λc hc=>by
   simp only[List.mem_cons,List.not_mem_nil,or_false]at hc
   rcases hc with rfl|rfl|rfl|rfl|rfl
   .exact Heap.lt_size h1
   .exact Heap.lt_size h2
   .exact Heap.lt_size h3
   .obtain⟨_,e,_⟩:=wu h4;exact Heap.lt_size e
   .obtain⟨_,e,_⟩:=wu h5;exact Heap.lt_size e
  have all:∀c o,c∉[z,TI,TO,i1,i2]->s.heap.get? c=some o->h2'.get? c=some o:=λc o nc e=>by
   simp only[List.mem_cons,List.not_mem_nil,or_false,not_or]at nc;exact(sb.2 c nc.1).trans (kp c o nc.1 nc.2.2.1 nc.2.2.2.1 nc.2.2.2.2 e)
  have nT:∀c∈[z,TI,TO,i1,i2],c≠s.heap.objs.size:=λc hc=>Nat.ne_of_lt (lt c hc);have I0:Inv X aA Z (upd H s.heap.objs.size (.tup [x,y])) {s with heap:=s.heap.push {cls:=.type "tuple",data:=.seq #[u,v]} } :=
   I.laid (t':=s.toks) (o:=.tup [x,y]) (λb o e=>Heap.get?_push_of_some _ e) (Nat.le_refl _) ⟨by show 2<=sizeLine;decide,[u,v],.cons r1 (.cons r2 .nil),⟨_,Heap.get?_push_size _ rfl,rfl,_,rfl⟩⟩
  have I1:Inv X aA Z (upd H s.heap.objs.size (.tup [x,y])) {s with heap:=h2',toks:=tk}:=by
   refine a2z (s:={s with heap:=s.heap.push {cls:=.type "tuple",data:=.seq #[u,v]} }) (ch:=[z,TI,TO,i1,i2]) I0 (λb hb=>?_) λc o nc e=>?_
   .obtain⟨f0,f1⟩:=hf b hb;exact⟨by rw[di (nT b hb)];exact f0,f1⟩
   .rcases Heap.get?_push_cases e with⟨rfl,rfl⟩|e
    .exact(sb.2 _ (nT z (by simp)).symm).trans pr
    .exact all c o nc e
  refine⟨.ref s.heap.objs.size,_,I1,rfl,⟨xs,ys,x,y,_,e1,e2,g1,g2,hp,rfl,rfl⟩,⟨z2',?_,⟨u,v,(sb.2 _ f.b).trans to'⟩,qm (b1 _ _ s1') λob e=>(sb.2 _ f.c).trans e,qm (b2 _ _ s2') λob e=>(sb.2 _ f.d).trans e⟩,λb hb=>?_⟩
  .exact(sb.2 _ f.a).trans (kp TI _ f.a f.e f.f f.g h2)
  .rw[di (nT b hb)];exact n b hb
 done:=by
  intro X hP hw hK hc i aA s Z H E I hf st hg
  subst hP hw hK;obtain⟨xs,ys,e1,e2,g⟩:=hg;obtain⟨h1,h2,⟨a,b,h3⟩,h4,h5⟩:=st;have n:∀c∈[z,TI,TO,i1,i2],H c=none:=λc hc=>(hf c hc).1;obtain⟨cs,P1,S1,D1,a1,b1,c1,d1⟩:=wy I (t:=t1) e1 (n i1 (by simp))
  obtain⟨ds,P2,S2,D2,a2,b2,c2,d2⟩:=wy I (t:=t2) e2 (n i2 (by simp))
  have hd:=I.ok.hd hc;have out1:∀c,H c=none->c∉cs:=λc e z=>c1 c z e;have out2:∀c,H c=none->c∉ds:=λc e z=>c2 c z e;have ap:Ap z TI TO i1 i2 (i1::cs) (i2::ds):=⟨by simp,by simp,by simp[f.c.symm,out1 z (n z (by simp))],by simp[f.d.symm,out2 z (n z (by simp))],by simp[f.h,out1 TO (n TO (by simp))],by simp[f.i,out2 TO (n TO (by simp))],f.b,by simp[f.j,out2 i1 (n i1 (by simp))],by simp[f.j.symm,out1 i2 (n i2 (by simp))]⟩
  refine next_end (D1 X.A.in1 hd) (D2 X.A.in1 hd) ap h1 h2 h3 (a1 i h4) (a2 i h5) g λh' tk kp=>⟨rfl,a2z I hf λc o nc e=>?_⟩;simp only[List.mem_cons,List.not_mem_nil,or_false,not_or]at nc;exact kp c o nc.1 nc.2.2.1 nc.2.2.2.1 nc.2.2.2.2 e
 self:=λ_ _ _ _ _ st h=>wpAny_pyIter_zip st.1 h
theorem a2q(c:cont h k us)(o:Obj):cont (h.push o) k us:=by
 cases k with
 |tup a=>obtain⟨ob,e,r⟩:=c;exact⟨ob,Heap.get?_push_of_some _ e,r⟩
 |lst a=>obtain⟨ob,e,r⟩:=c;exact⟨ob,Heap.get?_push_of_some _ e,r⟩
 |str x=>trivial
theorem zx{s:Shared}(c:cont s.heap k us)(q:Q (.ref s.heap.objs.size) {s with heap:=s.heap.push (iob t k)}) :
  wpAny (model prog w) A (pyIter (val t k)) Q E s:=by
 cases k with
 |tup a=>exact wpAny_pyIter_tuple c q
 |lst a=>exact wpAny_pyIter_list c q
 |str x=>exact wpAny_pyIter_strU q
noncomputable def mk2(h:Heap)(t1 t2:Tok)(k1 k2:Srk):Heap:=(h.push (iob t1 k1)).push (iob t2 k2)
noncomputable def mk5(h:Heap)(t1 t2:Tok)(k1 k2:Srk):Heap :=
 (((mk2 h t1 t2 k1 k2).push {cls:=.type "tuple",data:=.seq #[.ref h.objs.size,.ref (h.objs.size+1)]}).push {cls:=.type "tuple",data:=.seq #[.none,.none]}).push
  {cls:=.type "zip",data:=.fields #[.none,.bool false,.bool false,.ref (h.objs.size+2),.ref (h.objs.size+3)]}
theorem aiu(t1 t2:Tok)(k1 k2:Srk)(us1 us2:List Value):Meets (Builtin.«zip.__new__» ⟨[.type "zip",val t1 k1,val t2 k2],[]⟩)
  (λ_ R s=>cont s.heap k1 us1/\cont s.heap k2 us2/\R (.ok (.ret (.ref (s.heap.objs.size+4)))) {s with heap:=mk5 s.heap t1 t2 k1 k2}) :=
 .of_wp λprog w A R s h=>by
  obtain⟨hp,g,d,tk,os⟩:=s;obtain⟨c1,c2,h⟩:=h;have sub:=sub_zip;have c1':cont (Shared.heap ⟨hp,g,d,tk,os⟩) k1 us1:=c1;have c2':cont (Shared.heap ⟨hp.push (iob t1 k1),g,d,tk,os⟩) k2 us2:=a2q c2 _
  wp_walk using zx (t:=t1) c1',zx (t:=t2) c2'
  refine⟨_,rfl,?_⟩;simpa[mk5,mk2,Heap.size_push,ownedTupleFields,Nat.add_assoc] using h
theorem ay6(n:Nat):Far (n+4) (n+2) (n+3) n (n+1):=by
 refine⟨?_,?_,?_,?_,?_,?_,?_,?_,?_,?_⟩<;>(intro z;have z:(_:Nat)=_:=z;lia)
theorem b0n(n b:Nat)(h:b∈[n+4,n+2,n+3,n,n+1]):n<=b:=by
 simp only[List.mem_cons,List.not_mem_nil,or_false]at h;lia
section
variable{X:Cx}{elts:List Expr}{x1:Nat}{tpos:Pos}
noncomputable def b0o(ta:TA):TI:=λZ H R=>ta Z H λvs H1=>∃k1 k2 xs ys,vs=[Srk.v k1,Srk.v k2]/\its H1 k1=some xs/\its H1 k2=some ys/\R (ItZ k1 k2) H1
theorem a65{k:Srk}(r:RelV k.v u):∃t,u=val t k:=by
 cases k with
 |tup a=>cases r;exact⟨0,rfl⟩
 |lst a=>cases r;exact⟨0,rfl⟩
 |str x=>obtain⟨t,rfl⟩:=r;exact⟨t,rfl⟩
theorem au8(hg:Gl X "zip")(hm:X.mg "zip" = none)(hb:bootBuiltins "zip" = some (.type "zip"))(ha:PA X [e1,e2] ta)
  (h1:starEach [e1,e2] X.env=[(false,eval e1 X.env),(false,eval e2 X.env)]:=by rfl) (h2:starEach [e2] X.env=[(false,eval e2 X.env)]:=by rfl):PI X (.Tuple elts x1 tpos) (.Call (.Name "zip" p) [e1,e2] [] pos) (b0o ta):=by
 intro aA s Z H R I h
 refine wpAny_Call_Name_kw (a1y I hg hm hb ?_ (by decide) (by decide))
 refine PyProof.Rows.callWith_type1 (thn (ha pos aA s Z H _ I h) λus s1 ⟨vs,H1,I1,r1,q1⟩=>?_) (by rw[h1,h2]) (by rw[h2];rfl)
 obtain⟨k1,k2,xs,ys,rfl,e1,e2,q⟩:=q1;obtain⟨v1,v2,rfl,rv1,rv2⟩:=vals2 r1;obtain⟨t1,rfl⟩:=a65 rv1;obtain⟨t2,rfl⟩:=a65 rv2;obtain⟨us1,c1,_⟩:=a1e I1 e1;obtain⟨us2,c2,_⟩:=a1e I1 e2;refine callType_new F.called_zip (by decide) (F.typeCall_zip_2 _ _) (F.newCall_zip_2 _ _) (λobj=>F.args_object_init_3 obj _ _) F.entry_zip_new (aiu t1 t2 k1 k2 us1 us2) ⟨c1,c2,?_⟩
 have z2:(mk2 s1.heap t1 t2 k1 k2).objs.size=s1.heap.objs.size+2:=by simp[mk2,Heap.size_push]
 have at0:(mk5 s1.heap t1 t2 k1 k2).get? s1.heap.objs.size=some (iob t1 k1):=by
  unfold mk5 mk2;exact Heap.get?_push_of_some _ (Heap.get?_push_of_some _ (Heap.get?_push_of_some _ (Heap.get?_push_of_some _ (Heap.get?_push_size _ (by cases k1<;>rfl)))))
 have at1:(mk5 s1.heap t1 t2 k1 k2).get? (s1.heap.objs.size+1)=some (iob t2 k2):=by
  unfold mk5 mk2;have:=Heap.get?_push_size (o:=iob t2 k2) (s1.heap.push (iob t1 k1)) (by cases k2<;>rfl)
  rw[Heap.size_push]at this;exact Heap.get?_push_of_some _ (Heap.get?_push_of_some _ (Heap.get?_push_of_some _ this))
 have at2:IsPair (mk5 s1.heap t1 t2 k1 k2) (s1.heap.objs.size+2) (.ref s1.heap.objs.size) (.ref (s1.heap.objs.size+1)):=by
  unfold mk5;rw[<-z2];exact Heap.get?_push_of_some _ (Heap.get?_push_of_some _ (Heap.get?_push_size _ rfl))
 have at3:IsPair (mk5 s1.heap t1 t2 k1 k2) (s1.heap.objs.size+3) .none .none:=by
  unfold mk5;have:=Heap.get?_push_size (o:={cls:=.type "tuple",data:=.seq #[.none,.none]}) ((mk2 s1.heap t1 t2 k1 k2).push {cls:=.type "tuple",data:=.seq #[.ref s1.heap.objs.size,.ref (s1.heap.objs.size+1)]}) rfl;rw[Heap.size_push,z2]at this;exact Heap.get?_push_of_some _ this
 have at4:IsZip (mk5 s1.heap t1 t2 k1 k2) (s1.heap.objs.size+4) (s1.heap.objs.size+2) (s1.heap.objs.size+3) .none:=by
  unfold mk5;have:=Heap.get?_push_size (o:={cls:=.type "zip",data:=.fields #[.none,.bool false,.bool false,.ref (s1.heap.objs.size+2),.ref (s1.heap.objs.size+3)]}) (((mk2 s1.heap t1 t2 k1 k2).push {cls:=.type "tuple",data:=.seq #[.ref s1.heap.objs.size,.ref (s1.heap.objs.size+1)]}).push {cls:=.type "tuple",data:=.seq #[.none,.none]}) rfl;rw[Heap.size_push,Heap.size_push,z2]at this;exact this
 have keepA:∀b o,s1.heap.get? b=some o->(mk5 s1.heap t1 t2 k1 k2).get? b=some o:=λb o e=>by
  unfold mk5 mk2;exact Heap.get?_push_of_some _ (Heap.get?_push_of_some _ (Heap.get?_push_of_some _ (Heap.get?_push_of_some _ (Heap.get?_push_of_some _ e))))
 have I2:Inv X aA Z H1 {s1 with heap:=mk5 s1.heap t1 t2 k1 k2}:=I1.kept (t':=s1.toks) keepA
 refine⟨⟨_,at4,rfl⟩,?_⟩;refine wpAny_pyIter_zip (s:={s1 with heap:=mk5 s1.heap t1 t2 k1 k2}) at4 ?_
 refine⟨s1.heap.objs.size+4,[s1.heap.objs.size+4,s1.heap.objs.size+2,s1.heap.objs.size+3,s1.heap.objs.size,s1.heap.objs.size+1],tnZ _ _ _ _ _ t1 t2 k1 k2,ItZ k1 k2,H1,rfl,I2,ait (ay6 s1.heap.objs.size),
  ⟨at4,at2,⟨_,_,at3⟩,aql at0,aql at1⟩,λb hb=>?_,q⟩
 have:s1.heap.objs.size<=b:=b0n _ b hb
 exact I1.fpOk this (I1.hok.fresh this)
end
end ZP
namespace MI
open L2 ZP
def srcOf(d:D)(h:Hd):Option (List D×(Hd->Prop)):=match d with
 |.tup xs=>some (xs,λ_=>True)
 |.rol xs=>some (xs,λ_=>True)
 |.str x=>some (zq x,λ_=>True)
 |.ref i=>(match h[i]? with|some (.lst xs)=>some (xs,λh=>h[i]? = some (.lst xs))|_=>none)
 |_=>none
noncomputable def ala(x y:D)(h:Hd):R Itm:=match srcOf x h,srcOf y h with
 |some (xs,c1),some (ys,c2)=>.ok ⟨(xs.zip ys).map λp=>.tup [p.1,p.2],λh=>c1 h/\c2 h⟩ h
 |_,_=>.no
noncomputable def a9r(f g:SE):SI:=λτ h=>(f τ h).bind λx h1=>(g τ h1).bind λy h2=>ala x y h2
theorem a66(r:Rep K U H v d)(hr:HRep K U H h)(e:srcOf d h=some (xs,ck)) :
  ∃k:Srk,v=k.v/\ck h/\∀U' H' h',Gr U H U' H'->HRep K U' H' h'->ck h'->∃vs,its H' k=some vs/\Reps K U' H' vs xs:=by
 cases r with
 |@tup a vs ys ha rs =>
  cases e
  exact⟨.tup a,rfl,True.intro,λU' H' h' g _ _=>⟨vs,by simp[its,g.tup _ _ ha],rs.mono g⟩⟩
 |@rol a vs ys ha rs =>
  cases e
  refine⟨.lst a,rfl,True.intro,λU' H' h' g _ _=>⟨vs,?_,rs.mono g⟩⟩;obtain⟨o,q⟩:=ha.mono g;simp[its,q]
 |str x =>
  cases e
  exact⟨.str x,rfl,True.intro,λU' H' h' g _ _=>⟨_,rfl,a2y x⟩⟩
 |@ref a i ha =>
  obtain⟨ob,e1,e2⟩:=hr.at ha
  cases ob with
  |lst zs =>
   simp only[srcOf,e1]at e;cases e
   refine⟨.lst a,rfl,e1,λU' H' h' g hr' c=>?_⟩;obtain⟨us,q1,q2⟩:=hr'.obj i a _ (g.at ha) c;exact⟨us,by simp[its,q1],q2⟩
  |dK _=>simp only[srcOf,e1]at e;cases e
  |dT _=>simp only[srcOf,e1]at e;cases e
  |ins _ _=>simp only[srcOf,e1]at e;cases e
 |_=>cases e
theorem au9(hg:Gl X "zip")(hm:X.mg "zip" = none)(hb:bootBuiltins "zip" = some (.type "zip"))(ha:ME X E e1 f)(hb':ME X E e2 g)
  (h1:starEach [e1,e2] X.env=[(false,eval e1 X.env),(false,eval e2 X.env)]:=by rfl) (h2:starEach [e2] X.env=[(false,eval e2 X.env)]:=by rfl) :
  MI X E (.Tuple elts x1 tpos) (.Call (.Name "zip" p) [e1,e2] [] pos) (a9r f g):=by
 rintro aA s Z H Rr I ⟨U,τ,h,S,Rh,o⟩
 refine au8 hg hm hb (a1b ha (a1b hb' a7q (by rw[h2];rfl)) (by rw[h1,h2])) h1 h2 aA s Z H Rr I ?_
 refine⟨U,τ,h,S,Rh,bh o λd h1 U1 H1 v g1 r1 hr1 o1=>?_⟩;refine⟨U1,τ,h1,S.mono g1,hr1,bh o1 λd2 h2 U2 H2 u g2 r2 hr2 o2=>?_⟩;unfold ala at o2
 split at o2
 .rename_i xs c1 ys c2 q1 q2;obtain⟨k1,rfl,k1c,k1f⟩:=a66 (r1.mono g2) hr2 q1;obtain⟨k2,rfl,k2c,k2f⟩:=a66 r2 hr2 q2;obtain⟨vs1,w1,w2⟩:=k1f U2 H2 h2 (.refl _ _) hr2 k1c;obtain⟨vs2,w3,w4⟩:=k2f U2 H2 h2 (.refl _ _) hr2 k2c;refine⟨k1,k2,vs1,vs2,rfl,w1,w3,o2 U2 H2 _ (.refl _ _) ?_ hr2⟩
  intro U3 H3 h3 g3 hr3 c
  obtain⟨us1,a1,a2⟩:=k1f U3 H3 h3 g3 hr3 c.1;obtain⟨us2,a3,a4⟩:=k2f U3 H3 h3 g3 hr3 c.2;refine⟨λi d ed=>?_,us1,us2,a1,a3,?_⟩
  .simp only[List.getElem?_map,Option.map_eq_some_iff]at ed;obtain⟨⟨x,y⟩,ez,rfl⟩:=ed;obtain⟨ex,ey⟩:=List.getElem?_zip_eq_some.mp ez;obtain⟨v1,b1,b2⟩:=a2.get ex;obtain⟨v2,b3,b4⟩:=a4.get ey;refine⟨⟨us1,us2,v1,v2,a1,a3,b1,b3⟩,λx H' yl=>?_⟩;obtain⟨xs',ys',x',y',p,c1,c2,c3,c4,c5,rfl,rfl⟩:=yl;rw[a1]at c1;cases c1
   rw[a3]at c2;cases c2
   rw[b1]at c3;cases c3
   rw[b3]at c4;cases c4
   exact⟨ur c5 _,.tup gh (.cons (b2.mono (ur c5 _)) (.cons (b4.mono (ur c5 _)) .nil)),hr3.aside c5 _⟩
  .rw[List.length_map,List.length_zip,a2.len,a4.len];lia
 .exact o2.elim
theorem alb:bootBuiltins "zip" = some (.type "zip"):=by first|exact PySem.boot_zip|exact PyProof.Rows.boot_zip|rfl
end MI
namespace MI
open L2
def FrzOf(L:List Addr)(H H2:Hp):Prop:=∀a,(a∉L->H2 a=H a)/\(a∈L->∃o u,H a=some u/\H2 a=some (.frz o u))
def ac8(H:Hp)(L:List Addr):Prop:=∀a∈L,(∃xs,H a=some (.lst xs))\/(∃kvs,H a=some (.dK kvs))\/(∃kvs,H a=some (.dT kvs))\/∃C dx fs,H a=some (.ins C dx fs)
def still:HO->Prop
 |.lst _=>False|.dK _=>False|.dT _=>False|.ins _ _ _=>False
 |_=>True
theorem FrzOf.still(f:FrzOf L H H2)(ab:ac8 H L)(e:H a=some u)(st:MI.still u):H2 a=some u:=by
 rw[(f a).1 λz=>?_]
 .exact e
 .rcases ab a z with⟨_,q⟩|⟨_,q⟩|⟨_,q⟩|⟨_,_,_,q⟩<;>(rw[e]at q;cases q;exact st)
theorem Inv.frz{X:Cx}{aA:List (Addr×Obj)}{Z:St}{H:Hp}{s:Shared}{L:List Addr}(I:Inv X aA Z H s)(ab:ac8 H L):∃H2,FrzOf L H H2/\Inv X aA Z H2 s:=by
 have obj:∀a∈L,∀u,H a=some u->∃o,s.heap.get? a=some o:=λa ha u e=>by
  rcases ab a ha with⟨_,q⟩|⟨_,q⟩|⟨_,q⟩|⟨_,_,_,q⟩
  .obtain⟨_,_,_,_,z⟩:=I.hok a _ q;exact⟨_,z⟩
  .obtain⟨_,_,_,_,z⟩:=I.hok a _ q;obtain⟨o,_,_,z,_⟩:=z;exact⟨o,z⟩
  .obtain⟨_,_,_,_,o,_,_,z,_⟩:=I.hok a _ q;exact⟨o,z⟩
  .obtain⟨_,_,_,z,_⟩:=I.hok a _ q;exact⟨_,z⟩
 let H2:Hp:=λa=>if a∈L then (match s.heap.get? a,H a with|some o,some u=>some (.frz o u)|_,w=>w) else H a
 have f:FrzOf L H H2:=λa=>⟨λh=>by simp[H2,h],λh=>by
  obtain⟨u,e⟩:∃u,H a=some u:=by
   rcases ab a h with⟨_,q⟩|⟨_,q⟩|⟨_,q⟩|⟨_,_,_,q⟩<;>exact⟨_,q⟩
  obtain⟨o,eo⟩:=obj a h u e;exact⟨o,u,e,by simp[H2,h,e,eo]⟩⟩
 refine⟨H2,f,?_⟩;have mv:∀a u,ObjOk X.prog X.w H s.heap a u->ObjOk X.prog X.w H2 s.heap a u:=λa u x=>x.stay (λb v _ q=>q) (λc q=>f.still ab q True.intro) λc xs q=>f.still ab q True.intro;have ok:HOk X.prog X.w H2 s.heap:=λa u e=>by
  by_cases hl:a∈L
  .obtain⟨u0,e0⟩:∃u,H a=some u:=by
    rcases ab a hl with⟨_,q⟩|⟨_,q⟩|⟨_,q⟩|⟨_,_,_,q⟩<;>exact⟨_,q⟩
   obtain⟨o,eo⟩:=obj a hl u0 e0;have e':H2 a=some (.frz o u0):=by simp[H2,hl,e0,eo]
   rw[e']at e;cases e
   exact⟨eo,mv a u0 (I.hok a u0 e0)⟩
  .rw[(f a).1 hl]at e;exact mv a u (I.hok a u e)
 have fn:∀b,H b=none->H2 b=none:=λb n=>by
  rw[(f b).1 λz=>?_]
  .exact n
  .rcases ab b z with⟨_,q⟩|⟨_,q⟩|⟨_,q⟩|⟨_,_,_,q⟩<;>(rw[n]at q;cases q)
 have un:Un X.fs [] H H2 s.heap s.heap:=⟨λb o q _ _ _=>q,λb o q _ _ _=>⟨o.slots,q⟩,λb o _ n _=>fn b n,λb o q _=>⟨o,q⟩,λb xs q=>f.still ab q True.intro,λb o u q=>f.still ab q True.intro,λb ps q=>⟨#[],by rw[f.still ab q True.intro];simp⟩⟩
 exact I.un (t':=s.toks) un ok
theorem aev(h:PE X e t):PE X e (λZ H Q=>t Z H λv H1=>∃L,ac8 H1 L/\∀H2,FrzOf L H1 H2->Q v H2):=λaA s Z H Q I q =>
 thn (h aA s Z H _ I q) λu s' ⟨v,H1,I1,r,L,ab,k⟩=>let ⟨H2,f,I2⟩:=Inv.frz I1 ab; ⟨v,H2,I2,r,k H2 f⟩
noncomputable def zm{α β:Type}(f:α->Option β):List α->Option (List β)
 |[]=>some []
 |x::xs=>match f x,zm f xs with|some y,some ys=>some (y::ys)|_,_=>none
open Classical in
noncomputable def a0j(n:Nat)(h:Hd):Nat->D->Option D
 |0,_=>none
 |k+1,d=>if clo n d then some d else match d with
  |.tup xs=>(zm (a0j n h k) xs).map .tup
  |.rol xs=>(zm (a0j n h k) xs).map .rol
  |.scr xs=>(zm (a0j n h k) xs).map .scr
  |.rod ks xs=>(zm (a0j n h k) xs).map (.rod ks)
  |.rdT ks xs=>(zm (a0j n h k) xs).map (.rdT ks)
  |.ins c ks xs=>(zm (a0j n h k) xs).map (.ins c ks)
  |.ref i=>match h[i]? with
   |some (.lst xs)=>(zm (a0j n h k) xs).map .rol
   |some (.dK kvs)=>(zm (a0j n h k) (kvs.map (·.2))).map (.rod (kvs.map (·.1)))
   |some (.dT kvs)=>(zm (a0j n h k) (kvs.map (·.2))).map (.rdT (kvs.map (·.1)))
   |some (.ins c kvs)=>(zm (a0j n h k) (kvs.map (·.2))).map (.ins c (kvs.map (·.1)))
   |none=>none
  |_=>none
open Classical in
noncomputable def aua(n:Nat)(h:Hd)(k:Nat)(o:O):Option O:=if a00 n o then some o else match o with
 |.lst xs=>(zm (a0j n h k) xs).map .lst
 |.dK kvs=>(zm (a0j n h k) (kvs.map (·.2))).map λys=>.dK ((kvs.map (·.1)).zip ys)
 |.dT kvs=>(zm (a0j n h k) (kvs.map (·.2))).map λys=>.dT ((kvs.map (·.1)).zip ys)
 |.ins c kvs=>(zm (a0j n h k) (kvs.map (·.2))).map λys=>.ins c ((kvs.map (·.1)).zip ys)
abbrev FU:Nat:=20
noncomputable def a9s(n:Nat):R D->R D
 |.ok d h1=>match a0j n h1 FU d,zm (aua n h1 FU) (h1.take n) with|some d',some g=>.ok d' g|_,_=>.no
 |_=>.no
open Classical in
noncomputable def aqm(n:Nat):R D->R D
 | .ok (.ref i) h1=>(match h1[i]? with
   |some o=>if n<=i/\a00 n o/\∀u∈h1.take n,a00 n u then .ok (.ref n) (h1.take n++[o]) else .no
   |none=>.no)
 |_=>.no
section
variable{K:Fg}{U U':List Addr}{H H' H2:Hp}{h1:Hd}{n:Nat}{L:List Addr}
theorem aau(f:FrzOf L H' H2)(ab:ac8 H' L)(κ:List Addr):Gw κ H' κ H2:=⟨⟨[],by simp⟩,λa vs e=>f.still ab e True.intro,λa o u e=>f.still ab e True.intro⟩
theorem j5(ih:∀{v d d'},Rep K U H v d->f d=some d'->Rep K κ H2 v d'):∀{vs:List V} {ds ds':List D},Reps K U H vs ds->zm f ds=some ds'->Reps K κ H2 vs ds'
 |_,_,_,.nil,e=>by cases e;exact .nil
 |_,x::xs,_,.cons r rs,e=>by
  unfold zm at e
  split at e
  .rename_i y ys h1 h2;cases e
   exact .cons (ih r h1) (j5 ih rs h2)
  .cases e
theorem a4k(hr:HRep K U' H' h1)(hL:∀(i:Nat) a,U'[i]? = some a->n<=i->a∈L)(f:FrzOf L H' H2)(ab:ac8 H' L):∀(k:Nat) {v:V} {d d':D},Rep K U' H' v d->a0j n h1 k d=some d'->Rep K (U'.take n) H2 v d':=by
 intro k
 induction k with
 |zero=>intro v d d' r e;cases e
 |succ k ih =>
  intro v d d' r e
  unfold a0j at e
  split at e
  .rename_i c;cases e
   exact(r.cut c).monoW (aau f ab _)
  .rename_i c
   cases r with
   |tup h rs =>
    simp only[Option.map_eq_some_iff]at e;obtain⟨ys,e1,rfl⟩:=e;exact .tup (f.still ab h True.intro) (j5 (λr e=>ih r e) rs e1)
   |rol h rs =>
    simp only[Option.map_eq_some_iff]at e;obtain⟨ys,e1,rfl⟩:=e;exact .rol (h.monoW (aau f ab U')) (j5 (λr e=>ih r e) rs e1)
   |scr h rs =>
    simp only[Option.map_eq_some_iff]at e;obtain⟨ys,e1,rfl⟩:=e;exact .scr (h.monoW (aau f ab U')) (j5 (λr e=>ih r e) rs e1)
   |rod h ek rs =>
    simp only[Option.map_eq_some_iff]at e;obtain⟨ys,e1,rfl⟩:=e;exact .rod (f.still ab h True.intro) ek (j5 (λr e=>ih r e) rs e1)
   |rdT h ek rs =>
    simp only[Option.map_eq_some_iff]at e;obtain⟨ys,e1,rfl⟩:=e;exact .rdT (f.still ab h True.intro) ek (j5 (λr e=>ih r e) rs e1)
   |@ref a i ha =>
    have hi:n<=i:=by
     simp only[clo]at c;lia
    obtain⟨o,u,e1,e2⟩:=(f a).2 (hL i a ha hi);obtain⟨ob,h3,h4⟩:=hr.at ha;simp only[h3]at e
    cases ob with
    |lst xs =>
     simp only[Option.map_eq_some_iff]at e;obtain⟨ys,e3,rfl⟩:=e;obtain⟨vs,h5,h6⟩:=h4;rw[e1]at h5;cases h5
     exact .rol ⟨o,e2⟩ (j5 (λr e=>ih r e) h6 e3)
    |dK kvs =>
     simp only[Option.map_eq_some_iff]at e;obtain⟨ys,e3,rfl⟩:=e;obtain⟨us,h5,h6,h7⟩:=h4;rw[e1]at h5;cases h5
     exact .rod e2 h6 (j5 (λr e=>ih r e) h7 e3)
    |dT kvs =>
     simp only[Option.map_eq_some_iff]at e;obtain⟨ys,e3,rfl⟩:=e;obtain⟨us,h5,h6,h7⟩:=h4;rw[e1]at h5;cases h5
     exact .rdT e2 h6 (j5 (λr e=>ih r e) h7 e3)
    |ins c kvs =>
     simp only[Option.map_eq_some_iff]at e;obtain⟨ys,e3,rfl⟩:=e;obtain⟨C,dx,us,h5,hn,h6,h7⟩:=h4;rw[e1]at h5;cases h5
     exact .ins e2 hn h6 (j5 (λr e=>ih r e) h7 e3)
   |non=>simp only[clo,not_true_eq_false]at c
   |exc _ _ _=>simp only[clo,not_true_eq_false]at c
   |ins h hn ek rs =>
    simp only[Option.map_eq_some_iff]at e;obtain⟨ys,e1,rfl⟩:=e;exact .ins (f.still ab h True.intro) hn ek (j5 (λr e=>ih r e) rs e1)
   |bl b=>simp only[clo,not_true_eq_false]at c
   |int b=>simp only[clo,not_true_eq_false]at c
   |str b=>simp only[clo,not_true_eq_false]at c
   |ty b=>simp only[clo,not_true_eq_false]at c
theorem a3p{κ:Type}{H:Hp}{us:List (κ×V)}{ks:List κ}{ys:List D}(e:us.map (·.1)=ks)(r:Reps K U H (us.map (·.2)) ys):KRep K U H us (ks.zip ys):=by
 have l:ks.length=ys.length:=by rw[<-e,List.length_map,<-r.len,List.length_map]
 refine⟨?_,?_⟩
 .rw[List.map_fst_zip (by lia)];exact e
 .rw[List.map_snd_zip (by lia)];exact r
theorem ao6(hr:HRep K U' H' h1)(hL:∀(i:Nat) a,U'[i]? = some a->n<=i->a∈L)(f:FrzOf L H' H2)(ab:ac8 H' L){k:Nat}(na:a∉L)(r:ORep K U' H' a o)(e:aua n h1 k o=some o'):ORep K (U'.take n) H2 a o':=by
 have same:H2 a=H' a:=(f a).1 na;unfold aua at e
 split at e
 .rename_i c;cases e
  exact(r.cut c).monoW (aau f ab _) same
 .cases o with
  |lst xs =>
   simp only[Option.map_eq_some_iff]at e;obtain⟨ys,e1,rfl⟩:=e;obtain⟨vs,h3,h4⟩:=r;exact⟨vs,by rw[same];exact h3,j5 (λr e=>a4k hr hL f ab k r e) h4 e1⟩
  |dK kvs =>
   simp only[Option.map_eq_some_iff]at e;obtain⟨ys,e1,rfl⟩:=e;obtain⟨us,h3,h4,h5⟩:=r;exact⟨us,by rw[same];exact h3,a3p h4 (j5 (λr e=>a4k hr hL f ab k r e) h5 e1)⟩
  |dT kvs =>
   simp only[Option.map_eq_some_iff]at e;obtain⟨ys,e1,rfl⟩:=e;obtain⟨us,h3,h4,h5⟩:=r;exact⟨us,by rw[same];exact h3,a3p h4 (j5 (λr e=>a4k hr hL f ab k r e) h5 e1)⟩
  |ins c kvs =>
   simp only[Option.map_eq_some_iff]at e;obtain⟨ys,e1,rfl⟩:=e;obtain⟨C,dx,us,h3,hn,h4,h5⟩:=r;exact⟨C,dx,us,by rw[same];exact h3,hn,a3p h4 (j5 (λr e=>a4k hr hL f ab k r e) h5 e1)⟩
theorem a1r{α β:Type}{f:α->Option β}:∀{xs:List α} {ys:List β},zm f xs=some ys->xs.length=ys.length/\∀(i:Nat) y,ys[i]? = some y->∃x,xs[i]? = some x/\f x=some y
 |[],_,e=>by cases e;exact⟨rfl,λi y e=>by simp at e⟩
 |x::xs,ys,e=>by
  unfold zm at e
  split at e
  .rename_i y ys h1 h2;cases e
   obtain⟨l,g⟩:=a1r h2;refine⟨by simp[l],λi z e=>?_⟩
   cases i with
   |zero=>simp at e;subst e;exact⟨x,rfl,h1⟩
   |succ i=>simpa using g i z (by simpa using e)
  .cases e
theorem aew(hr:HRep K U' H' h1)(M:List Addr)(hM:∀a∈M,a∈U'):ac8 H' M:=λa ha=>by
 obtain⟨i,hi⟩:=List.getElem?_of_mem (hM a ha);obtain⟨o,_,q⟩:=hr.at hi
 cases o with
 |lst xs=>obtain⟨vs,h,_⟩:=q;exact .inl ⟨_,h⟩
 |dK xs=>obtain⟨vs,h,_⟩:=q;exact .inr (.inl ⟨_,h⟩)
 |dT xs=>obtain⟨vs,h,_⟩:=q;exact .inr (.inr (.inl ⟨_,h⟩))
 |ins _ _=>obtain⟨C,dx,vs,h,_⟩:=q;exact .inr (.inr (.inr ⟨_,_,_,h⟩))
theorem a4l{α:Type}{l:List α}(nd:l.Nodup){i j:Nat}{a:α}(h1:l[i]? = some a)(h2:l[j]? = some a):i=j:=by
 obtain⟨l1,e1⟩:=List.getElem?_eq_some_iff.mp h1;obtain⟨l2,e2⟩:=List.getElem?_eq_some_iff.mp h2
 rcases Nat.lt_trichotomy i j with l|l|l
 .exact absurd (e1.trans e2.symm) (List.pairwise_iff_getElem.mp nd i j l1 l2 l)
 .exact l
 .exact absurd (e2.trans e1.symm) (List.pairwise_iff_getElem.mp nd j i l2 l1 l)
theorem aub(g:Gr U H U' H')(f:FrzOf L H' H2)(ab:ac8 H' L)(hL:∀a∈L,H a=none)(hm:∀a∈m,H a=none):Gr U H (U++m) H2:=by
 refine⟨⟨m,rfl,hm⟩,λa vs e=>f.still ab (g.tup a vs e) True.intro,λa o u e=>f.still ab (g.frz a o u e) True.intro,λa u e hn=>?_,λa u e=>?_⟩
 .rw[(f a).1 λz=>by rw[hL a z]at e;cases e]
  exact g.oth a u e hn
 .obtain⟨u',e'⟩:=g.kp a u e;rw[(f a).1 λz=>by rw[hL a z]at e;cases e]
  exact⟨u',e'⟩
theorem aex{d d':D}{v:V}{g':Hd}(g:Gr U H U' H')(rb:Rep K U' H' v d)(hr:HRep K U' H' h1)(e:a9s U.length (.ok d h1)=.ok d' g') :
  ∃L,ac8 H' L/\∀H2,FrzOf L H' H2->Gr U H U H2/\Rep K U H2 v d'/\HRep K U H2 g':=by
 obtain⟨m,rfl,hm⟩:=g.pre;have tk:(U++m).take U.length=U:=by simp
 have ab:ac8 H' m:=aew hr m λa ha=>List.mem_append_right _ ha;have hL:∀(i:Nat) a,(U++m)[i]? = some a->U.length<=i->a∈m:=λi a e hi=>by
  rw[List.getElem?_append_right hi]at e;exact List.mem_of_getElem? e
 refine⟨m,ab,λH2 f=>?_⟩;unfold a9s at e;simp only at e
 split at e
 .rename_i dd gg e1 e2;cases e
  refine⟨by simpa using aub g f ab hm (m:=[]) (by simp),by have:=a4k hr hL f ab FU rb e1;rwa[tk]at this,?_⟩
  obtain⟨l,gt⟩:=a1r e2;have hl:=hr.len;have ln:U.length<=h1.length:=by rw[<-hl];simp
  refine⟨(List.nodup_append.mp hr.nd).1,by rw[<-l,List.length_take];lia,λi a o q1 q2=>?_⟩
  obtain⟨x,hx,fx⟩:=gt i o q2;have hi:i<U.length:=(List.getElem?_eq_some_iff.mp q1).1;rw[List.getElem?_take,if_pos hi]at hx;have q3:(U++m)[i]? = some a:=by rw[List.getElem?_append_left hi];exact q1
  have na:a∉m:=λz=>(List.nodup_append.mp hr.nd).2.2 a (List.mem_of_getElem? q1) a z rfl;have:=ao6 hr hL f ab na (hr.obj i a x q3 hx) fx
  rwa[tk]at this
 .cases e
theorem aiv(g:Gr U H U' H')(rb:Rep K U' H' v d)(hr:HRep K U' H' h1)(e:aqm U.length (.ok d h1)=.ok d' g') :
  ∃b,H b=none/\Gr U H (U++[b]) H'/\Rep K (U++[b]) H' v d'/\HRep K (U++[b]) H' g':=by
 obtain⟨m,rfl,hm⟩:=g.pre;have tk:(U++m).take U.length=U:=by simp
 have up:∀b,Gw U H' (U++[b]) H':=λb=>⟨⟨[b],rfl⟩,λ_ _ h=>h,λ_ _ _ h=>h⟩
 cases rb with
 |@ref b i hb =>
  unfold aqm at e;simp only at e
  split at e
  .rename_i ob ho
   split at e
   .rename_i hc;obtain⟨hi,c1,c2⟩:=hc;cases e
    have hb':=hb;rw[List.getElem?_append_right hi]at hb';have bm:b∈m:=List.mem_of_getElem? hb';obtain⟨nd1,nd2,nd3⟩:=List.nodup_append.mp hr.nd;have hl:=hr.len;have ln:U.length<=h1.length:=by rw[<-hl];simp
    have lt:(h1.take U.length).length=U.length:=by rw[List.length_take];lia
    refine⟨b,hm b bm,⟨⟨[b],rfl,by simpa using hm b bm⟩,g.tup,g.frz,g.oth,g.kp⟩,.ref (by simp),?_⟩
    refine⟨List.nodup_append.mpr ⟨nd1,by simp,λa ha c hc z=>nd3 a ha c (by rw[List.mem_singleton.mp hc];exact bm) z⟩,by simp[lt],λj a o q1 q2=>?_⟩
    by_cases hj:j<U.length
    .rw[List.getElem?_append_left hj]at q1;rw[List.getElem?_append_left (by lia)]at q2
     have q2':=q2;rw[List.getElem?_take,if_pos hj]at q2';have:=(hr.obj j a o (by rw[List.getElem?_append_left hj];exact q1) q2').cut (c2 o (List.mem_of_getElem? q2))
     rw[tk]at this;exact this.monoW (up b) rfl
    .have hj2:j<(U++[b]).length:=(List.getElem?_eq_some_iff.mp q1).1;have:j=U.length:=by simp at hj2;lia
     subst this;rw[List.getElem?_append_right (Nat.le_refl _)]at q1;rw[List.getElem?_append_right (by lia),lt]at q2
     simp at q1 q2
     subst q1 q2;have:=(hr.obj i b ob hb ho).cut c1;rw[tk]at this;exact this.monoW (up b) rfl
   .cases e
  .cases e
 |_=>cases e
end
noncomputable def sZ(f:SE):SE:=λτ h=>a9s h.length (f τ h)
abbrev b0p(Q:VK):VK:=λv H1=>∃L,ac8 H1 L/\∀H2,FrzOf L H1 H2->Q v H2
theorem azj(q:lift K E (ql K) (sZ fa) Z H Q):lift K E (ql K) fa Z H (b0p Q):=by
 obtain⟨U,τ,h,S,Rh,o⟩:=q;refine⟨U,τ,h,S,Rh,?_⟩;unfold sZ at o;rw[<-Rh.len]at o
 cases hf:fa τ h with
 |ok d h1 =>
  rw[hf]at o
  intro U' H' v g r hr
  cases hz:a9s U.length (.ok d h1) with
  |ok d' g' =>
   rw[hz]at o;obtain⟨L,ab,k⟩:=aex g r hr hz;refine⟨L,ab,λH2 f=>?_⟩;obtain⟨k1,k2,k3⟩:=k H2 f;exact o U H2 v k1 k2 k3
  |ex c hx=>unfold a9s at hz;simp only at hz;split at hz<;>cases hz
  |no=>rw[hz]at o;exact o.elim
 |ex c h1=>rw[hf]at o;exact o.elim
 |no=>rw[hf]at o;exact o.elim
theorem b0q(ha:ME X E e fa):ME X E e (sZ fa):=PE.weak (aev ha) λZ H Q q=>azj q
noncomputable def refOf:D->Option Nat
 |.ref i=>some i
 |_=>none
noncomputable def a1f(ds:List D):List Nat:=ds.filterMap refOf
noncomputable def wz:Nat->List D->List D
 |_,[]=>[]
 |k,d::ds=>match d with
  |.ref _=>.ref k::wz (k+1) ds
  |d=>d::wz k ds
noncomputable def qy:Hd->List Nat->List O->Hd
 |h,i::is,o::os=>qy (h.set i o) is os
 |h,_,_=>h
def isRef(d:D):Prop:=∃i,d=.ref i
open Classical in
noncomputable def ao7(m:Bool)(F:SF)(ds:List D)(h:Hd):R D:=match zm (λi=>h[i]?) (a1f ds) with
 |none=>.no
 | some os=>if (a1f ds).Nodup/\(∀d∈ds,clo 0 d\/isRef d)/\(∀o∈os,a00 0 o) then
   (match (if m then aqm os.length (F (wz 0 ds) os) else a9s os.length (F (wz 0 ds) os)) with
   | .ok d h1=>if ∀o∈h1,a00 0 o then
     (if m then .ok (.ref h.length) (qy h (a1f ds) h1++h1.drop os.length)
      else if clo 0 d then .ok d (qy h (a1f ds) h1) else .no) else .no
   |_=>.no)
  else .no
noncomputable def gq(m:Bool)(n:Nat)(F:SF):SF:=λds h=>if ds.length=n then ao7 m F ds h else .no
section
variable{K:Fg}{U U':List Addr}{H H' H2:Hp}{h h1:Hd}{n:Nat}
theorem alc(κ:List Addr):Gw [] H κ H:=⟨⟨κ,rfl⟩,λ_ _ h=>h,λ_ _ _ h=>h⟩
theorem Rep.any(r:Rep K U H v d)(c:MI.clo 0 d)(κ:List Addr):Rep K κ H v d:=by
 have:=r.cut c
 rw[List.take_zero]at this;exact this.monoW (alc κ)
theorem ORep.any(r:ORep K U H a o)(c:a00 0 o)(κ:List Addr):ORep K κ H a o:=by
 have:=r.cut c
 rw[List.take_zero]at this;exact this.monoW (alc κ) rfl
theorem a8g{α:Type}(l:List α):∀{is:List Nat},(∀i∈is,i<l.length)->∃ys,zm (λi=>l[i]?) is=some ys
 |[],_=>⟨[],rfl⟩
 |i::is,hi=>by
  obtain⟨ys,e⟩:=a8g l (is:=is) λj hj=>hi j (List.mem_cons_of_mem _ hj);have:=hi i List.mem_cons_self;exact⟨l[i]::ys,by unfold zm;rw[e,List.getElem?_eq_getElem this]⟩
theorem a3a:∀{ds:List D} {vs:List V} {pre κ:List Addr},Reps K U H vs ds->(∀d∈ds,clo 0 d\/isRef d)->zm (λi=>U[i]?) (a1f ds)=some κ->Reps K (pre++κ) H vs (wz pre.length ds)
 |[],_,_,_,.nil,_,_=>.nil
 |d::ds,_,pre,κ,.cons r rs,hc,e=>by
  have hc':∀d∈ds,clo 0 d\/isRef d:=λx hx=>hc x (List.mem_cons_of_mem _ hx)
  by_cases hd:isRef d
  .obtain⟨i,rfl⟩:=hd;have e':zm (λi=>U[i]?) (i::a1f ds)=some κ:=e;unfold zm at e'
   split at e'
   .rename_i a κ' h1 h2
    cases e'
    cases r with
    |ref ha =>
     rw[ha]at h1;cases h1
     have:=a3a (pre:=pre++[a]) rs hc' h2
     simp only[List.append_assoc,List.singleton_append,List.length_append,List.length_singleton]at this;refine .cons (.ref ?_) this;rw[List.getElem?_append_right (Nat.le_refl _)];simp
   .cases e'
  .have c:=(hc d List.mem_cons_self).resolve_right hd;have e1:a1f (d::ds)=a1f ds:=by
    unfold a1f
    cases d<;>first|rfl|exact absurd ⟨_,rfl⟩ hd
   have e2:wz pre.length (d::ds)=d::wz pre.length ds:=by
    cases d<;>first|rfl|exact absurd ⟨_,rfl⟩ hd
   rw[e1]at e;rw[e2];exact .cons (r.any c _) (a3a rs hc' e)
theorem a09:∀{is:List Nat} {os:List O} {h:Hd},(qy h is os).length=h.length
 |[],_,_=>by simp[qy]
 |_::_,[],_=>by simp[qy]
 |i::is,o::os,h=>by rw[qy,a09,List.length_set]
theorem a3b:∀{is:List Nat} {os:List O} {h:Hd},i∉is->(qy h is os)[i]? = h[i]?
 |[],_,_,_=>by simp[qy]
 |_::_,[],_,_=>by simp[qy]
 |j::is,o::os,h,n=>by
  rw[qy,a3b λz=>n (List.mem_cons_of_mem _ z),List.getElem?_set_ne λz=>n (by rw[z];exact List.mem_cons_self)]
theorem a8h:∀{is:List Nat} {os:List O} {h:Hd} {j:Nat},is.Nodup->is[j]? = some i->os[j]? = some o->i<h.length->(qy h is os)[i]? = some o
 |[],_,_,_,_,e,_,_=>by simp at e
 |_::_,[],_,_,_,_,e,_=>by simp at e
 |k::is,o'::os,h,j,nd,e1,e2,hl=>by
  cases j with
  |zero =>
   simp at e1 e2
   subst e1 e2;rw[qy,a3b (List.nodup_cons.mp nd).1,List.getElem?_set_self hl]
  |succ j =>
   rw[qy];exact a8h (j:=j) (List.nodup_cons.mp nd).2 (by simpa using e1) (by simpa using e2) (by simpa using hl)
theorem a8i{α:Type}{l:List α}(nl:l.Nodup){is:List Nat}{ys:List α}(e:zm (λi=>l[i]?) is=some ys)(ni:is.Nodup):ys.Nodup:=by
 obtain⟨le,g⟩:=a1r e;refine List.pairwise_iff_getElem.mpr λi j hi hj lt z=>?_;obtain⟨x,h1,h2⟩:=g i _ (List.getElem?_eq_getElem hi);obtain⟨y,h3,h4⟩:=g j _ (List.getElem?_eq_getElem hj);rw[<-z]at h4;have:=a4l nl h2 h4;subst this;have:=a4l ni h1 h3;lia
theorem aav{is:List Nat}{κ m:List Addr}{g:Hd}(hr:HRep K U H h)(e1:zm (λi=>U[i]?) is=some κ)(nd:is.Nodup)(gr:Gr κ H (κ++m) H2)(hg:HRep K (κ++m) H2 g)(cg:∀o∈g,a00 0 o)(hm:m.length<=1) :
  Gr U H (U++m) H2/\HRep K (U++m) H2 (qy h is g++g.drop κ.length):=by
 obtain⟨l1,g1⟩:=a1r e1;have mn:∀a∈m,H a=none:=by
  obtain⟨m',e,hm'⟩:=gr.pre;rw[List.append_cancel_left e];exact hm'
 have sub:∀a∈κ,a∈U:=λa ha=>by
  obtain⟨j,hj⟩:=List.getElem?_of_mem ha;obtain⟨i,_,q⟩:=g1 j a hj;exact List.mem_of_getElem? q
 have some_of:∀a∈U,∃u,H a=some u:=λa ha=>by
  obtain⟨i,hi⟩:=List.getElem?_of_mem ha;obtain⟨o,_,q⟩:=hr.at hi;obtain⟨u,q,_⟩:=q.some;exact⟨u,q⟩
 have G:Gr U H (U++m) H2:=⟨⟨m,rfl,mn⟩,gr.tup,gr.frz,λa u e n=>gr.oth a u e λz=>n (sub a z),gr.kp⟩;have lg:=hg.len;rw[List.length_append]at lg;refine⟨G,?_,?_,λj a o q1 q2=>?_⟩
 .refine List.nodup_append.mpr ⟨hr.nd,(List.nodup_append.mp hg.nd).2.1,λa ha b hb z=>?_⟩;obtain⟨u,q⟩:=some_of a ha;rw[z,mn b hb]at q;cases q
 .rw[List.length_append,List.length_append,a09,List.length_drop,hr.len];lia
 .by_cases hj:j<U.length
  .rw[List.getElem?_append_left hj]at q1;rw[List.getElem?_append_left (by rw[a09,<-hr.len];exact hj)]at q2
   by_cases hp:j∈is
   .obtain⟨k,hk⟩:=List.getElem?_of_mem hp;have hkl:k<κ.length:=by rw[<-l1];exact(List.getElem?_eq_some_iff.mp hk).1
    obtain⟨i,h3,h4⟩:=g1 k _ (List.getElem?_eq_getElem hkl);rw[hk]at h3;cases h3
    rw[q1]at h4;have hkg:k<g.length:=by lia
    have e5:=a8h (h:=h) nd hk (List.getElem?_eq_getElem hkg) (by rw[<-hr.len];exact hj)
    rw[e5]at q2;cases q2
    have ea:(κ++m)[k]? = some a:=by rw[List.getElem?_append_left hkl,List.getElem?_eq_getElem hkl];exact h4.symm
    exact(hg.obj k a _ ea (List.getElem?_eq_getElem hkg)).any (cg _ (List.getElem_mem hkg)) _
   .rw[a3b hp]at q2;have r:=hr.obj j a o q1 q2;obtain⟨u,hu,_⟩:=r.some;have na:a∉κ:=λz=>by
     obtain⟨k,hk⟩:=List.getElem?_of_mem z;obtain⟨i,h3,h4⟩:=g1 k a hk;have:=a4l hr.nd q1 h4;subst this;exact hp (List.mem_of_getElem? h3)
    exact r.mono G (by rw[hu];exact gr.oth a u hu na)
  .have q1':=q1;rw[List.getElem?_append_right (by lia)]at q1
   rw[List.getElem?_append_right (by rw[a09,<-hr.len];lia),a09,<-hr.len,List.getElem?_drop]at q2
   have ea:(κ++m)[κ.length+(j-U.length)]? = some a:=by rw[List.getElem?_append_right (by lia)];simpa using q1
   exact(hg.obj _ a o ea q2).any (cg o (List.mem_of_getElem? q2)) _
theorem aey{m:Bool}{F:SF}{vs:List V}{ds:List D}{Q:VK}(r:Reps K U H vs ds)(hr:HRep K U H h)(o:out K X0 (ql K) U H (gq m n F ds h) Q)(E:XK) :
  aan K n F vs H (λv H1=>∃L,ac8 H1 L/\∀H2,FrzOf L H1 H2->Q v H2) E:=by
 unfold gq at o
 split at o
 .rename_i hl;refine⟨by rw[r.len];exact hl,?_⟩
  unfold ao7 at o
  split at o
  .exact o.elim
  .rename_i os hos
   split at o
   .rename_i hc;obtain⟨nd,hd,hcl⟩:=hc;obtain⟨l0,g0⟩:=a1r hos;obtain⟨κ,e1⟩:=a8g U (is:=a1f ds) λi hi=>by
     obtain⟨j,hj⟩:=List.getElem?_of_mem hi;have hjl:j<os.length:=by rw[<-l0];exact(List.getElem?_eq_some_iff.mp hj).1
     obtain⟨x,h3,h4⟩:=g0 j _ (List.getElem?_eq_getElem hjl);rw[hj]at h3;cases h3
     rw[hr.len];exact(List.getElem?_eq_some_iff.mp h4).1
    obtain⟨l1,g1⟩:=a1r e1;have lk:κ.length=os.length:=by lia
    have R0:Reps K κ H vs (wz 0 ds):=by simpa using a3a (pre:=[]) r hd e1
    have H0:HRep K κ H os:=by
     refine⟨a8i hr.nd e1 nd,lk,λj a ob q1 q2=>?_⟩;obtain⟨i,h3,h4⟩:=g1 j a q1;obtain⟨i',h5,h6⟩:=g0 j ob q2;rw[h3]at h5;cases h5
     exact(hr.obj i a ob h4 h6).any (hcl ob (List.mem_of_getElem? q2)) _
    refine⟨κ,wz 0 ds,os,R0,H0,?_⟩
    cases hF:F (wz 0 ds) os with
    |no=>rw[hF]at o;cases m<;>exact o.elim
    |ex c hx=>rw[hF]at o;cases m<;>exact o.elim
    |ok d h1 =>
     rw[hF]at o
     intro U' H' v g rb hr1
     rw[<-lk]at o
     cases m with
     |false =>
      simp only[Bool.false_eq_true,if_false]at o
      cases hz:a9s κ.length (.ok d h1) with
      |ok d' g' =>
       rw[hz]at o;simp only at o;obtain⟨L,ab,k⟩:=aex g rb hr1 hz;refine⟨L,ab,λH2 f=>?_⟩;obtain⟨k1,k2,k3⟩:=k H2 f
       split at o
       .rename_i cg
        split at o
        .rename_i cd;have q:=aav (m:=[]) hr e1 nd (by simpa using k1) (by simpa using k3) cg (by simp)
         have lg:=k3.len;have dr:g'.drop κ.length=[]:=List.drop_eq_nil_of_le (by lia)
         rw[dr,List.append_nil,List.append_nil]at q;exact o U H2 v q.1 (k2.any cd _) q.2
        .exact o.elim
       .exact o.elim
      |ex c hx=>rw[hz]at o;exact o.elim
      |no=>rw[hz]at o;exact o.elim
     |true =>
      simp only[if_true]at o
      cases hz:aqm κ.length (.ok d h1) with
      |ok d' g' =>
       rw[hz]at o;simp only at o;obtain⟨b,hb,k1,k2,k3⟩:=aiv g rb hr1 hz;refine⟨[],λa ha=>(by simp at ha),λH2 f=>?_⟩
       have e2:H2=H':=by funext a;exact(f a).1 (by simp)
       subst e2
       split at o
       .rename_i cg;have q:=aav (m:=[b]) hr e1 nd k1 k3 cg (by simp)
        refine o (U++[b]) H2 v q.1 ?_ q.2;have hd':d'=.ref κ.length:=by
         unfold aqm at hz
         split at hz
         .rename_i i h2 hh
          injection hh with z1 z2
          split at hz
          .split at hz
           .injection hz with z3 z4;exact z3.symm
           .cases hz
          .cases hz
         .cases hz
        subst hd'
        cases k2 with
        |ref hk =>
         rw[List.getElem?_append_right (Nat.le_refl _)]at hk;simp at hk;subst hk;exact .ref (by rw[<-hr.len];simp)
       .exact o.elim
      |ex c hx=>rw[hz]at o;exact o.elim
      |no=>rw[hz]at o;exact o.elim
   .exact o.elim
 .exact o.elim
end
theorem aaw(m:Bool){X:Cx}(G:Dn X.prog X.w X.K X.mg X.base k x ps (aan X.K n F) f fd)(hr:Room k X.A)(hg:Gl X x)(ha:MA X X0 (e::es) ka)
  (hdb:(x == ("__debug__" : Str))=false:=by decide) (he:starEach (e::es) X.env=(false,eval e X.env)::starEach es X.env:=by rfl) (hpl:(backTo pos (starEach es X.env)).any (·.1)=false:=by rfl):ME X X0 (.Call (.Name x p) (e::es) [] pos) (sA (gq m n F) ka):=by
 refine PE.weak (aev (amm G.ok hr hg G.m G.kp G.b .nil as7 ha hdb he hpl)) ?_
 rintro Z H Q ⟨U,τ,h,S,Rh,o⟩
 refine⟨U,τ,h,S,Rh,bh o λds h1 U1 H1 vs g1 r1 hr1 o1=>?_⟩;rw[List.append_nil];exact aey r1 hr1 o1 _
theorem aez(m:Bool){X:Cx}(G:Dn X.prog X.w X.K X.mg X.base k x ps (aan X.K n F) f fd)(hr:Room k X.A)(hg:Gl X x)(hdb:(x == ("__debug__" : Str))=false:=by decide) :
  ME X X0 (.Call (.Name x p) [] [] pos) (sA (gq m n F) bj):=by
 refine PE.weak (aev (ahx G.ok hr hg G.m G.kp G.b .nil as7 hdb)) ?_
 rintro Z H Q ⟨U,τ,h,S,Rh,o⟩
 exact aey (vs:=[]) .nil Rh o E0
noncomputable def aiw:SS:=λ_ _=>.no
section
variable{X:Cx}{E:XD}
theorem auc:MSs X E st aiw:=λ_ _ _ _ _ _ ⟨_,_,_,_,_,o⟩=>o.elim
end
theorem aud(h:PS X st t):PS X st (λD Z H=>t {D with nx:=λZ' H1=>∃L,ac8 H1 L/\∀H2,FrzOf L H1 H2->D.nx Z' H2} Z H):=λaA s Z H D I q =>
 thn (h aA s Z H _ I q) λf s' k=>by
  cases f with
  |next =>
   obtain⟨Z',H1,I1,L,ab,k⟩:=k;obtain⟨H2,f,I2⟩:=Inv.frz I1 ab;exact⟨Z',H2,I2,k H2 f⟩
  |brk=>exact k
  |cont=>exact k
  |ret u=>exact k
theorem aax(q:a6v K E (iz i f) N Z H):lift K E (ql K) f Z H (λv H1=>N.nx (Z.set i (some v)) H1):=by
 obtain⟨U,τ,h,S,Rh,o⟩:=q;exact⟨U,τ,h,S,Rh,p6 o λd h1 U1 H1 v g1 r1 hr1 o1=>o1 U1 H1 _ (.refl _ _) ((S.mono g1).set r1 i) hr1⟩
theorem ao8(ht:a97 K n g t)(q:lift K E (ql K) (wj fi t fe ix) Z H Q):ae7 (lift K E (anf K) fi) (jq n ix) g (lift K E (ql K) fe) Z H Q:=by
 obtain⟨U,τ,h,Sr,Rh,o⟩:=q;refine⟨U,τ,h,Sr,Rh,bh o λit h1 U1 H1 J g1 r1 hr1 o1=>?_⟩
 by_cases hl:it.xs.length<=LINE
 .rw[if_pos hl]at o1;exact aam r1 ht (a1q (Sr.mono g1) ix) hr1 hl o1
 .rw[if_neg hl]at o1;exact o1.elim
theorem aay(ht:a97 K n g t)(q:lift K E (ql K) (zu fi t fc fe ix) Z H Q):a2w (lift K E (anf K) fi) (jq n ix) g (lift K E a96 fc) (lift K E (ql K) fe) Z H Q:=by
 obtain⟨U,τ,h,Sr,Rh,o⟩:=q;refine⟨U,τ,h,Sr,Rh,bh o λit h1 U1 H1 J g1 r1 hr1 o1=>?_⟩
 by_cases hl:it.xs.length<=LINE
 .rw[if_pos hl]at o1;exact a8e r1 ht (a1q (Sr.mono g1) ix) hr1 hl o1
 .rw[if_neg hl]at o1;exact o1.elim
section
variable{X:Cx}{E:XD}{aD tg aF cnd:Expr}{aB:Scope}{pos spos pos':Pos}{cl:List (Str×Addr)}{ts fr:List Str}{ix:List Nat}{fi:SI}{g:TG}{t:D->Option Sd}{fe:SE}{fc:ST}{i:Nat}{x:Str}
theorem af0(hN:X.N.Nodup)(hi':X.N[i]? = some x)(hx:Loc X.env.scope x)(hc:X.calm=true)(S:CSc X aB cl ts fr ix)(hi:MI X E tg aF fi)(hg:∀C fp s H,PG (cxC X (ts++fr) aB cl C fp s H) tg g)(ht:a97 X.K ts.length g t)(he:∀C fp s H,ME (cxC X (ts++fr) aB cl C fp s H) E aD fe)
  (hs:∀x,foldedSetIterable aF X.env x=pure x:=by intro _;rfl) (hsw:swapsWith (.ListComp aD [⟨tg,aF,[],0⟩] aB pos) (some (.Name x pos')) spos.line X.env=pure true:=by rfl) (hf:Hf X x:=by with_unfolding_all first|exact .inl rfl|exact .inr rfl|assumption) :
  MS X E (.Assign [.Name x pos'] (.ListComp aD [⟨tg,aF,[],0⟩] aB pos) spos) (iz i (wj fi t fe ix)) :=
 PS.weak (aia (te:=lift X.K E (ql X.K) fe) hN hi' hx hc S hi hg he hs hsw hf) λN Z H q=>ao8 ht (aax q)
theorem ao9(hN:X.N.Nodup)(hi':X.N[i]? = some x)(hx:Loc X.env.scope x)(hc:X.calm=true)(S:CSc X aB cl ts fr ix)(hi:MI X E tg aF fi)(hg:∀C fp s H,PG (cxC X (ts++fr) aB cl C fp s H) tg g)(ht:a97 X.K ts.length g t)(he:∀C fp s H,ME (cxC X (ts++fr) aB cl C fp s H) E aD fe)
  (hq:∀C fp s H,MT (cxC X (ts++fr) aB cl C fp s H) E cnd fc)
  (hs:∀x,foldedSetIterable aF X.env x=pure x:=by intro _;rfl) (hsw:swapsWith (.ListComp aD [⟨tg,aF,[cnd],0⟩] aB pos) (some (.Name x pos')) spos.line X.env=pure true:=by rfl) (hf:Hf X x:=by with_unfolding_all first|exact .inl rfl|exact .inr rfl|assumption) :
  MS X E (.Assign [.Name x pos'] (.ListComp aD [⟨tg,aF,[cnd],0⟩] aB pos) spos) (iz i (zu fi t fc fe ix)) :=
 PS.weak (a5x (te:=lift X.K E (ql X.K) fe) (tc:=lift X.K E a96 fc) hN hi' hx hc S hi hg he hq hs hsw hf) λN Z H q=>aay ht (aax q)
theorem aaz(hN:X.N.Nodup)(hi':X.N[i]? = some x)(hx:Loc X.env.scope x)(hc:X.calm=true)(S:CSc X aB cl ts fr ix)(hi:MI X E tg aF fi)(hg:∀C fp s H,PG (cxC X (ts++fr) aB cl C fp s H) tg g)(ht:a97 X.K ts.length g t)(he:∀C fp s H,ME (cxC X (ts++fr) aB cl C fp s H) E aD fe)
  (hq:∀C fp s H,MT (cxC X (ts++fr) aB cl C fp s H) E cnd fc)
  (hs:∀x,foldedSetIterable aF X.env x=pure x:=by intro _;rfl) (hsw:swapsWith (.ListComp aD [⟨tg,aF,[cnd],0⟩] aB pos) (some (.Name x pos')) spos.line X.env=pure true:=by rfl) (hf:Hf X x:=by with_unfolding_all first|exact .inl rfl|exact .inr rfl|assumption) :
  MS X E (.Assign [.Name x pos'] (.ListComp aD [⟨tg,aF,[cnd],0⟩] aB pos) spos) (iz i (sZ (zu fi t fc fe ix))) :=
 PS.weak (aud (a5x (te:=lift X.K E (ql X.K) fe) (tc:=lift X.K E a96 fc) hN hi' hx hc S hi hg he hq hs hsw hf)) λN Z H q=>aay ht (azj (aax q))
end
theorem aue(Fu:Fun K x qual st f fd)(S:FnScope N ps (gj st))
  (hb:∀(cdv:Value) (A:Around) (outer:List Env) (s:Shared) (H:Hp) (E:XK),Room k (A.deeper (PyProof.Rows.envOfC qual (gj st) s.heap.objs.size f cdv))->MSs (ahe CX0 P w K mg base N qual (gj st) f cdv A outer s H E).nox X0 (wg st) b) :
  FnOk P w K mg base CX0 (k+1) f fd ps (aan K ps.length (ou b N.length)):=atn Fu S hb λds h _ _ _=>Rf.same rfl
end MI
namespace MI
open L2 HT
theorem aca{s:Shared}(ht:PyProof.Rows.IsTup s.heap t aC)(hs:s.heap.IsSliceOf sl vl vu .none)(pl:IsPart vl lo)(pu:IsPart vu hi)
  (hw:HT.sIx aC.size 0 lo=0/\HT.sIx aC.size aC.size hi=aC.size) (h:Q (.ref t) s):wpAny (model prog w) A (getItem (.ref t) (.ref sl)) Q E s:=by
 obtain⟨os,f1,f2,f3⟩:=id hs;have ty:s.TypeIs (.ref sl) "slice":=⟨os,f1,f2⟩;have tt:s.TypeIs (.ref t) "tuple":=ht.typeIs;rw[getItem]
 try apply wpAny_holding
 first|(apply wpAny_bind;apply wpAny_pure)|skip
 apply wpAny_bind;apply wpAny_sequenceKey tt (by decide)
 apply wpAny_bind
 apply wpAny_callSpecial?_slot (name:=Str.ofString "__getitem__") tt PyProof.Rows.slot_tuple_getitem
 apply wpAny_call_entry PyProof.Rows.slot_tuple_getitem tt PyProof.Rows.entry_tuple_getitem _ (PyProof.Rows.args_tuple_getitem _ _)
 change wpAny (model prog w) A.in1 (Builtin.Tuple.tupleItemsOf (.ref t)>>=_) _ _ s
 apply wpAny_bind;apply PyProof.Rows.tupleItemsOf_ ht
 apply wpAny_bind;apply wpAny_typeOf ty
 rw[if_pos (by decide)]
 apply wpAny_bind;apply HT.a0t hs pl pu
 rw[hw.1,hw.2];dsimp only;rw[if_pos (by simp)]
 apply wpAny_bind
 rw[Builtin.Tuple.tupleIsExact]
 apply wpAny_bind;apply wpAny_typeOf tt
 apply wpAny_pure
 rw[if_pos (by decide)]
 apply wpAny_bind;apply wpAny_rule
 apply wpAny_pure
 exact⟨_,rfl,wpAny_pure h⟩
def azk(K:Fg):V->Option Int->Option Int->Hp->VK->Prop:=λx lo hi H Q=>∃a xs,x=.ref a/\SqT K H a xs/\whole xs.length lo hi/\Q (.ref a) H
theorem aix:SlR X (azk X.K):=by
 intro aA s Z H x v vl vu lo hi sl Q I rx hs pl pu h
 obtain⟨a,xs,rfl,hx,hw,q⟩:=h;cases rx
 obtain⟨its,r,ht,hz⟩:=I.tuple hx;have aH:its.toArray.size=xs.length:=by rw[List.size_toArray];exact r.length.symm
 exact⟨"tuple",_,PyProof.Rows.slot_tuple_getitem.lookup,ht.typeIs,aca ht hs pl pu (by rw[aH];exact hw) ⟨.ref a,H,I,rfl,q⟩⟩
noncomputable def ald(d:D)(lo hi:Option Int)(h:Hd):R D:=match d with
 |.tup xs=>if whole xs.length lo hi then .ok (.tup xs) h else .ok (.tup (a6q xs lo hi)) h
 |d=>gSl d lo hi h
noncomputable def ahk(f:SE)(l u:SO):SE:=λτ h=>(f τ h).bind λd h1=>(l τ h1).bind λlo h2=>(u τ h2).bind λhi h3=>ald d lo hi h3
theorem aoa(rx:Rep K U H x d)(hr:HRep K U H h)(o:out K E (ql K) U H (ald d lo hi h) Q):(axy x lo hi H Q\/axp K x lo hi H Q\/axr K x lo hi H Q)\/azk K x lo hi H Q:=by
 cases rx with
 |@tup p vs xs hp r =>
  by_cases hc:whole xs.length lo hi
  .simp only[ald,if_pos hc]at o;exact .inr ⟨p,vs,rfl,SqT.of hp,by rw[r.len];exact hc,ans o (.tup hp r) hr⟩
  .simp only[ald,if_neg hc]at o;exact .inl (.inr (.inl ⟨p,vs,rfl,SqT.of hp,by rw[r.len];exact hc,a2i (a2o r lo hi) hr o⟩))
 |non=>exact o.elim
 |bl _=>exact o.elim
 |int _=>exact o.elim
 |ty _=>exact o.elim
 |str z=>exact .inl (aas (.str z) hr o)
 |rol a b=>exact .inl (aas (.rol a b) hr o)
 |scr a b=>exact .inl (aas (.scr a b) hr o)
 |rod a b c=>exact o.elim
 |rdT a b c=>exact o.elim
 |exc a b c=>exact o.elim
 |ins _ _ _ _=>exact o.elim
 |ref a=>exact .inl (aas (.ref a) hr o)
theorem af1(he:ME X E e fa)(hl:MO X E lo l)(hu:MO X E hi u):ME X E (.Subscript e (.Slice lo hi none p2) pos) (ahk fa l u):=by
 refine PE.weak (ai0 ((asi.or (arx.or amu)).or aix) he hl hu) ?_
 rintro Z H Q ⟨U,τ,h,S,Rh,o⟩
 refine⟨U,τ,h,S,Rh,bh o λd h1 U1 H1 v g1 r1 hr1 o1=>?_⟩;refine⟨U1,τ,h1,S.mono g1,hr1,bh o1 λlo h2 U2 H2 lv g2 r2 hr2 o2=>?_⟩;refine⟨U2,τ,h2,(S.mono g1).mono g2,hr2,bh o2 λhi h3 U3 H3 hv g3 r3 hr3 o3=>?_⟩
 cases r2;cases r3
 exact aoa ((r1.mono g2).mono g3) hr3 o3
end MI
namespace L2
open PyProof.Rows
theorem aiy:aza X (awl X.K):=by
 intro aA s Z H o i ov iv Q I ro ri h
 obtain⟨p,xs,k,z,rfl,rfl,hq,he,q⟩:=h;cases ro
 obtain⟨t,rfl⟩:=ri;obtain⟨its,r,pl,hz⟩:=I.list hq;obtain⟨j,h1,h2,h3,h4,h5⟩:=a6i he;obtain⟨w,ew,rw'⟩:=r.get h2;have len:=r.length;have l63:=a1z;have done:EP X aA Z Q w s:=⟨z,H,I,rw',q⟩
 by_cases neg:k<0
 .have ej:(k+(its.toArray.size:Int)).toNat=j:=by
   rw[seqIndex_neg neg h4]at h1;rw[List.size_toArray,<-len];exact Option.some.inj h1
  exact wpAny_getItem_list_neg pl.isList neg (by rw[List.size_toArray];lia) (by lia) (by rw[ej];simpa using ew) done
 .have ej:k.toNat=j:=by
   rw[seqIndex_of (by lia) h5]at h1
   exact Option.some.inj h1
  exact wpAny_getItem_list pl.isList (by lia) (by lia) (by rw[ej];simpa using ew) done
end L2
namespace MI
open L2
noncomputable def aob(x y:D)(h:Hd):R D:=match x,y with
 |.ref p,.int i=>(match h[p]? with|some (.lst xs)=>(match atI xs i with|some d=>.ok d h|none=>.no)|_=>.no)
 |_,_=>.no
theorem aoc:a2g K aob (awl K):=by
 intro E U H h x y dx dy Q rx ry hr o
 cases rx with
 |@ref p i hp =>
  cases ry with
  |int k =>
   simp only[aob]at o
   split at o
   .rename_i xs hx;obtain⟨vs,h3,h4⟩:=hr.lst hp hx
    split at o
    .rename_i d he;obtain⟨v,h1,h2⟩:=aar h4 he;exact⟨p,vs,k,v,rfl,rfl,SqL.of h3,h1,ans o h2 hr⟩
    .exact o.elim
   .exact o.elim
  |_=>exact o.elim
 |_=>exact o.elim
noncomputable def a9t(g:D->D->Hd->R D)(fo fi fe:SE):SS:=λτ h=>(fo τ h).fl λo h1=>(fi τ h1).fl λi h2=>(aob o i h2).fl λx h3=>(fe τ h3).fl λy h4=>(g x y h4).fl λz h5=>match put o i z h5 with|some h6=>.nx τ h6|none=>.no
section
variable{X:Cx}{E:XD}{e o i:Expr}{fa fb fc:SE}{pos:Pos}
theorem aod(ho:ME X E o fa)(hi:ME X E i fb)(he:ME X E e fc)(hp:OpR X (inplaceOp op) r)(hs:a2g X.K gg r)
  (ha:∀ov iv new,augStore i ov iv new=(do holding [new,ov,iv] (setItem ov iv new);release [new,ov,iv] [];pure .next):=by intros;rfl):MS X E (.AugAssign (.Subscript o i tpos) op e pos) (a9t gg fa fb fc):=by
 refine PS.weak (amf ho hi aiy he hp set_list ha) ?_
 rintro N Z H ⟨U,τ,h,S,Rh,oo⟩
 refine⟨U,τ,h,S,Rh,p6 oo λd h1 U1 H1 v g1 r1 hr1 o1=>?_⟩;refine⟨U1,τ,h1,S.mono g1,hr1,p6 o1 λd2 h2 U2 H2 u g2 r2 hr2 o2=>?_⟩;refine aoc E U2 H2 h2 v u d d2 _ (r1.mono g2) r2 hr2 (p6 o2 λd3 h3 U3 H3 w g3 r3 hr3 o3=>?_);have S3:=((S.mono g1).mono g2).mono g3;refine⟨U3,τ,h3,S3,hr3,p6 o3 λd4 h4 U4 H4 y g4 r4 hr4 o4=>?_⟩;refine hs E U4 H4 h4 w y d3 d4 _ (r3.mono g4) r4 hr4 (p6 o4 λd5 h5 U5 H5 z g5 r5 hr5 o5=>?_)
 cases hq:put d d2 d5 h5 with
 |none=>rw[hq]at o5;exact o5.elim
 |some h6 =>
  rw[hq]at o5;exact aeh ((((r1.mono g2).mono g3).mono g4).mono g5) (((r2.mono g3).mono g4).mono g5) r5 hr5 hq λH' g6 hr6=>o5 U5 H' Z g6 (((S3.mono g4).mono g5).mono g6) hr6
end
end MI
namespace TPM
open PySem.W L2 HT MI
theorem acb(t b:Addr)(items2:Array Value)(n n2:Nat)(dd dd2:Option Addr)(sl sl2:Array (Option Value)) :
  Meets (Builtin.«tuple.__add__» ⟨[.ref t,.ref b],[]⟩) (λ_ R s=>s.heap.get? t=some {cls:=.type "tuple",dict:=dd,data:=.seq #[] n,slots:=sl}/\s.heap.get? b=some {cls:=.type "tuple",dict:=dd2,data:=.seq items2 n2,slots:=sl2}/\R (.ok (.ret (.ref b))) s):=by
 refine .of_wp λprog w A R s h=>?_;obtain⟨hp,g,d,tk,os⟩:=s;obtain⟨hl,hb,h⟩:=h
 wp_walk
 refine wpAny_of_eq sub_tuple_self ?_
 wp_walk
 exact⟨_,rfl,h⟩
noncomputable def auf(K:Fg):R2:=λx y H Q=>∃a b ys,x=.ref a/\y=.ref b/\SqT K H a []/\SqT K H b ys/\Q (.ref b) H
theorem aoe:OpR X (binaryOp .Add) (auf X.K):=by
 intro aA s Z H x y v u Q I rx ry h
 obtain⟨a,b,ys,rfl,rfl,ha,hb,q⟩:=h;cases rx
 cases ry
 obtain⟨its,r1,p1,_⟩:=I.tuple ha;obtain⟨its2,r2,p2,_⟩:=I.tuple hb;cases r1
 obtain⟨⟨cls,dd,data,sl⟩,ho,hc,n,hd⟩:=id p1;obtain⟨⟨cls2,dd2,data2,sl2⟩,ho2,hc2,n2,hd2⟩:=id p2;simp only at hc hd hc2 hd2;subst hc hd hc2 hd2;exact concat_meets ⟨_,ho,rfl⟩ ⟨_,ho2,rfl⟩ noFill_tuple_add seq_tuple_add F.slot_tuple_add F.entry_tuple_add (F.args_tuple_add_2 _ _) (acb a b its2.toArray n n2 dd dd2 sl sl2) ⟨ho,ho2,⟨.ref b,H,I,rfl,q⟩⟩
end TPM
namespace L2
open PyProof.Rows
section
variable{X:Cx}
theorem Inv.lstR(I:Inv X aA Z H s)(hH:Rd H l (.lst xs)):xs.length<=sizeLine/\∃(its:List Value) (n:Nat),Vals xs its/\xs.length=its.length/\s.heap.get? l=some {cls:=.type "list",data:=.seq its.toArray n}:=by
 obtain⟨z,its,n,r,e⟩:=hH.ok I.hok;exact⟨z,its,n,r,r.length,e⟩
noncomputable def auh:R2:=λx y H Q=>∃l b xs zs,x=.ref l/\y=.ref b/\Rd H l (.lst xs)/\Rd H b (.lst zs)/\xs.length+zs.length<=sizeLine/\∀p,H p=none->Q (.ref p) (upd H p (.lst (xs++zs)))
theorem aog:OpR X (binaryOp .Add) auh:=λaA s Z H x y v u Q I rx ry ⟨l,b,xs,zs,ex,ey,h1,h2,hz,q⟩=>by
 subst ex ey;cases rx
 cases ry
 obtain⟨_,as,_,va,la,ea⟩:=I.lstR h1;obtain⟨_,bs,_,vb,lb,eb⟩:=I.lstR h2;have app:as.toArray++bs.toArray=(as++bs).toArray:=by simp
 refine PySem.P.add_list ea eb ?_ (by simp;lia)
 rw[app];exact⟨.ref _,_,I.lnew (t':=s.toks) (va.append vb) (by simpa using hz),rfl,q _ I.fresh⟩
def aui:V->List V->Hp->VK->Prop:=λx vs H Q=>∃l b xs zs,x=.ref l/\vs=[.ref b]/\H l=some (.lst xs)/\Rd H b (.lst zs)/\xs.length+zs.length<=sizeLine/\Q .non (upd H l (.lst (xs++zs)))
theorem acd:MtM X "list.extend" aui:=λaA s Z H x vs v us Q I rx rv ⟨l,b,xs,zs,ex,ev,h1,h2,hz,q⟩=>by
 subst ex ev;cases rx
 obtain⟨u,rfl,ru⟩:=rv.one;cases ru
 obtain⟨_,as,n,va,la,ea⟩:=I.lstM h1;obtain⟨_,bs,m,vb,lb,eb⟩:=I.lstR h2;have few:as.toArray.size+bs.toArray.size<=sizeLine:=by simp;lia
 have long:¬ (!as.toArray.isEmpty && Builtin.List.listTooLong (as.toArray.size+bs.toArray.size))=true:=by rw[a6m few,Bool.and_false];exact Bool.false_ne_true
 exact call_meets F.slot_list_extend ⟨_,ea,rfl⟩ F.entry_list_extend (F.args_list_extend_2 _ _) (AutoSeq1.list_extend_list_list_0 l as.toArray n b bs.toArray m long (by simp;lia) (by lia))
  ⟨ea,eb,.non,_,I.lset (its':=as++bs) h1 ea (by simp) (va.append vb) (by simpa using hz),rfl,q⟩
noncomputable def auj:R2:=λx y H Q=>∃l k xs,x=.ref l/\y=.int k/\Rd H l (.lst xs) /\ -(2^63)<=k/\k<2^63/\xs.length*k.toNat<=sizeLine/\∀p,H p=none->Q (.ref p) (upd H p (.lst (List.replicate k.toNat xs).flatten))
theorem aoh(its:List Value)(k:Nat):List.foldl (λx1 x2=>x1++x2) #[] (List.replicate (if its.toArray.isEmpty=true then 0 else k) its.toArray)=(List.replicate k its).flatten.toArray:=by
 have g:∀m:Nat,List.foldl (λx1 x2=>x1++x2) #[] (List.replicate m its.toArray)=(List.replicate m its).flatten.toArray:=λm=>by simpa using foldl_rep its m []
 cases its with
 |nil=>simp
 |cons a r=>rw[if_neg (by simp),g]
theorem aoi:OpR X (binaryOp .Mult) auj:=λaA s Z H x y v u Q I rx ry ⟨l,k,xs,ex,ey,h1,k1,k2,hz,q⟩=>by
 subst ex ey;cases rx
 obtain⟨t,rfl⟩:=ry;obtain⟨_,as,n,va,la,ea⟩:=I.lstR h1;have few:as.toArray.size*k.toNat<=sizeLine:=by rw[List.size_toArray,<-la];exact hz
 have top:(sizeLine:Nat)<=(2^63-1) / 8:=by decide
 refine wpAny_binaryOp_repeat_ref (T := "list") (U := "int") (by decide) ⟨_,ea,rfl⟩ (λs'=>typeIs_int s' k t) noFill_list_mul F.fills_int_mul F.slot_int_rmul repeat_list F.slot_int_index.lookup
  (call_meets F.slot_int_rmul (typeIs_int s k t) F.entry_int_rmul (F.args_int_rmul_2 _ _) (int___rmul___int_list k t l as.toArray n)
   ⟨ea,rfl,⟨_,ea,rfl⟩,call_meets F.slot_list_mul ⟨_,ea,rfl⟩ F.entry_list_mul (F.args_list_mul_2 _ _)
    (AutoListH.list___mul___list_int_3 l as.toArray n k t (by rw[fitsIndex_both k1 k2];exact Bool.false_ne_true) (by lia) (by rw[a6m few];exact Bool.false_ne_true)) ⟨ea,?_⟩⟩)
 rw[aoh];exact⟨.ref _,_,I.lnew (t':=s.toks) (va.rep k.toNat) (by rw[len_rep,Nat.mul_comm];exact hz),rfl,q _ I.fresh⟩
end
end L2
namespace MI
open L2 TPM
noncomputable def a0a(d:D)(h:Hd):Option (List D):=match d with
 |.rol xs=>some xs
 |.ref i=>(match h[i]? with|some (.lst xs)=>some xs|_=>none)
 |_=>none
section
variable{K:Fg}{U:List Addr}{H:Hp}{h:Hd}
theorem a3q(r:Rep K U H x d)(hr:HRep K U H h)(e:a0a d h=some xs):∃a vs,x=.ref a/\Rd H a (.lst vs)/\Reps K U H vs xs:=by
 cases r with
 |@rol a vs ys hp rs=>cases e;exact⟨a,vs,rfl,.inr hp,rs⟩
 |@ref a i hp =>
  obtain⟨ob,e1,e2⟩:=hr.at hp;simp only[a0a,e1]at e
  cases ob with
  |lst ys=>cases e;obtain⟨vs,h3,h4⟩:=e2;exact⟨a,vs,rfl,.inl h3,h4⟩
  |_=>cases e
 |_=>cases e
noncomputable def j9:D->D->Hd->R D
 |.int i,.int j,h=>.ok (.int (i+j)) h
 |.str x,.str y,h=>if x.length+y.length<=LINE then .ok (.str (x++y)) h else .no
 |.tup [],.tup ys,h=>.ok (.tup ys) h
 |.tup (x::xs),.tup ys,h=>if (x::xs).length+ys.length<=LINE then .ok (.tup (x::xs++ys)) h else .no
 |x,y,h=>match a0a x h,a0a y h with
  |some xs,some ys=>if xs.length+ys.length<=LINE then .ok (.ref h.length) (h++[.lst (xs++ys)]) else .no
  |_,_=>.no
theorem af2(e1:a0a x h=some xs)(e2:a0a y h=some ys):j9 x y h=if xs.length+ys.length<=LINE then .ok (.ref h.length) (h++[.lst (xs++ys)]) else .no:=by
 cases x<;>first|(cases e1;done)|(cases y<;>first|(cases e2;done)|(simp only[j9,e1,e2]))
theorem aoj(x y:D)(h:Hd):(∃i j,x=.int i/\y=.int j)\/(∃i j,x=.str i/\y=.str j)\/(∃xs ys,x=.tup xs/\y=.tup ys)\/(∃xs ys,a0a x h=some xs/\a0a y h=some ys)\/j9 x y h=.no:=by
 cases e1:a0a x h with
 |some xs =>
  cases e2:a0a y h with
  |some ys=>exact .inr (.inr (.inr (.inl ⟨xs,ys,rfl,rfl⟩)))
  |none =>
   refine .inr (.inr (.inr (.inr ?_)))
   cases x<;>first|(cases e1;done)|(simp only[j9,e1,e2])
 |none =>
  cases x with
  |int i=>cases y<;>first|exact .inl ⟨_,_,rfl,rfl⟩|exact .inr (.inr (.inr (.inr rfl)))
  |str i=>cases y<;>first|exact .inr (.inl ⟨_,_,rfl,rfl⟩)|exact .inr (.inr (.inr (.inr rfl)))
  |tup i=>cases y<;>first|exact .inr (.inr (.inl ⟨_,_,rfl,rfl⟩))|(cases i<;>exact .inr (.inr (.inr (.inr rfl))))
  |_=>refine .inr (.inr (.inr (.inr ?_)));simp only[j9,e1]
theorem aiz:a2g K j9 (λx y H Q=>(rI0 (λi j=>.int (i+j)) x y H Q\/(∃i j,x=.str i/\y=.str j/\i.length+j.length<=sizeLine/\Q (.str (i++j)) H)\/arz K x y H Q\/auh x y H Q)\/auf K x y H Q):=by
 intro E U H h x y dx dy Q rx ry hr o
 rcases aoj dx dy h with⟨i,j,rfl,rfl⟩|⟨i,j,rfl,rfl⟩|⟨xs,ys,rfl,rfl⟩|⟨xs,ys,e1,e2⟩|e
 .cases rx;cases ry
  exact .inl (.inl ⟨i,j,rfl,rfl,ans o (.int _) hr⟩)
 .cases rx;cases ry
  simp only[j9]at o
  split at o
  .rename_i hc;exact .inl (.inr (.inl ⟨i,j,rfl,rfl,ll hc,ans o (.str _) hr⟩))
  .exact o.elim
 .cases rx with
  |@tup a vs _ ha r1 =>
  cases ry with
  |@tup b us _ hb r2 =>
  cases xs with
  |nil=>cases r1;exact .inr ⟨a,b,us,rfl,rfl,SqT.of ha,SqT.of hb,ans o (.tup hb r2) hr⟩
  |cons z xs =>
   simp only[j9]at o
   split at o
   .rename_i hc;refine .inl (.inr (.inr (.inl ⟨a,b,vs,us,rfl,rfl,SqT.of ha,SqT.of hb,λz=>(by subst z;cases r1),ll (by rw[r1.len,r2.len];exact hc),λz=>?_,λ_=>?_⟩)))
    .subst z;cases r2
     rw[List.append_nil]at o;exact ans o (.tup ha r1) hr
    .exact a2i (r1.app r2) hr o
   .exact o.elim
 .rw[af2 e1 e2]at o;obtain⟨a,vs,rfl,h1,h2⟩:=a3q rx hr e1;obtain⟨b,us,rfl,h3,h4⟩:=a3q ry hr e2
  split at o
  .rename_i hc;exact .inl (.inr (.inr (.inr ⟨a,b,vs,us,rfl,rfl,h1,h3,ll (by rw[h2.len,h4.len];exact hc),u9 (h2.app h4) hr o⟩)))
  .exact o.elim
 .rw[e]at o;exact o.elim
theorem aok(ha:ME X E a fa)(hb:ME X E b fb):ME X E (.BinOp a .Add b pos) (s2 j9 fa fb) :=
 ac3 (OpR.or (ark.or (abw.or (ams.or aog))) aoe) aiz ha hb
open Classical in
noncomputable def zp(x y:D)(h:Hd):R D:=match y with
 |.int k=>(match x with
  |.int i=>if CMul i k then .ok (.int (i*k)) h else .no
  |_=>match a0a x h with
   |some xs=>if (-(2^63)<=k/\k<2^63)/\xs.length*k.toNat<=LINE then .ok (.ref h.length) (h++[.lst (List.replicate k.toNat xs).flatten]) else .no
   |none=>.no)
 |_=>.no
theorem aj0:a2g K zp (λx y H Q=>rI CMul (λi j=>.int (i*j)) x y H Q\/auj x y H Q):=by
 intro E U H h x y dx dy Q rx ry hr o
 cases dy with
 |int k =>
  obtain rfl:=aen ry
  cases hx:a0a dx h with
  |some xs =>
   obtain⟨a,vs,rfl,h1,h2⟩:=a3q rx hr hx;have o':out K E (ql K) U H (if (-(2^63)<=k/\k<2^63)/\xs.length*k.toNat<=LINE then .ok (.ref h.length) (h++[.lst (List.replicate k.toNat xs).flatten]) else .no) Q:=by
    cases dx<;>first|(cases hx;done)|(simp only[zp,hx]at o;exact o)
   split at o'
   .rename_i hc;exact .inr ⟨a,k,vs,rfl,rfl,h1,hc.1.1,hc.1.2,ll (by rw[h2.len];exact hc.2),u9 (h2.flat _) hr o'⟩
   .exact o'.elim
  |none =>
   cases dx with
   |int i =>
    obtain rfl:=aen rx
    by_cases hc:CMul i k
    .simp only[zp,if_pos hc]at o;exact .inl ⟨i,k,rfl,rfl,hc,ans o (.int _) hr⟩
    .simp only[zp,if_neg hc]at o;exact o.elim
   |_=>simp only[zp,hx]at o;exact o.elim
 |_=>exact o.elim
theorem aol(ha:ME X E a fa)(hb:ME X E b fb):ME X E (.BinOp a .Mult b pos) (s2 zp fa fb):=ac3 (arn.or aoi) aj0 ha hb
noncomputable def af3:D->List D->Hd->R D
 |.ref i,[.tup ys],h=>(match h[i]? with|some (.lst xs)=>if xs.length+ys.length<=LINE then .ok .non (h.set i (.lst (xs++ys))) else .no|_=>.no)
 |.ref i,[y],h=>(match h[i]?,a0a y h with|some (.lst xs),some ys=>if xs.length+ys.length<=LINE then .ok .non (h.set i (.lst (xs++ys))) else .no|_,_=>.no)
 |_,_,_=>.no
theorem aj1:awq K af3 (λx vs H Q=>aui x vs H Q\/aaj K x vs H Q):=by
 intro E U H h x dx xs ds Q rx r hr o
 unfold af3 at o
 split at o
 .rename_i i ys
  cases rx with
  |@ref p _ hp =>
   cases r with
   |cons r1 rs =>
    cases rs
    cases r1 with
    |@tup b us zs hb rb =>
     split at o
     .rename_i xs hx;obtain⟨vs,h3,h4⟩:=hr.lst hp hx
      split at o
      .rename_i hc;exact .inr ⟨p,b,vs,us,rfl,rfl,h3,SqT.of hb,ll (by rw[h4.len,rb.len];exact hc),a6x (h4.app rb) hr hp .non o⟩
      .exact o.elim
     .exact o.elim
 .rename_i i y _
  cases rx with
  |@ref p _ hp =>
   cases r with
   |cons r1 rs =>
    cases rs
    split at o
    .rename_i xs ys hx hy;obtain⟨vs,h3,h4⟩:=hr.lst hp hx;obtain⟨b,us,rfl,h5,h6⟩:=a3q r1 hr hy
     split at o
     .rename_i hc;exact .inl ⟨p,b,vs,us,rfl,rfl,h3,h5,ll (by rw[h4.len,h6.len];exact hc),a6x (h4.app h6) hr hp .non o⟩
     .exact o.elim
    .exact o.elim
 .exact o.elim
end
end MI
namespace MI
open L2
noncomputable def ahl:D->Option Key
 |.int i=>some (.inl i)
 |.str x=>some (.inr x)
 |_=>none
noncomputable def aj2:D->Option (List Key)
 |.tup xs=>zm ahl xs
 |_=>none
noncomputable def a4m{κ:Type}[DecidableEq κ](kvs:List (κ×D))(k:κ):Option D:=(kvs.find? λkv=>decide (kv.1=k)).map (·.2)
noncomputable def putD{κ:Type}[DecidableEq κ](kvs:List (κ×D))(k:κ)(d:D):List (κ×D):=if (kvs.any λkv=>decide (kv.1=k))=true then kvs.map λkv=>if kv.1=k then (kv.1,d) else kv else kvs++[(k,d)]
section
variable{K:Fg}{U:List Addr}{H:Hp}{h:Hd}
theorem a73{v:V}{d:D}{k:Key}(r:Rep K U H v d)(e:ahl d=some k):v=kV k:=by
 cases r with
 |int i=>cases e;rfl
 |str x=>cases e;rfl
 |_=>cases e
theorem ab0:∀{vs:List V} {ds:List D} {ks:List Key},Reps K U H vs ds->zm ahl ds=some ks->vs=ks.map kV
 |_,_,_,.nil,e=>by cases e;rfl
 |_,d::ds,_,.cons r rs,e=>by
  unfold zm at e
  split at e
  .rename_i y ys h1 h2;cases e
   rw[a73 r h1,ab0 rs h2];rfl
  .cases e
theorem af4{v:V}{d:D}{ks:List Key}(r:Rep K U H v d)(e:aj2 d=some ks):∃b,v=.ref b/\H b=some (.tup (ks.map kV)):=by
 cases r with
 |@tup a vs xs hp rs=>exact⟨a,rfl,by rw[<-ab0 rs e];exact hp⟩
 |_=>cases e
theorem a74{κ:Type}[DecidableEq κ](k:κ):∀{us:List (κ×V)} {kvs:List (κ×D)},KRep K U H us kvs->match a4m kvs k with|some d=>∃v,a82 us k=some v/\Rep K U H v d|none=>a82 us k=none
 |[],[],_=>rfl
 |[],_::_,r=>by have:=congrArg List.length r.1;simp at this
 |_::_,[],r=>by have:=congrArg List.length r.1;simp at this
 |(a,v)::us,(b,d)::kvs,r=>by
  obtain⟨e,rs⟩:=r;simp only[List.map_cons,List.cons.injEq]at e;obtain⟨e1,e2⟩:=e;subst e1
  cases rs with
  |cons r1 rs =>
   by_cases hk:a=k
   .simp only[a4m,a82,List.find?_cons,hk,decide_true,Option.map_some];exact⟨v,rfl,r1⟩
   .have ih:=a74 k (us:=us) (kvs:=kvs) ⟨e2,rs⟩;simp only[a4m,a82,List.find?_cons,hk,decide_false]at ih ⊢;exact ih
theorem a75{κ:Type}[DecidableEq κ]{us:List (κ×V)}{kvs:List (κ×D)}(k:κ){v:V}{d:D}(r:KRep K U H us kvs)(rv:Rep K U H v d):KRep K U H (putK us k v) (putD kvs k d):=by
 have anyEq:∀{us:List (κ×V)} {kvs:List (κ×D)},us.map (·.1)=kvs.map (·.1)->(us.any λkv=>decide (kv.1=k))=(kvs.any λkv=>decide (kv.1=k)):=λ{us kvs} e=>by
  have h1:(us.any λkv=>decide (kv.1=k))=(us.map (·.1)).any λa=>decide (a=k):=by rw[List.any_map];rfl
  have h2:(kvs.any λkv=>decide (kv.1=k))=(kvs.map (·.1)).any λa=>decide (a=k):=by rw[List.any_map];rfl
  rw[h1,h2,e]
 have rmap:∀{us:List (κ×V)} {kvs:List (κ×D)},KRep K U H us kvs->KRep K U H (us.map λkv=>if kv.1=k then (kv.1,v) else kv) (kvs.map λkv=>if kv.1=k then (kv.1,d) else kv):=λ{us}=>by
  induction us with
  |nil=>intro kvs r;cases kvs with
   |nil=>exact⟨rfl,.nil⟩
   |cons _ _=>have:=congrArg List.length r.1;simp at this
  |cons a us ih=>intro kvs r;cases kvs with
   |nil=>have:=congrArg List.length r.1;simp at this
   |cons b kvs =>
    obtain⟨e,rs⟩:=r;simp only[List.map_cons,List.cons.injEq]at e;obtain⟨e1,e2⟩:=e
    cases rs with
    |cons r1 rs =>
     obtain⟨i1,i2⟩:=ih ⟨e2,rs⟩;obtain⟨a1,a2⟩:=a;obtain⟨b1,b2⟩:=b;simp only at e1;subst e1
     by_cases hk:a1=k
     .simp only[List.map_cons,hk,if_true];exact⟨by simp only[List.map_cons,i1],.cons rv i2⟩
     .simp only[List.map_cons,hk,if_false];exact⟨by simp only[List.map_cons,i1],.cons r1 i2⟩
 have ae:=anyEq r.1;unfold putK putD;rw[ae]
 split
 .exact rmap r
 .exact⟨by simp[r.1],by simpa using r.2.snoc rv⟩
noncomputable def aj3(x y:D)(h:Hd):Option (Option D):=match x with
 |.ref i=>(match h[i]? with
  |some (.dK kvs)=>(ahl y).map λk=>a4m kvs k
  |some (.dT kvs)=>(aj2 y).map λk=>a4m kvs k
  |_=>none)
 |.rod ks xs=>(ahl y).map λk=>a4m (ks.zip xs) k
 |.rdT ks xs=>(aj2 y).map λk=>a4m (ks.zip xs) k
 |_=>none
def ay7(K:Fg)(U:List Addr)(H:Hp)(a:Addr)(y:V):Option D->Prop
 |some d=>∃v,ad4 H a y (some v)/\Rep K U H v d
 |none=>ad4 H a y none
theorem af5{κ:Type}{us:List (κ×V)}{ks:List κ}{xs:List D}(e:us.map (·.1)=ks)(r:Reps K U H (us.map (·.2)) xs):KRep K U H us (ks.zip xs):=a3p e r
theorem a76(rx:Rep K U H x dx)(ry:Rep K U H y dy)(hr:HRep K U H h)(e:aj3 dx dy h=some r):∃a,x=.ref a/\ay7 K U H a y r:=by
 have goK:∀{a:Addr} {us:List (Key×V)} {kvs:List (Key×D)},Rd H a (.dK us)->KRep K U H us kvs->(ahl dy).map (λk=>a4m kvs k)=some r->ay7 K U H a y r:=λ{a us kvs} rd kr e=>by
  simp only[Option.map_eq_some_iff]at e;obtain⟨k,ek,rfl⟩:=e;have ey:=a73 ry ek;have q:=a74 k kr
  cases hv:a4m kvs k with
  |none=>rw[hv]at q;exact .inl ⟨us,k,rd,ey,q.symm⟩
  |some d=>rw[hv]at q;obtain⟨v,q1,q2⟩:=q;exact⟨v,.inl ⟨us,k,rd,ey,q1.symm⟩,q2⟩
 have goT:∀{a:Addr} {us:List (List Key×V)} {kvs:List (List Key×D)},Rd H a (.dT us)->KRep K U H us kvs->(aj2 dy).map (λk=>a4m kvs k)=some r->ay7 K U H a y r:=λ{a us kvs} rd kr e=>by
  simp only[Option.map_eq_some_iff]at e;obtain⟨k,ek,rfl⟩:=e;obtain⟨b,ey,eb⟩:=af4 ry ek;have q:=a74 k kr
  cases hv:a4m kvs k with
  |none=>rw[hv]at q;exact .inr ⟨us,k,b,rd,ey,eb,q.symm⟩
  |some d=>rw[hv]at q;obtain⟨v,q1,q2⟩:=q;exact⟨v,.inr ⟨us,k,b,rd,ey,eb,q1.symm⟩,q2⟩
 cases rx with
 |@ref a i ha =>
  obtain⟨ob,e1,e2⟩:=hr.at ha;simp only[aj3,e1]at e
  cases ob with
  |lst _=>cases e
  |dK kvs=>obtain⟨us,h3,h4⟩:=e2;exact⟨a,rfl,goK (.inl h3) h4 e⟩
  |dT kvs=>obtain⟨us,h3,h4⟩:=e2;exact⟨a,rfl,goT (.inl h3) h4 e⟩
  |ins _ _=>cases e
 |@rod a o us ks xs hp ek rs=>exact⟨a,rfl,goK (.inr ⟨o,hp⟩) (af5 ek rs) e⟩
 |@rdT a o us ks xs hp ek rs=>exact⟨a,rfl,goT (.inr ⟨o,hp⟩) (af5 ek rs) e⟩
 |_=>cases e
noncomputable def a0y(x y:D)(h:Hd):R D:=match aj3 x y h with
 |some (some d)=>.ok d h
 |_=>.no
noncomputable def a3r(neg:Bool)(y x:D)(h:Hd):R D:=match aj3 x y h with
 |some r=>.ok (.bl (if neg then !r.isSome else r.isSome)) h
 |none=>.no
noncomputable def azl:R2:=λy x H Q=>∃a o,x=.ref a/\ad4 H a y o/\Q (.bl o.isSome) H
noncomputable def af6:R2:=λy x H Q=>∃a o,x=.ref a/\ad4 H a y o/\Q (.bl (!o.isSome)) H
theorem u1{A:Around}(hu:A.units+64<cLine):A.units+1<cLine:=by lia
theorem auk{X:Cx}(hu:X.A.units+64<cLine):OpR X (compareOp .In) azl:=λaA s Z H y x v u Q I ry rx ⟨a,o,ex,g,q⟩=>by
 subst ex;obtain rfl:u=Value.ref a:=rx;exact b0h (u1 hu) I g ry λs3 I3=>⟨.bl o.isSome,H,I3,rfl,q⟩
theorem af7{X:Cx}(hu:X.A.units+64<cLine):OpR X (compareOp .NotIn) af6:=λaA s Z H y x v u Q I ry rx ⟨a,o,ex,g,q⟩=>by
 subst ex;obtain rfl:u=Value.ref a:=rx;exact amx (u1 hu) I g ry λs3 I3=>⟨.bl (!o.isSome),H,I3,rfl,q⟩
theorem aom:a2g K (a3r false) azl:=by
 intro E U H h y x dy dx Q ry rx hr o
 unfold a3r at o
 split at o
 .rename_i r e;obtain⟨a,rfl,q⟩:=a76 rx ry hr e
  cases r with
  |none=>exact⟨a,none,rfl,q,ans o (.bl _) hr⟩
  |some d=>obtain⟨v,q,_⟩:=q;exact⟨a,some v,rfl,q,ans o (.bl _) hr⟩
 .exact o.elim
theorem ace:a2g K (a3r true) af6:=by
 intro E U H h y x dy dx Q ry rx hr o
 unfold a3r at o
 split at o
 .rename_i r e;obtain⟨a,rfl,q⟩:=a76 rx ry hr e
  cases r with
  |none=>exact⟨a,none,rfl,q,ans o (.bl _) hr⟩
  |some d=>obtain⟨v,q,_⟩:=q;exact⟨a,some v,rfl,q,ans o (.bl _) hr⟩
 .exact o.elim
variable{X:Cx}{E:XD}{a b e o i:Expr}{fa fb fc:SE}{pos:Pos}
theorem aon(hu:X.A.units+64<cLine)(ha:ME X E a fa)(hb:ME X E b fb)(hs:axu b):ME X E (.Subscript a b pos) (s2 a0y fa fb):=by
 refine PE.weak (amz (u1 hu) ha hb hs) ?_
 rintro Z H Q ⟨U,τ,h,S,Rh,o⟩
 refine⟨U,τ,h,S,Rh,bh o λd h1 U1 H1 v g1 r1 hr1 o1=>?_⟩;refine⟨U1,τ,h1,S.mono g1,hr1,bh o1 λd2 h2 U2 H2 u g2 r2 hr2 o2=>?_⟩;unfold a0y at o2
 split at o2
 .rename_i dd e;obtain⟨p,rfl,w,q1,q2⟩:=a76 (r1.mono g2) r2 hr2 e;exact⟨p,w,rfl,q1,ans o2 q2 hr2⟩
 .exact o2.elim
noncomputable def af8(o k v:D)(h:Hd):Option Hd:=match o with
 |.ref i=>(match h[i]? with
  |some (.dK kvs)=>(match ahl k with|some kk=>if kvs.length<LINE then some (h.set i (.dK (putD kvs kk v))) else none|none=>none)
  |some (.dT kvs)=>(match aj2 k with|some kk=>if kvs.length<LINE then some (h.set i (.dT (putD kvs kk v))) else none|none=>none)
  |_=>none)
 |_=>none
noncomputable def a3l(fe fo fi:SE):SS:=λτ h=>(fe τ h).fl λv h1=>(fo τ h1).fl λo h2=>(fi τ h2).fl λk h3=>match af8 o k v h3 with|some h4=>.nx τ h4|none=>.no
theorem KRep.mono{κ:Type}{U':List Addr}{H':Hp}{us:List (κ×V)}{kvs:List (κ×D)}(g:Gr U H U' H')(r:KRep K U H us kvs):KRep K U' H' us kvs:=⟨r.1,r.2.mono g⟩
theorem ab1{h':Hd}{o k v:V}{od kd vd:D}{Q:Hp->Prop}(r1:Rep K U H o od)(r2:Rep K U H k kd)(r3:Rep K U H v vd)(hr:HRep K U H h)(e:af8 od kd vd h=some h')(q:∀H',Gr U H U H'->HRep K U H' h'->Q H') :
  ∃a H4,o=.ref a/\aqj H a k v H4/\Q H4:=by
 cases r1 with
 |@ref a i ha =>
  obtain⟨ob,h1,h2⟩:=hr.at ha;simp only[af8,h1]at e
  cases ob with
  |lst _=>cases e
  |dK kvs =>
   obtain⟨us,h3,h4⟩:=h2
   cases hk:ahl kd with
   |none=>simp only[hk]at e;cases e
   |some kk =>
    simp only[hk]at e
    split at e
    .rename_i hl;cases e
     have lu:us.length=kvs.length:=by simpa using congrArg List.length h4.1
     exact⟨a,_,rfl,.inl ⟨us,kk,h3,a73 r2 hk,by rw[aib,lu];exact hl,rfl⟩,q _ (a0u hr ha _) (hr.put ha ⟨_,gh,(a75 kk h4 r3).mono (a0u hr ha _)⟩)⟩
    .cases e
  |dT kvs =>
   obtain⟨us,h3,h4⟩:=h2
   cases hk:aj2 kd with
   |none=>simp only[hk]at e;cases e
   |some kk =>
    simp only[hk]at e
    split at e
    .rename_i hl;cases e
     have lu:us.length=kvs.length:=by simpa using congrArg List.length h4.1
     obtain⟨b,eb,tb⟩:=af4 r2 hk;exact⟨a,_,rfl,.inr ⟨us,kk,b,h3,eb,tb,by rw[aib,lu];exact hl,rfl⟩,q _ (a0u hr ha _) (hr.put ha ⟨_,gh,(a75 kk h4 r3).mono (a0u hr ha _)⟩)⟩
    .cases e
  |ins _ _=>cases e
 |_=>cases e
theorem aoo(hu:X.A.units+64<cLine)(he:ME X E e fa)(ho:ME X E o fb)(hi:ME X E i fc)(hs:swapsWith e (some (.Subscript o i pos')) pos.line X.env=pure false:=by rfl):MS X E (.Assign [.Subscript o i pos'] e pos) (a3l fa fb fc):=by
 refine PS.weak (an0 (u1 hu) ho hi he hs) ?_
 rintro N Z H ⟨U,τ,h,S,Rh,oo⟩
 refine⟨U,τ,h,S,Rh,p6 oo λd h1 U1 H1 v g1 r1 hr1 o1=>?_⟩;refine⟨U1,τ,h1,S.mono g1,hr1,p6 o1 λd2 h2 U2 H2 u g2 r2 hr2 o2=>?_⟩;refine⟨U2,τ,h2,(S.mono g1).mono g2,hr2,p6 o2 λd3 h3 U3 H3 w g3 r3 hr3 o3=>?_⟩
 cases hp:af8 d2 d3 d h3 with
 |none=>rw[hp]at o3;exact o3.elim
 |some h4 =>
  rw[hp]at o3;exact ab1 (r2.mono g3) r3 ((r1.mono g2).mono g3) hr3 hp λH' g4 hr4=>o3 U3 H' Z g4 ((((S.mono g1).mono g2).mono g3).mono g4) hr4
noncomputable def gD1(x y:D)(h:Hd):R D:=match ahl x with
 |some k=>.ok (.ref h.length) (h++[.dK [(k,y)]])
 |none=>.no
theorem af9{p:Addr}{o:HO}{ob:O}(hr:HRep K U H h)(pn:p∉U)(gw:Gw U H (U++[p]) (upd H p o))(q:ORep K (U++[p]) (upd H p o) p ob):HRep K (U++[p]) (upd H p o) (h++[ob]):=by
 refine⟨List.nodup_append.mpr ⟨hr.nd,by simp,λa ha b hb z=>pn (by rw[List.mem_singleton.mp hb]at z;rw[<-z];exact ha)⟩,by simp[hr.len],λj a o' q1 q2=>?_⟩
 by_cases hj:j<U.length
 .rw[List.getElem?_append_left hj]at q1;rw[List.getElem?_append_left (by rw[<-hr.len];exact hj)]at q2
  exact(hr.obj j a o' q1 q2).monoW gw (di λz=>pn (by rw[<-z];exact List.mem_of_getElem? q1))
 .have hj2:j<(U++[p]).length:=(List.getElem?_eq_some_iff.mp q1).1;have:j=U.length:=by simp at hj2;lia
  subst this;rw[List.getElem?_append_right (Nat.le_refl _)]at q1;rw[hr.len,List.getElem?_append_right (Nat.le_refl _)]at q2;simp at q1 q2;subst q1 q2;exact q
theorem ay8(ha:ME X E a fa)(hb:ME X E b fb):ME X E (.Dict [some a] [b] pos) (s2 gD1 fa fb):=by
 refine PE.weak (an2 (ai6 ha hb an1) rfl rfl (by simp) (by simp)) ?_
 rintro Z H Q ⟨U,τ,h,S,Rh,o⟩ p hp
 have pn:p∉U:=Rh.notin hp;have g0:Gr U H U (upd H p (.dK [])):=ur hp _;unfold s2 at o;refine⟨U,τ,h,S.mono g0,Rh.aside hp _,?_⟩
 cases hfa:fa τ h with
 |no=>rw[hfa]at o;exact o.elim
 |ex c hx=>rw[hfa]at o;exact qj (Rp:=ql X.K) (r:=.ex c hx) (Q:=Q) o g0
 |ok d h1 =>
  rw[hfa]at o
  intro U1 H1 v g1 r1 hr1
  refine⟨U1,τ,h1,(S.mono g0).mono g1,hr1,?_⟩;simp only[R.bind]at o
  cases hfb:fb τ h1 with
  |no=>rw[hfb]at o;exact o.elim
  |ex c hx=>rw[hfb]at o;exact qj (Rp:=ql X.K) (r:=.ex c hx) (Q:=Q) o (g0.trans g1)
  |ok d2 h2 =>
   rw[hfb]at o
   intro U2 H2 u g2 r2 hr2
   have g12:=g1.trans g2;have e2:H2 p=some (.dK []):=g12.oth p _ gh pn;simp only[gD1]at o
   cases hk:ahl d with
   |none=>rw[hk]at o;exact o.elim
   |some k =>
    rw[hk]at o;refine⟨e2,[(k,u)],?_,by simp,?_⟩
    .rw[a73 (r1.mono g2) hk];rfl
    .obtain⟨m,em,hm⟩:=g12.pre;have nm:∀c∈m,c≠p/\H c=none:=λc hc=>by
      have q:=hm c hc
      by_cases z:c=p
      .subst z;rw[gh]at q;cases q
      .rw[di z]at q;exact⟨z,q⟩
     have pn2:p∉U2:=λz=>by
      rw[em]at z
      rcases List.mem_append.mp z with z|z
      .exact pn z
      .exact(nm p z).1 rfl
     have ne:∀{c u'},H c=some u'->c≠p:=λe=>dq e hp;have up:∀{c u'},H c=some u'->(upd H p (.dK [])) c=some u':=λe=>by rw[di (ne e)];exact e
     have gw:Gw U2 H2 (U2++[p]) (upd H2 p (.dK [(k,u)])):=⟨⟨[p],rfl⟩,λc vs e=>by rw[di (λz=>by subst z;rw[e2]at e;cases e)];exact e,λc o u' e=>by rw[di (λz=>by subst z;rw[e2]at e;cases e)];exact e⟩
     have G:Gr U H (U2++[p]) (upd H2 p (.dK [(k,u)])):=by
      refine⟨⟨m++[p],by rw[em];simp,λc hc=>?_⟩,λc vs e=>?_,λc o u' e=>?_,λc u' e hn=>?_,λc u' e=>?_⟩
      .rcases List.mem_append.mp hc with hc|hc
       .exact(nm c hc).2
       .rw[List.mem_singleton.mp hc];exact hp
      .rw[di (ne e)];exact g12.tup _ _ (up e)
      .rw[di (ne e)];exact g12.frz _ _ _ (up e)
      .rw[di (ne e)];exact g12.oth _ _ (up e) hn
      .obtain⟨w,q⟩:=g12.kp _ _ (up e);exact⟨w,by rw[di (ne e)];exact q⟩
     refine o (U2++[p]) _ (.ref p) G (.ref (by rw[List.getElem?_append_right (by rw[hr2.len];exact Nat.le_refl _),hr2.len];simp)) (af9 hr2 pn2 gw ⟨_,gh,rfl,.cons (r2.monoW gw) .nil⟩)
end
end MI
namespace ZP
open PySem.Builtin PySem.Builtin.SmallTypes L2
noncomputable def a3i(it:Addr):Obj:={cls:=.type "enumerate",data:=.fields #[.none,.bool false,.ref it,rawInt 0,.none,.none]}
theorem afa(t:Tok)(k:Srk)(us:List Value):Meets (Builtin.«enumerate.__new__» ⟨[.type "enumerate",val t k],[]⟩)
  (λ_ R s=>cont s.heap k us/\R (.ok (.ret (.ref (s.heap.objs.size+1)))) {s with heap:=(s.heap.push (iob t k)).push (a3i s.heap.objs.size)}) :=
 .of_wp λprog w A R s h=>by
  obtain⟨hp,g,d,tk,os⟩:=s;obtain⟨c,h⟩:=h;have sub:=sub_enumerate;have c':cont (Shared.heap ⟨hp,g,d,tk,os⟩) k us:=c;have fin:R (.ok (.ret (.ref (hp.push (iob t k)).objs.size))) {heap:=(hp.push (iob t k)).push (a3i hp.objs.size),gens:=g,drawn:=d,toks:=tk,os:=os}:=by simpa[Heap.size_push] using h
  wp_walk
  refine wpAny_stack_any λst=>wpAny_pure ?_
  split
  .rename_i cl _ _ _ _ _
   cases (cl == Value.type "enumerate")
   .wp_walk using zx (t:=t) c'
    exact⟨_,rfl,fin⟩
   .wp_walk using zx (t:=t) c'
    exact⟨_,rfl,fin⟩
  .wp_walk using zx (t:=t) c'
   exact⟨_,rfl,fin⟩
noncomputable def ItE(k:Srk):It where
 go:=λi H=>∃xs x,its H k=some xs/\xs[i]? = some x
 yld:=λi H v H'=>∃xs x p,its H k=some xs/\xs[i]? = some x/\H p=none/\v=.ref p/\H'=upd H p (.tup [.int i,x])
 stop:=λi H=>∃xs,its H k=some xs/\i=xs.length
def tnE(e it:Addr)(t:Tok)(k:Srk)(i:Nat)(h:Heap):Prop:=(∃old,IsEnum h e it i old)/\own it t k i h
theorem afb(ne:e≠it):Turn P w K (.Tuple elts x1 pos) (ItE k) [e,it] e (tnE e it t k) where
 mem:=by simp
 obj:=λi h st b hb=>by
  obtain⟨⟨old,h1⟩,h4⟩:=st;simp only[List.mem_cons,List.not_mem_nil,or_false]at hb
  rcases hb with rfl|rfl
  .exact⟨_,h1,λv z=>(by cases z)⟩
  .exact wu h4
 keep:=λi h h' st kk=>by
  obtain⟨⟨old,h1⟩,h4⟩:=st;exact⟨⟨old,kk e (by simp) _ h1⟩,qm h4 λob q=>kk it (by simp) ob q⟩
 item:=by
  intro X hP hw hK hc i aA s Z H E I hf st hg
  subst hP hw hK;obtain⟨xs,x,e1,g1⟩:=hg;obtain⟨⟨old,h1⟩,h4⟩:=st;have n:∀c∈[e,it],H c=none:=λc hc=>(hf c hc).1;obtain⟨cs,P1,S1,D1,a1,b1,c1,d1⟩:=wy I (t:=t) e1 (n it (by simp))
  have hd:=I.ok.hd hc;have ef:e∉it::cs:=by
   intro z
   rcases List.mem_cons.mp z with z|z
   .exact ne z
   .exact c1 e z (n e (by simp))
  refine wpAny_pyNext_enum_itemD (D1 X.A.in1 hd) h1 (a1 i h4) (List.getElem?_eq_some_iff.mp g1).1 ne ef λu h' tk pu eo s1' pr sz kp=>?_;obtain⟨x',q1,r1⟩:=d1 i u pu;rw[g1]at q1;cases q1
  refine⟨_,rfl,wpAny_letOwnedTupleGo_enum eo λh2' z2' sb=>?_⟩;have hp:H s.heap.objs.size=none:=I.hok.fresh (Nat.le_refl _);have lt:∀c∈[e,it],c<s.heap.objs.size:=λc hc=>by
   simp only[List.mem_cons,List.not_mem_nil,or_false]at hc
   rcases hc with rfl|rfl
   .exact Heap.lt_size h1
   .obtain⟨_,q,_⟩:=wu h4;exact Heap.lt_size q
  have nT:∀c∈[e,it],c≠s.heap.objs.size:=λc hc=>Nat.ne_of_lt (lt c hc);have all:∀c o,c∉[e,it]->s.heap.get? c=some o->h2'.get? c=some o:=λc o nc q=>by
   simp only[List.mem_cons,List.not_mem_nil,or_false,not_or]at nc;exact(sb.2 c nc.1).trans (kp c o nc.1 nc.2 q)
  have I0:Inv X aA Z (upd H s.heap.objs.size (.tup [.int i,x])) {s with heap:=s.heap.push {cls:=.type "tuple",data:=.seq #[.int i tk,u]} } :=
   I.laid (t':=s.toks) (o:=.tup [.int i,x]) (λb o q=>Heap.get?_push_of_some _ q) (Nat.le_refl _) ⟨by show 2<=sizeLine;decide,[.int i tk,u],.cons ⟨tk,rfl⟩ (.cons r1 .nil),⟨_,Heap.get?_push_size _ rfl,rfl,_,rfl⟩⟩
  have I1:Inv X aA Z (upd H s.heap.objs.size (.tup [.int i,x])) {s with heap:=h2',toks:=tk+1}:=by
   refine a2z (s:={s with heap:=s.heap.push {cls:=.type "tuple",data:=.seq #[.int i tk,u]} }) (ch:=[e,it]) I0 (λb hb=>?_) λc o nc q=>?_
   .obtain⟨f0,f1⟩:=hf b hb;exact⟨by rw[di (nT b hb)];exact f0,f1⟩
   .rcases Heap.get?_push_cases q with⟨rfl,rfl⟩|q
    .exact(sb.2 _ (nT e (by simp)).symm).trans pr
    .exact all c o nc q
  refine⟨.ref s.heap.objs.size,_,I1,rfl,⟨xs,x,_,e1,g1,hp,rfl,rfl⟩,⟨⟨u,by simpa using z2'⟩,qm (b1 _ _ s1') λob q=>(sb.2 _ ne.symm).trans q⟩,λb hb=>?_⟩
  rw[di (nT b hb)];exact n b hb
 done:=by
  intro X hP hw hK hc i aA s Z H E I hf st hg
  subst hP hw hK;obtain⟨xs,e1,rfl⟩:=hg;obtain⟨⟨old,h1⟩,h4⟩:=st;have n:∀c∈[e,it],H c=none:=λc hc=>(hf c hc).1;obtain⟨cs,P1,S1,D1,a1,b1,c1,d1⟩:=wy I (t:=t) e1 (n it (by simp))
  have hd:=I.ok.hd hc;refine wpAny_pyNext_enum_endD (D1 X.A.in1 hd) h1 (a1 _ h4) λh' ex=>⟨rfl,a2z (t':=s.toks) I hf λc o nc q=>?_⟩;simp only[List.mem_cons,List.not_mem_nil,or_false,not_or]at nc;exact ex c o nc.2 q
 self:=λ_ _ _ _ _ st h=>by
  obtain⟨⟨old,h1⟩,_⟩:=st;exact wpAny_pyIter_enum h1 h
section
variable{X:Cx}{elts:List Expr}{x1:Nat}{tpos:Pos}
noncomputable def ay9(ta:TA):TI:=λZ H R=>ta Z H λvs H1=>∃k xs,vs=[Srk.v k]/\its H1 k=some xs/\R (ItE k) H1
theorem aop(hg:Gl X "enumerate")(hm:X.mg "enumerate" = none)(ha:PA X [e1] ta)
  (h1:starEach [e1] X.env=[(false,eval e1 X.env)]:=by rfl):PI X (.Tuple elts x1 tpos) (.Call (.Name "enumerate" p) [e1] [] pos) (ay9 ta):=by
 intro aA s Z H R I h
 refine wpAny_Call_Name_kw (a1y I hg hm PyProof.Rows.boot_enumerate ?_ (by decide) (by decide))
 refine PyProof.Rows.callWith_type1 (thn (ha pos aA s Z H _ I h) λus s1 ⟨vs,H1,I1,r1,q1⟩=>?_) (by rw[h1];rfl) (by rfl)
 obtain⟨k,xs,rfl,e1,q⟩:=q1;obtain⟨v1,rfl,rv1⟩:=vals1 r1;obtain⟨t,rfl⟩:=a65 rv1;obtain⟨us1,c1,_⟩:=a1e I1 e1;refine callType_new F.called_enumerate (by decide) (F.typeCall_enumerate_1 _) (F.newCall_enumerate_1 _) (λobj=>F.args_object_init_2 obj _) F.entry_enumerate_new (afa t k us1) ⟨c1,?_⟩
 have at0:((s1.heap.push (iob t k)).push (a3i s1.heap.objs.size)).get? s1.heap.objs.size=some (iob t k):=Heap.get?_push_of_some _ (Heap.get?_push_size _ (by cases k<;>rfl))
 have at1:IsEnum ((s1.heap.push (iob t k)).push (a3i s1.heap.objs.size)) (s1.heap.objs.size+1) s1.heap.objs.size 0 .none:=by
  have:=Heap.get?_push_size (o:=a3i s1.heap.objs.size) (s1.heap.push (iob t k)) rfl
  rw[Heap.size_push]at this;exact this
 have keepA:∀b o,s1.heap.get? b=some o->((s1.heap.push (iob t k)).push (a3i s1.heap.objs.size)).get? b=some o:=λb o q=>Heap.get?_push_of_some _ (Heap.get?_push_of_some _ q);have I2:Inv X aA Z H1 {s1 with heap:=(s1.heap.push (iob t k)).push (a3i s1.heap.objs.size)}:=I1.kept (t':=s1.toks) keepA
 refine⟨⟨_,at1,rfl⟩,?_⟩;refine wpAny_pyIter_enum (s:={s1 with heap:=(s1.heap.push (iob t k)).push (a3i s1.heap.objs.size)}) at1 ?_
 refine⟨s1.heap.objs.size+1,[s1.heap.objs.size+1,s1.heap.objs.size],tnE _ _ t k,ItE k,H1,rfl,I2,afb (by intro z;have z:(_:Nat)=_:=z;lia),⟨⟨.none,at1⟩,aql at0⟩,λb hb=>?_,q⟩
 have:s1.heap.objs.size<=b:=by
  simp only[List.mem_cons,List.not_mem_nil,or_false]at hb
  rcases hb with rfl|rfl
  .exact Nat.le_succ _
  .exact Nat.le_refl _
 exact I1.fpOk this (I1.hok.fresh this)
end
end ZP
namespace MI
open L2 ZP
noncomputable def a9u(x:D)(h:Hd):R Itm:=match srcOf x h with
 |some (xs,c)=>.ok ⟨((List.range xs.length).zip xs).map λp=>.tup [.int (p.1:Nat),p.2],c⟩ h
 |none=>.no
noncomputable def a3m(f:SE):SI:=λτ h=>(f τ h).bind a9u
theorem aoq(hg:Gl X "enumerate")(hm:X.mg "enumerate" = none)(ha:ME X E e1 f)
  (h1:starEach [e1] X.env=[(false,eval e1 X.env)]:=by rfl):MI X E (.Tuple elts x1 tpos) (.Call (.Name "enumerate" p) [e1] [] pos) (a3m f):=by
 rintro aA s Z H Rr I ⟨U,τ,h,S,Rh,o⟩
 refine aop hg hm (a1b ha a7q (by rw[h1];rfl)) h1 aA s Z H Rr I ?_
 refine⟨U,τ,h,S,Rh,bh o λd h1 U1 H1 v g1 r1 hr1 o1=>?_⟩;unfold a9u at o1
 split at o1
 .rename_i xs c q1;obtain⟨k,rfl,kc,kf⟩:=a66 r1 hr1 q1;obtain⟨vs,w1,w2⟩:=kf U1 H1 h1 (.refl _ _) hr1 kc;refine⟨k,vs,rfl,w1,o1 U1 H1 _ (.refl _ _) ?_ hr1⟩
  intro U3 H3 h3 g3 hr3 c3
  obtain⟨us,a1,a2⟩:=kf U3 H3 h3 g3 hr3 c3;refine⟨λi d ed=>?_,us,a1,?_⟩
  .simp only[List.getElem?_map,Option.map_eq_some_iff]at ed;obtain⟨⟨j,y⟩,ez,rfl⟩:=ed;obtain⟨ex,ey⟩:=List.getElem?_zip_eq_some.mp ez;have hj:j=i:=by
    obtain⟨_,q⟩:=List.getElem?_eq_some_iff.mp ex;simpa using q.symm
   subst hj;obtain⟨v2,b3,b4⟩:=a2.get ey;refine⟨⟨us,v2,a1,b3⟩,λx H' yl=>?_⟩;obtain⟨xs',x',p,c1,c3,c5,rfl,rfl⟩:=yl;rw[a1]at c1;cases c1
   rw[b3]at c3;cases c3
   exact⟨ur c5 _,.tup gh (.cons (.int _) (.cons (b4.mono (ur c5 _)) .nil)),hr3.aside c5 _⟩
  .rw[List.length_map,List.length_zip,List.length_range,a2.len];lia
 .exact o1.elim
end MI
namespace L2
open PyProof.Rows
section
variable{X:Cx}
noncomputable def aor(lo:Int)(n:Nat):List V:=(List.range n).map λi=>V.int (lo+(i:Nat))
theorem aj4{lo:Int}{n:Nat}{acc:Array Value}(h:ItemsOf (λi v=>∃t,v=.int (lo+i*1) t) acc n):Vals (aor lo n) acc.toList:=by
 obtain⟨hs,ha⟩:=h;have key:∀(k:Nat) (us:List Value) (a:Int),us.length=k->(∀(j:Nat) (v:Value),us[j]? = some v->∃t,v=.int (a+(j:Nat)) t)->Vals ((List.range k).map λi=>V.int (a+(i:Nat))) us:=by
  intro k
  induction k with
  |zero=>intro us a hl _;cases us with|nil=>exact .nil|cons _ _=>simp at hl
  |succ k ih =>
   intro us a hl hp
   cases us with
   |nil=>simp at hl
   |cons u us =>
    rw[List.range_succ_eq_map,List.map_cons,List.map_map];refine .cons ?_ ?_
    .obtain⟨t,e⟩:=hp 0 u rfl;exact⟨t,e⟩
    .have:=ih us (a+1) (by simpa using hl) λj v e=>by
      obtain⟨t,q⟩:=hp (j+1) v (by simpa using e)
      exact⟨t,by rw[q];congr 1;push_cast;lia⟩
     have fe:((λi:Nat=>V.int (a+(i:Nat))) ∘ Nat.succ)=λi:Nat=>V.int (a+1+(i:Nat)):=by funext i;simp;lia
     rw[fe];exact this
 refine key n _ lo (by simp[hs]) λj v e=>?_
 obtain⟨t,q⟩:=ha j v (by simpa using e)
 exact⟨t,by rw[q,Int.mul_one]⟩
def Bd(lo hi:Int):Prop := -(2^62)<=lo/\lo<2^62 /\ -(2^62)<=hi/\hi<2^62
theorem a77(hc:X.calm=true):CallR X (.type "list") (λxs H Q=>∃p lo hi,xs=[.ref p]/\H p=some (.rng lo hi)/\Bd lo hi/\(hi-lo).toNat<=sizeLine/\∀l,H l=none->Q (.ref l) (upd H l (.lst (aor lo (hi-lo).toNat)))):=by
 intro aA s Z H xs us Q I r ⟨p,lo,hi,e,hp,⟨b1,b2,b3,b4⟩,hl,q⟩
 subst e;obtain⟨u,rfl,ru⟩:=vals1 r;cases ru
 obtain⟨t,u,v,ho⟩:=I.hok p _ hp;refine call_list_range (n:=(hi-lo).toNat) (I.ok.hd hc) ho (small_one b1 b2 b3 b4) (by rw[rangeSize_one];split<;>lia) (by have:=sizeLine_eq;lia) λh' tk acc c kp e hi'=>?_
 exact⟨.ref s.heap.objs.size,_,I.laid (t':=tk) kp (Nat.le_refl _) (show ObjOk X.prog X.w _ h' _ (.lst (aor lo (hi-lo).toNat)) from ⟨by simpa[aor] using hl,acc.toList,c,aj4 hi',by simpa using e⟩),rfl,q _ (I.hok.fresh (Nat.le_refl _))⟩
noncomputable def aya(ta:TA):TE:=λZ H Q=>ta Z H λvs H1=>∃i j,vs=[.int i,.int j]/\∀p,H1 p=none->Q (.ref p) (upd H1 p (.rng i j))
theorem aj5{s:Shared}{lo hi:Int}{tk:Nat}(I:Inv X aA Z H s)(q:∀p,H p=none->Q (.ref p) (upd H p (.rng lo hi))) :
  EP X aA Z Q (.ref s.heap.objs.size) {s with heap:=s.heap.push {cls:=.type "range",data:=.fields #[.int lo t,.int hi u,.int 1 v]},toks:=tk} :=
 ⟨.ref _,_,I.laid (t':=tk) (o:=.rng lo hi) (λb o e=>Heap.get?_push_of_some _ e) (Nat.le_refl _) ⟨t,u,v,Heap.get?_push_size _ rfl⟩,rfl,q _ (I.hok.fresh (Nat.le_refl _))⟩
theorem afc(hg:Gl X "range")(hm:X.mg "range" = none)(ha:PA X [a,b] ta)(hs:starEach [a,b] X.env=[(false,eval a X.env),(false,eval b X.env)]:=by rfl)(hs2:starEach [b] X.env=[(false,eval b X.env)]:=by rfl) :
  PE X (.Call (.Name "range" p) [a,b] [] pos) (aya ta):=by
 intro aA s Z H Q I h
 refine Call_ (a1y I hg hm boot_range (PyProof.Rows.callWith_type1 (thn (ha pos aA s Z H _ I h) λus s1 ⟨vs,H1,I1,r1,i,j,ev,q⟩=>?_) (by rw[hs,hs2]) (by rw[hs2];rfl)))
 subst ev;obtain⟨u1,u2,rfl,⟨t,rfl⟩,⟨t',rfl⟩⟩:=vals2 r1;exact call_range_2 (aj5 I1 q)
end
end L2
namespace MI
open L2
noncomputable def a8j:List D->Hd->R D
 |[.int i,.int j],h=>if (B62 i/\B62 j)/\(j-i).toNat<=LINE then .ok (.ref h.length) (h++[.lst (rng i (j-i).toNat)]) else .no
 |_,_=>.no
theorem aj6(lo:Int)(n:Nat):Reps K U H (aor lo n) (rng lo n):=by
 unfold aor rng
 generalize List.range n=l
 induction l with
 |nil=>exact .nil
 |cons i l ih=>exact .cons (.int _) ih
section
variable{X:Cx}{E:XD}{a b:Expr}{ka:SA}{p p2 pos pos2:Pos}
theorem aos(hr:HRep K U H h)(hq:H q=none)(c:(hi-lo).toNat<=LINE)(b:Bd lo hi)(o:out K E (ql K) U H (.ok (.ref h.length) (h++[.lst (rng lo (hi-lo).toNat)])) Q) :
  ∃p lo' hi',[V.ref q]=[V.ref p]/\(upd H q (.rng lo hi)) p=some (.rng lo' hi')/\Bd lo' hi'/\(hi'-lo').toNat<=sizeLine/\∀l,(upd H q (.rng lo hi)) l=none->Q (.ref l) (upd (upd H q (.rng lo hi)) l (.lst (aor lo' (hi'-lo').toNat))) :=
 ⟨q,lo,hi,rfl,gh,b,ll c,u9 (E:=E) (aj6 lo _) (hr.aside hq _) (qj o (ur hq _))⟩
theorem aj7(hc:X.calm=true)(hg:Gl X "list")(hm:X.mg "list" = none)(hg2:Gl X "range")(hm2:X.mg "range" = none)(ha:MA X E [a,b] ka)(hs:starEach [a,b] X.env=[(false,eval a X.env),(false,eval b X.env)]:=by rfl)(hs2:starEach [b] X.env=[(false,eval b X.env)]:=by rfl)
  (he:starEach [.Call (.Name "range" p2) [a,b] [] pos2] X.env=(false,eval (.Call (.Name "range" p2) [a,b] [] pos2) X.env)::starEach [] X.env:=by rfl) (hpl:(backTo pos (starEach [] X.env)).any (·.1)=false:=by rfl) :
  ME X E (.Call (.Name "list" p) [.Call (.Name "range" p2) [a,b] [] pos2] [] pos) (sA a8j ka):=by
 refine PE.weak (a7v (a77 hc) hg hm aeb (a1b (afc hg2 hm2 ha hs hs2) a7q he) (by decide) (by decide) he hpl) ?_
 rintro Z H Q ⟨U,τ,h,S,Rh,o⟩
 refine⟨U,τ,h,S,Rh,bh o λds h1 U1 H1 vs g1 r1 hr1 o1=>?_⟩;unfold a8j at o1
 split at o1
 .split at o1
  .rename_i i j hb
   cases r1 with
   |cons r rs =>
    cases r
    cases rs with
    |cons r rs =>
     cases r;cases rs
     exact⟨i,j,rfl,λq hq=>aos hr1 hq hb.2 ⟨hb.1.1.1,hb.1.1.2,hb.1.2.1,hb.1.2.2⟩ o1⟩
  .exact o1.elim
 .exact o1.elim
end
end MI
namespace L2
open PyProof.Rows
noncomputable def Itd(lo:Int)(n:Nat):It:=⟨λi _=>i<n,λi H x H'=>H'=H/\x=.int (lo-i),λi _=>n<=i⟩
theorem afd{P:Program}{w:World}{K:Fg}{tg:Expr}(it:Addr)(lo:Int)(n:Nat):Turn P w K tg (Itd lo n) [it] it (λi h=>IsRangeIter h it (lo-(i:Nat)) ((n:Int)-(i:Nat)) (-1)) where
 mem:=by simp
 obj:=λi h st b hb=>by
  cases List.mem_singleton.mp hb
  exact⟨_,st,λv z=>nomatch (show Data.fields _=Data.cell v from z)⟩
 keep:=λi h h' st k=>k it (by simp) _ st
 item:=by
  intro X hP hw hK hc i aA s Z H E I hf st hg
  subst hP hw hK;obtain⟨f0,f1,f2,f3,f4,f5⟩:=hf it (by simp)
  have hg:i<n:=hg;refine wpAny_pyNext_range_item st (by lia) λh' st' sb=>?_
  have I1:Inv X aA Z H {s with heap:=h',toks:=s.toks+1}:=I.turned (λb o hb e=>sb.extBut b o hb e) f0 f1 f3 f4 f5
  have e1:lo-(i:Nat) + -1=lo-((i+1:Nat):Int):=by lia
  have e2:(n:Int)-(i:Nat)-1=(n:Int)-((i+1:Nat):Int):=by lia
  have st2:IsRangeIter h' it (lo-((i+1:Nat):Int)) ((n:Int)-((i+1:Nat):Int)) (-1):=by rw[<-e1,<-e2];exact st'
  exact⟨_,rfl,adf (s:={s with heap:=h',toks:=s.toks+1}) (n := "range_iterator") st' rfl rfl (by decide) ⟨.int (lo-i),H,I1,⟨_,rfl⟩,⟨rfl,rfl⟩,st2,λb hb=>(hf b hb).1⟩⟩
 done:=by
  intro X hP hw hK hc i aA s Z H E I hf st hg
  subst hP hw hK;obtain⟨f0,f1,f2,f3,f4,f5⟩:=hf it (by simp)
  exact wpAny_pyNext_range_end (I.ok.hd hc) st (by have:n<=i:=hg;lia) λh' eb=>⟨rfl,I.turned (t':=s.toks) (λb o hb e=>eb b o hb e) f0 f1 f3 f4 f5⟩
 self:=λ_ _ _ _ _ st h=>wpAny_pyIter_rangeiter st h
theorem afe(a b:Int):Builtin.Range.rangeSize a b (-1)=((a-b).toNat:Int):=by
 unfold Builtin.Range.rangeSize;rw[if_neg (by decide)]
 split
 .rw[show(-(-1:Int))=1 by decide,Int.ediv_one];lia
 .lia
section
variable{X:Cx}{tg:Expr}
noncomputable def ayb(ta:TA):TI:=λZ H R=>ta Z H λvs H1=>∃i j:Int,vs=[.int i,.int j,.int (-1)]/\Bd i j/\R (Itd i (i-j).toNat) H1
theorem afg(hg:Gl X "range")(hm:X.mg "range" = none)(ha:PA X [a,b,c] ta)(hs:starEach [a,b,c] X.env=[(false,eval a X.env),(false,eval b X.env),(false,eval c X.env)]:=by rfl)(hs2:starEach [b,c] X.env=[(false,eval b X.env),(false,eval c X.env)]:=by rfl) :
  PI X tg (.Call (.Name "range" p) [a,b,c] [] pos) (ayb ta):=by
 intro aA s Z H R I h
 refine Call_ (a1y I hg hm boot_range (PyProof.Rows.callWith_type1 (thn (ha pos aA s Z H _ I h) λus s1 ⟨vs,H1,I1,r1,i,j,ev,⟨b1,b2,b3,b4⟩,q⟩=>?_) (by rw[hs,hs2]) (by rw[hs2];rfl)))
 subst ev
 cases r1 with
 |cons r rr =>
  obtain⟨u1,u2,e,⟨t1,rfl⟩,⟨t2,rfl⟩⟩:=vals2 rr;subst e;obtain⟨t0,rfl⟩:=r;refine call_range_3 (by decide) ?_ (.inl (PyProof.noPylong_small (by lia)))
  have I2:Inv X aA Z H1 {s1 with heap:=s1.heap.push {cls:=.type "range",data:=.fields #[.int i t0,.int j t1,.int (-1) t2]},toks:=s1.toks}:=I1.kept λb o e=>Heap.get?_push_of_some _ e
  refine wpAny_pyIter_range (IsRange.new ..) (PySem.W.small_down b1 b2 b3 b4) ?_;refine⟨_,[_],_,_,H1,rfl,I2.kept (t':=s1.toks) λb o e=>Heap.get?_push_of_some _ e,afd _ i (i-j).toNat,?_,λb hb=>?_,q⟩
  .show IsRangeIter _ _ (i-((0:Nat):Int)) (((i-j).toNat:Int)-((0:Nat):Int)) (-1);rw[show i-((0:Nat):Int)=i by lia,show((i-j).toNat:Int)-((0:Nat):Int)=Builtin.Range.rangeSize i j (-1) by rw[afe];lia]
   exact Heap.get?_push_size _ rfl
  .cases List.mem_singleton.mp hb
   exact I2.fpOk (Nat.le_refl _) (I2.hok.fresh (Nat.le_refl _))
end
end L2
namespace MI
open L2
noncomputable def aqn(lo:Int)(n:Nat):List D:=(List.range n).map λi=>D.int (lo-(i:Nat))
noncomputable def a9v(ds:List D)(h:Hd):R Itm:=match ds with
 |[.int i,.int j,.int k]=>if k = -1/\B62 i/\B62 j then .ok ⟨aqn i (i-j).toNat,λ_=>True⟩ h else .no
 |_=>.no
theorem aul(lo:Int)(n:Nat):ahg K U0 H0 (Itd lo n) ⟨aqn lo n,λ_=>True⟩:=by
 intro U H h g hr _
 refine⟨λi d ed=>?_,by show n<=(aqn lo n).length;simp[aqn]⟩
 simp only[aqn,List.getElem?_map,Option.map_eq_some_iff]at ed;obtain⟨j,ej,rfl⟩:=ed;obtain⟨hj,e⟩:=List.getElem?_eq_some_iff.mp ej;simp at e hj;subst e;refine⟨hj,λy H' q=>?_⟩;obtain⟨rfl,rfl⟩:=q;exact⟨.refl _ _,.int _,hr⟩
theorem aot(hg:Gl X "range")(hm:X.mg "range" = none)(ha:MA X E [a,b,c] k)(hs:starEach [a,b,c] X.env=[(false,eval a X.env),(false,eval b X.env),(false,eval c X.env)]:=by rfl)(hs2:starEach [b,c] X.env=[(false,eval b X.env),(false,eval c X.env)]:=by rfl):MI X E tg (.Call (.Name "range" p) [a,b,c] [] pos) (sRg a9v k):=by
 rintro aA s Z H Rr I ⟨U,τ,h,S,Rh,o⟩
 refine afg hg hm ha hs hs2 aA s Z H Rr I ⟨U,τ,h,S,Rh,bh o λds h1 U1 H1 vs g1 r1 hr1 o1=>?_⟩;unfold a9v at o1
 split at o1
 .rename_i i j k
  cases r1 with
  |cons r rs =>
   cases r
   cases rs with
   |cons r rs =>
   cases r
   cases rs with
   |cons r rs =>
   cases r;cases rs
   split at o1
   .rename_i hb;obtain⟨rfl,hb⟩:=hb;exact⟨i,j,rfl,⟨hb.1.1,hb.1.2,hb.2.1,hb.2.2⟩,o1 U1 H1 _ (.refl _ _) (aul i _) hr1⟩
   .exact o1.elim
 .exact o1.elim
theorem az{α β:Type}(a:α)(h:Hd)(k:α->Hd->R β):(R.ok a h).bind k=k a h:=rfl
theorem ye{α:Type}(a:α)(h:Hd)(k:α->Hd->Fl):(R.ok a h).fl k=k a h:=rfl
noncomputable def thn(r:Fl)(g:SS):Fl:=match r with|.nx τ h=>g τ h|r=>r
theorem kh(f g:SS)(τ:Sd)(h:Hd):dw f g τ h=thn (f τ h) g:=by unfold dw thn;cases f τ h<;>rfl
theorem ut(τ:Sd)(h:Hd)(g:SS):thn (.nx τ h) g=g τ h:=rfl
theorem ab2(d:D)(h:Hd)(g:SS):thn (.rt d h) g=.rt d h:=rfl
noncomputable def toR(r:Fl):R D:=match r with|.rt d h1=>.ok d h1|.nx _ h1=>.ok .non h1|.ex c h1=>.ex c h1|_=>.no
theorem fu(b:SS)(n:Nat)(ds:List D)(h:Hd):ou b n ds h=toR (b (a2c n ds) h):=by unfold ou toR;cases b (a2c n ds) h<;>rfl
theorem a8k(d:D)(h:Hd):toR (.rt d h)=.ok d h:=rfl
theorem ab3(τ:Sd)(h:Hd):toR (.nx τ h)=.ok .non h:=rfl
theorem uc:∀{xs:List D},clos n xs↔∀x∈xs,clo n x
 |[]=>by simp[clos]
 |x::xs=>by simp[clos,uc (xs:=xs)]
theorem bw(i:Int):clo n (.int i):=by simp[clo]
theorem ud(i:Str):clo n (.str i):=by simp[clo]
theorem xu(i:Bool):clo n (.bl i):=by simp[clo]
theorem a9w:clo n .non:=by simp[clo]
theorem m9:clos n []:=by simp[clos]
theorem dm(a:clo n x)(b:clos n xs):clos n (x::xs):=by simp only[clos];exact⟨a,b⟩
theorem j7(h:clos n xs):clo n (.tup xs):=by simpa[clo] using h
theorem mj(h:clos n xs):clo n (.rol xs):=by simpa[clo] using h
theorem bz{α:Type}{n:Nat}{f:α->D}{l:List α}(h:∀a∈l,clo n (f a)):clos n (l.map f):=by
 rw[uc]
 intro x hx
 obtain⟨a,ha,rfl⟩:=List.mem_map.mp hx;exact h a ha
mutual
theorem a4n(hm:n<=m):∀{d:D},clo n d->clo m d
 |.non,_=>by simp[clo]
 |.bl _,_=>by simp[clo]
 |.int _,_=>by simp[clo]
 |.str _,_=>by simp[clo]
 |.ty _,_=>by simp[clo]
 |.tup xs,h=>by simp only[clo]at h ⊢;exact yt hm h
 |.rol xs,h=>by simp only[clo]at h ⊢;exact yt hm h
 |.scr xs,h=>by simp only[clo]at h ⊢;exact yt hm h
 |.rod _ xs,h=>by simp only[clo]at h ⊢;exact yt hm h
 |.rdT _ xs,h=>by simp only[clo]at h ⊢;exact yt hm h
 |.exc _,_=>by simp[clo]
 |.ins _ _ xs,h=>by simp only[clo]at h ⊢;exact yt hm h
 |.ref i,h=>by simp only[clo]at h ⊢;lia
theorem yt(hm:n<=m):∀{xs:List D},clos n xs->clos m xs
 |[],_=>by simp[clos]
 |x::xs,h=>by simp only[clos]at h ⊢;exact⟨a4n hm h.1,yt hm h.2⟩
end
theorem qu(hm:n<=m)(h:a00 n o):a00 m o:=by
 cases o with
 |lst xs=>exact yt hm h
 |dK kvs=>exact yt hm h
 |dT kvs=>exact yt hm h
 |ins _ _=>exact yt hm h
theorem a4o{α:Type}{f:α->Option α}:∀{xs:List α},(∀x∈xs,f x=some x)->zm f xs=some xs
 |[],_=>rfl
 |x::xs,h=>by
  unfold zm;rw[h x List.mem_cons_self,a4o λy hy=>h y (List.mem_cons_of_mem _ hy)]
theorem a2r(c:clo n d):a0j n h (k+1) d=some d:=by unfold a0j;rw[if_pos c]
theorem aj8(c:a00 n o):aua n h k o=some o:=by unfold aua;rw[if_pos c]
theorem a78{n k i:Nat}{h:Hd}{xs:List D}(hi:n<=i)(e:h[i]? = some (.lst xs))(c:clos n xs):a0j n h (k+2) (.ref i)=some (.rol xs):=by
 unfold a0j;rw[if_neg (by simp only[clo];lia)]
 simp only[e];rw[a4o λx hx=>a2r (uc.mp c x hx)];rfl
theorem aj9(e:zm (a0j n h k) xs=some ys)(nc:¬ clos n xs):a0j n h (k+1) (.tup xs)=some (.tup ys):=by
 unfold a0j;rw[if_neg (by simpa only[clo] using nc)]
 simp only[e,Option.map_some]
theorem a1g{α β:Type}{f:α->Option β}{x:α}{y:β}{xs:List α}{ys:List β}(h:f x=some y)(t:zm f xs=some ys):zm f (x::xs)=some (y::ys):=by unfold zm;rw[h,t]
theorem a2l{n:Nat}{d d':D}{h1:Hd}(e:a0j n h1 FU d=some d')(c:∀o∈h1.take n,a00 n o):a9s n (.ok d h1)=.ok d' (h1.take n):=by
 unfold a9s;simp only[e];rw[a4o λo ho=>aj8 (c o ho)]
theorem jb{h1:Hd}(e:clo n d)(c:∀o∈h1.take n,a00 n o):a9s n (.ok d h1)=.ok d (h1.take n):=a2l (a2r e) c
theorem a3s(hi:n<=i)(e:h1[i]? = some (.lst xs))(cx:clos n xs)(c:∀o∈h1.take n,a00 n o):a9s n (.ok (.ref i) h1)=.ok (.rol xs) (h1.take n):=a2l (a78 hi e cx) c
theorem a0z(e:f τ h=.ok (.ref h.length) (h++[.lst xs]))(cx:clos h.length xs)(c:∀o∈h,a00 h.length o):sZ f τ h=.ok (.rol xs) h:=by
 unfold sZ;rw[e,a3s (Nat.le_refl _) (by simp) cx (by simpa using c)]
 simp
def Pu(F:SF)(n:Nat)(ds:List D)(d:D):Prop:=∀h,gq false n F ds h=.ok d h
def Dr(F:SF)(n:Nat)(ds:List D)(o:O)(d:D)(o':O):Prop:=∀p h,h[p]? = some o->gq false n F (.ref p::ds) h=.ok d (h.set p o')
theorem a3t:∀{ds:List D},(∀d∈ds,clo 0 d)->a1f ds=[]/\wz 0 ds=ds/\∀k,wz k ds=ds
 |[],_=>⟨rfl,rfl,λ_=>rfl⟩
 |d::ds,h=>by
  obtain⟨a,b,c⟩:=a3t (ds:=ds) λx hx=>h x (List.mem_cons_of_mem _ hx);have hd:=h d List.mem_cons_self;have nr:refOf d=none:=by cases d<;>first|rfl|(simp only[clo]at hd;lia)
  refine⟨?_,?_,λk=>?_⟩
  .simpa[a1f,nr] using a
  .cases d<;>first|(simp only[clo]at hd;lia)|(simp only[wz,b])
  .cases d<;>first|(simp only[clo]at hd;lia)|(simp only[wz,c])
theorem Pu.of{ds:List D}(hn:ds.length=n)(cd:∀x∈ds,clo 0 x)(e:F ds []=r)(z:a9s 0 r=.ok d [])(c:clo 0 d):Pu F n ds d:=λh=>by
 obtain⟨p1,p2,_⟩:=a3t cd;unfold gq;rw[if_pos hn];unfold ao7;rw[p1];simp only[zm,List.length_nil,Bool.false_eq_true,if_false];rw[if_pos ⟨List.nodup_nil,λx hx=>.inl (cd x hx),λo ho=>by simp at ho⟩,p2,e,z]
 simp[c,qy]
theorem Dr.of{ds:List D}(hn:ds.length+1=n)(cd:∀x∈ds,clo 0 x)(co:a00 0 o)(e:F (.ref 0::ds) [o]=r)(z:a9s 1 r=.ok d [o'])(c:clo 0 d)(co':a00 0 o'):Dr F n ds o d o':=λp h hp=>by
 obtain⟨p1,_,p3⟩:=a3t cd;have e1:a1f (.ref p::ds)=[p]:=by
  have:a1f (.ref p::ds)=p::a1f ds:=rfl
  rw[this,p1]
 have e2:wz 0 (.ref p::ds)=.ref 0::ds:=by
  have:wz 0 (.ref p::ds)=.ref 0::wz 1 ds:=rfl
  rw[this,p3]
 unfold gq;rw[if_pos (by simpa using hn)]
 unfold ao7;rw[e1];simp only[zm,hp,List.length_singleton,Bool.false_eq_true,if_false];have all:∀x∈(D.ref p::ds),clo 0 x\/isRef x:=λx hx=>by
  rcases List.mem_cons.mp hx with rfl|hx
  .exact .inr ⟨p,rfl⟩
  .exact .inl (cd x hx)
 rw[if_pos ⟨by simp,all,λu hu=>by rw[List.mem_singleton.mp hu];exact co⟩,e2,e,z]
 simp[c,co',qy]
theorem aum{ds:List D}(hn:ds.length=n)(cd:∀x∈ds,clo 0 x)(e:F ds []=.ok (.ref i) h1)(ho:h1[i]? = some o)(co:a00 0 o)(h:Hd):gq true n F ds h=.ok (.ref h.length) (h++[o]):=by
 obtain⟨p1,p2,_⟩:=a3t cd;unfold gq;rw[if_pos hn];unfold ao7;rw[p1];simp only[zm,List.length_nil,if_true];rw[if_pos ⟨List.nodup_nil,λx hx=>.inl (cd x hx),λo ho=>by simp at ho⟩,p2,e]
 unfold aqm;simp only[ho];rw[if_pos ⟨Nat.zero_le _,co,by simp⟩]
 simp[co,qy]
theorem aja(g:SG)(b:SS)(τ:Sd)(h:Hd):forL (λ_=>True) g b [] τ h=.nx τ h:=by rw[forL,if_pos True.intro]
noncomputable def trn(r:Fl)(k:Sd->Hd->Fl):Fl:=match r with|.nx τ h=>k τ h|.ct τ h=>k τ h|.bk τ h=>.nx τ h|r=>r
theorem a4p(g:SG)(b:SS)(x:D)(xs:List D)(τ τ1:Sd)(h h1:Hd)(e:g x τ h=.nx τ1 h1):forL (λ_=>True) g b (x::xs) τ h=trn (b τ1 h1) (forL (λ_=>True) g b xs):=by
 rw[forL,if_pos True.intro,e];dsimp only;unfold trn
 cases b τ1 h1<;>rfl
theorem ale(τ:Sd)(h:Hd)(k:Sd->Hd->Fl):trn (.nx τ h) k=k τ h:=rfl
theorem aun(d:D)(h:Hd)(k:Sd->Hd->Fl):trn (.rt d h) k=.rt d h:=rfl
theorem a3u{g:SG}{b:SS}{α:Type}(f:α->D)(I:List α->Sd->Hd->Prop)(Rt:D->Hd->Prop):∀(xs pre:List α) (τ:Sd) (h:Hd),
  (∀pre' x post τ h,pre++xs=pre'++x::post->I pre' τ h->∃τ1 h1,g (f x) τ h=.nx τ1 h1/\((∃τ2 h2,b τ1 h1=.nx τ2 h2/\I (pre'++[x]) τ2 h2)\/∃d h2,b τ1 h1=.rt d h2/\Rt d h2))->I pre τ h->
  (∃τ' h',forL (λ_=>True) g b (xs.map f) τ h=.nx τ' h'/\I (pre++xs) τ' h')\/∃d h',forL (λ_=>True) g b (xs.map f) τ h=.rt d h'/\Rt d h'
 |[],pre,τ,h,_,i0=>.inl ⟨τ,h,aja ..,by simpa using i0⟩
 |x::xs,pre,τ,h,st,i0=>by
  obtain⟨τ1,h1,e1,q⟩:=st pre x xs τ h rfl i0;rw[List.map_cons,a4p _ _ _ _ _ _ _ _ e1]
  rcases q with⟨τ2,h2,e2,i2⟩|⟨d,h2,e2,r⟩
  .rw[e2,ale];have:=a3u f I Rt xs (pre++[x]) τ2 h2 (λpre' y post τ h e=>st pre' y post τ h (by simpa using e)) i2
   simpa using this
  .rw[e2,aun];exact .inr ⟨d,h2,rfl,r⟩
theorem kj{g:SG}{b:SS}{α:Type}(f:α->D)(I:List α->Sd->Hd->Prop)(xs:List α)(τ:Sd)(h:Hd)
  (st:∀pre x post τ h,xs=pre++x::post->I pre τ h->∃τ1 h1,g (f x) τ h=.nx τ1 h1/\∃τ2 h2,b τ1 h1=.nx τ2 h2/\I (pre++[x]) τ2 h2) (i0:I [] τ h) :
  ∃τ' h',forL (λ_=>True) g b (xs.map f) τ h=.nx τ' h'/\I xs τ' h':=by
 rcases a3u f I (λ_ _=>False) xs [] τ h (λpre' x post τ h e i=>let ⟨τ1,h1,a,b⟩:=st pre' x post τ h e i; ⟨τ1,h1,a,.inl b⟩) i0 with⟨τ',h',a,b⟩|⟨_,_,_,z⟩
 .exact⟨τ',h',a,b⟩
 .exact z.elim
theorem a8l{f:D->Hd->R D}{α:Type}(g F:α->D){h:Hd}:∀{xs:List α},(∀x∈xs,f (g x) h=.ok (F x) h)->mapR (λ_=>True) f (xs.map g) h=.ok (xs.map F) h
 |[],_=>by rw[List.map_nil,mapR,if_pos True.intro];rfl
 |x::xs,st=>by
  rw[List.map_cons,mapR,if_pos True.intro,st x List.mem_cons_self];show(mapR _ f (xs.map g) h).bind _=_;rw[a8l g F λy hy=>st y (List.mem_cons_of_mem _ hy)];rfl
theorem acf(I:Nat->Sd->Hd->Prop)(N:Sd->Hd->Prop)(Rt:D->Hd->Prop)
  (st:∀m τ h,I m τ h->(∃h1,c τ h=.ok false h1/\N τ h1)\/∃h1,c τ h=.ok true h1/\((∃τ2 h2 m',f τ h1=.nx τ2 h2/\m'<m/\I m' τ2 h2)\/∃d h2,f τ h1=.rt d h2/\Rt d h2)) :
  ∀(m n:Nat) (τ:Sd) (h:Hd),m<n->I m τ h->(∃τ' h',sWh c f n τ h=.nx τ' h'/\N τ' h')\/∃d h',sWh c f n τ h=.rt d h'/\Rt d h':=by
 intro m
 induction m using Nat.strongRecOn with
 |ind m ih =>
  intro n τ h hn i0
  cases n with
  |zero=>lia
  |succ n =>
   rcases st m τ h i0 with⟨h1,e1,q⟩|⟨h1,e1,q⟩
   .exact .inl ⟨τ,h1,by rw[sWh,e1];rfl,q⟩
   .rcases q with⟨τ2,h2,m',e2,lt,i2⟩|⟨d,h2,e2,r⟩
    .have e3:sWh c f (n+1) τ h=sWh c f n τ2 h2:=by
      rw[sWh,e1,ye,if_pos rfl,e2]
     rw[e3];exact ih m' lt n τ2 h2 (by lia) i2
    .refine .inr ⟨d,h2,?_,r⟩;rw[sWh,e1,ye,if_pos rfl,e2]
end MI
namespace HND
open L2 MI
noncomputable def a1s:SS :=
 (a06 (sA a2h (aj (sZ (sA a4j (aj (sZ (ahk (sV 0) oN (oS (sI 63)))) bj))) (aj (sI 0) (aj (sI 0) (aj (sI 7) (aj (sI 0) bj)))))))
noncomputable def a1t:SS :=
 (dw (sIf (sT (s2 gLt (sV 1) (sI 2)))
 (a06 (sI 0))
 sNx)
 (dw (sIf (ac4 (sT (s2 hEq (s2 gIx (sV 0) (sI 2)) (sI 0))) (sT (s2 gLt (s2 gIx (sV 0) (sI 1)) (sA oh (aj (s2 gIx (sV 0) (sI 0)) bj)))))
 (dw (iz 2 (s2 gIx (s2 gIx (sV 0) (sI 0)) (s2 gIx (sV 0) (sI 1))))
 (dw (a9t a5l (sV 0) (sI 1) (sI 1))
 (dw (a8c (s2 ad7 (s2 j9 (s2 zp (s2 gIx (sV 0) (sI 3)) (sI 48271)) (sV 2)) (sI 2147483647)) (sV 0) (sI 3))
 (sIf (sT (s2 gGe (sA atz (aj (sV 2) bj)) (s2 aek (sI 10) (sI 18))))
 (a8c (sA atz (aj (sV 2) bj)) (sV 0) (sI 2))
 sNx))))
 sNx)
 (dw (sIf (sT (s2 gGt (s2 gIx (sV 0) (sI 2)) (sI 0)))
 (dw (iz 3 (s2 ad7 (s2 gIx (sV 0) (sI 2)) (sV 1)))
 (dw (a8c (s2 aao (s2 gIx (sV 0) (sI 2)) (sV 1)) (sV 0) (sI 2))
 (a06 (sV 3))))
 sNx)
 (dw (a9t a5l (sV 0) (sI 4) (sI 1))
 (a06 (s2 ad7 (s2 aao (s2 ad7 (s2 aek (s2 j9 (s2 gIx (sV 0) (sI 3)) (s2 zp (sI 7368787) (s2 gIx (sV 0) (sI 4)))) (sI 5)) (sI 2147483647)) (sI 1009)) (sV 1)))))))
noncomputable def a0m:SS :=
 (dw (iz 0 (sC (.str " !\"#$&'()*+,-./0123456789:;<=>?@ABCDEFGHIJKLMNOPQRSTUVWXYZ[\\]^_`")))
 (a06 (s2 j9 (sV 0) (sC (.str "abcdefghijklmnopqrstuvwxyz{|}~\n")))))
noncomputable def mq(jm:SF)(aa:SF):SS :=
 (dw (iz 4 (sA (gq false 2 aa) (aj (sV 0) (aj (sA oh (aj (sV 1) bj)) bj))))
 (dw (iz 2 (s2 j9 (sV 2) (s2 gIx (sV 1) (sV 4))))
 (iz 1 (s2 j9 (ahk (sV 1) oN (oS (sV 4))) (ahk (sV 1) (oS (s2 j9 (sV 4) (sI 1))) oN)))))
noncomputable def zy(jm:SF)(aa:SF):SS :=
 (dw (iz 1 (sA (gq false 0 jm) bj))
 (dw (iz 2 (sC (.str "")))
 (dw (a2x (sRg a0k (aj (s2 j9 (sI 1) (sA (gq false 2 aa) (aj (sV 0) (aj (sI 6) bj)))) bj)) (kN 3) (mq jm aa))
 (a06 (sV 2)))))
noncomputable def yf(aa:SF):SE :=
 (sA vf (aj (sI 0) (aj (sV 0) bj)))
noncomputable def yg(aa:SF):SE :=
 (sA vf (aj (sV 1) (aj (sV 0) bj)))
noncomputable def ue(aa:SF):SS :=
 (dw (iz 7 (s2 a6h (s2 a6h (sA oh (aj (sV 4) bj)) (sI 1)) (sA (gq false 2 aa) (aj (sV 0) (aj (sV 1) bj)))))
 (dw (sIf (sT (s2 hEq (sV 3) (sI 0)))
 (iz 7 (sA (gq false 2 aa) (aj (sV 0) (aj (sA oh (aj (sV 4) bj)) bj))))
 sNx)
 (dw (a7l (sML a2p (sV 4) (aj (sV 7) bj)) (a2a 2 (g8 (kN 8) (g8 (kN 9) a2j))))
 (dw (a8c (sV 6) (s2 gIx (sV 5) (sV 8)) (sV 9))
 (dw (vg (sML a3k (sV 5) (aj (s2 zp (sZ (sA a2h (aj (sI 0) bj))) (sV 1)) bj)))
 (vg (sML af3 (sV 4) (aj (sZ (wj (sRg a0k (aj (sV 1) bj)) t1 (yg aa) [6])) bj))))))))
noncomputable def uf(aa:SF):SS :=
 (a8c (sA (gq false 2 aa) (aj (sV 0) (aj (sV 2) bj))) (s2 gIx (sV 5) (sV 8)) (sV 9))
noncomputable def a0b(aa:SF):SS :=
 (dw (iz 3 (sA (gq false 2 aa) (aj (sV 0) (aj (sI 2) bj))))
 (dw (iz 4 (wj (sRg a0k (aj (sV 1) bj)) t1 (yf aa) []))
 (dw (iz 5 (sA a2h (aj (s2 zp (sZ (sA a2h (aj (sI 0) bj))) (sV 1)) bj)))
 (dw (a2x (sRg a07 (aj (sI 1) (aj (sV 2) bj))) (kN 6) (ue aa))
 (dw (a2x (sIt (sV 4)) (a2a 2 (g8 (kN 8) (g8 (kN 9) a2j))) (uf aa))
 (a06 (sV 5)))))))
noncomputable def p7(aa:SF):SS :=
 (dw (iz 5 (s2 a6h (sA (gq false 2 aa) (aj (sV 0) (aj (sI 7) bj))) (sI 1)))
 (dw (sIf (sT (s2 hEq (sV 2) (sI 1)))
 (iz 5 (s2 aao (sV 5) (sI 5)))
 sNx)
 (dw (sIf (ac4 (sT (s2 hEq (sV 2) (sI 2))) (sT (s2 gGt (sA (gq false 2 aa) (aj (sV 0) (aj (sI 3) bj))) (sI 0))))
 (iz 5 (s1 ad8 (sI 1)))
 sNx)
 (vg (sML a3k (sV 3) (aj (sV 5) bj))))))
noncomputable def yu(aa:SF):SS :=
 (dw (iz 2 (sA (gq false 2 aa) (aj (sV 0) (aj (sI 3) bj))))
 (dw (iz 3 (sA a2h (aj (s1 ad8 (sI 1)) bj)))
 (dw (a2x (sRg a07 (aj (sI 1) (aj (sV 1) bj))) (kN 4) (p7 aa))
 (a06 (sV 3)))))
noncomputable def nj(aa:SF):ST :=
 (sT (s2 gGt (sA oh (aj (sV 3) bj)) (sI 0)))
noncomputable def jr(aa:SF):SS :=
 (vg (sML a3k (sV 4) (aj (sML a2p (sV 3) (aj (sA (gq false 2 aa) (aj (sV 0) (aj (sA oh (aj (sV 3) bj)) bj))) bj)) bj)))
noncomputable def a0c(aa:SF):SE :=
 (sA vf bj)
noncomputable def a0d(aa:SF):SE :=
 (s1 ad8 (sI 1))
noncomputable def ux(aa:SF):SE :=
 (s2 gIx (sV 1) (sV 0))
noncomputable def ju(aa:SF):SS :=
 (dw (a8c (sA xr (aj (sZ (wj (sIt (sV 8)) t1 (ux aa) [4])) bj)) (sV 5) (s2 gIx (sV 4) (sV 7)))
 (a8c (s2 gIx (sV 2) (sV 7)) (sV 6) (s2 gIx (sV 4) (sV 7))))
noncomputable def p8(aa:SF):SS :=
 (dw (iz 3 (sA a8j (aj (sI 1) (aj (sA oh (aj (sV 1) bj)) bj))))
 (dw (iz 4 (sA a2h (aj (sI 0) bj)))
 (dw (sWh (nj aa) (jr aa) 100000)
 (dw (iz 5 (wj (sIt (sV 1)) t1 (a0c aa) []))
 (dw (iz 6 (wj (sIt (sV 1)) t1 (a0d aa) []))
 (dw (a2x (a3m (sV 1)) (a2a 2 (g8 (kN 7) (g8 (kN 8) a2j))) (ju aa))
 (a06 (sA vf (aj (sA xr (aj (sV 5) bj)) (aj (sA xr (aj (sV 6) bj)) bj))))))))))
end HND
namespace L2
open PyProof.Rows
noncomputable def ixI(n:Int):List Int->Option Nat
 |[]=>none
 |a::l=>if a=n then some 0 else (ixI n l).map (·+1)
end L2
namespace MI
open L2
structure KD (P:Program) (w:World) (K:Fg) (a:Addr) (kvs:List (Str×Str)):Prop where
 sys:(a == sysModules)=false
 ex:∃(o:Obj) (vs:List (Key×Value)),K.lookup a=some o/\KV (kvs.map λp=>((.inr p.1:Key),V.str p.2)) vs/\∀h:Heap,h.get? a=some o->h.DictOf (gf P w) a vs
section
variable{X:Cx}{E:XD}{e:Expr}{fa:SE}{pos p:Pos}{a:Addr}{kvs:List (Str×Str)}{x:Str}
theorem KD.at(kd:KD X.prog X.w X.K a kvs)(I:Inv X aA Z H s):∃vs,KV (kvs.map λp=>((.inr p.1:Key),V.str p.2)) vs/\s.heap.DictOf (gf X.prog X.w) a vs:=by
 obtain⟨o,vs,l,r,d⟩:=kd.ex;exact⟨vs,r,d _ (I.bk _ _ (I.mod.kin _ _ l))⟩
end
mutual
def toPy:D->Option PyData
 |.non=>some .none
 |.bl b=>some (.bool b)
 |.int i=>some (.int i)
 |.str x=>some (.str x)
 |.tup xs=>(aou xs).map .tuple
 |.rol xs=>(aou xs).map .list
 |.rod [] []=>some (.dict [])
 |_=>none
def aou:List D->Option (List PyData)
 |[]=>some []
 |x::xs=>match toPy x,aou xs with|some p,some ps=>some (p::ps)|_,_=>none
end
mutual
def noL:D->Bool
 |.rol _=>false
 |.tup xs=>azm xs
 |_=>true
def azm:List D->Bool
 |[]=>true
 |x::xs=>noL x && azm xs
end
theorem a8m:CallR X (.builtin "isinstance") (λxs H Q=>∃a o us T b,xs=[.ref a,.ty T]/\H a=some (.frz o (.dK us))/\PySem.W.kitOne X.K (.type "dict") (.type T)=some b/\Q (.bl b) H):=by
 intro aA s Z H xs us Q I r h
 obtain⟨a,o,kv,T,b,rfl,ea,e,q⟩:=h;obtain⟨u,w',rfl,rx,rt⟩:=vals2 r;cases rt
 obtain rfl:u=Value.ref a:=rx
 obtain⟨_,_,_,vs,_,p⟩:=(show ObjOk X.prog X.w H s.heap a (.frz o (.dK kv)) from I.hok a _ ea)
 obtain⟨o',es,ep,h1,h2,_⟩:=p;exact PySem.W.kia_one PySem.W.kitx_dict I.kIn ⟨o',h1,h2.1⟩ e (λz=>nomatch z) λtk=>⟨.bl b,H,I.tok tk,rfl,q⟩
noncomputable def a0e:List D->Hd->R D
 |[.rod ks xs,.ty T],h=>(match ahj "dict" T with|some b=>.ok (.bl b) h|none=>.no)
 |ds,h=>al6 ds h
theorem ajb:ad5 K a0e (λxs H Q=>(∃x T t b,xs=[x,.ty T]/\TyOf K H x t/\PySem.W.kitOne K t (.type T)=some b/\Q (.bl b) H)\/∃a o us T b,xs=[.ref a,.ty T]/\H a=some (.frz o (.dK us))/\PySem.W.kitOne K (.type "dict") (.type T)=some b/\Q (.bl b) H):=by
 intro E U H h xs ds Q r hr o
 unfold a0e at o
 split at o
 .split at o
  .rename_i b hb
   cases r with
   |cons r1 rs =>
    cases rs with
    |cons r2 rs2 =>
     cases rs2
     cases r2
     cases r1 with
     |rod hp ek rr=>exact .inr ⟨_,_,_,_,b,rfl,hp,aep hb,ans o (.bl _) hr⟩
  .exact o.elim
 .exact .inl (anu E U H h xs _ Q r hr o)
end MI
namespace L2
open PySem.W PyProof.Rows Builtin Builtin.ObjectAttr Builtin.Getset_descriptor
section
variable{prog:Program}{w:World}{A:Around}{E:Value->Shared->Prop}{s:Shared}{K:Frag}{x D:Addr}{ox:Obj}{odo:Option Obj}
abbrev ExAt(x D:Addr)(h:Heap):Prop:=∃o,h.get? x=some o/\o.cls=.ref D
theorem ExAt.ty(I:ExAt x D h):Looks M h (typeOf (.ref x)) (.ref D):=by
 obtain⟨o,q,c⟩:=I;exact c ▸ (Looks.ld q).andThen .now
end
end L2
namespace AT
open L2
theorem ajc{α:Type}(x0:α)(xs:List α):atI (x0::xs) 0=some x0:=u5 (j:=0) rfl
theorem ajd{α:Type}(x0 x1:α)(xs:List α):atI (x0::x1::xs) 1=some x1:=u5 (j:=1) rfl
theorem aje{α:Type}(x0 x1 x2:α)(xs:List α):atI (x0::x1::x2::xs) 2=some x2:=u5 (j:=2) rfl
theorem ajf{α:Type}(x0 x1 x2 x3:α)(xs:List α):atI (x0::x1::x2::x3::xs) 3=some x3:=u5 (j:=3) rfl
theorem ajg{α:Type}(x0 x1 x2 x3 x4:α)(xs:List α):atI (x0::x1::x2::x3::x4::xs) 4=some x4:=u5 (j:=4) rfl
theorem ajh{α:Type}(x0 x1 x2 x3 x4 x5:α)(xs:List α):atI (x0::x1::x2::x3::x4::x5::xs) 5=some x5:=u5 (j:=5) rfl
theorem aji{α:Type}(x0 x1 x2 x3 x4 x5 x6:α)(xs:List α):atI (x0::x1::x2::x3::x4::x5::x6::xs) 6=some x6:=u5 (j:=6) rfl
theorem ajj{α:Type}(x0 x1 x2 x3 x4 x5 x6 x7:α)(xs:List α):atI (x0::x1::x2::x3::x4::x5::x6::x7::xs) 7=some x7:=u5 (j:=7) rfl
theorem x10:ixN 1 0=some 0:=rfl
theorem x20:ixN 2 0=some 0:=rfl
theorem x21:ixN 2 1=some 1:=rfl
theorem x30:ixN 3 0=some 0:=rfl
theorem x31:ixN 3 1=some 1:=rfl
theorem x32:ixN 3 2=some 2:=rfl
theorem x40:ixN 4 0=some 0:=rfl
theorem x41:ixN 4 1=some 1:=rfl
theorem x42:ixN 4 2=some 2:=rfl
theorem x43:ixN 4 3=some 3:=rfl
theorem x50:ixN 5 0=some 0:=rfl
theorem x51:ixN 5 1=some 1:=rfl
theorem x52:ixN 5 2=some 2:=rfl
theorem x53:ixN 5 3=some 3:=rfl
theorem x54:ixN 5 4=some 4:=rfl
theorem x60:ixN 6 0=some 0:=rfl
theorem x61:ixN 6 1=some 1:=rfl
theorem x62:ixN 6 2=some 2:=rfl
theorem x63:ixN 6 3=some 3:=rfl
theorem x64:ixN 6 4=some 4:=rfl
theorem x65:ixN 6 5=some 5:=rfl
theorem x70:ixN 7 0=some 0:=rfl
theorem x71:ixN 7 1=some 1:=rfl
theorem x72:ixN 7 2=some 2:=rfl
theorem x73:ixN 7 3=some 3:=rfl
theorem x74:ixN 7 4=some 4:=rfl
theorem x75:ixN 7 5=some 5:=rfl
theorem x76:ixN 7 6=some 6:=rfl
noncomputable def alf(x:Int):Int:=if x<0 then -x else x
theorem ajk(x:Int)(h:MI.Hd):MI.atz [.int x] h=.ok (.int (alf x)) h:=rfl
theorem p18(h:MI.Hd):MI.aek (.int 10) (.int 18) h=.ok (.int 1000000000000000000) h:=by rw[MI.aek,if_pos (by decide)];rfl
theorem ayc{i:Int}(c:0<=j/\j<=1000000/\i.natAbs<2^64):MI.aek (.int i) (.int j) h=.ok (.int (i^j.toNat)) h:=by rw[MI.aek,if_pos c]
end AT
namespace SETH
noncomputable def it:Nat->Nat->Nat
 |0,x=>x
 |n+1,x=>it n (5*x+1)
theorem afh(m:Nat):∀(n x:Nat),it (n+m) x=it m (it n x)
 |0,x=>by rw[Nat.zero_add];rfl
 |n+1,x=>by rw[show n+1+m=(n+m)+1 by lia];exact afh m n _
theorem alg:∀k:Nat,∃c,∀x,it (2^k) x=(4*(2^k*(2*c+1))+1)*x+2^k*(2*c+1)
 |0=>⟨0,λx=>by show 5*x+1=_;lia⟩
 |k+1=>by
  obtain⟨c,h⟩:=alg k;refine⟨2*c*(2^k*(2*c+1))+c+2^k*(2*c+1),λx=>?_⟩;have e:2^(k+1)=2^k+2^k:=by rw[Nat.pow_succ];lia
  rw[e,afh,h,h]
  generalize 2^k=P
  grind
theorem full:∀(k x y:Nat),∃n,n<2^k/\it n x%2^k=y%2^k
 |0,x,y=>⟨0,by decide,by rw[Nat.pow_zero,Nat.mod_one,Nat.mod_one]⟩
 |k+1,x,y=>by
  obtain⟨n,hn,e⟩:=full k x y;obtain⟨c,h⟩:=alg k;have hp:0<2^k:=Nat.pow_pos (by decide)
  rw[Nat.pow_succ]
  by_cases q:it n x / 2^k%2=y / 2^k%2
  .exact⟨n,by lia,by rw[Nat.mod_mul,Nat.mod_mul,e,q]⟩
  .refine⟨n+2^k,by lia,?_⟩
   rw[afh,h]
   generalize 2^k=P at *
   generalize it n x=z at *
   have:(4*(P*(2*c+1))+1)*z+P*(2*c+1)=(z+P)+P*2*(2*(2*c+1)*z+c):=by grind
   rw[this,Nat.add_mul_mod_self_left,Nat.mod_mul,Nat.mod_mul,Nat.add_mod_right,e,Nat.add_div_right _ hp]
   congr 2
   lia
noncomputable def im(M:Nat):Nat->Nat->Nat
 |0,x=>x
 |n+1,x=>im M n ((x*5+1)%M)
theorem auo(M:Nat):∀(n x:Nat),im M n x%M=it n x%M
 |0,x=>rfl
 |n+1,x=>by
  show im M n _%M=it n _%M;rw[auo M n];have:∀n a b,a%M=b%M->it n a%M=it n b%M:=by
   intro n
   induction n with
   |zero=>exact λa b h=>h
   |succ n ih=>exact λa b h=>ih _ _ (by rw[Nat.add_mod,Nat.mul_mod,h,<-Nat.mul_mod,<-Nat.add_mod])
  exact this n _ _ (by rw[Nat.mod_mod,Nat.mul_comm])
theorem aup(hM:0<M):∀(n x:Nat),x<M->im M n x<M
 |0,x,h=>h
 |n+1,x,h=>aup hM n _ (Nat.mod_lt _ hM)
theorem aov(hx:x<2^k)(hy:y<2^k):∃n,n<2^k/\im (2^k) n x=y:=by
 obtain⟨n,hn,e⟩:=full k x y;refine⟨n,hn,?_⟩;rw[<-auo,Nat.mod_eq_of_lt hy,Nat.mod_eq_of_lt (aup (by lia) n x hx)]at e
 exact e
open PySem.SetTable
noncomputable def ls(mask:Nat):Nat->Nat×Nat->Nat×Nat
 |0,x=>x
 |n+1,x=>ls mask n (leap mask x.1 x.2)
theorem alh(mask m:Nat):∀(n:Nat) (x:Nat×Nat),ls mask (n+m) x=ls mask m (ls mask n x)
 |0,x=>by rw[Nat.zero_add];rfl
 |n+1,x=>by rw[show n+1+m=(n+m)+1 by lia];exact alh mask m n _
theorem a67(mask:Nat):∀(n:Nat) (x:Nat×Nat),(ls mask n x).2=x.2 / 32^n
 |0,x=>by rw[Nat.pow_zero,Nat.div_one];rfl
 |n+1,x=>by
  show(ls mask n _).2=_;rw[a67 mask n,Nat.pow_succ,Nat.mul_comm,<-Nat.div_div_eq_div_mul];rfl
theorem auq(mask:Nat):∀(n:Nat) (x:Nat×Nat),x.1<=mask->(ls mask n x).1<=mask
 |0,x,h=>h
 |n+1,x,h=>auq mask n _ (Nat.le_of_lt_succ (Nat.mod_lt _ (Nat.succ_pos _)))
theorem aur(mask:Nat):∀(n i:Nat),ls mask n (i,0)=(im (mask+1) n i,0)
 |0,i=>rfl
 |n+1,i=>by
  show ls mask n (leap mask i 0)=(im (mask+1) n _,0);rw[<-aur mask n];rfl
theorem hit{mask k i p y:Nat}(hk:mask+1=2^k)(hi:i<=mask)(hp:p<2^64)(hy:y<=mask):∃m,m<mask+14/\(ls mask m (i,p)).1=y:=by
 have e:ls mask 13 (i,p)=((ls mask 13 (i,p)).1,0):=by
  refine Prod.ext rfl ?_;rw[a67];show p / 32^13=0;exact Nat.div_eq_of_lt (by lia)
 have h13:=auq mask 13 (i,p) hi;obtain⟨n,hn,en⟩:=aov (k:=k) (x:=(ls mask 13 (i,p)).1) (y:=y) (by lia) (by lia)
 refine⟨13+n,by lia,?_⟩
 rw[alh,e,aur];show im (mask+1) n _=y;rw[hk];exact en
end SETH
namespace SETB
open PyProof.Rows
def AllI(l:List (Int×Value)):Prop:=∀e∈l,∃k t,e=(hashInt k,Value.int k t)
section
variable{prog:Program}{w:World}{E:Value->Shared->Prop}{A:Around}{s:Shared}
theorem AllI.el(h:AllI l):ElemsOf (intKind prog w) l:=λe he=>by
 obtain⟨k,t,rfl⟩:=h e he;exact⟨⟨k,by simp[intKind,Value.isInt],rfl⟩,rfl⟩
end
end SETB
namespace MI
open L2
def Bz(j:Int):Prop:=0<=j/\j<2^62
instance (j:Int):Decidable (Bz j):=by unfold Bz;exact inferInstance
end MI
namespace STP
open L2 MI
noncomputable def ug:SS :=
 (sIf (ac4 (a5j (s2 gIx (sV 2) (sV 12))) (sT (s2 (a3r true) (sV 12) (sV 6))))
 (dw (a3l (s2 j9 (sV 10) (sV 11)) (sV 6) (sV 12))
 (vg (sML a3k (sV 7) (aj (sA vf (aj (sV 12) (aj (s2 j9 (sV 10) (sV 11)) bj))) bj))))
 sNx)
noncomputable def a0n:ST :=
 (sT (s2 gLt (sV 8) (sA oh (aj (sV 7) bj))))
noncomputable def yh:SS :=
 (dw (a7l (s2 gIx (sV 7) (sV 8)) (a2a 2 (g8 (kN 9) (g8 (kN 10) a2j))))
 (dw (a2x (a9r (sV 3) (s2 gIx (sV 4) (sV 9))) (a2a 2 (g8 (kN 11) (g8 (kN 12) a2j))) ug)
 (ad6 8 a5l (sI 1))))
noncomputable def a0f:SS :=
 (dw (a7l (sV 0) (a2a 3 (g8 (kN 3) (g8 (kN 4) (g8 (kN 5) a2j)))))
 (dw (iz 6 au5)
 (dw (iz 7 (sA a2h (aj (sA vf (aj (sV 1) (aj (sC (.str "")) bj))) bj)))
 (dw (iz 8 (sI 0))
 (dw (sWh a0n yh 100000)
 (a06 (sV 6)))))))
noncomputable def vh(jw:SF):SE :=
 (s2 a0y (sV 1) (sV 0))
noncomputable def a1h(jw:SF):SS :=
 (dw (iz 1 (sA oh (aj (s2 gIx (sV 0) (sI 1)) bj)))
 (dw (iz 2 (sA (gq false 3 jw) (aj (sV 0) (aj (sI 0) (aj (sZ (s2 zp (sZ (sA a2h (aj (sC (.bl true)) bj))) (sV 1))) bj)))))
 (a06 (sA xr (aj (sZ (s2 j9 (sZ (sA a2h (aj (sC (.str "")) bj))) (sZ (wj (sRg a07 (aj (sI 1) (aj (sV 1) bj))) t1 (vh jw) [2])))) bj)))))
end STP
namespace L2
open PyProof.Rows
section
variable{prog:Program}{w:World}{A:Around}{R:Result->Shared->Prop}{s:Shared}{aD t0 i0 t1 i1:Expr}{aB:Scope}{pos:Pos}{it acc:Value}{env:Env}{cs:List Expr}
noncomputable def tests(cs:List Expr)(env:Env):Sem Bool:=match cs with
 |[]=>pure true
 |c::_=>isTrue c env (eval c env)
def One(cs:List Expr):Prop:=cs=[]\/∃c,cs=[c]
theorem aow(one:One cs):compTurn (.ListComp aD [⟨t0,i0,[],0⟩,⟨t1,i1,cs,0⟩] aB pos) 1 it acc env=(standAt i1.pos>>=λ_=>pyNext it>>=λr=>match r with
   |none=>pure (.done .next)
   |some v=>letOwnedTupleGo t1 it v>>=λ_=>assign t1 env v>>=λ_=>tests cs env>>=λok =>
    (if ok=true then (eval aD env>>=λx=>call (.builtin "list.append") [acc,x]>>=λ_=>pure ()) else pure ())>>=λ_ =>
     again (.compLoop (.ListComp aD [⟨t0,i0,[],0⟩,⟨t1,i1,cs,0⟩] aB pos) 1 it acc env)):=by
 rcases one with rfl|⟨c,rfl⟩
 .unfold tests;simp only[pure_bind,if_true];rfl
 .show(standAt i1.pos>>=λ_=>pyNext it>>=λr=>_)=_
  congr 1;funext _;congr 1;funext r
  cases r with
  |none=>rfl
  |some v =>
   show(letOwnedTupleGo t1 it v>>=λ_=>assign t1 env v>>=λ_=>_)=(letOwnedTupleGo t1 it v>>=λ_=>assign t1 env v>>=λ_=>_)
   congr 1;funext _;congr 1;funext _
   unfold tests;simp
   congr 1;funext ok
   cases ok with
   |false=>rw[if_neg Bool.false_ne_true,if_neg Bool.false_ne_true,pure_bind]
   |true =>
    rw[if_pos rfl,if_pos rfl,bind_assoc]
    congr 1;funext x
    rw[map_eq_pure_bind,bind_assoc]
    congr 1
theorem acg(one:One cs)(J:Nat->Shared->Prop)
  (step:∀m z,J m z->wpAny (model prog w) A (pyNext it) (λgot z1=>match got with
   |none=>R (.ok .next) z1
   |some v=>wpAny (model prog w) A (letOwnedTupleGo t1 it v) (λ_ z2=>wpAny (model prog w) A (assign t1 env v) (λ_ z3=>wpAny (model prog w) A (tests cs env) (λok z3'=>if ok=true then wpAny (model prog w) A (eval aD env) (λx z4 =>
     wpAny (model prog w) A (call (.builtin "list.append") [acc,x]) (λ_ z5=>∃m',m'<m/\J m' z5) (λ_ _=>False) z4)
     (λ_ _=>False) z3' else ∃m',m'<m/\J m' z3') (λ_ _=>False) z3) (λ_ _=>False) z2) (λ_ _=>False) z1) (λ_ _=>False) z)
  (m:Nat) (j0:J m s):codeAny (model prog w) A (.compLoop (.ListComp aD [⟨t0,i0,[],0⟩,⟨t1,i1,cs,0⟩] aB pos) 1 it acc env) R s:=by
 refine codeAny_loop rfl J (λm z hj=>(wpAny_noted ?_:wpAny _ _ ((compTurn (.ListComp aD [⟨t0,i0,[],0⟩,⟨t1,i1,cs,0⟩] aB pos) 1 it acc env).onRaise _) _ _ z)) m j0;rw[aow one];refine wpAny_bind (wpAny_standAt (wpAny_bind (wpAny_mono (step m z hj) (λgot z1 h1=>?_) λ_ _ no=>no.elim)))
 match got,h1 with
 |none,h1=>exact wpAny_pure h1
 |some v,h1 =>
  refine wpAny_bind (wpAny_mono h1 (λ_ z2 h2=>wpAny_bind (wpAny_mono h2 (λ_ z3 h3=>wpAny_bind (wpAny_mono h3 (λok z3' h3'=>?_) λ_ _ no=>no.elim)) λ_ _ no=>no.elim)) λ_ _ no=>no.elim)
  match ok,h3' with
  |true,h3' =>
   rw[if_pos rfl]at h3';refine wpAny_bind (wpAny_bind (wpAny_mono h3' (λx z4 h4=>?_) λ_ _ no=>no.elim));exact wpAny_bind (wpAny_mono h4 (λ_ z5 h5=>wpAny_pure (wpAny_pure ⟨rfl,h5⟩)) λ_ _ no=>no.elim)
  |false,h3' =>
   rw[if_neg Bool.false_ne_true]at h3';exact wpAny_bind (wpAny_pure (wpAny_pure ⟨rfl,h3'⟩))
theorem a9x(h0:codeAny (model prog w) A (.compLoop (.ListComp aD [⟨t0,i0,[],0⟩,⟨t1,i1,cs,0⟩] aB pos) 1 it acc env) R s)
  (h:wpAny (model prog w) A (pyIter it) (λit' s'=>codeAny (model prog w) A (.compLoop (.ListComp aD [⟨t0,i0,[],0⟩,⟨t1,i1,cs,0⟩] aB pos) 1 it' acc env) R s') (λ_ _=>False) s) :
  codeAny (model prog w) A (.compStart (.ListComp aD [⟨t0,i0,[],0⟩,⟨t1,i1,cs,0⟩] aB pos) 1 it acc env) R s:=by
 apply codeAny_of_tree
 show wpAny (model prog w) _ ((compStart (.ListComp aD [⟨t0,i0,[],0⟩,⟨t1,i1,cs,0⟩] aB pos) 1 it acc env).onRaise _) _ _ s
 apply wpAny_onRaise
 unfold compStart;show wpAny (model prog w) _ (ask>>=_) _ _ s
 apply wpAny_bind
 apply wpAny_askSetting
 refine wpAny_ite ?_
 split
 .first
  |exact wpAny_pure ⟨rfl,h0⟩
  |exact wpAny_bind (wpAny_pure (wpAny_pure ⟨rfl,h0⟩))
 .apply wpAny_bind
  apply wpAny_rule
  show wpAny (model prog w) _ (standAt i1.pos>>=_) _ _ s
  apply wpAny_bind
  apply wpAny_standAt
  apply wpAny_bind
  exact wpAny_mono h (λit' s' h'=>wpAny_pure ⟨rfl,h'⟩) λ_ _ no=>no.elim
theorem a9y(J:Nat->Shared->Prop)
  (step:∀m z,J m z->wpAny (model prog w) A (pyNext it) (λgot z1=>match got with
   |none=>R (.ok .next) z1
   |some v=>wpAny (model prog w) A (letOwnedTupleGo t0 it v) (λ_ z2=>wpAny (model prog w) A (assign t0 env v) (λ_ z3=>wpAny (model prog w) A (eval i1 env) (λx z4 =>
     wpAny (model prog w) A (foldedSetIterable i1 env x) (λy z5=>wpAny (model prog w) A (pyIter y) (λit1 z6 =>
      codeAny (model prog w) A (.compStart (.ListComp aD [⟨t0,i0,[],0⟩,⟨t1,i1,cs,0⟩] aB pos) 1 it1 acc env) (λr z7=>∃f,r=.ok f/\∃m',m'<m/\J m' z7) z6) (λ_ _=>False) z5) (λ_ _=>False) z4)
     (λ_ _=>False) z3) (λ_ _=>False) z2) (λ_ _=>False) z1) (λ_ _=>False) z)
  (m:Nat) (j0:J m s):codeAny (model prog w) A (.compLoop (.ListComp aD [⟨t0,i0,[],0⟩,⟨t1,i1,cs,0⟩] aB pos) 0 it acc env) R s:=by
 refine codeAny_loop rfl J (λm z hj=>(wpAny_noted ?_:wpAny _ _ ((compTurn (.ListComp aD [⟨t0,i0,[],0⟩,⟨t1,i1,cs,0⟩] aB pos) 0 it acc env).onRaise _) _ _ z)) m j0;show wpAny (model prog w) _ (standAt i0.pos>>=λ_=>pyNext it>>=_) _ _ z
 apply wpAny_bind
 apply wpAny_standAt
 apply wpAny_bind
 refine wpAny_mono (step m z hj) (λgot z1 h1=>?_) λ_ _ no=>no.elim
 match got,h1 with
 |none,h1=>exact wpAny_pure h1
 |some v,h1 =>
  apply wpAny_bind
  refine wpAny_mono h1 (λ_ z2 h2=>?_) λ_ _ no=>no.elim
  apply wpAny_bind
  refine wpAny_mono h2 (λ_ z3 h3=>?_) λ_ _ no=>no.elim;show wpAny (model prog w) _ (eval i1 env>>=_) _ _ _
  apply wpAny_bind
  refine wpAny_mono h3 (λx z4 h4=>?_) λ_ _ no=>no.elim
  apply wpAny_bind
  apply wpAny_standAt
  show wpAny (model prog w) _ (foldedSetIterable i1 env x>>=_) _ _ _
  apply wpAny_bind
  refine wpAny_mono h4 (λy z5 h5=>?_) λ_ _ no=>no.elim;show wpAny (model prog w) _ (holding [y] (pyIter y)>>=_) _ _ _
  apply wpAny_bind
  apply wpAny_holding
  refine wpAny_mono h5 (λit1 z6 h6=>?_) λ_ _ no=>no.elim
  apply wpAny_bind
  refine wpAny_runOwn (codeAny_mono h6 λr z7 h7=>?_);obtain⟨f,rfl,h8⟩:=h7;exact wpAny_pure ⟨rfl,h8⟩
end
section
variable{prog:Program}{w:World}{A:Around}{R:Result->Shared->Prop}{s:Shared}{aD t0 i0 t1 i1:Expr}{aB:Scope}{pos:Pos}{it acc:Value}{env:Env}{cs:List Expr}
theorem a8n(h0:codeAny (model prog w) A (.compLoop (.ListComp aD [⟨t0,i0,[],0⟩,⟨t1,i1,cs,0⟩] aB pos) 0 it acc env) R s)
  (h:wpAny (model prog w) A (pyIter it) (λit' s'=>codeAny (model prog w) A (.compLoop (.ListComp aD [⟨t0,i0,[],0⟩,⟨t1,i1,cs,0⟩] aB pos) 0 it' acc env) R s') (λ_ _=>False) s) :
  codeAny (model prog w) A (.compStart (.ListComp aD [⟨t0,i0,[],0⟩,⟨t1,i1,cs,0⟩] aB pos) 0 it acc env) R s:=by
 apply codeAny_of_tree
 show wpAny (model prog w) _ ((compStart (.ListComp aD [⟨t0,i0,[],0⟩,⟨t1,i1,cs,0⟩] aB pos) 0 it acc env).onRaise _) _ _ s
 apply wpAny_onRaise
 unfold compStart;show wpAny (model prog w) _ (ask>>=_) _ _ s
 apply wpAny_bind
 apply wpAny_askSetting
 refine wpAny_ite ?_
 split
 .first
  |exact wpAny_pure ⟨rfl,h0⟩
  |exact wpAny_bind (wpAny_pure (wpAny_pure ⟨rfl,h0⟩))
 .apply wpAny_bind
  apply wpAny_rule
  show wpAny (model prog w) _ (standAt i0.pos>>=_) _ _ s
  apply wpAny_bind
  apply wpAny_standAt
  apply wpAny_bind
  exact wpAny_mono h (λit' s' h'=>wpAny_pure ⟨rfl,h'⟩) λ_ _ no=>no.elim
end
section
variable{X:Cx}
theorem FpOk.onL(f:FpOk Y aA H b)(hp:Y.pn=[])(hn:H' b=none)(ne:b∉L):FpOk Y (o9 L h) H' b:=by
 obtain⟨_,f1,f2,f3,f4,_⟩:=f;refine⟨hn,f1,f2,f3,f4,λp hq z=>ne ?_⟩;rw[hp]at hq;have:=(a7p (show p∈o9 L h from hq)).1
 rw[<-z];exact this
def LiA(a:Addr)(ys:List V)(h:Heap):Prop:=∃(its:List Value) (k:Nat),h.get? a=some {cls:=.type "list",data:=.seq its.toArray k}/\Vals ys its/\ys.length<=sizeLine
theorem LiA.keep{a:Addr}{ys:List V}{h h':Heap}(l:LiA a ys h)(k:∀o,h.get? a=some o->h'.get? a=some o):LiA a ys h':=let ⟨its,n,e,r⟩:=l; ⟨its,n,k _ e,r⟩
def PCn(X:Cx)(cs:List Expr)(t:TT):Prop:=∀(aA:List (Addr×Obj)) (s:Shared) (Z:St) (H:Hp) (Q:Bool->Hp->Prop),Inv X aA Z H s->t Z H Q->wpAny (model X.prog X.w) X.A (tests cs X.env) (TP X aA Z Q) X.xe s
theorem aus:PCn X [] (λ_ H Q=>Q true H):=λ_ _ _ H _ I h=>wpAny_pure ⟨H,I,h⟩
def azn(wi1:TI)(s0:St)(g0 g1:TG)(tc:TT)(te:TE)(Q:VK)(J0:It)(H1:Hp):Prop :=
 ∃W:Nat->Nat->List V->Hp->Prop,(∃m,W 0 m [] H1)/\∀i m ks H,W i m ks H->
  (J0.stop i H/\∀p,H p=none->Q (.ref p) (upd H p (.lst ks))) \/
  (J0.go i H/\∀x H',J0.yld i H x H'->g0 x s0 H' λZ2 H2=>Ext s0 Z2/\wi1 Z2 H2 λJ1 H3=>∃V':Nat->Nat->List V->Hp->Prop,(∃n,V' 0 n ks H3)/\∀j n ks H,V' j n ks H->
   (J1.stop j H/\∃m',m'<m/\W (i+1) m' ks H) \/
   (J1.go j H/\∀y H',J1.yld j H y H'->g1 y Z2 H' λZ3 H4=>Ext Z2 Z3/\tc Z3 H4 λok H4'=>if ok=true then te Z3 H4' (λz H5=>ks.length<sizeLine/\∃n',n'<n/\V' (j+1) n' (ks++[z]) H5) else ∃n',n'<n/\V' (j+1) n' ks H4'))
noncomputable def aut(wi0 wi1:TI)(s0:St->St)(g0 g1:TG)(tc:TT)(te:TE):TE:=λZ H Q=>wi0 Z H λJ0 H1=>azn wi1 (s0 Z) g0 g1 tc te Q J0 H1
theorem aox(one:One cs)(hc:X.calm=true)(S:CSc X aB cl ts fr ix)(hi0:PI X t0 i0 wi0)
  (hg0:∀C fp s H,PG (cxC X (ts++fr) aB cl C fp s H) t0 g0) (hi1:∀C fp s H,PI (cxC X (ts++fr) aB cl C fp s H) t1 i1 wi1) (hg1:∀C fp s H,PG (cxC X (ts++fr) aB cl C fp s H) t1 g1) (ht:∀C fp s H,PCn (cxC X (ts++fr) aB cl C fp s H) cs tc) (he:∀C fp s H,PE (cxC X (ts++fr) aB cl C fp s H) aD te)
  (hs0:∀x,foldedSetIterable i0 X.env x=pure x:=by intro _;rfl) (hs1:∀env x,foldedSetIterable i1 env x=pure x:=by intro _ _;rfl)
  (use:Option (Value->Sem Unit)) (I:Inv X aA Z H s) (h:aut wi0 wi1 (jq ts.length ix) g0 g1 tc te Z H Q) (fin:a2f X aA Z use Q Qf) :
  wpAny (model X.prog X.w) X.A (comprehension (.ListComp aD [⟨t0,i0,[],0⟩,⟨t1,i1,cs,0⟩] aB pos) aB X.env ppos (newList []) false (eval i0 X.env) use) Qf X.xe s:=by
 refine wpAny_comprehension_free (use:=use) rfl hs0 S.clos S.kind S.names (thn (hi0 aA s Z H _ I h) λv s1 h1=>thn h1 λitv s2 h2=>?_);obtain⟨it,fp,tn,J,H2,e,I2,T,st2,f2,W,⟨m0,w0⟩,turn⟩:=h2;subst e;have hob:∀b∈fp,b<s2.heap.objs.size:=λb hb=>let ⟨o,e,_⟩:=T.obj _ _ st2 b hb;Heap.lt_size e;refine wpAny_newObj_type (a9k S.own S.push S.kind λh4 hns4 hc4 hsb4=>?_);dsimp only at hns4 hc4 hsb4 ⊢
 generalize hH2:s2.heap.push {cls:=.type "list",dict:=none,data:=.seq ([]:List Value).toArray}=G at hns4 hc4 hsb4 ⊢
 have hCs:G.objs.size=s2.heap.objs.size+1:=by rw[<-hH2,Heap.size_push]
 have hCle:s2.heap.objs.size<=G.objs.size:=by lia
 have hne:G.objs.size≠s2.heap.objs.size:=by lia
 have old:∀b o,s2.heap.get? b=some o->h4.get? b=some o:=λb o e=>by
  exact hsb4 b o (hH2 ▸ Heap.get?_push_of_some _ e)
 have hacc:LiA s2.heap.objs.size [] h4:=⟨[],0,hsb4 _ _ (hH2 ▸ Heap.get?_push_size _ rfl),.nil,Nat.zero_le _⟩;have K0:Inv (cxC X (ts++fr) aB cl G.objs.size fp s2 H2) [] (jq ts.length ix Z) H2 {s2 with heap:=h4} :=
  a9m S I2 f2 hob hCle old hns4 hc4 rfl rfl
 have st4:tn 0 h4:=T.keep _ _ _ st2 λb _ o e=>old b o e;have accF:s2.heap.objs.size∉fp:=λz=>Nat.lt_irrefl _ (hob _ z)
 generalize hY:cxC X (ts++fr) aB cl G.objs.size fp s2 H2=Y at K0
 have Yc:Y.calm=true:=by rw[<-hY];exact hc
 have Yp:Y.prog=X.prog:=by rw[<-hY];rfl
 have Yw:Y.w=X.w:=by rw[<-hY];rfl
 have YK:Y.K=X.K:=by rw[<-hY];rfl
 have YA:Y.A=X.A:=by rw[<-hY];rfl
 have Yn:Y.pn=[]:=by rw[<-hY];rfl
 have Ye:Y.env=compEnvC aB cl G.objs.size X.env:=by rw[<-hY];rfl
 have Yx:Y.xe=λ_ _=>False:=by rw[<-hY];rfl
 have YG0:PG Y t0 g0:=by rw[<-hY];exact hg0 _ _ _ _
 have YG1:PG Y t1 g1:=by rw[<-hY];exact hg1 _ _ _ _
 have YI1:PI Y t1 i1 wi1:=by rw[<-hY];exact hi1 _ _ _ _
 have YT:PCn Y cs tc:=by rw[<-hY];exact ht _ _ _ _
 have YE:PE Y aD te:=by rw[<-hY];exact he _ _ _ _
 have stat:∀{H':Hp},(∀b∈fp,H' b=none)->∀b∈fp,FpOk Y [] H' b:=λhn b hb=>by
  rw[<-hY];exact an4 (a5u S I2 f2 hob hCle) rfl (hn b hb) hb
 have statA:∀{H':Hp},H' s2.heap.objs.size=none->FpOk Y [] H' s2.heap.objs.size:=λhn=>by
  rw[<-hY];exact aky (a5u S I2 f2 hob hCle) rfl hn rfl (Ne.symm hne) λx c e=>ae9 I2 (S.sub x c e)
 generalize hacca:s2.heap.objs.size=ac at hacc accF statA hne hCle
 have loop:∀s4:Shared,s4={s2 with heap:=h4}->
   codeAny (model X.prog X.w) X.A (.compLoop (.ListComp aD [⟨t0,i0,[],0⟩,⟨t1,i1,cs,0⟩] aB pos) 0 (.ref it) (.ref ac) (compEnvC aB cl G.objs.size X.env))
    (compPost (model X.prog X.w) X.A X.xe use Qf (.ref ac) G.objs.size) s4:=by
  rintro s4 rfl
  refine a9y (λn s'=>∃i Z' H' ks,Inv Y [] Z' H' s'/\Ext (jq ts.length ix Z) Z'/\tn i s'.heap/\(∀b∈fp,H' b=none)/\H' ac=none /\
   LiA ac ks s'.heap/\W i n ks H') ?_ m0
   ⟨0,_,H2,[],K0,⟨rfl,λ_ _ z=>z⟩,st4,λb hb=>(f2 b hb).1,I2.hok.fresh (by lia),hacc,w0⟩
  rintro n s5 ⟨i,Z5,H5,ks,I5,x5,st5,fr5,fa5,ac5,w5⟩
  have I5':Inv Y [] (jq ts.length ix Z) H5 s5:=I5.weak x5.1.symm x5.2;have hao:∃o,s5.heap.get? ac=some o/\∀v,o.data≠.cell v:=by
   obtain⟨its,k,ho,_⟩:=ac5;exact⟨_,ho,λv z=>by cases z⟩
  have I5p:Inv Y (o9 [ac] s5.heap) (jq ts.length ix Z) H5 s5:=Inv.pinned (aA:=[]) (fp:=[ac]) I5' (λb hb=>by rw[List.mem_singleton.mp hb];exact statA fa5) (λb hb=>by rw[List.mem_singleton.mp hb];exact hao)
  have F5:∀b∈fp,FpOk Y (o9 [ac] s5.heap) H5 b:=λb hb=>(stat fr5 b hb).onL Yn (fr5 b hb) (λz=>accF (by rw[List.mem_singleton.mp z]at hb;exact hb))
  obtain⟨ao,hao1,hao2⟩:=hao;have pa:(ac,ao)∈o9 [ac] s5.heap:=gm (by simp) hao1
  rcases turn i n ks H5 w5 with⟨stop,qn⟩|⟨go,step⟩
  .rw[<-YA];refine thn (T.done Y Yp Yw YK Yc i _ s5 _ H5 _ I5p F5 st5 stop) λr s6 ⟨hr,I6⟩=>?_;subst hr;have e6:=(I6.pin (ac,ao) (List.mem_append_right _ pa)).1;have S6:LiA ac ks s6.heap:=ac5.keep λo ho=>by rw[hao1]at ho;cases ho;exact e6
   have I6':Inv (cxC X (ts++fr) aB cl G.objs.size fp s2 H2) [] (jq ts.length ix Z) H5 s6:=by rw[hY];exact I6.unpinned'
   obtain⟨m6,hn6,_⟩:=I6'.loc;rw[YA];obtain⟨its6,k6,q6,rv6,hz6⟩:=S6;refine fin ac G.objs.size s6 (upd H5 ac (.lst ks)) m6 hn6 (I2.fpOk (by lia) (by rw[di hne];exact I6'.free)) (λh' sb=>?_) (qn _ fa5)
   exact comp_back I2 f2 (by lia) (by lia) hne I6' fa5 q6 rv6 hz6 sb
  .rw[<-YA];refine thn (T.item Y Yp Yw YK Yc i _ s5 _ H5 _ I5p F5 st5 go) λr s6 ⟨u,hr,h6⟩=>?_;subst hr;refine thn h6 λ_ s7 ⟨x,H7,I7,r7,y7,st7,fr7⟩=>?_;have fa7:H7 ac=none:=(I7.pin (ac,ao) (List.mem_append_right _ pa)).2.1;have ac7:=(I7.pin (ac,ao) (List.mem_append_right _ pa)).1;have S7:LiA ac ks s7.heap:=ac5.keep λo ho=>by rw[hao1]at ho;cases ho;exact ac7
   have obj7:∀b∈ac::fp,∃o,s7.heap.get? b=some o/\∀v,o.data≠.cell v:=λb hb=>by
    rcases List.mem_cons.mp hb with e|e
    .subst e;exact⟨_,ac7,hao2⟩
    .exact T.obj _ _ st7 b e
   have I7':Inv Y (o9 (ac::fp) s7.heap) (jq ts.length ix Z) H7 s7:=by
    refine Inv.pinned (aA:=[]) (fp:=ac::fp) I7.unpinned' (λb hb=>?_) obj7
    rcases List.mem_cons.mp hb with e|e
    .subst e;exact statA fa7
    .exact stat fr7 b e
   rw[<-Ye,<-Yp,<-Yw];refine wpAny_mono (YG0 _ s7 _ H7 x u _ I7' r7 (step x H7 y7)) (λ_ s8 ⟨Z8,H8,I8,x8,q8⟩=>?_) (λ_ _ z=>by rw[Yx]at z;exact z)
   refine wpAny_mono (YI1 _ s8 _ H8 _ I8 q8) (λv8 z4 h8=>wpAny_of_eq (hs1 _ v8) (wpAny_mono h8 (λitv z6 h9=>?_) (λ_ _ z=>by rw[Yx]at z;exact z))) (λ_ _ z=>by rw[Yx]at z;exact z)
   obtain⟨it1,fp1,tn1,J1,H9,e1,I9,T1,st9,f9,V,⟨n0,v0⟩,turn1⟩:=h9;subst e1;have pin9:∀b∈ac::fp,∀o,s7.heap.get? b=some o->z6.heap.get? b=some o/\H9 b=none:=λb hb o e=>by
    obtain⟨z1,z2,_⟩:=I9.pin (b,o) (List.mem_append_right _ (gm hb e));exact⟨z1,z2⟩
   have apart:∀b∈fp1,b∉ac::fp:=λb hb z=>by
    obtain⟨o,e,_⟩:=obj7 b z;exact(f9 b hb).2.2.2.2.2 (b,o) (List.mem_append_right _ (gm z e)) rfl
   have stat1:∀{H':Hp},(∀b∈fp1,H' b=none)->∀b∈fp1,FpOk Y [] H' b:=λhn b hb=>by
    obtain⟨_,k1,k2,k3,k4,_⟩:=f9 b hb;refine⟨hn b hb,k1,k2,k3,k4,λp hp=>?_⟩;rw[Yn]at hp;exact absurd (show p∈([]:List (Addr×Obj)) from hp) (by simp)
   have S9:LiA ac ks z6.heap:=S7.keep λo ho=>(pin9 ac (by simp) o ho).1
   have inner:codeAny (model Y.prog Y.w) Y.A (.compLoop (.ListComp aD [⟨t0,i0,[],0⟩,⟨t1,i1,cs,0⟩] aB pos) 1 (.ref it1) (.ref ac) Y.env)
     (λr z7=>∃f,r=.ok f/\∃m',m'<n/\∃i Z' H' ks,Inv Y [] Z' H' z7/\Ext (jq ts.length ix Z) Z'/\tn i z7.heap/\(∀b∈fp,H' b=none)/\H' ac=none/\LiA ac ks z7.heap/\W i m' ks H') z6:=by
    refine acg one (λn s'=>∃j Z' H' ks,Inv Y [] Z' H' s'/\Ext Z8 Z'/\tn1 j s'.heap/\(∀b∈fp1,H' b=none)/\(∀b∈fp,∀o,s7.heap.get? b=some o->s'.heap.get? b=some o/\H' b=none)/\H' ac=none/\LiA ac ks s'.heap/\V j n ks H') ?_ n0
     ⟨0,_,H9,ks,I9.unpinned',⟨rfl,λ_ _ z=>z⟩,st9,λb hb=>(f9 b hb).1,λb hb=>pin9 b (List.mem_cons_of_mem _ hb),(pin9 ac (by simp) _ ac7).2,S9,v0⟩
    rintro k a5 ⟨j,τ5,G5,ks5,Q5,y5,t5,e5,o5,c5,d5,v5⟩
    have Q5':Inv Y [] Z8 G5 a5:=Q5.weak y5.1.symm y5.2;have fp5:∀b∈fp,G5 b=none:=λb hb=>by
     obtain⟨o,e,_⟩:=T.obj _ _ st7 b hb;exact(o5 b hb o e).2
    have dob:∃o,a5.heap.get? ac=some o/\∀v,o.data≠.cell v:=by
     obtain⟨its,k,ho,_⟩:=d5;exact⟨_,ho,λv z=>by cases z⟩
    have objs:∀b∈ac::fp,∃o,a5.heap.get? b=some o/\∀v,o.data≠.cell v:=λb hb=>by
     rcases List.mem_cons.mp hb with e|e
     .subst e;exact dob
     .obtain⟨o,e',d⟩:=T.obj _ _ st7 b e;exact⟨o,(o5 b e o e').1,d⟩
    have Q5p:Inv Y (o9 (ac::fp) a5.heap) Z8 G5 a5:=by
     refine Inv.pinned (aA:=[]) (fp:=ac::fp) Q5' (λb hb=>?_) objs
     rcases List.mem_cons.mp hb with e|e
     .subst e;exact statA c5
     .exact stat fp5 b e
    have FF:∀b∈fp1,FpOk Y (o9 (ac::fp) a5.heap) G5 b:=λb hb=>(f9 b hb).onL Yn (e5 b hb) (apart b hb);obtain⟨bo,hbo1,hbo2⟩:=dob;have keep6:∀{G6:Hp} {τ:St} {a6:Shared} {P:List (Addr×Obj)},Inv Y (o9 (ac::fp) a5.heap++P) τ G6 a6->(∀b∈fp,∀o,s7.heap.get? b=some o->a6.heap.get? b=some o/\G6 b=none)/\G6 ac=none/\LiA ac ks5 a6.heap:=λ{G6 τ a6 P} I6=>by
     refine⟨λb hb o e=>?_,?_,?_⟩
     .obtain⟨z1,z2,_⟩:=I6.pin (b,o) (List.mem_append_right _ (List.mem_append_left _ (gm (List.mem_cons_of_mem _ hb) (o5 b hb o e).1)));exact⟨z1,z2⟩
     .exact(I6.pin (ac,bo) (List.mem_append_right _ (List.mem_append_left _ (gm (by simp) hbo1)))).2.1
     .exact d5.keep λo ho=>by
       rw[hbo1]at ho;cases ho
       exact(I6.pin (ac,bo) (List.mem_append_right _ (List.mem_append_left _ (gm (by simp) hbo1)))).1
    rcases turn1 j k ks5 G5 v5 with⟨stop1,m',hm',w6⟩|⟨go1,step1⟩
    .refine thn (T1.done Y rfl rfl rfl Yc j _ a5 _ G5 _ Q5p FF t5 stop1) λr a6 ⟨hr,Q6⟩=>?_;subst hr;obtain⟨kk1,kk2,kk3⟩:=keep6 (P:=[]) (by rw[List.append_nil];exact Q6)
     refine⟨_,rfl,m',hm',i+1,Z8,G5,ks5,Q6.unpinned',x8,?_,fp5,c5,kk3,w6⟩;exact T.keep _ _ _ st7 λb hb o e=>(kk1 b hb o e).1
    .refine thn (T1.item Y rfl rfl rfl Yc j _ a5 _ G5 _ Q5p FF t5 go1) λr a6 ⟨u1,hr,h6'⟩=>?_;subst hr;refine thn h6' λ_ a7 ⟨y,G7,Q7,ry,yy,t7,e7⟩=>?_;obtain⟨p1,p2,p3⟩:=keep6 (P:=[]) (by rw[List.append_nil];exact Q7)
     have Q7p:Inv Y (o9 (ac::fp) a5.heap++o9 fp1 a7.heap) Z8 G7 a7:=by
      refine Inv.pinned (fp:=fp1) Q7 (λb hb=>(f9 b hb).onL Yn (e7 b hb) (apart b hb)) (T1.obj _ _ t7)
     refine wpAny_mono (YG1 _ a7 _ G7 y u1 _ Q7p ry (step1 y G7 yy)) (λ_ a8 ⟨τ8,G8,Q8,z8,q8'⟩=>?_) (λ_ _ z=>by rw[Yx]at z;exact z)
     refine wpAny_mono (YT _ a8 _ G8 _ Q8 q8') (λok b8 ⟨G8',Q8',q9⟩=>?_) (λ_ _ z=>by rw[Yx]at z;exact z)
     cases ok with
     |false =>
      rw[if_neg Bool.false_ne_true]at q9 ⊢;obtain⟨n',hn',v9⟩:=q9;obtain⟨r1,r2,r3⟩:=keep6 Q8';refine⟨n',hn',j+1,τ8,G8',_,Q8'.unpinned',z8,?_,?_,r1,r2,r3,v9⟩
      .exact T1.keep _ _ _ t7 λb hb o e=>(Q8'.pin (b,o) (List.mem_append_right _ (List.mem_append_right _ (gm hb e)))).1
      .intro b hb
       obtain⟨o,e,_⟩:=T1.obj _ _ t7 b hb;exact(Q8'.pin (b,o) (List.mem_append_right _ (List.mem_append_right _ (gm hb e)))).2.1
     |true =>
      rw[if_pos rfl]at q9 ⊢;refine wpAny_mono (YE _ b8 _ G8' _ Q8' q9) (λyv a9 ⟨z,G9,Q9,rz,few,n',hn',v9⟩=>?_) (λ_ _ z=>by rw[Yx]at z;exact z)
      obtain⟨r1,r2,its,k5,ac9,rv5,hz5⟩:=keep6 Q9;have hl:=rv5.length;refine call_meets F.slot_list_append ⟨_,ac9,rfl⟩ F.entry_list_append (F.args_list_append_2 _ _) (PySem.list_append ac its.toArray k5 yv (by rw[List.size_toArray];lia)) ⟨ac9,?_⟩
      have q:=PySem.IsL.update ac9 (λa=>a.push yv);have qo:∀b o,b≠ac->a9.heap.get? b=some o->(a9.heap.update ac (Obj.mapSeq (λa=>a.push yv))).get? b=some o:=λb o hb e=>(Heap.get?_update_other a9.heap _ (Ne.symm hb)).trans e;obtain⟨k9,q9'⟩:∃k,(a9.heap.update ac (Obj.mapSeq (λa=>a.push yv))).get? ac=some {cls:=.type "list",data:=.seq (its++[yv]).toArray k}:=⟨_,by rw[q];simp;rfl⟩
      obtain⟨a0,a1,a2,a3,a4,a5'⟩:=statA (show G9 ac=none from r2)
      have nac:∀b∈fp,b≠ac:=λb hb z=>accF (z ▸ hb);have nac1:∀b∈fp1,b≠ac:=λb hb z=>apart b hb (by rw[z];simp)
      refine⟨n',hn',j+1,τ8,G9,_,(Q9.unpinned').turned qo a0 a1 a3 a4 a5',z8,?_,?_,?_,r2,⟨_,k9,q9',rv5.append (.cons rz .nil),by rw[List.length_append,List.length_singleton];lia⟩,v9⟩
      .exact T1.keep _ _ _ t7 λb hb o e=>qo b o (nac1 b hb) (Q9.pin (b,o) (List.mem_append_right _ (List.mem_append_right _ (gm hb e)))).1
      .intro b hb
       obtain⟨o,e,_⟩:=T1.obj _ _ t7 b hb;exact(Q9.pin (b,o) (List.mem_append_right _ (List.mem_append_right _ (gm hb e)))).2.1
      .intro b hb o e
       obtain⟨z1,z2⟩:=r1 b hb o e;exact⟨qo b o (nac b hb) z1,z2⟩
   exact a9x inner (T1.self _ 0 _ _ _ st9 inner)
 exact a8n (loop _ rfl) (T.self _ 0 _ _ _ st4 (loop _ rfl))
end
end L2
namespace MI
open L2
open Classical in
noncomputable def afi(ck:Hd->Prop)(c:ST)(fe:SE)(x:D)(rd:Sd):List D->List D->Hd->R (List D)
 |[],zs,h=>if ck h then .ok zs h else .no
 |y::ys,zs,h=>if ck h then (c (some x::some y::rd) h).bind λb h1=>if b=true then ((fe (some x::some y::rd) h1).bind λd h2=>if zs.length+1<=LINE then afi ck c fe x rd ys (zs++[d]) h2 else .no) else afi ck c fe x rd ys zs h1 else .no
open Classical in
noncomputable def a4q(ck:Hd->Prop)(fj:SI)(c:ST)(fe:SE)(rd:Sd):List D->List D->Hd->R (List D)
 |[],zs,h=>if ck h then .ok zs h else .no
 |x::xs,zs,h=>if ck h then (fj (some x::none::rd) h).bind λjt h1=>(afi jt.ck c fe x rd jt.xs zs h1).bind λzs1 h2=>a4q ck fj c fe rd xs zs1 h2 else .no
noncomputable def afj(fi fj:SI)(c:ST)(fe:SE)(ix:List Nat):SE:=λτ h=>(fi τ h).bind λit h1=>(a4q it.ck fj c fe (frs' ix τ) it.xs [] h1).bind (a7m [])
noncomputable def ali:ST:=λ_ h=>.ok true h
theorem ayd{K:Fg}{E:XD}{J:It}{jt:Itm}{c:ST}{fe:SE}{x:D}{vx:V}{r:St}{rd:Sd}{k1:List D->Hd->R D}{U0:List Addr}{H0:Hp}{h0:Hd}{Q:VK}{M:List V->Hp->Prop}{ks0:List V}{zs0:List D}
  (ir:ahg K U0 H0 J jt) (rx:Rep K U0 H0 vx x) (S:SRep K U0 H0 r rd) (Rh:HRep K U0 H0 h0) (rz:Reps K U0 H0 ks0 zs0) (o:out K E (ql K) U0 H0 ((afi jt.ck c fe x rd jt.xs zs0 h0).bind k1) Q)
  (fin:∀ks zs U H h,Gr U0 H0 U H->HRep K U H h->Reps K U H ks zs->out K E (ql K) U H (k1 zs h) Q->M ks H) :
  ∃V':Nat->Nat->List V->Hp->Prop,(∃n,V' 0 n ks0 H0)/\∀j n ks H,V' j n ks H->
   (J.stop j H/\M ks H) \/
   (J.go j H/\∀y H',J.yld j H y H'->a0v 1 y (some vx::none::r) H' λZ3 H4=>L2.Ext (some vx::none::r) Z3/\lift K E a96 c Z3 H4 λok H4'=>if ok=true then lift K E (ql K) fe Z3 H4' (λz H5=>ks.length<sizeLine/\∃n',n'<n/\V' (j+1) n' (ks++[z]) H5) else ∃n',n'<n/\V' (j+1) n' ks H4'):=by
 refine⟨λj n ks H=>n=jt.xs.length-j/\j<=jt.xs.length/\∃U h zs,Gr U0 H0 U H/\HRep K U H h/\Reps K U H ks zs/\out K E (ql K) U H ((afi jt.ck c fe x rd (jt.xs.drop j) zs h).bind k1) Q,⟨_,rfl,Nat.zero_le _,U0,h0,zs0,.refl _ _,Rh,rz,o⟩,?_⟩
 rintro j n ks H ⟨rfl,hj,U,h,zs,g0,Rh,rz,o⟩
 by_cases hlt:j<jt.xs.length
 .rw[List.drop_eq_getElem_cons hlt,afi]at o
  by_cases hc:jt.ck h
  .rw[if_pos hc,R.bind_assoc]at o;obtain⟨go,yl⟩:=(ir U H h g0 Rh hc).1 j _ (List.getElem?_eq_getElem hlt);refine .inr ⟨go,λy H' yy=>?_⟩;obtain⟨g1,r1,hr1⟩:=yl y H' yy;have o':=qj o g1;have st:∀{U':List Addr} {H'':Hp},Gr U H' U' H''->SRep K U' H'' (some vx::some y::r) (some x::some jt.xs[j]::rd):=λg=>yr ((rx.mono (g0.trans g1)).mono g) (yr (r1.mono g) ((S.mono (g0.trans g1)).mono g));refine⟨⟨rfl,λi v e=>?_⟩,U,some x::some jt.xs[j]::rd,h,st (.refl _ _),hr1,bh o' λok h1 U1 H1 u g2 r2 hr2 o2=>?_⟩
   .match i,e with
    |0,e=>exact e
    |1,e=>simp at e
    |i+2,e=>simpa using e
   .have r2:u=ok:=r2;subst r2
    cases u with
    |false =>
     rw[if_neg Bool.false_ne_true]at o2 ⊢;exact⟨jt.xs.length-(j+1),by lia,rfl,hlt,U1,h1,zs,(g0.trans g1).trans g2,hr2,rz.mono (g1.trans g2),o2⟩
    |true =>
     rw[if_pos rfl]at o2 ⊢;rw[R.bind_assoc]at o2;refine⟨U1,_,h1,st g2,hr2,bh o2 λd h2 U2 H2 z g3 r3 hr3 o3=>?_⟩
     by_cases h6:zs.length+1<=LINE
     .rw[if_pos h6]at o3;have few:ks.length<sizeLine:=by have:=ll h6;rw[<-rz.len]at this;lia
      exact⟨few,jt.xs.length-(j+1),by lia,rfl,hlt,U2,h2,zs++[d],((g0.trans g1).trans g2).trans g3,hr3,(rz.mono ((g1.trans g2).trans g3)).app (.cons r3 .nil),o3⟩
     .rw[if_neg h6]at o3;exact o3.elim
  .rw[if_neg hc]at o;exact o.elim
 .have e:j=jt.xs.length:=by lia
  subst e;rw[List.drop_eq_nil_of_le (Nat.le_refl _),afi]at o
  by_cases hc:jt.ck h
  .rw[if_pos hc]at o;exact .inl ⟨(ir U H h g0 Rh hc).2,fin ks zs U H h g0 Rh rz o⟩
  .rw[if_neg hc]at o;exact o.elim
theorem auu{K:Fg}{E:XD}{J:It}{it:Itm}{fj:SI}{c:ST}{fe:SE}{r:St}{rd:Sd}{U0:List Addr}{H0:Hp}{h0:Hd}{Q:VK}
  (ir:ahg K U0 H0 J it) (S:SRep K U0 H0 r rd) (Rh:HRep K U0 H0 h0) (o:out K E (ql K) U0 H0 ((a4q it.ck fj c fe rd it.xs [] h0).bind (a7m [])) Q) :
  azn (lift K E (anf K) fj) (List.replicate 2 none++r) (a0v 0) (a0v 1) (lift K E a96 c) (lift K E (ql K) fe) Q J H0:=by
 refine⟨λi m ks H=>m=it.xs.length-i/\i<=it.xs.length/\∃U h zs,Gr U0 H0 U H/\HRep K U H h/\Reps K U H ks zs/\out K E (ql K) U H ((a4q it.ck fj c fe rd (it.xs.drop i) zs h).bind (a7m [])) Q,⟨_,rfl,Nat.zero_le _,U0,h0,[],.refl _ _,Rh,.nil,o⟩,?_⟩
 rintro i m ks H ⟨rfl,hi,U,h,zs,g0,Rh,rz,o⟩
 by_cases hlt:i<it.xs.length
 .rw[List.drop_eq_getElem_cons hlt,a4q]at o
  by_cases hc:it.ck h
  .rw[if_pos hc,R.bind_assoc]at o;obtain⟨go,yl⟩:=(ir U H h g0 Rh hc).1 i _ (List.getElem?_eq_getElem hlt);refine .inr ⟨go,λx H' y=>?_⟩;obtain⟨g1,r1,hr1⟩:=yl x H' y;have o':=qj o g1;refine⟨⟨rfl,λk v e=>?_⟩,U,some it.xs[i]::none::rd,h,yr r1 ?_,hr1,bh o' λjt h1 U1 H1 J1 g2 r2 hr2 o2=>?_⟩
   .match k,e with
    |0,e=>simp at e
    |1,e=>simp at e
    |k+2,e=>simpa using e
   .have S':=S.mono (g0.trans g1);refine⟨by simp[S'.len],λk d e=>?_⟩
    cases k with
    |zero=>simp at e
    |succ k=>simpa using S'.val k d (by simpa using e)
   .rw[R.bind_assoc]at o2;refine ayd (k1:=λks1 h2=>(a4q it.ck fj c fe rd (it.xs.drop (i+1)) ks1 h2).bind (a7m [])) r2 (r1.mono g2) (S.mono ((g0.trans g1).trans g2)) hr2 (rz.mono (g1.trans g2)) o2 λks' zs' U3 H3 h3 g3 hr3 rz3 o3=>?_;exact⟨it.xs.length-(i+1),by lia,rfl,hlt,U3,h3,zs',((g0.trans g1).trans g2).trans g3,hr3,rz3,o3⟩
  .rw[if_neg hc]at o;exact o.elim
 .have e:i=it.xs.length:=by lia
  subst e;rw[List.drop_eq_nil_of_le (Nat.le_refl _),a4q]at o
  by_cases hc:it.ck h
  .rw[if_pos hc]at o;have o1:out K E (ql K) U H (.ok (.ref h.length) (h++[.lst ([]++zs)])) Q:=o;rw[List.nil_append]at o1;exact .inl ⟨(ir U H h g0 Rh hc).2,u9 (E:=E) rz Rh o1⟩
  .rw[if_neg hc]at o;exact o.elim
section
variable{X:Cx}{E:XD}{aD t0 i0 t1 i1 cn:Expr}{aB:Scope}{pos:Pos}{cl:List (Str×Addr)}{a b:Str}{fr:List Str}{ix:List Nat}{fi fj:SI}{fe:SE}{c:ST}
theorem aoy{Z:St}{H:Hp}{Q:VK}(h:lift X.K E (ql X.K) (afj fi fj c fe ix) Z H Q):aut (lift X.K E (anf X.K) fi) (lift X.K E (anf X.K) fj) (jq 2 ix) (a0v 0) (a0v 1) (lift X.K E a96 c) (lift X.K E (ql X.K) fe) Z H Q:=by
 obtain⟨U,τ,h,Sr,Rh,o⟩:=h;refine⟨U,τ,h,Sr,Rh,bh o λit h1 U1 H1 J g1 r1 hr1 o1=>?_⟩;exact auu r1 (a1q (Sr.mono g1) ix) hr1 o1
theorem aoz:PCn X [] (lift X.K E a96 ali):=λaA s Z H Q I ⟨U,τ,h,_,Rh,o⟩=>aus aA s Z H Q I (o U H true (.refl _ _) rfl Rh)
theorem ap0(hc:X.calm=true)(S:CSc X aB cl [a,b] fr ix)(hi:MI X E t0 i0 fi)
  (hg0:∀C fp s H,PG (cxC X ([a,b]++fr) aB cl C fp s H) t0 (a0v 0)) (hj:∀C fp s H,MI (cxC X ([a,b]++fr) aB cl C fp s H) E t1 i1 fj) (hg1:∀C fp s H,PG (cxC X ([a,b]++fr) aB cl C fp s H) t1 (a0v 1)) (he:∀C fp s H,ME (cxC X ([a,b]++fr) aB cl C fp s H) E aD fe)
  (hs0:∀x,foldedSetIterable i0 X.env x=pure x:=by intro _;rfl) (hs1:∀env x,foldedSetIterable i1 env x=pure x:=by intro _ _;rfl) :
  ME X E (.ListComp aD [⟨t0,i0,[],0⟩,⟨t1,i1,[],0⟩] aB pos) (afj fi fj ali fe ix):=by
 intro aA s Z H Q I h
 rw[eval_ListComp];exact aox (.inl rfl) hc S hi hg0 hj hg1 (λ_ _ _ _=>aoz) he hs0 hs1 none I (aoy h) a6s
end
end MI
namespace MI
open L2 ZP
noncomputable def a9z(x y:D)(h:Hd):R D:=match aj3 x y h with
 |some r=>.ok (r.getD .non) h
 |none=>.no
noncomputable def a5m(f g:SE):SE:=λτ h=>(f τ h).bind λx h1=>match x with
 |.rod _ _=>(g τ h1).bind λy h2=>a9z x y h2
 |.rdT _ _=>(g τ h1).bind λy h2=>a9z x y h2
 |_=>.no
theorem ap1{X:Cx}(hu:X.A.units+64<cLine)(ha:ME X E o f)(hb:ME X E e g)(m:M1 X o "get" apos e cpos):ME X E (.Call (.Attribute o "get" apos) [e] [] cpos) (a5m f g):=by
 refine PE.weak (ai7 (u1 hu) ha hb m) ?_
 rintro Z H Q ⟨U,τ,h,S,Rh,o⟩
 refine⟨U,τ,h,S,Rh,bh o λd h1 U1 H1 v g1 r1 hr1 o1=>?_⟩;have go:∀{a:Addr} {dd:D},IsD H1 a->Rep X.K U1 H1 (.ref a) dd->out X.K E (ql X.K) U1 H1 ((g τ h1).bind λy h2=>a9z dd y h2) Q->∃a',V.ref a=V.ref a'/\IsD H1 a'/\lift X.K E (ql X.K) g Z H1 λy H2=>∃o,ad4 H2 a' y o/\Q (o.getD V.non) H2:=λ{a dd} isd r1 o1=>⟨a,rfl,isd,U1,τ,h1,S.mono g1,hr1,bh o1 λd2 h2 U2 H2 u g2 r2 hr2 o2=>by
  have r1':=r1.mono g2;unfold a9z at o2
  split at o2
  .rename_i r e;obtain⟨a',ea,q⟩:=a76 r1' r2 hr2 e;cases ea
   cases r with
   |none=>exact⟨none,q,ans o2 .non hr2⟩
   |some d=>obtain⟨w,q1,q2⟩:=q;exact⟨some w,q1,ans o2 q2 hr2⟩
  .exact o2.elim⟩
 cases r1 with
 |@rod a ob us ks xs hp ek rs=>exact go (.inl ⟨us,.inr ⟨ob,hp⟩⟩) (.rod hp ek rs) o1
 |@rdT a ob us ks xs hp ek rs=>exact go (.inr ⟨us,.inr ⟨ob,hp⟩⟩) (.rdT hp ek rs) o1
 |_=>exact o1.elim
end MI
namespace MI
open L2
section
variable{env:Env}{es xs ys:List Expr}{a b:Expr}{pos:Pos}
theorem ach{c}{k}:starEach (.Constant c k pos::es) env=(false,eval (.Constant c k pos) env)::starEach es env:=rfl
theorem aci{k}:starEach (.Tuple xs k pos::es) env=(false,eval (.Tuple xs k pos) env)::starEach es env:=rfl
theorem ap2{o}:starEach (.UnaryOp o a pos::es) env=(false,eval (.UnaryOp o a pos) env)::starEach es env:=rfl
theorem ajl{o}:starEach (.BinOp a o b pos::es) env=(false,eval (.BinOp a o b pos) env)::starEach es env:=rfl
theorem afk{ks}:starEach (.Call a xs ks pos::es) env=(false,eval (.Call a xs ks pos) env)::starEach es env:=rfl
theorem afl{x}:starEach (.Name x pos::es) env=(false,eval (.Name x pos) env)::starEach es env:=rfl
end
section
variable{env:Env}{es xs ys:List Expr}{a b:Expr}{pos:Pos}
theorem afm:starEach (.Subscript a b pos::es) env=(false,eval (.Subscript a b pos) env)::starEach es env:=rfl
end
end MI
namespace L2
open PyProof.Rows
section
variable{X:Cx}{aA:List (Addr×Obj)}{s:Shared}{Z:St}{H:Hp}{A:Around}{E:Value->Shared->Prop}
theorem auv{Q:Value->Shared->Prop}{a:Addr}{kvs:List (List Key×V)}(I:Inv X aA Z H s)(e:Rd H a (.dT kvs))(h:∀t s',Inv X aA Z H s'->Q (.int kvs.length t) s'):wpAny (model X.prog X.w) A (call (.builtin "len") [.ref a]) Q E s:=by
 obtain⟨z,hd,xs,rel,dd⟩:=a4e I.hok e;have lx:kvs.length=xs.length:=Paired.length rel;obtain⟨o,es,ep,ho,hc,hdat,he,_⟩:=dd;have les:es.size=xs.length:=by rw[<-Array.length_toList,he,List.length_map]
 have hn:=a1z;refine call_len_slot (T := "dict") (n:=(kvs.length:Int)) ⟨o,ho,hc.1⟩ F.slot_dict_len (λQ' h'=>?_) (by lia) (by lia) (h _ _ (I.tok _))
 refine call_meetsIn (S:=λ_ R s'=>s'=s/\R (.ok (.ret (.int kvs.length s.toks))) {s with toks:=s.toks+1}) F.slot_dict_len ⟨o,ho,hc.1⟩ F.entry_dict_len (F.args_dict_len_1 _) (.of_wp λA' R s' ⟨es',hr⟩=>?_) ⟨rfl,h'⟩
 subst es';show wpAny _ _ (dictSize a>>=_) _ _ _;unfold dictSize;refine wpAny_bind (wpAny_bind (wpAny_dictEntries ho hdat (wpAny_pure ?_)));show wpAny _ _ (Builtin.Dict.pendingCount a>>=_) _ _ _;refine wpAny_bind (wpAny_pendingCount_other hd (wpAny_ret_mkInt ?_));rw[Nat.add_zero,les,<-lx];exact hr
end
theorem acj{X:Cx}:CallR X (.builtin "len") (λxs H Q=>∃a,xs=[.ref a]/\((∃kvs,Rd H a (.dK kvs)/\Q (.int kvs.length) H)\/∃kvs,Rd H a (.dT kvs)/\Q (.int kvs.length) H)):=by
 intro aA s Z H xs us Q I r h
 obtain⟨a,rfl,h⟩:=h;obtain⟨u,rfl,rx⟩:=vals1 r;cases rx
 rcases h with⟨kvs,e,q⟩|⟨kvs,e,q⟩
 .exact axt I e λt s' I'=>⟨.int kvs.length,H,I',⟨t,rfl⟩,q⟩
 .exact auv I e λt s' I'=>⟨.int kvs.length,H,I',⟨t,rfl⟩,q⟩
end L2
namespace MI
open L2
noncomputable def ab4:SE:=λ_ h=>.ok (.ref h.length) (h++[.dT []])
theorem ajm{X:Cx}{E:XD}{pos:Pos}:ME X E (.Dict [] [] pos) ab4:=by
 refine PE.weak ai5 λZ H Q ⟨U,τ,h,S,Rh,o⟩=>λp hp=>?_;exact o (U++[p]) _ _ (a5y hp _) (.ref (by rw[List.getElem?_append_right (by rw[Rh.len];exact Nat.le_refl _),Rh.len];simp)) (Rh.add hp ⟨[],gh,rfl,.nil⟩)
noncomputable def a79:List D->Hd->R D
 |[.ref i],h=>(match h[i]? with|some (.dK kvs)=>.ok (.int kvs.length) h|some (.dT kvs)=>.ok (.int kvs.length) h|_=>.no)
 |_,_=>.no
theorem ajn{K:Fg}:ad5 K a79 (λxs H Q=>∃a,xs=[.ref a]/\((∃kvs,Rd H a (.dK kvs)/\Q (.int kvs.length) H)\/∃kvs,Rd H a (.dT kvs)/\Q (.int kvs.length) H)):=by
 intro E U H h xs ds Q r hr o
 cases r with
 |nil=>exact o.elim
 |cons r rs =>
  cases rs with
  |cons _ _=>exact(show False by cases r<;>exact o).elim
  |nil =>
   cases r with
   |@ref p j hp =>
    obtain⟨ob,e1,e2⟩:=hr.at hp
    cases ob with
    |dK kvs=>simp only[a79,e1]at o;obtain⟨us,h3,h4⟩:=e2;exact⟨p,rfl,.inl ⟨us,.inl h3,by rw[show us.length=kvs.length by simpa using congrArg List.length h4.1];exact ans o (.int _) hr⟩⟩
    |dT kvs=>simp only[a79,e1]at o;obtain⟨us,h3,h4⟩:=e2;exact⟨p,rfl,.inr ⟨us,.inl h3,by rw[show us.length=kvs.length by simpa using congrArg List.length h4.1];exact ans o (.int _) hr⟩⟩
    |lst _=>simp only[a79,e1]at o;exact o.elim
    |ins _ _=>simp only[a79,e1]at o;exact o.elim
   |_=>exact o.elim
theorem alj{h:Hd}{i:Nat}{kvs:List (List Key×D)}(e:h[i]? = some (.dT kvs)):a79 [.ref i] h=.ok (.int kvs.length) h:=by unfold a79;simp only[e]
end MI
namespace K30
open L2 MI
noncomputable def a01:SE :=
 (sA vf (aj (sV 0) (aj (sV 1) bj)))
noncomputable def yw:SS :=
 (dw (iz 1 (sA oh (aj (s2 gIx (sV 0) (sI 1)) bj)))
 (a06 (afj (sRg a0k (aj (sV 1) bj)) (sRg a07 (aj (s2 j9 (sV 0) (sI 1)) (aj (sV 2) bj))) ali a01 [1])))
noncomputable def a02(aa:SF):SE :=
 (sV 0)
noncomputable def ph(aa:SF):ST :=
 (sT (s2 hEq (sV 1) (sV 2)))
noncomputable def m7(aa:SF):SS :=
 (dw (iz 7 (sZ (zu (a3m (sV 3)) (tN 2) (ph aa) (a02 aa) [6])))
 (sIf (sOr (sT (s2 hEq (sA oh (aj (sV 7) bj)) (sI 0))) (ac4 (sT (s2 gLe (s2 j9 (sA oh (aj (sV 3) bj)) (sA oh (aj (sV 1) bj))) (sI 32))) (sT (s2 hEq (sA (gq false 2 aa) (aj (sV 0) (aj (sI 4) bj))) (sI 0)))))
 (dw (vg (sML a3k (sV 5) (aj (sA oh (aj (sV 3) bj)) bj)))
 (vg (sML a3k (sV 3) (aj (sV 6) bj))))
 (vg (sML a3k (sV 5) (aj (s2 gIx (sV 7) (sA (gq false 2 aa) (aj (sV 0) (aj (sA oh (aj (sV 7) bj)) bj)))) bj)))))
noncomputable def uy(aa:SF):ST :=
 (sT (s2 gLt (sA oh (aj (sV 4) bj)) (sA oh (aj (sV 3) bj))))
noncomputable def uz(aa:SF):SS :=
 (dw (iz 5 (sA a2h bj))
 (dw (a2x (sIt (s2 gIx (sV 1) (s2 gIx (sV 3) (sA oh (aj (sV 4) bj))))) (kN 6) (m7 aa))
 (vg (sML a3k (sV 4) (aj (sV 5) bj)))))
noncomputable def a03(aa:SF):SE :=
 (s2 gIx (sV 1) (sV 0))
noncomputable def yx(aa:SF):SS :=
 (dw (iz 3 (sA a2h (aj (sI 0) bj)))
 (dw (iz 4 (sA a2h bj))
 (dw (sWh (uy aa) (uz aa) 100000)
 (a06 (sA vf (aj (sV 4) (aj (sZ (wj (sIt (sV 3)) t1 (a03 aa) [2])) bj)))))))
noncomputable def vm(nu:SF)(mz:SF)(iu:SF)(n6:SF)(aa:SF)(jy:SF):SS :=
 (dw (iz 1 (sA (gq false 1 jy) (aj (sV 0) bj)))
 (dw (iz 2 (s2 j9 (sI 1) (sA (gq false 2 aa) (aj (sV 0) (aj (sI 5) bj)))))
 (dw (sIf (sT (s2 hEq (sA (gq false 2 aa) (aj (sV 0) (aj (sI 6) bj))) (sI 0)))
 (iz 2 (s2 j9 (sI 1) (sA (gq false 2 aa) (aj (sV 0) (aj (sI 32) bj)))))
 sNx)
 (dw (a7l (sA (gq false 3 n6) (aj (sV 0) (aj (sA (gq false 3 nu) (aj (sV 0) (aj (sA oh (aj (sV 1) bj)) (aj (sV 2) bj)))) (aj (sA (gq false 2 mz) (aj (sV 0) (aj (sV 2) bj))) bj)))) (a2a 2 (g8 (kN 3) (g8 (kN 4) a2j))))
 (dw (a7l (sA (gq false 3 iu) (aj (sV 0) (aj (sV 3) (aj (sV 4) bj)))) (a2a 2 (g8 (kN 5) (g8 (kN 6) a2j))))
 (a06 (sA vf (aj (sV 1) (aj (sV 5) (aj (sV 6) bj))))))))))
noncomputable def uh:SS :=
 (sIf (sT (s2 (a3r true) (sV 5) (sV 1)))
 (dw (a3l (s2 j9 (s2 a0y (sV 1) (s2 gIx (sV 2) (sV 3))) (sV 4)) (sV 1) (sV 5))
 (vg (sML a3k (sV 2) (aj (sV 5) bj))))
 sNx)
noncomputable def yj:ST :=
 (sT (s2 gLt (sV 3) (sA oh (aj (sV 2) bj))))
noncomputable def ym:SS :=
 (dw (a2x (a9r (s2 gIx (sV 0) (sI 0)) (s2 gIx (s2 gIx (sV 0) (sI 1)) (s2 gIx (sV 2) (sV 3)))) (a2a 2 (g8 (kN 4) (g8 (kN 5) a2j))) uh)
 (ad6 3 a5l (sI 1)))
noncomputable def a2s:SE :=
 (s2 a0y (sV 1) (sV 0))
noncomputable def a0g:SS :=
 (dw (iz 1 (s2 gD1 (sI 0) (sC (.str ""))))
 (dw (iz 2 (sA a2h (aj (sI 0) bj)))
 (dw (iz 3 (sI 0))
 (dw (sWh yj ym 100000)
 (a06 (wj (sRg a0k (aj (sA oh (aj (sV 2) bj)) bj)) t1 a2s [1]))))))
noncomputable def yo:SS :=
 (sIf (sT (s2 (a3r false) (sA vf (aj (sA a0x (aj (sV 4) (aj (sV 5) bj))) (aj (sA a0w (aj (sV 4) (aj (sV 5) bj))) bj))) (sV 1)))
 (a06 (sC (.bl true)))
 sNx)
noncomputable def a0h:SS :=
 (dw (a2x (a9r (s2 gIx (sV 0) (sV 2)) (s2 gIx (sV 0) (sV 3))) (a2a 2 (g8 (kN 4) (g8 (kN 5) a2j))) yo)
 (a06 (sC (.bl false))))
noncomputable def pq(bf:SF):SS :=
 (dw (vg (sML a3k (sV 3) (aj (sA vf (aj (sV 4) (aj (sV 5) bj))) bj)))
 (sIf (sT (s2 hNe (s2 gIx (sV 1) (sV 4)) (s2 gIx (sV 1) (sV 5))))
 (a3l (sI 0) (sV 2) (sA vf (aj (sV 4) (aj (sV 5) bj))))
 sNx))
noncomputable def qb(bf:SF):SS :=
 (a2x (sRg a07 (aj (s2 j9 (sV 4) (sI 1)) (aj (sA oh (aj (sV 0) bj)) bj))) (kN 5) (pq bf))
noncomputable def a04(bf:SF):SE :=
 (sV 0)
noncomputable def qd(bf:SF):ST :=
 (sT (s2 (a3r true) (sV 0) (sV 1)))
noncomputable def a05(bf:SF):SE :=
 (sV 0)
noncomputable def qe(bf:SF):ST :=
 (a5j (sA (gq false 4 bf) (aj (sV 1) (aj (sV 2) (aj (s2 gIx (sV 0) (sI 0)) (aj (s2 gIx (sV 0) (sI 1)) bj))))))
noncomputable def v4(bf:SF):SS :=
 (a3l (sV 6) (sV 2) (sV 9))
noncomputable def v6(bf:SF):ST :=
 (sT (s2 gLt (sV 7) (sA a79 (aj (sV 2) bj))))
noncomputable def qg(bf:SF):SS :=
 (dw (iz 7 (sA a79 (aj (sV 2) bj)))
 (dw (ad6 6 a5l (sI 1))
 (dw (iz 3 (zu (sIt (sV 3)) t1 (qd bf) (a04 bf) [2]))
 (dw (iz 8 (sZ (zu (sIt (sV 3)) t1 (qe bf) (a05 bf) [0,2])))
 (a2x (sIt (sV 8)) (kN 9) (v4 bf))))))
noncomputable def yz(bf:SF):SS :=
 (dw (iz 2 ab4)
 (dw (iz 3 (sA a2h bj))
 (dw (a2x (sRg a0k (aj (sA oh (aj (sV 0) bj)) bj)) (kN 4) (qb bf))
 (dw (iz 6 (sI 0))
 (dw (iz 7 (s1 ad8 (sI 1)))
 (dw (sWh (v6 bf) (qg bf) 100000)
 (a06 (sV 2))))))))
noncomputable def lq:SS :=
 (dw (iz 11 (s2 gIx (s2 gIx (sV 5) (sV 2)) (sV 9)))
 (dw (iz 12 (s2 gIx (s2 gIx (sV 5) (sV 3)) (sV 9)))
 (sIf (sT (s2 hEq (a5m (sV 1) (sA vf (aj (sA a0x (aj (sV 11) (aj (sV 12) bj))) (aj (sA a0w (aj (sV 11) (aj (sV 12) bj))) bj)))) (s2 a6h (sV 8) (sI 1))))
 (dw (iz 7 (s2 j9 (sV 7) (sV 10)))
 (dw (iz 2 (sV 11))
 (dw (iz 3 (sV 12))
 sBk)))
 sNx)))
noncomputable def qp:SS :=
 (a2x (a3m (sV 4)) (a2a 2 (g8 (kN 9) (g8 (kN 10) a2j))) lq)
noncomputable def ul:SS :=
 (dw (a7l (sV 0) (a2a 3 (g8 (kN 4) (g8 (kN 5) (g8 (kN 6) a2j)))))
 (dw (sIf (sT (s2 (a3r true) (sA vf (aj (sA a0x (aj (sV 2) (aj (sV 3) bj))) (aj (sA a0w (aj (sV 2) (aj (sV 3) bj))) bj))) (sV 1)))
 (a06 (sC .non))
 sNx)
 (dw (iz 7 (sC (.str "")))
 (dw (a2x (sRg a9v (aj (s2 a0y (sV 1) (sA vf (aj (sA a0x (aj (sV 2) (aj (sV 3) bj))) (aj (sA a0w (aj (sV 2) (aj (sV 3) bj))) bj)))) (aj (sI 0) (aj (s1 ad8 (sI 1)) bj)))) (kN 8) qp)
 (a06 (sV 7))))))
noncomputable def vo:SS :=
 (a06 (a1c (sA a0e (aj (sV 0) (aj (sC (.ty "int")) bj))) (a1c (a8b (sA a0e (aj (sV 0) (aj (sC (.ty "bool")) bj)))) (sCh gLe gLe (sV 1) (sV 0) (sV 2)))))
end K30
namespace L2
open PyProof.Rows
section
variable{prog:Program}{w:World}{A:Around}{R:Result->Shared->Prop}{s:Shared}{ek ev target aF:Expr}{aB:Scope}{pos:Pos}{it:Value}{N:Addr}{env:Env}
theorem ack{cnd:Option Expr}:(forIn cnd.toList true λc r=>if r=true then do let ok <-isTrue c env (eval c env);pure (ForInStep.yield ok) else pure (ForInStep.yield r))=runC cnd env:=by
 cases cnd with
 |none=>rfl
 |some c=>simp[runC]
theorem aye{α:Type}{M:Model}{m m':Sem α}{Q:α->Shared->Prop}{E:Value->Shared->Prop}(e:m=m')(h:wpAny M A m' Q E s):wpAny M A m Q E s:=e ▸ h
theorem ap3{cnd:Option Expr}{E:Value->Shared->Prop}(no:∀v s,E v s->False)(J:Nat->Shared->Prop)
  (step:∀m z,J m z->wpAny (model prog w) A (pyNext it) (λgot z1=>match got with
   |none=>R (.ok .next) z1
   |some v=>wpAny (model prog w) A (letOwnedTupleGo target it v) (λ_ z2=>wpAny (model prog w) A (assign target env v) (λ_ z3=>wpAny (model prog w) A (runC cnd env) (λok z3'=>if ok=true then wpAny (model prog w) A (eval ek env) (λkv z4 =>
     wpAny (model prog w) A (eval ev env) (λvv z5=>wpAny (model prog w) A (dictSet N kv vv) (λ_ z6=>∃m',m'<m/\J m' z6) E z5) E z4)
     E z3' else ∃m',m'<m/\J m' z3') E z3) E z2) E z1) E z)
  (m:Nat) (j0:J m s):codeAny (model prog w) A (.compLoop (.DictComp ek ev [⟨target,aF,cnd.toList,0⟩] aB pos) 0 it (.ref N) env) R s:=by
 refine codeAny_loop rfl J (λm z hj=>(wpAny_noted ?_:wpAny _ _ ((compTurn (.DictComp ek ev [⟨target,aF,cnd.toList,0⟩] aB pos) 0 it (.ref N) env).onRaise _) _ _ z)) m j0;rw[compTurn_dict];refine wpAny_bind (wpAny_standAt (wpAny_bind (wpAny_mono (step m z hj) (λgot z1 h1=>?_) λ_ _ e=>(no _ _ e).elim)))
 match got,h1 with
 |none,h1=>exact wpAny_pure h1
 |some v,h1 =>
  refine wpAny_bind (wpAny_mono h1 (λ_ z2 h2=>wpAny_bind (wpAny_mono h2 (λ_ z3 h3=>wpAny_bind (aye ack (wpAny_mono h3 (λok z3' h3'=>?_) λ_ _ e=>(no _ _ e).elim))) λ_ _ e=>(no _ _ e).elim)) λ_ _ e=>(no _ _ e).elim)
  match ok,h3' with
  |true,h3' =>
   rw[if_pos rfl]at h3';exact wpAny_bind (wpAny_bind (wpAny_mono h3' (λkv z4 h4=>wpAny_bind (wpAny_holding (wpAny_mono h4 (λvv z5 h5=>wpAny_bind (wpAny_standAt (wpAny_holding (wpAny_mono h5 (λ_ z6 h6=>wpAny_pure ⟨rfl,h6⟩) λ_ _ e=>(no _ _ e).elim)))) λ_ _ e=>(no _ _ e).elim))) λ_ _ e=>(no _ _ e).elim))
  |false,h3' =>
   rw[if_neg Bool.false_ne_true]at h3';exact wpAny_pure ⟨rfl,h3'⟩
end
section
variable{X:Cx}{aA:List (Addr×Obj)}{Z:St}{H:Hp}{s:Shared}{a:Addr}{y v:V}{u r:Value}{A:Around}{E:Value->Shared->Prop}
theorem afn{H':Hp}{Q:Unit->Shared->Prop}(hu:A.units+1<cLine)(I:Inv X aA Z H s)(g:aqj H a y v H')(ry:RelV y u)(rv:RelV v r)(h:∀s',Inv X aA Z H' s'->Q () s') :
  wpAny (model X.prog X.w) A (dictSet a u r) Q E s:=by
 rcases g with⟨kvs,k,e,ey,l,eH⟩|⟨kvs,k,b,e,ey,eb,l,eH⟩
 .subst ey eH;obtain⟨z,hd,vs,rel,dd⟩:=amw I.hok e;have hz:vs.length<=sizeLine:=by rw[<-rel.length];exact z
  have hl:(putK kvs k v).length<=sizeLine:=by have:=qt kvs k v;lia
  refine wpAny_dictSet_pairs (hsz:=hz) (a83 ry) dd λh' dd' hs=>h _ ?_;have he:∃q,h'.get? a=some q:=let ⟨q,_,_,hq,_⟩:=dd'; ⟨q,hq⟩;exact a2e I (by rw[e];exact True.intro) hs he (ae3 hl hd (rel.put k rv) dd')
 .subst ey eH
  cases (show u=Value.ref b from ry)
  obtain⟨z,hd,xs,rel,dd⟩:=ae1 I.hok e;have hz:xs.length<=sizeLine:=by rw[<-Paired.length rel];exact z
  have hl:(putK kvs k v).length<=sizeLine:=by have:=qt kvs k v;lia
  refine wpAny_dictSet_heap (hsz:=hz) (Nat.lt_of_succ_lt hu) (a3h I.hok eb) dd λh' dd' hs=>h _ ?_;obtain⟨q,es,ep,hq,h2,h3,h4,_,h5⟩:=dd';refine a2e I (by rw[e];exact True.intro) hs ⟨q,hq⟩ ⟨hl,hd,_,(rel.put k eb rv).keeps λc ys ec=>?_,q,es,ep,hq,h2,h3,h4,h5⟩
  rw[di (adb ec e (λz=>nomatch z))];exact ec
theorem acl{Y:Cx}{C:Addr}{fp:List Addr}{H':Hp}{Z':St}{s':Shared}{h':Heap}(I:Inv X aA Z H s)
  (hf:∀b∈fp,FpOk X aA H b) (hC:s.heap.objs.size<=C)
  (q:Y.prog=X.prog/\Y.w=X.w/\Y.fs=frs X.stack/\Y.ex=fp/\Y.env.locals=C/\Y.s₀=s/\Y.H₀=H) (J:Inv Y [] Z' H' s') (sb:Heap.SameBut C s'.heap h') :
  Inv X aA Z H' {s' with heap:=h' }:=by
 have k:∀b o,b≠C->s'.heap.get? b=some o->h'.get? b=some o:=λb o hb e=>sb.extBut b o hb e;have old:∀b o,s.heap.get? b=some o->b≠C:=λb o e=>Nat.ne_of_lt (Nat.lt_of_lt_of_le (Heap.lt_size e) hC);obtain⟨q1,q2,q3,q4,q5,q6,q7⟩:=q;have u0:=J.base;rw[q3,q4,q6,q7]at u0;have fC:=J.free;rw[q5]at fC;have jh:=J.hok;rw[q1,q2]at jh;have u:Un (frs X.stack) fp H H' s.heap h':=by
  refine⟨λb o e n' hb hx=>k b o (old b o e) (u0.keep b o e n' hb hx),λb o e n' hb hx=>?_,u0.free,λb o e hx=>?_,u0.tups,u0.frzs,u0.tbls⟩
  .obtain⟨sl,e1⟩:=u0.slot b o e n' hb hx;exact⟨sl,k b _ (old b o e) e1⟩
  .obtain⟨o',e1⟩:=u0.there b o e hx;exact⟨o',k b _ (old b o e) e1⟩
 have hok:HOk X.prog X.w H' h':=λb o e =>
  (jh b o e).stay (λc v hc q=>k c v (by
   rcases hc with z|z
   .rw[z];exact dq e fC
   .exact dq z fC) q) (λc q=>q) λc xs q=>q
 have J':=I.call (g':=s'.gens) (t':=s'.toks) (d':=s'.drawn) (ch:=fp) u hok J.bare λb hb=>⟨(hf b hb).2.2.2.1,(hf b hb).2.1,(hf b hb).2.2.2.2.1,(hf b hb).2.2.2.2.2⟩;have eo:=J.os;rw[q6]at eo;obtain⟨hp,g,d,t,o⟩:=s';have eo':o=s.os:=eo;subst eo';exact J'
end
def dcW(p:Addr)(J:It)(s0:St)(g:TG)(tc:TT)(tk tv:TE)(Q:VK)(H1:Hp):Prop:=∃W:Nat->Nat->Hp->Prop,(∃m,W 0 m H1)/\∀i m H,W i m H->
 (J.stop i H/\Q (.ref p) H) \/
 (J.go i H/\∀x H',J.yld i H x H'->g x s0 H' λZ2 H2=>Ext s0 Z2/\tc Z2 H2 λok H2'=>if ok=true then tk Z2 H2' (λy H3=>tv Z2 H3 λv H4=>∃H5,aqj H4 p y v H5/\∃m',m'<m/\W (i+1) m' H5) else ∃m',m'<m/\W (i+1) m' H2')
noncomputable def afo(o0:HO)(wi:TI)(s0:St->St)(g:TG)(tc:TT)(tk tv:TE):TE:=λZ H Q=>wi Z H λJ H1=>∀p,H1 p=none->dcW p J (s0 Z) g tc tk tv Q (upd H1 p o0)
theorem acn{Y:Cx}{tg aF ek ev:Expr}{aB:Scope}{pos:Pos}{g:TG}{tc:TT}{tk tv:TE}{R:Result->Shared->Prop}{m0:Nat}{cnd:Option Expr}{N it:Addr}{fp:List Addr}{tn:Nat->Heap->Prop}{J:It}{Z0:St}{H2:Hp}{s4:Shared}{W:Nat->Nat->Hp->Prop}{Q:VK}(hc:Y.calm=true)(hu:Y.A.units+1<cLine)(no:∀v s,Y.xe v s->False)(hp0:Y.pn=[])(T:Turn Y.prog Y.w Y.K tg J fp it tn)
  (stat:∀{H':Hp},(∀b∈fp,H' b=none)->∀b∈fp,FpOk Y [] H' b) (hg:PG Y tg g) (hk:PE Y ek tk) (hv:PE Y ev tv) (ht:PTO Y cnd tc)
  (turn:∀i m H,W i m H->(J.stop i H/\Q (.ref N) H) \/
   (J.go i H/\∀x H',J.yld i H x H'->g x Z0 H' λZ2 H2=>Ext Z0 Z2/\tc Z2 H2 λok H2'=>if ok=true then tk Z2 H2' (λy H3=>tv Z2 H3 λv H4=>∃H5,aqj H4 N y v H5/\∃m',m'<m/\W (i+1) m' H5) else ∃m',m'<m/\W (i+1) m' H2'))
  (w0:W 0 m0 H2) (K0:Inv Y [] Z0 H2 s4) (st4:tn 0 s4.heap) (f0:∀b∈fp,H2 b=none)
  (fin:∀s6 H6,Inv Y [] Z0 H6 s6->Q (.ref N) H6->R (.ok .next) s6) :
  codeAny (model Y.prog Y.w) Y.A (.compLoop (.DictComp ek ev [⟨tg,aF,cnd.toList,0⟩] aB pos) 0 (.ref it) (.ref N) Y.env) R s4:=by
 refine ap3 no (λn s'=>∃i Z' H',Inv Y [] Z' H' s'/\Ext Z0 Z'/\tn i s'.heap/\(∀b∈fp,H' b=none)/\W i n H') ?_ m0
  ⟨0,_,H2,K0,⟨rfl,λ_ _ z=>z⟩,st4,f0,w0⟩
 rintro n s5 ⟨i,Z5,H5,I5,x5,st5,fr5,w5⟩
 have I5':Inv Y [] Z0 H5 s5:=I5.weak x5.1.symm x5.2;have FB:∀b∈fp,FpOk Y [] H5 b:=stat fr5
 rcases turn i n H5 w5 with⟨stop,qn⟩|⟨go,step⟩
 .refine thn (T.done Y rfl rfl rfl hc i [] s5 _ H5 _ I5' FB st5 stop) ?_
  rintro r s6 ⟨hr,I6⟩
  subst hr;exact fin s6 H5 I6 qn
 .refine thn (T.item Y rfl rfl rfl hc i [] s5 _ H5 _ I5' FB st5 go) ?_
  rintro r s6 ⟨u,hr,h6⟩
  subst hr;refine thn h6 ?_
  rintro _ s7 ⟨x,H7,I7,r7,y7,st7,fr7⟩
  have I7':Inv Y (o9 fp s7.heap) Z0 H7 s7:=by
   show Inv Y ([]++o9 fp s7.heap) _ _ _;exact Inv.pinned I7.unpinned' (λb hb=>stat fr7 b hb) λb hb=>T.obj _ _ st7 b hb
  have keep:∀{Z':St} {H9:Hp} {s9:Shared},Inv Y (o9 fp s7.heap) Z' H9 s9->∀b∈fp,(∀o,s7.heap.get? b=some o->s9.heap.get? b=some o)/\H9 b=none:=λI9 b hb=>by
   obtain⟨o,e,_⟩:=T.obj _ _ st7 b hb;obtain⟨z1,z2,_⟩:=I9.pin (b,o) (List.mem_append_right _ (gm hb e));exact⟨λo' e'=>by rw[e]at e';cases e';exact z1,z2⟩
  refine thn (hg _ s7 _ H7 x u _ I7' r7 (step x H7 y7)) ?_
  rintro _ s8 ⟨Z8,H8,I8,x8,q8⟩
  refine thn (ht _ s8 _ H8 _ I8 q8) ?_
  rintro ok s8' ⟨H8',I8',q8'⟩
  cases ok with
  |false =>
   rw[if_neg Bool.false_ne_true]at q8' ⊢;obtain⟨m',hm',w9⟩:=q8';have k9:=keep I8';exact⟨m',hm',i+1,Z8,H8',I8'.unpinned',x8,T.keep _ _ _ st7 λb hb o e=>(k9 b hb).1 o e,λb hb=>(k9 b hb).2,w9⟩
  |true =>
   rw[if_pos rfl]at q8' ⊢;refine thn (hk _ s8' _ H8' _ I8' q8') ?_
   rintro kv s9 ⟨y,H9,I9,r9,q9⟩
   refine thn (hv _ s9 _ H9 _ I9 q9) ?_
   rintro vv s10 ⟨v,H10,I10,r10,H11,g11,m',hm',w11⟩
   have I10':Inv Y (o9 fp s7.heap) Z8 H10 s10:=I10;refine afn hu I10' g11 r9 r10 λs11 I11=>?_;have k11:=keep I11;exact⟨m',hm',i+1,Z8,H11,I11.unpinned',x8,T.keep _ _ _ st7 λb hb o e=>(k11 b hb).1 o e,λb hb=>(k11 b hb).2,w11⟩
theorem afp{elt_k elt_v tg aF:Expr}{cnd:Option Expr}{aB:Scope}{pos ppos:Pos}{cl:List (Str×Addr)}{tt:Option Str}{ts fr:List Str}{ix:List Nat}{wi:TI}{g:TG}{tc:TT}{tk tv:TE}{o0:HO}(hc:X.calm=true)(hu:X.A.units+1<cLine)(S:CSg X aB cl tt ts fr ix)(hi:PI X tg aF wi)
  (hg:∀C fp s H,PG (cxG X (ts++fr) aB cl tt C fp s H) tg g) (hk:∀C fp s H,PE (cxG X (ts++fr) aB cl tt C fp s H) elt_k tk) (hv:∀C fp s H,PE (cxG X (ts++fr) aB cl tt C fp s H) elt_v tv) (ht:∀C fp s H,PTO (cxG X (ts++fr) aB cl tt C fp s H) cnd tc) (hs:∀x,foldedSetIterable aF X.env x=pure x)
  (h0:∀(H:Hp) (h:Heap),sysModules<h.objs.size->ObjOk X.prog X.w H (h.push {cls:=.type "dict",data:=.dict #[]}) h.objs.size o0)
  (use:Option (Value->Sem Unit)) {aA:List (Addr×Obj)} {s:Shared} {Z:St} {H:Hp} {Q:VK} {Qf:Value->Shared->Prop} (I:Inv X aA Z H s) (h:afo o0 wi (jq ts.length ix) g tc tk tv Z H Q) (fin:a2f X aA Z use Q Qf) :
  wpAny (model X.prog X.w) X.A (comprehension (.DictComp elt_k elt_v [⟨tg,aF,cnd.toList,0⟩] aB pos) aB X.env ppos newDict false (eval aF X.env) use) Qf X.xe s:=by
 refine wpAny_comprehension_free (use:=use) rfl hs S.clos S.kind S.names (thn (hi aA s Z H _ I h) λv s1 h1=>thn h1 λitv s2 h2=>?_);obtain⟨it,fp,tn,J,H2,e,I2,T,st2,f2,h2⟩:=h2;subst e;have pn:H2 s2.heap.objs.size=none:=I2.hok.fresh (Nat.le_refl _);obtain⟨W,⟨m0,w0⟩,turn⟩:=h2 s2.heap.objs.size pn;have hob:∀b∈fp,b<s2.heap.objs.size:=λb hb=>let ⟨o,e,_⟩:=T.obj _ _ st2 b hb;Heap.lt_size e;refine wpAny_newObj_type (a9k S.own S.push S.kind λh4 hns4 hc4 hsb4=>?_);dsimp only at hns4 hc4 hsb4 ⊢;have I3:Inv X aA Z (upd H2 s2.heap.objs.size o0) {s2 with heap:=s2.heap.push {cls:=.type "dict",dict:=none,data:=.dict #[]} } :=
  I2.laid (a:=s2.heap.objs.size) (o:=o0) (t':=s2.toks) (λ_ _ q=>Heap.get?_push_of_some _ q) (Nat.le_refl _) (h0 _ s2.heap I2.big)
 have pz:∀b o,s2.heap.get? b=some o->(s2.heap.push {cls:=.type "dict",dict:=none,data:=.dict #[]}).get? b=some o:=λb o e=>Heap.get?_push_of_some _ e;have gs:(s2.heap.push {cls:=.type "dict",dict:=none,data:=.dict #[]}).objs.size=s2.heap.objs.size+1:=Heap.size_push _ _
 generalize hG:s2.heap.push {cls:=.type "dict",dict:=none,data:=.dict #[]}=G at hns4 hc4 hsb4 I3 pz gs ⊢
 have ne:∀b∈fp,b≠s2.heap.objs.size:=λb hb=>Nat.ne_of_lt (hob b hb);have f3:∀b∈fp,FpOk X aA (upd H2 s2.heap.objs.size o0) b:=λb hb=>⟨by rw[di (ne b hb)];exact(f2 b hb).1,(f2 b hb).2⟩
 have hob3:∀b∈fp,b<G.objs.size:=λb hb=>Nat.lt_of_lt_of_le (hob b hb) (by rw[gs];exact Nat.le_succ _)
 have K0:Inv (cxG X (ts++fr) aB cl tt G.objs.size fp {s2 with heap:=G} (upd H2 s2.heap.objs.size o0)) [] (jq ts.length ix Z) (upd H2 s2.heap.objs.size o0) {s2 with heap:=h4} :=
  a9m S I3 f3 hob3 (Nat.le_refl _) hsb4 hns4 hc4 rfl rfl
 have st4:tn 0 h4:=T.keep _ _ _ st2 λb _ o e=>hsb4 b o (pz b o e);have loop:codeAny (model X.prog X.w) X.A (.compLoop (.DictComp elt_k elt_v [⟨tg,aF,cnd.toList,0⟩] aB pos) 0 (.ref it) (.ref s2.heap.objs.size) (compEnvC aB (ai8 tt (G.objs.size+1) cl) G.objs.size X.env))
   (compPost (model X.prog X.w) X.A X.xe use Qf (.ref s2.heap.objs.size) G.objs.size) {s2 with heap:=h4} :=
  acn (Y:=cxG X (ts++fr) aB cl tt G.objs.size fp {s2 with heap:=G} (upd H2 s2.heap.objs.size o0)) hc hu (λ_ _ h=>h) rfl T
   (λhn b hb=>an4 (a5u S I3 f3 hob3 (Nat.le_refl _)) rfl (hn b hb) hb) (hg _ _ _ _) (hk _ _ _ _) (hv _ _ _ _) (ht _ _ _ _) turn w0 K0 st4 (λb hb=>(f3 b hb).1) λs6 H6 I6 qn=>by
   obtain⟨m6,hn6,_⟩:=I6.loc;exact fin _ _ s6 _ m6 hn6 (I3.fpOk (Nat.le_refl _) I6.free) (λh' sb=>acl (Y:=cxG X (ts++fr) aB cl tt G.objs.size fp {s2 with heap:=G} (upd H2 s2.heap.objs.size o0)) I3 f3 (Nat.le_refl _) ⟨rfl,rfl,rfl,rfl,rfl,rfl,rfl⟩ I6 sb) qn
 exact codeAny_compStart_dict loop (T.self _ 0 _ _ _ st4 loop)
theorem ajo{X:Cx}{ek ev tg aF:Expr}{cnd:Option Expr}{aB:Scope}{pos pos' spos:Pos}{i:Nat}{x:Str}{cl:List (Str×Addr)}{tt:Option Str}{ts fr:List Str}{ix:List Nat}{wi:TI}{g:TG}{tc:TT}{tk tv:TE}{o0:HO}(hN:X.N.Nodup)(hi':X.N[i]? = some x)(hx:Loc X.env.scope x)(hc:X.calm=true)(hu:X.A.units+1<cLine)(S:CSg X aB cl tt ts fr ix)(hi:PI X tg aF wi)
  (hg:∀C fp s H,PG (cxG X (ts++fr) aB cl tt C fp s H) tg g) (hk:∀C fp s H,PE (cxG X (ts++fr) aB cl tt C fp s H) ek tk) (hv:∀C fp s H,PE (cxG X (ts++fr) aB cl tt C fp s H) ev tv) (ht:∀C fp s H,PTO (cxG X (ts++fr) aB cl tt C fp s H) cnd tc)
  (h0:∀(H:Hp) (h:Heap),sysModules<h.objs.size->ObjOk X.prog X.w H (h.push {cls:=.type "dict",data:=.dict #[]}) h.objs.size o0)
  (hs:∀x,foldedSetIterable aF X.env x=pure x) (hsw:swapsWith (.DictComp ek ev [⟨tg,aF,cnd.toList,0⟩] aB pos) (some (.Name x pos')) spos.line X.env=pure true) (hf:X.fn x=true\/X.env.scope.names.lookup x=some .local) :
  PS X (.Assign [.Name x pos'] (.DictComp ek ev [⟨tg,aF,cnd.toList,0⟩] aB pos) spos) (arc (afo o0 wi (jq ts.length ix) g tc tk tv) (a0v i)):=by
 intro aA s Z H D I h
 rw[exec_Assign_Name_used _ _ _ _ hsw];refine wpAny_bind (wpAny_standAt (wpAny_bind ?_));exact wpAny_bind (wpAny_mono (afp hc hu S hi hg hk hv ht hs h0 (some (assign (.Name x pos') X.env)) I h (a6t hN hi' hx hf)) (λ_ s' hq=>wpAny_pure (wpAny_pure hq)) λ_ _ e=>e)
end L2
namespace MI
open L2
open Classical in
noncomputable def dcL(ck:Hd->Prop)(p:Nat)(t:D->Option Sd)(c:ST)(fk fv:SE)(rd:Sd):List D->Hd->R D
 |[],h=>if ck h then .ok (.ref p) h else .no
 |x::xs,h=>if ck h then (match t x with
  |some ts=>(c (ts++rd) h).bind λb h1=>if b=true then (fk (ts++rd) h1).bind λk h2=>(fv (ts++rd) h2).bind λv h3=>(match af8 (.ref p) k v h3 with|some h4=>dcL ck p t c fk fv rd xs h4|none=>.no) else dcL ck p t c fk fv rd xs h1
  |none=>.no) else .no
noncomputable def a8o(o0:O)(fi:SI)(t:D->Option Sd)(c:ST)(fk fv:SE)(ix:List Nat):SE:=λτ h=>(fi τ h).bind λit h1=>dcL it.ck h1.length t c fk fv (frs' ix τ) it.xs (h1++[o0])
theorem afq{K:Fg}{E:XD}{J:It}{it:Itm}{t:D->Option Sd}{c:ST}{fk fv:SE}{g:TG}{n:Nat}{r:St}{rd:Sd}{U0:List Addr}{H0:Hp}{h0:Hd}{Q:VK}{p:Addr}{ho:HO}{ob:O}
  (ir:ahg K U0 H0 J it) (tg:a97 K n g t) (S:SRep K U0 H0 r rd) (Rh:HRep K U0 H0 h0) (hp:H0 p=none) (hob:ORep K (U0++[p]) (upd H0 p ho) p ob)
  (o:out K E (ql K) U0 H0 (dcL it.ck h0.length t c fk fv rd it.xs (h0++[ob])) Q):dcW p J (List.replicate n none++r) g (lift K E a96 c) (lift K E (ql K) fk) (lift K E (ql K) fv) Q (upd H0 p ho):=by
 have gp:Gr U0 H0 (U0++[p]) (upd H0 p ho):=a5y hp _;have rp:Rep K (U0++[p]) (upd H0 p ho) (.ref p) (.ref h0.length):=.ref (by rw[List.getElem?_append_right (by rw[Rh.len];exact Nat.le_refl _),Rh.len];simp)
 refine⟨λi m H=>m=it.xs.length-i/\i<=it.xs.length/\∃U h,Gr (U0++[p]) (upd H0 p ho) U H/\HRep K U H h/\out K E (ql K) U H (dcL it.ck h0.length t c fk fv rd (it.xs.drop i) h) Q,
  ⟨_,rfl,Nat.zero_le _,U0++[p],h0++[ob],.refl _ _,Rh.add hp hob,qj o gp⟩,?_⟩
 rintro i m H ⟨rfl,hi,U,h,g0,Rh,o⟩
 by_cases hlt:i<it.xs.length
 .rw[List.drop_eq_getElem_cons hlt,dcL]at o
  by_cases hc:it.ck h
  .rw[if_pos hc]at o;obtain⟨go,yl⟩:=(ir U H h (gp.trans g0) Rh hc).1 i _ (List.getElem?_eq_getElem hlt);refine .inr ⟨go,λx H' y=>?_⟩;obtain⟨g1,r1,hr1⟩:=yl x H' y;have o':=qj o g1
   cases ht:t it.xs[i] with
   |none=>simp only[ht]at o';exact o'.elim
   |some ts =>
    simp only[ht]at o';refine tg U H' x _ ts r _ r1 ht λus hus su=>⟨a9p hus,U,ts++rd,h,a1p su (S.mono ((gp.trans g0).trans g1)),hr1,bh o' λb h1 U1 H1 b' g2 rb hrb o1=>?_⟩;have su1:SRep K U1 H1 (us++r) (ts++rd):=(a1p su (S.mono ((gp.trans g0).trans g1))).mono g2;cases rb
    cases b with
    |true =>
     rw[if_pos rfl]at o1 ⊢;refine⟨U1,ts++rd,h1,su1,hrb,bh o1 λk h2 U2 H2 uk g3 rk hr2 o2=>?_⟩;refine⟨U2,ts++rd,h2,su1.mono g3,hr2,bh o2 λv h3 U3 H3 uv g4 rv hr3 o3=>?_⟩;have gA:=(((g0.trans g1).trans g2).trans g3).trans g4
     cases hq:af8 (.ref h0.length) k v h3 with
     |none=>rw[hq]at o3;exact o3.elim
     |some h4 =>
      rw[hq]at o3;obtain⟨a,H5,ea,g5,q5⟩:=ab1 (Q:=λH5=>∃m',m'<it.xs.length-i/\m'=it.xs.length-(i+1)/\i+1<=it.xs.length/\∃U h,Gr (U0++[p]) (upd H0 p ho) U H5/\HRep K U H5 h/\out K E (ql K) U H5 (dcL it.ck h0.length t c fk fv rd (it.xs.drop (i+1)) h) Q) (rp.mono gA) (rk.mono g4) rv hr3 hq λH5 g5 hr5 =>
       ⟨_,by lia,rfl,hlt,U3,h4,gA.trans g5,hr5,qj o3 g5⟩
      cases ea
      exact⟨H5,g5,q5⟩
    |false =>
     rw[if_neg Bool.false_ne_true]at o1 ⊢;exact⟨it.xs.length-(i+1),by lia,rfl,hlt,U1,h1,(g0.trans g1).trans g2,hrb,o1⟩
  .rw[if_neg hc]at o;exact o.elim
 .have e:i=it.xs.length:=by lia
  subst e;rw[List.drop_eq_nil_of_le (Nat.le_refl _),dcL]at o
  by_cases hc:it.ck h
  .rw[if_pos hc]at o;exact .inl ⟨(ir U H h (gp.trans g0) Rh hc).2,ans o (rp.mono g0) Rh⟩
  .rw[if_neg hc]at o;exact o.elim
section
variable{X:Cx}{E:XD}{ek ev tg aF cnd:Expr}{aB:Scope}{pos:Pos}{cl:List (Str×Addr)}{ts fr:List Str}{ix:List Nat}{fi:SI}{g:TG}{t:D->Option Sd}{fk fv:SE}{fc:ST}
theorem ayf{K:Fg}{n:Nat}{Z:St}{H:Hp}{Q:VK}{ho:HO}{ob:O}(hob:∀(U:List Addr) (H:Hp) (p:Addr),H p=some ho->ORep K U H p ob)(ht:a97 K n g t)(q:lift K E (ql K) (a8o ob fi t fc fk fv ix) Z H Q):afo ho (lift K E (anf K) fi) (jq n ix) g (lift K E a96 fc) (lift K E (ql K) fk) (lift K E (ql K) fv) Z H Q:=by
 obtain⟨U,τ,h,Sr,Rh,o⟩:=q;exact⟨U,τ,h,Sr,Rh,bh o λit h1 U1 H1 J g1 r1 hr1 o1=>λp hp=>afq r1 ht (a1q (Sr.mono g1) ix) hr1 hp (hob _ _ _ gh) o1⟩
theorem ajp{co:Option Expr}{ho:HO}{ob:O}{i:Nat}{x:Str}{pos' spos:Pos}(h0:∀(H:Hp) (h:Heap),sysModules<h.objs.size->ObjOk X.prog X.w H (h.push {cls:=.type "dict",data:=.dict #[]}) h.objs.size ho)
  (hob:∀(U:List Addr) (H:Hp) (p:Addr),H p=some ho->ORep X.K U H p ob) (hq:∀C fp s H,PTO (cxC X (ts++fr) aB cl C fp s H) co (lift X.K E a96 fc))
  (hN:X.N.Nodup) (hi':X.N[i]? = some x) (hx:Loc X.env.scope x) (hc:X.calm=true) (hu:X.A.units+64<cLine) (S:CSc X aB cl ts fr ix) (hi:MI X E tg aF fi) (hg:∀C fp s H,PG (cxC X (ts++fr) aB cl C fp s H) tg g) (ht:a97 X.K ts.length g t)
  (hk:∀C fp s H,ME (cxC X (ts++fr) aB cl C fp s H) E ek fk) (hv:∀C fp s H,ME (cxC X (ts++fr) aB cl C fp s H) E ev fv)
  (hs:∀x,foldedSetIterable aF X.env x=pure x) (hsw:swapsWith (.DictComp ek ev [⟨tg,aF,co.toList,0⟩] aB pos) (some (.Name x pos')) spos.line X.env=pure true) (hf:X.fn x=true\/X.env.scope.names.lookup x=some .local) :
  MS X E (.Assign [.Name x pos'] (.DictComp ek ev [⟨tg,aF,co.toList,0⟩] aB pos) spos) (iz i (a8o ob fi t fc fk fv ix)) :=
 PS.weak (ajo hN hi' hx hc (u1 hu) S hi hg hk hv hq h0 hs hsw hf) λN Z H q=>ayf hob ht (aax q)
theorem auw(U:List Addr)(H:Hp)(p:Addr)(e:H p=some (.dT [])):ORep X.K U H p (.dT []):=⟨[],e,rfl,.nil⟩
theorem aco{i:Nat}{x:Str}{pos' spos:Pos}(hN:X.N.Nodup)(hi':X.N[i]? = some x)(hx:Loc X.env.scope x)(hc:X.calm=true)(hu:X.A.units+64<cLine)(S:CSc X aB cl ts fr ix)(hi:MI X E tg aF fi)(hg:∀C fp s H,PG (cxC X (ts++fr) aB cl C fp s H) tg g)(ht:a97 X.K ts.length g t)
  (hk:∀C fp s H,ME (cxC X (ts++fr) aB cl C fp s H) E ek fk) (hv:∀C fp s H,ME (cxC X (ts++fr) aB cl C fp s H) E ev fv) (hq:∀C fp s H,MT (cxC X (ts++fr) aB cl C fp s H) E cnd fc) (hs:∀x,foldedSetIterable aF X.env x=pure x:=by intro _;rfl) (hsw:swapsWith (.DictComp ek ev [⟨tg,aF,[cnd],0⟩] aB pos) (some (.Name x pos')) spos.line X.env=pure true:=by rfl) (hf:Hf X x:=by with_unfolding_all first|exact .inl rfl|exact .inr rfl|assumption) :
  MS X E (.Assign [.Name x pos'] (.DictComp ek ev [⟨tg,aF,[cnd],0⟩] aB pos) spos) (iz i (a8o (.dT []) fi t fc fk fv ix)) :=
 ajp (co:=(some cnd)) (λ_ h=>aaf h) auw hq hN hi' hx hc hu S hi hg ht hk hv hs hsw hf
variable(hc:X.calm=true)(hu:X.A.units+64<cLine)(S:CSc X aB cl ts fr ix)(hi:MI X E tg aF fi)(hg:∀C fp s H,PG (cxC X (ts++fr) aB cl C fp s H) tg g)(ht:a97 X.K ts.length g t)
include hc hu S hi hg ht
end
end MI
namespace L2
open PyProof.Rows
section
variable{prog:Program}{w:World}{K:Type}[DecidableEq K]{knd:HeapKind prog w K}{A:Around}{E:Value->Shared->Prop}{s:Shared}{d a:Addr}{xs:List (K×Addr×Value)}{k:K}{v:Value}
theorem b0r{Q:Unit->Shared->Prop}(hu:knd.room A)(hk:knd.is s.heap k a)(hm:s.heap.DictOfH knd d xs)(z:xs.length<=sizeLine)
  (q:∀h',h'.DictOfH knd d (storedH xs k a v)->Heap.SameBut d s.heap h'->Q () {s with heap:=h' }):wpAny (model prog w) A (dictSetHashed d (.ref a) (knd.hash k) v) Q E s:=by
 obtain⟨o,es,ep,ho,hc,hd,he,his,hn⟩:=hm;have kp:∀{f:Obj->Obj} {x:K} {b:Addr},knd.is s.heap x b->knd.is (s.heap.update d f) x b:=λr=>knd.keeps r ho hd (Heap.SameBut.update ..);unfold dictSetHashed;refine wpAny_holding (wpAny_bind (wpAny_dictFind_heap hu hk ho hd he his hn (λno=>?_) λj p hj=>?_))
 .refine wpAny_bind (wpAny_rule (wpAny_updateDictKeys (hz:=by rw[size_of_entries he];exact z) ho hd (q _ ?_ (Heap.SameBut.update ..))))
  rw[storedH_new (atKey_none_of_get no)];refine⟨_,_,ep+1,Heap.get?_update_self _ ho (Obj.isFreed_of_dict (Obj.data_mapDictKeys hd _)),hc.mapDictKeys _,Obj.data_mapDictKeys hd _,by simp[he,entryOfKey],λx hx=>?_,?_⟩
  .rcases List.mem_append.mp hx with hx|hx
   .exact kp (his x hx)
   .rw[List.mem_singleton.mp hx];exact kp hk
  .rw[List.map_append];refine List.nodup_append.mpr ⟨hn,by simp,λx hx y hy e=>?_⟩
   simp only[List.map_cons,List.map_nil,List.mem_singleton]at hy;exact not_mem_keys_of_get no (by rw[<-hy,<-e];exact hx)
 .refine wpAny_bind (wpAny_rule (wpAny_bind (wpAny_updateDict ho hd (wpAny_point (q _ ?_ (Heap.SameBut.update ..))))));rw[storedH_old (atKey_of_get hn hj)];refine⟨_,_,ep,Heap.get?_update_self _ ho (Obj.isFreed_of_dict (Obj.data_mapDict hd _)),hc.mapDict _,Obj.data_mapDict hd _,?_,λx hx=>?_,by rw[keys_map_putAt];exact hn⟩
  .rw[<-modify_map_putAt (entryOfKey knd) (λe:DictEntry=>{e with val:=v}) k v (λ_ _=>rfl) hn hj,<-he]
   simp
  .obtain⟨y,hy,rfl⟩:=List.mem_map.mp hx;unfold putAt
   split<;>exact kp (his y hy)
end
noncomputable def a3v{κ ν:Type}[DecidableEq κ](f:List (κ×ν)->κ->ν->List (κ×ν))(kvs more:List (κ×ν)):List (κ×ν):=more.foldl (λl p=>f l p.1 p.2) kvs
section
variable{X:Cx}{aA:List (Addr×Obj)}{Z:St}{H:Hp}{s:Shared}{a b c:Addr}{kvs more:List (List Key×V)}{v:V}{r:Value}{A:Around}{E:Value->Shared->Prop}
theorem auy{k:List Key}{Q:Unit->Shared->Prop}(hu:A.units<cLine)(I:Inv X aA Z H s)(e:H a=some (.dT kvs))(eb:H c=some (.tup (k.map kV)))(l:kvs.length<sizeLine)(rv:RelV v r)
  (h:∀s',Inv X aA Z (upd H a (.dT (putK kvs k v))) s'->(∀x,x≠a->s'.heap.get? x=s.heap.get? x)->Q () s'):wpAny (model X.prog X.w) A (dictSetHashed a (.ref c) ((tupleKind (gf X.prog X.w)).hash k) r) Q E s:=by
 obtain⟨z,hd,xs,rel,dd⟩:=ae1 I.hok e;have hl:(putK kvs k v).length<=sizeLine:=by have:=qt kvs k v;lia
 refine b0r hu (a3h I.hok eb) dd (by rw[<-Paired.length rel];exact z) λh' dd' hs=>h {s with heap:=h' } ?_ λx hx=>hs.2 x hx
 obtain⟨q,es,ep,hq,h2,h3,h4,_,h5⟩:=dd';refine a2e (t':=s.toks) I (by rw[e];exact True.intro) hs ⟨q,hq⟩ ⟨hl,hd,_,(rel.put k eb rv).keeps λc ys ec=>?_,q,es,ep,hq,h2,h3,h4,h5⟩
 rw[di (adb ec e (λz=>nomatch z))];exact ec
theorem auz(r:KT H more ys):∀{i:Nat},i<ys.length->∃k c v u,more[i]? = some (k,v)/\ys[i]? = some (k,c,u)/\H c=some (.tup (k.map kV))/\RelV v u:=by
 induction r with
 |nil=>intro i h;simp at h
 |@cons p q l m h t ih =>
  intro i hi
  cases i with
  |zero =>
   obtain⟨k,v⟩:=p;obtain⟨k',c,u⟩:=q;obtain⟨rfl,h2,h3⟩:=h;exact⟨k,c,v,u,rfl,rfl,h2,h3⟩
  |succ i =>
   obtain⟨k,c,v,u,h1,h2,h3,h4⟩:=ih (i:=i) (by simpa using hi)
   exact⟨k,c,v,u,by simpa using h1,by simpa using h2,h3,h4⟩
theorem ajq(kvs:List (List Key×V)):∀more,(a3v putK kvs more).length<=kvs.length+more.length:=λmore=>by
 induction more generalizing kvs with
 |nil=>exact Nat.le_refl _
 |cons p m ih =>
  have h1:=ih (putK kvs p.1 p.2);have h2:=qt kvs p.1 p.2;show(a3v putK (putK kvs p.1 p.2) m).length<=_;rw[List.length_cons];lia
theorem afr{f:List (κ×ν)->κ->ν->List (κ×ν)}[DecidableEq κ]{i:Nat}{p:κ×ν}{more kvs:List (κ×ν)}(h:more[i]? = some p):a3v f kvs (more.take (i+1))=f (a3v f kvs (more.take i)) p.1 p.2:=by
 unfold a3v;rw[List.take_add_one,h];simp[List.foldl_append]
theorem av0:typeLookup (.type "tuple") "__eq__" = pure (some (.builtin "tuple.__eq__")):=PySem.F.slot_tuple_eq.lookup
end
end L2
namespace L2
open PyProof.Rows
section
variable{X:Cx}{aA:List (Addr×Obj)}{Z:St}{H:Hp}{s:Shared}{a b c:Addr}{kvs more:List (List Key×V)}{v:V}{r:Value}{A:Around}{E:Value->Shared->Prop}
def a4r(P:Program)(w:World)(more:List (List Key×V)):Prop:=(more.map λp=>(tupleKind (gf P w)).hash p.1).Nodup
theorem afs(r:KT H more ys):more.map (·.1)=ys.map (·.1):=by
 induction r with
 |nil=>rfl
 |cons h t ih=>rw[List.map_cons,List.map_cons,ih,h.1]
theorem acp{more:List (List Key×V)}:∀{kvs:List (List Key×V)},((kvs++more).map (·.1)).Nodup->a3v putK kvs more=kvs++more:=by
 induction more with
 |nil=>intro kvs _;simp[a3v]
 |cons p m ih =>
  intro kvs nd
  have no:a82 kvs p.1=none:=by
   rw[List.map_append,List.map_cons,List.nodup_append]at nd;unfold a82;rw[Option.map_eq_none_iff,List.find?_eq_none]
   intro x hx z
   exact nd.2.2 x.1 (List.mem_map.mpr ⟨x,hx,rfl⟩) p.1 List.mem_cons_self (by simpa using z)
  show a3v putK (putK kvs p.1 p.2) m=_;rw[ai3 _ no,ih (by simpa using nd)]
  simp
theorem aft{α:Type}[DecidableEq α]{l:List α}(h:l.Nodup)(x:α):(l.filter λy=>y == x).length<=1:=by
 induction l with
 |nil=>simp
 |cons y l ih =>
  obtain⟨h1,h2⟩:=List.nodup_cons.mp h
  by_cases e:y=x
  .subst e;have z:l.filter (λz=>z == y)=[]:=List.filter_eq_nil_iff.mpr λz hz q=>h1 (by rw[<-(beq_iff_eq.mp q)];exact hz)
   rw[List.filter_cons,if_pos (beq_self_eq_true _),z];exact Nat.le_refl _
  .rw[List.filter_cons,if_neg (by simpa using e)];exact ih h2
theorem afu{H:Hp}{a:Addr}{o:HO}(e:H a=some o):upd H a o=H:=funext λx=>by
 by_cases z:x=a
 .rw[z,gh,e]
 .rw[di z]
theorem ap4{nm:String}{Q:Unit->Shared->Prop}(hu:A.units<cLine)(I:Inv X aA Z H s)(e:H a=some (.dT kvs))(e2:Rd H b (.dT more))(ne:a≠b)(hz:kvs.length+more.length<=sizeLine)(hh:kvs=[]->a4r X.prog X.w more)
  (h:∀s',Inv X aA Z (upd H a (.dT (a3v putK kvs more))) s'->Q () s'):wpAny (model X.prog X.w) A (Builtin.Dict.mergeDict nm a b) Q E s:=by
 obtain⟨z,hd,xs,rel,dd⟩:=ae1 I.hok e;obtain⟨z2,hd2,ys,rel2,dd2⟩:=a4e I.hok e2;obtain⟨od,esd,epd,hod,hcd,hdd,hed,hid,hnd⟩:=id dd;obtain⟨oo,eso,epo,hoo,hco,hdo,heo,hio,hno⟩:=id dd2;have ly:more.length=ys.length:=Paired.length rel2;have se:eso.size=ys.length:=size_of_entries heo;have cur:∀{i:Nat},i<=more.length->(a3v putK kvs (more.take i)).length<=kvs.length+i:=λ{i} hi=>by
  have:=ajq kvs (more.take i)
  rw[List.length_take,Nat.min_eq_left hi]at this;exact this
 have one:∀{s':Shared} {i:Nat} {Q':Unit->Shared->Prop},i<eso.size->s'.heap.get? b=some oo->Inv X aA Z (upd H a (.dT (a3v putK kvs (more.take i)))) s'->∃en:DictEntry,eso[i]? = some en /\
   ((∀s'',s''.heap.get? b=some oo->Inv X aA Z (upd H a (.dT (a3v putK kvs (more.take (i+1))))) s''->Q' () s'')->wpAny (model X.prog X.w) A (holding [en.key,en.val] (dictSetHashed a en.key en.hash en.val)) Q' E s'):=λ{s' i Q'} hlt ob I'=>by
  obtain⟨k,c,v,u,g1,g2,g3,g4⟩:=auz rel2 (i:=i) (by lia)
  refine⟨_,by rw[entry_at heo,g2];rfl,λq=>wpAny_holding ?_⟩
  refine auy hu I' gh (by rw[di (adb g3 e λz=>nomatch z)];exact g3) (by have:=cur (i:=i) (by lia);lia) g4 λs'' I'' same=>q s'' ((same b (Ne.symm ne)).trans ob) ?_
  rw[afr g1];rw[am7]at I'';exact I''
 unfold Builtin.Dict.mergeDict;rw[if_neg (by simpa using ne)]
 unfold Builtin.Dict.showsAll;rw[if_neg (by rw[hd2];exact Bool.false_ne_true)]
 refine wpAny_bind (wpAny_pure (wpAny_bind (wpAny_dictEntries hoo hdo ?_)));dsimp only
 split
 .refine wpAny_bind (wpAny_dictEntries hod hdd ?_)
  split
  .rename_i hemp;have k0:kvs=[]:=by
    have h0:esd = #[]:=Array.isEmpty_iff.mp hemp;rw[h0]at hed;have h1:xs=[]:=List.map_eq_nil_iff.mp (by rw[<-hed])
    rw[h1]at rel;exact List.length_eq_zero_iff.mp (Paired.length rel)
   have ap:=hh k0;have hs:eso.toList.map (·.hash)=more.map λp=>(tupleKind (gf X.prog X.w)).hash p.1:=by
    rw[heo,List.map_map,show(more.map λp=>(tupleKind (gf X.prog X.w)).hash p.1)=(more.map (·.1)).map (tupleKind (gf X.prog X.w)).hash by rw[List.map_map];rfl,afs rel2,List.map_map]
    rfl
   unfold Builtin.Dict.entriesForEmpty;refine wpAny_bind (wpAny_bind (wpAny_dictEntries hoo hdo ?_));rw[<-Array.forIn_toList];refine wpAny_bind (wpAny_forIn_list _ (λaG _ s'=>s'=s/\∃pre,eso.toList=pre++aG) _ ?_ ?_ _ _ ⟨rfl,[],rfl⟩)
   .rintro x aG _ s' ⟨rfl,pre,hp⟩
    have hx:x∈eso.toList:=by rw[hp];simp
    have few:¬ (eso.filter λy=>y.hash == x.hash).size > 1:=by
     have q:=aft (l:=eso.toList.map (·.hash)) (by rw[hs];exact ap) x.hash
     rw[List.filter_map,List.length_map]at q;have e1:(eso.filter λy=>y.hash == x.hash).size=(eso.toList.filter λy=>y.hash == x.hash).length:=by
      rw[<-Array.length_toList,Array.toList_filter]
     rw[e1];exact Nat.not_lt.mpr q
    have hx':=hx;rw[heo]at hx';obtain⟨p,hp1,hp2⟩:=List.mem_map.mp hx';have tt:Shared.TypeIs s' x.key "tuple":=by rw[<-hp2];exact(hio p hp1).typeIs
    have kx:x.key=.ref p.2.1:=by rw[<-hp2];rfl
    unfold Builtin.Dict.quietEq;rw[kx]at tt ⊢;refine wpAny_bind (wpAny_bind (wpAny_specialOf tt av0 (wpAny_pure ?_)));rw[if_pos (by decide),if_neg few]
    exact wpAny_pure ⟨rfl,pre++[x],by rw[hp];simp⟩
   .rintro _ s' ⟨rfl,_⟩
    refine wpAny_pure ?_
    split
    .refine wpAny_bind (wpAny_updateDictKeysTo hod hdd (wpAny_pure (h _ ?_)) (by rw[se,<-ly];lia))
     have nd:(([]++more:List (List Key×V)).map (·.1)).Nodup:=by rw[List.nil_append,afs rel2];exact hno
     have em:a3v putK kvs more=more:=by rw[k0];exact acp nd
     rw[em];have kp:∀x∈ys,(tupleKind (gf X.prog X.w)).is (s'.heap.update a (Obj.mapDictKeys λ_=>eso)) x.1 x.2.1:=λx hx=>(tupleKind (gf X.prog X.w)).keeps (hio x hx) hod hdd (Heap.SameBut.update ..);have at':=Heap.get?_update_self (h:=s'.heap) (a:=a) (Obj.mapDictKeys λ_=>eso) hod (Obj.isFreed_of_dict (Obj.data_mapDictKeys hdd _));refine a2e (t':=s'.toks) I (by rw[e];exact True.intro) (Heap.SameBut.update ..) ⟨_,at'⟩ ⟨z2,hd,ys,rel2.keeps λc ys ec=>?_,_,_,epd+1,at',hcd.mapDictKeys _,Obj.data_mapDictKeys hdd _,heo,hno⟩
     rw[di (adb ec e (λz=>nomatch z))];exact ec
    .rename_i hne;have h0:eso = #[]:=Array.isEmpty_iff.mp (by simpa using hne)
     have m0:more=[]:=List.length_eq_zero_iff.mp (by rw[ly,<-se,h0];rfl)
     refine wpAny_pure (h _ ?_);rw[m0];exact(afu e).symm ▸ I
  .refine wpAny_bind (wpAny_dictEpoch hoo hdo (wpAny_bind (wpAny_dictEntries hoo hdo (wpAny_bind ?_))));rw[Std.Legacy.Range.forIn_eq_forIn_range'];simp only[Std.Legacy.Range.size,Nat.sub_zero,Nat.add_sub_cancel,Nat.div_one];refine wpAny_forIn_list _ (λaG _ s'=>∃i,aG=List.range' i (eso.size-i)/\i<=eso.size/\s'.heap.get? b=some oo/\Inv X aA Z (upd H a (.dT (a3v putK kvs (more.take i)))) s') _ ?_ ?_ _ _ ⟨0,by simp,Nat.zero_le _,hoo,by rw[List.take_zero];exact(afu e).symm ▸ I⟩
   .rintro x aG _ s' ⟨i,hr,hi,ob,I'⟩
    have hlt:i<eso.size:=by
     rcases Nat.lt_or_ge i eso.size with q|q
     .exact q
     .rw[Nat.sub_eq_zero_of_le q]at hr;simp at hr
    obtain⟨rfl,hrest⟩:x=i/\aG=List.range' (i+1) (eso.size-(i+1)):=by
     rw[show eso.size-i=(eso.size-(i+1))+1 by lia,List.range'_succ]at hr
     injection hr with h1 h2
     exact⟨h1,h2⟩
    obtain⟨en,he1,he2⟩:=one hlt ob I';refine wpAny_bind (wpAny_dictEntries ob hdo ?_);rw[he1];refine wpAny_bind (he2 λs'' ob' I''=>?_);refine wpAny_bind (wpAny_dictEpoch ob' hdo ?_);rw[if_neg (by simp)]
    exact wpAny_pure ⟨x+1,hrest,hlt,ob',I''⟩
   .rintro _ s' ⟨i,hr,hi,ob,I'⟩
    have hin:i=eso.size:=by
     rcases Nat.lt_or_ge i eso.size with q|q
     .rw[show eso.size-i=(eso.size-(i+1))+1 by lia,List.range'_succ]at hr;exact nomatch hr
     .lia
    refine wpAny_pure (h s' ?_);rw[hin,se,<-ly,List.take_length]at I';exact I'
 .refine wpAny_bind (wpAny_dictEpoch hoo hdo (wpAny_bind (wpAny_dictEntries hoo hdo (wpAny_bind ?_))));rw[Std.Legacy.Range.forIn_eq_forIn_range'];simp only[Std.Legacy.Range.size,Nat.sub_zero,Nat.add_sub_cancel,Nat.div_one];refine wpAny_forIn_list _ (λaG _ s'=>∃i,aG=List.range' i (eso.size-i)/\i<=eso.size/\s'.heap.get? b=some oo/\Inv X aA Z (upd H a (.dT (a3v putK kvs (more.take i)))) s') _ ?_ ?_ _ _ ⟨0,by simp,Nat.zero_le _,hoo,by rw[List.take_zero];exact(afu e).symm ▸ I⟩
  .rintro x aG _ s' ⟨i,hr,hi,ob,I'⟩
   have hlt:i<eso.size:=by
    rcases Nat.lt_or_ge i eso.size with q|q
    .exact q
    .rw[Nat.sub_eq_zero_of_le q]at hr;simp at hr
   obtain⟨rfl,hrest⟩:x=i/\aG=List.range' (i+1) (eso.size-(i+1)):=by
    rw[show eso.size-i=(eso.size-(i+1))+1 by lia,List.range'_succ]at hr
    injection hr with h1 h2
    exact⟨h1,h2⟩
   obtain⟨en,he1,he2⟩:=one hlt ob I';refine wpAny_bind (wpAny_dictEntries ob hdo ?_);rw[he1];refine wpAny_bind (he2 λs'' ob' I''=>?_);refine wpAny_bind (wpAny_dictEpoch ob' hdo ?_);rw[if_neg (by simp)]
   exact wpAny_pure ⟨x+1,hrest,hlt,ob',I''⟩
  .rintro _ s' ⟨i,hr,hi,ob,I'⟩
   have hin:i=eso.size:=by
    rcases Nat.lt_or_ge i eso.size with q|q
    .rw[show eso.size-i=(eso.size-(i+1))+1 by lia,List.range'_succ]at hr;exact nomatch hr
    .lia
   refine wpAny_pure (h s' ?_);rw[hin,se,<-ly,List.take_length]at I';exact I'
end
end L2
namespace L2
open PyProof.Rows
section
variable{X:Cx}{aA:List (Addr×Obj)}{s:Shared}{Z:St}{H:Hp}{A:Around}{E:Value->Shared->Prop}{a b:Addr}{kvs more:List (List Key×V)}
theorem ap5(I:Inv X aA Z H s)(e:Rd H a (.dT kvs)):s.TypeIs (.ref a) "dict"/\(kvs.length:Int)<2^63/\∀{A:Around} {E:Value->Shared->Prop} {Q:Value->Shared->Prop},Q (.int kvs.length s.toks) {s with toks:=s.toks+1}->wpAny (model X.prog X.w) A (call (.builtin "dict.__len__") [.ref a]) Q E s:=by
 obtain⟨z,hd,xs,rel,dd⟩:=a4e I.hok e;have lx:kvs.length=xs.length:=Paired.length rel;have ty:=dd.typeIs;obtain⟨o,es,ep,ho,hc,hdat,he,_⟩:=dd;have les:es.size=xs.length:=by rw[<-Array.length_toList,he,List.length_map]
 have hn:=a1z;refine⟨ty,by lia,λ{A E Q} h=>?_⟩
 refine call_meetsIn (S:=λ_ R s'=>s'=s/\R (.ok (.ret (.int kvs.length s.toks))) {s with toks:=s.toks+1}) F.slot_dict_len ty F.entry_dict_len (F.args_dict_len_1 _) (.of_wp λA' R s' ⟨es',hr⟩=>?_) ⟨rfl,h⟩
 subst es';show wpAny _ _ (dictSize a>>=_) _ _ _;unfold dictSize;refine wpAny_bind (wpAny_bind (wpAny_dictEntries ho hdat (wpAny_pure ?_)));show wpAny _ _ (Builtin.Dict.pendingCount a>>=_) _ _ _;refine wpAny_bind (wpAny_pendingCount_other hd (wpAny_ret_mkInt ?_));rw[Nat.add_zero,les,<-lx];exact hr
theorem afv{Q:Bool->Shared->Prop}(I:Inv X aA Z H s)(e:Rd H a (.dT kvs))(h:∀s',Inv X aA Z H s'->Q (!kvs.isEmpty) s'):wpAny (model X.prog X.w) A (truthy (.ref a)) Q E s:=by
 obtain⟨ty,fit,size⟩:=ap5 I e;have ne:((kvs.length:Int) != 0) = !kvs.isEmpty:=by cases kvs<;>simp<;>lia
 have body:∀{A':Around} {E':Value->Shared->Prop},wpAny (model X.prog X.w) A' (Builtin.«len» ⟨[.ref a],[]⟩) (λfin s'=>∃t,fin=.done (.ret (.int kvs.length t))/\Inv X aA Z H s') E' s:=λ{A' E'}=>by
  unfold Builtin.«len»;refine wpAny_bind (m:=oneArg "len" _) (wpAny_pure ?_);refine wpAny_bind (m:=callSpecial? (.ref a) (Str.ofString "__len__")) (wpAny_callSpecial?_slot (name:=Str.ofString "__len__") ty F.slot_dict_len (size ?_));refine wpAny_bind (wpAny_holding (wpAny_pure ?_));refine wpAny_bind (wpAny_letGo ?_);show wpAny _ _ (if (kvs.length:Int)<0 then _ else _) _ _ _
  rw[if_neg (by lia)]
  show wpAny _ _ (if (kvs.length:Int)≥2^63 then _ else _) _ _ _
  rw[if_neg (by lia)]
  exact wpAny_bind (wpAny_mkInt (wpAny_pure ⟨_,rfl,I.tok _⟩))
 have run:wpAny (model X.prog X.w) A (runValue (.builtin "len" ⟨[.ref a],[]⟩)) (λr s'=>∃t,r=.int kvs.length t/\Inv X aA Z H s') E s:=by
  refine wpAny_runValue (codeAny_builtin entry_len ?_);rw[Around.under_plainId plain_len _];exact wpAny_mono body (λfin s' ⟨t,e,I'⟩=>by subst e;exact⟨t,rfl,I'⟩) λ_ _ e=>e
 unfold truthy;refine wpAny_bind (wpAny_callSpecial?_none (name:=Str.ofString "__bool__") ty noBool_dict ?_);refine wpAny_bind (wpAny_specialOf (name:=Str.ofString "__len__") ty F.slot_dict_len.lookup ?_);refine wpAny_bind (wpAny_mono run (λr s' ⟨t,e,I'⟩=>?_) λ_ _ e=>e);subst e;exact wpAny_pure (by rw[ne];exact h s' I')
theorem afw{Q:Value->Shared->Prop}(hu:A.units+1<cLine)(I:Inv X aA Z H s)(e:H a=some (.dT kvs))(e2:Rd H b (.dT more))(ne:a≠b)(hz:kvs.length+more.length<=sizeLine)(hh:kvs=[]->a4r X.prog X.w more)
  (h:∀s',Inv X aA Z (upd H a (.dT (a3v putK kvs more))) s'->Q .none s'):wpAny (model X.prog X.w) A (call (.builtin "dict.update") [.ref a,.ref b]) Q E s:=by
 obtain⟨_,_,_,_,dd⟩:=ae1 I.hok e;obtain⟨_,_,_,_,dd2⟩:=a4e I.hok e2;refine call_meetsIn (S:=λA' R s'=>A'.in1.units<cLine/\s'=s/\∀s',Inv X aA Z (upd H a (.dT (a3v putK kvs more))) s'->R (.ok (.ret .none)) s') F.slot_dict_update dd.typeIs F.entry_dict_update (F.args_dict_update_2 _ _) (.of_wp λA' R s' ⟨hu',es',hr⟩=>?_) ⟨hu,rfl,h⟩;subst es';unfold Builtin.«dict.update»;refine wpAny_bind ?_;unfold Builtin.Dict.selfAndRest;refine wpAny_bind (wpAny_notOrdered_dict dd.typeIs (wpAny_pure ?_));show wpAny _ _ (Builtin.Dict.updateFrom "dict.update" a (.ref b) [] .none) _ _ _
 unfold Builtin.Dict.updateFrom;refine wpAny_bind (wpAny_typeOf dd2.typeIs ?_);rw[if_neg (by decide)]
 refine wpAny_bind ?_;unfold Builtin.Dict.merge Builtin.Dict.readDirectly;refine wpAny_bind (wpAny_bind (wpAny_isInstance dd2.typeIs isSubtype_dict_dict ?_));rw[if_neg (by decide)]
 refine wpAny_bind (wpAny_specialOf dd2.typeIs F.slot_dict_iter.lookup (wpAny_pure ?_));rw[if_pos (by decide)]
 refine wpAny_bind (wpAny_pure (ap4 hu' I e e2 ne hz hh λs2 I2=>?_));show wpAny _ _ (Builtin.Dict.addKeywords a []>>=_) _ _ _;exact wpAny_bind (wpAny_pure (wpAny_pure ⟨.none,rfl,hr s2 I2⟩))
end
end L2
namespace L2
open PyProof.Rows
noncomputable def b0s(td te:TE):TE:=λZ H Q=>td Z H λx H1=>∃a,x=.ref a/\IsD H1 a/\te Z H1 λy H2=>∃b kvs more,y=.ref b/\a≠b/\H2 a=some (.dT kvs)/\Rd H2 b (.dT more)/\kvs.length+more.length<=sizeLine/\(kvs=[]->∀P w,a4r P w more)/\Q .non (upd H2 a (.dT (a3v putK kvs more)))
theorem ap6{X:Cx}{o e:Expr}{apos cpos:Pos}{td te:TE}(hu:X.A.units+1<cLine)(ho:PE X o td)(he:PE X e te)(m:M1 X o "update" apos e cpos):PE X (.Call (.Attribute o "update" apos) [e] [] cpos) (b0s td te):=by
 intro aA s Z H Q I h
 refine wpAny_Call_method m.base m.few m.line PySem.F.plainAttrs_dict PySem.F.slot_dict_update PySem.F.type_dict_update (thn (ho aA s Z H _ I h) λu s1 ⟨x,H1,I1,rx,a,ex,d,q1⟩=>?_);subst ex;obtain rfl:u=Value.ref a:=rx;obtain⟨t1,t2,_⟩:=akv I1 d;refine⟨t1,t2,?_⟩;rw[m.trees];refine Calls.callWith_builtin rfl (Calls.evalArgs_plain (Calls.spliced_cons (thn (he aA s1 Z H1 _ I1 q1) λiv s2 ⟨y,H2,I2,ry,b,kvs,more,ey,ne,e1,e2,hz,hh,q2⟩=>Calls.spliced_nil ?_)));subst ey;obtain rfl:iv=Value.ref b:=ry;exact afw hu I2 e1 e2 ne hz (λz=>hh z _ _) λs' I'=>⟨.non,_,I',rfl,q2⟩
noncomputable def ayg(t:TE):TT:=λZ H Q=>t Z H λx H1=>∃a kvs,x=.ref a/\Rd H1 a (.dT kvs)/\Q (!kvs.isEmpty) H1
theorem ap7{X:Cx}{a:Expr}{ta:TE}(ha:PE X a ta)(he:∀whole,isTrue a X.env whole=(do let v <-whole;standAt a.pos;holding [v] (truthy v))):PT X a (ayg ta):=by
 intro aA s Z H Q I h
 refine isTrue_plain (thn (ha aA s Z H _ I h) λv s1 ⟨x,H1,I1,r1,b,kvs,ex,e1,q1⟩=>?_) (he _);subst ex;obtain rfl:v=Value.ref b:=r1;exact afv I1 e1 λs' I'=>⟨H1,I',q1⟩
end L2
namespace MI
open L2
noncomputable def hN(ns:List Int):Int:=reduceHash (Builtin.Tuple.tupleHashOf (ns.map hashInt))
def HA{α:Type}(more:List (List Key×α)):Prop:=∃nss:List (List Int),more.map (·.1)=nss.map (λns=>ns.map .inl)/\(nss.map hN).Nodup
theorem ajr{more:List (List Key×V)}(h:HA more)(P:Program)(w:World):a4r P w more:=by
 obtain⟨nss,e,nd⟩:=h;unfold a4r;have q:(more.map λp=>(tupleKind (gf P w)).hash p.1)=nss.map hN:=by
  rw[show(more.map λp=>(tupleKind (gf P w)).hash p.1)=(more.map (·.1)).map (tupleKind (gf P w)).hash by rw[List.map_map];rfl,e,List.map_map]
  refine List.map_congr_left λns _=>?_;show reduceHash (Builtin.Tuple.tupleHashOf ((ns.map Sum.inl).map (gf P w).hash))=_;unfold hN;rw[List.map_map];rfl
 rw[q];exact nd
open Classical in
noncomputable def aqo(i:Nat)(y:D)(h:Hd):R D:=match y with
 |.ref j=>(match h[i]?,h[j]? with
  |some (.dT kvs),some (.dT more)=>if i≠j/\kvs.length+more.length<=LINE/\(kvs=[]->HA more) then .ok .non (h.set i (.dT (a3v putD kvs more))) else .no
  |_,_=>.no)
 |_=>.no
noncomputable def aqp(f g:SE):SE:=λτ h=>(f τ h).bind λx h1=>match x with
 |.ref i=>(match h1[i]? with
  |some (.dT _)=>(g τ h1).bind λy h2=>aqo i y h2
  |_=>.no)
 |_=>.no
theorem ajs{K:Fg}{U:List Addr}{H:Hp}{more:List (List Key×D)}:∀{vs us:List (List Key×V)} {kvs:List (List Key×D)},KRep K U H us kvs->KRep K U H vs more->KRep K U H (a3v putK us vs) (a3v putD kvs more):=by
 induction more with
 |nil =>
  intro vs us kvs r1 r2
  have e:vs=[]:=by simpa using r2.1
  subst e;exact r1
 |cons p m ih =>
  intro vs us kvs r1 r2
  obtain⟨k,d⟩:=p
  cases vs with
  |nil=>simp[KRep]at r2
  |cons q vs =>
   obtain⟨k',v⟩:=q;obtain⟨e1,e2⟩:=r2;simp only[List.map_cons,List.cons.injEq]at e1;obtain⟨rfl,e1⟩:=e1
   cases e2 with
   |cons r rs=>exact ih (vs:=vs) (us:=putK us k' v) (kvs:=putD kvs k' d) (a75 k' r1 r) ⟨e1,rs⟩
theorem av1{X:Cx}{E:XD}{o e:Expr}{apos cpos:Pos}{f g:SE}(hu:X.A.units+64<cLine)(ha:ME X E o f)(hb:ME X E e g)(m:M1 X o "update" apos e cpos):ME X E (.Call (.Attribute o "update" apos) [e] [] cpos) (aqp f g):=by
 refine PE.weak (ap6 (u1 hu) ha hb m) ?_
 rintro Z H Q ⟨U,τ,h,S,Rh,o⟩
 refine⟨U,τ,h,S,Rh,bh o λd h1 U1 H1 v g1 r1 hr1 o1=>?_⟩
 cases r1 with
 |@ref a i ea =>
  obtain⟨ob,h3,h4⟩:=hr1.at ea;simp only[h3]at o1
  cases ob with
  |dT kv0 =>
   obtain⟨us0,h5,_⟩:=h4;refine⟨a,rfl,.inr ⟨_,.inl h5⟩,U1,τ,h1,S.mono g1,hr1,bh o1 λd2 h2 U2 H2 u g2 r2 hr2 o2=>?_⟩;have ea2:=g2.at ea
   cases r2 with
   |@ref b j eb =>
    obtain⟨ob,q1,q2⟩:=hr2.at ea2;obtain⟨oc,p1,p2⟩:=hr2.at eb;unfold aqo at o2;simp only[q1,p1]at o2
    cases ob with
    |dT kvs =>
     cases oc with
     |dT more =>
      obtain⟨us,q3,q4⟩:=q2;obtain⟨vs,p3,p4⟩:=p2;dsimp only at o2
      split at o2
      .rename_i c;obtain⟨c1,c2,c3⟩:=c;have lu:us.length=kvs.length:=by simpa using congrArg List.length q4.1
       have lv:vs.length=more.length:=by simpa using congrArg List.length p4.1
       have ne:a≠b:=λz=>c1 (by
        subst z;have li:=(List.getElem?_eq_some_iff.mp ea2).1;exact(List.getElem?_inj li hr2.nd).mp (ea2.trans eb.symm))
       refine⟨b,us,vs,rfl,ne,q3,.inl p3,by rw[aib,lu,lv];exact c2,λz P w=>ajr ?_ P w,ans (qj o2 (a0u hr2 ea2 _)) .non ?_⟩
       .obtain⟨nss,e,nd⟩:=c3 (by rw[z]at lu;exact List.length_eq_zero_iff.mp lu.symm)
        exact⟨nss,by rw[p4.1];exact e,nd⟩
       .exact hr2.put ea2 ⟨_,gh,(ajs q4 p4).mono (a0u hr2 ea2 _)⟩
      .exact o2.elim
     |_=>exact o2.elim
    |_=>exact o2.elim
   |_=>exact o2.elim
  |_=>exact o1.elim
 |_=>exact o1.elim
noncomputable def ayh(d:D)(h:Hd):R Bool:=match d with
 |.ref i=>(match h[i]? with|some (.dT kvs)=>.ok (!kvs.isEmpty) h|_=>.no)
 |_=>.no
noncomputable def ap8(f:SE):ST:=λτ h=>(f τ h).bind ayh
theorem ap9{X:Cx}{E:XD}{a:Expr}{fa:SE}(ha:ME X E a fa)(he:∀whole,isTrue a X.env whole=(do let v <-whole;standAt a.pos;holding [v] (truthy v)):=by intro _;rfl):MT X E a (ap8 fa):=by
 refine PT.weak (ap7 ha he) ?_
 rintro Z H Q ⟨U,τ,h,S,Rh,o⟩
 refine⟨U,τ,h,S,Rh,bh o λd h1 U1 H1 v g1 r1 hr1 o1=>?_⟩
 cases r1 with
 |@ref a i ea =>
  obtain⟨ob,h3,h4⟩:=hr1.at ea;simp only[ayh,h3]at o1
  cases ob with
  |dT kvs =>
   obtain⟨us,h5,h6⟩:=h4;exact⟨a,us,rfl,.inl h5,by rw[h6.emp];exact o1 U1 H1 _ (.refl _ _) rfl hr1⟩
  |_=>exact o1.elim
 |_=>exact o1.elim
theorem apa{f g:SE}{τ:Sd}{h h1 h2:Hd}{i j:Nat}{k0 kvs more:List (List Key×D)}(e1:f τ h=.ok (.ref i) h1)(e2:h1[i]? = some (.dT k0))(e3:g τ h1=.ok (.ref j) h2)(e4:h2[i]? = some (.dT kvs))(e5:h2[j]? = some (.dT more))
  (ne:i≠j) (l:kvs.length+more.length<=LINE) (a:kvs=[]->HA more):aqp f g τ h=.ok .non (h2.set i (.dT (a3v putD kvs more))):=by
 unfold aqp;rw[e1];show(match h1[i]? with|some (.dT _)=>(g τ h1).bind λy h2=>aqo i y h2|_=>.no)=_
 rw[e2];show(g τ h1).bind (λy h2=>aqo i y h2)=_;rw[e3];show aqo i (.ref j) h2=_;unfold aqo;simp only[e4,e5];rw[if_pos ⟨ne,l,a⟩]
end MI
namespace ZP
open PySem.Builtin PySem.Builtin.SmallTypes
abbrev Is3(h:Heap)(T:Addr)(a b c:Value):Prop:=h.get? T=some {cls:=.type "tuple",data:=.seq #[a,b,c]}
structure Ap3 (z TO i1 i2 i3:Addr) (p q r:List Addr):Prop where
 m1:i1∈p
 m2:i2∈q
 m3:i3∈r
 z1:z∉p
 z2:z∉q
 z3:z∉r
 o1:TO∉p
 o2:TO∉q
 o3:TO∉r
 oz:TO≠z
 x12:i1∉q
 x13:i1∉r
 x21:i2∉p
 x23:i2∉r
 x31:i3∉p
 x32:i3∉q
section
variable{prog:Program}{w:World}{A:Around}{E:Value->Shared->Prop}{s:Shared}{z TI TO i1 i2 i3:Addr}{p q r:List Addr}{n1 n2 n3 k:Nat}{P1 P2 P3:Nat->Value->Prop}{S1 S2 S3:Nat->Heap->Prop}{a b c:Value}
theorem ayi{T:Addr}{x:Value}{j:Nat}{Q:Unit->Shared->Prop}(hT:Is3 s.heap T a b c)
  (h:∀h',h'.get? T=some {cls:=.type "tuple",data:=.seq ((#[a,b,c]:Array Value).setIfInBounds j x)}->Heap.SameBut T s.heap h'->Q () {s with heap:=h' }) :
  wpAny (model prog w) A (updateSeq T (·.setIfInBounds j x)) Q E s:=by
 refine wpAny_updateSeq hT rfl (h _ ?_ (Heap.SameBut.update ..));rw[Heap.get?_update_self _ hT rfl];simp[Obj.mapSeq]
theorem ab5{Q:Fin->Shared->Prop}(hz:IsZip s.heap z TI TO .none)(hi:Is3 s.heap TI (.ref i1) (.ref i2) (.ref i3))(ho:Is3 s.heap TO a b c)(oz:TO≠z)
  (go:∀h1,IsZip h1 z TI TO .ellipsis->Heap.SameBut z s.heap h1->wpAny (model prog w) A (nextOf (.ref i1))
   (λx s2=>Is3 s2.heap TO a b c/\∀h3,Is3 h3 TO x b c->Heap.SameBut TO s2.heap h3->wpAny (model prog w) A (nextOf (.ref i2))
    (λy s4=>Is3 s4.heap TO x b c/\∀h5,Is3 h5 TO x y c->Heap.SameBut TO s4.heap h5->wpAny (model prog w) A (nextOf (.ref i3))
     (λv s6=>Is3 s6.heap TO x y c/\∀h7,Is3 h7 TO x y v->Heap.SameBut TO s6.heap h7->IsZip h7 z TI TO .ellipsis/\∀h9,IsZip h9 z TI TO (rawInt h7.objs.size)->Is3 h9 h7.objs.size x y v->h9.objs.size=h7.objs.size+1->
      (∀d o,d≠z->h7.get? d=some o->h9.get? d=some o)->Q (.done (.ret (.ref h7.objs.size))) {s6 with heap:=h9})
     (λe s6=>wpAny (model prog w) A (setField (.ref z) 0 .none) (λ_ s7=>E e s7) E s6) {s4 with heap:=h5})
    (λe s4=>wpAny (model prog w) A (setField (.ref z) 0 .none) (λ_ s5=>E e s5) E s4) {s2 with heap:=h3})
   (λe s2=>wpAny (model prog w) A (setField (.ref z) 0 .none) (λ_ s3=>E e s3) E s2) {s with heap:=h1}) :
  wpAny (model prog w) A (Builtin.«zip.__next__» ⟨[.ref z],[]⟩) Q E s:=by
 change wpAny (model prog w) A (field (.ref z) 2>>=_) _ _ _
 apply wpAny_bind;apply wpAny_field hz rfl (x:=.bool false) rfl
 change wpAny (model prog w) A (field (.ref z) 3>>=_) _ _ _
 apply wpAny_bind;apply wpAny_field hz rfl (x:=.ref TI) rfl
 apply wpAny_bind;apply wpAny_seqItems hi rfl
 change wpAny (model prog w) A (ownedTupleIsFree (.ref z)>>=_) _ _ _
 apply wpAny_bind
 rw[ownedTupleIsFree]
 apply wpAny_bind;apply wpAny_field hz rfl (x:=.none) rfl
 apply wpAny_pure
 rw[if_pos rfl]
 apply wpAny_bind;apply wpAny_rule
 apply wpAny_bind;apply wpAny_field hz rfl (x:=.ref TO) rfl
 apply wpAny_bind;apply wpAny_setField_rec hz (Nat.succ_pos _)
 intro h1 z1 b1
 apply wpAny_bind
 simp only[List.zipIdx_cons,List.zipIdx_nil,List.forIn_cons,List.forIn_nil]
 apply wpAny_bind;apply wpAny_bind;apply wpAny_onRaise
 change wpAny (model prog w) A (nextOf (.ref i1)>>=_) _ _ _
 apply wpAny_bind
 apply wpAny_mono (go h1 z1 b1) _ λ_ _ r=>r
 rintro x s2 ⟨o2,g2⟩
 apply wpAny_pure
 apply wpAny_bind;apply wpAny_seqItems o2 rfl
 apply wpAny_bind;apply ayi o2
 intro h3 o3 b3
 apply wpAny_bind;apply wpAny_letGo;apply wpAny_pure
 apply wpAny_bind;apply wpAny_bind;apply wpAny_onRaise
 change wpAny (model prog w) A (nextOf (.ref i2)>>=_) _ _ _
 apply wpAny_bind
 apply wpAny_mono (g2 h3 o3 b3) _ λ_ _ r=>r
 rintro y s4 ⟨o4,g4⟩
 apply wpAny_pure
 apply wpAny_bind;apply wpAny_seqItems o4 rfl
 apply wpAny_bind;apply ayi o4
 intro h5 o5 b5
 apply wpAny_bind;apply wpAny_letGo;apply wpAny_pure
 apply wpAny_bind;apply wpAny_bind;apply wpAny_onRaise
 change wpAny (model prog w) A (nextOf (.ref i3)>>=_) _ _ _
 apply wpAny_bind
 apply wpAny_mono (g4 h5 o5 b5) _ λ_ _ r=>r
 rintro v s6 ⟨o6,g6⟩
 apply wpAny_pure
 apply wpAny_bind;apply wpAny_seqItems o6 rfl
 apply wpAny_bind;apply ayi o6
 intro h7 o7 b7
 obtain⟨z7,g7⟩:=g6 h7 o7 b7
 apply wpAny_bind;apply wpAny_letGo;apply wpAny_pure;apply wpAny_pure
 apply wpAny_bind;apply wpAny_seqItems o7 rfl
 apply wpAny_bind;refine wpAny_newTuple ?_ (by show 3<=sizeLine;decide)
 change wpAny (model prog w) A (ownedTupleHandOut (.ref z) (.ref h7.objs.size)>>=_) _ _ _
 apply wpAny_bind
 rw[ownedTupleHandOut];have z8:IsZip (h7.push {cls:=.type "tuple",data:=.seq #[x,y,v]}) z TI TO .ellipsis:=Heap.get?_push_of_some _ z7;have lt:z<h7.objs.size:=Heap.lt_size z7
 apply wpAny_bind;apply wpAny_setField_rec z8 (Nat.succ_pos _)
 intro h9 z9 b9
 apply wpAny_setField_rec z9 (by show 1<5;decide)
 intro h10 z10 b10
 apply wpAny_pure
 refine g7 h10 z10 (b10.extBut _ _ (Nat.ne_of_gt lt) (b9.extBut _ _ (Nat.ne_of_gt lt) (Heap.get?_push_size _ rfl))) ?_ λd o nd e=>b10.extBut _ _ nd (b9.extBut _ _ nd (Heap.get?_push_of_some _ e));rw[b10.1,b9.1,Heap.size_push]
theorem afx{Q:Value->Shared->Prop}(D1:Draws prog w A i1 p n1 P1 S1)(D2:Draws prog w A i2 q n2 P2 S2)(D3:Draws prog w A i3 r n3 P3 S3)(ap:Ap3 z TO i1 i2 i3 p q r)(hz:IsZip s.heap z TI TO .none)(hi:Is3 s.heap TI (.ref i1) (.ref i2) (.ref i3))(ho:Is3 s.heap TO a b c)
  (s1:S1 k s.heap) (s2:S2 k s.heap) (s3:S3 k s.heap) (k1:k<n1) (k2:k<n2) (k3:k<n3)
  (hQ:∀x y v h' tk,P1 k x->P2 k y->P3 k v->IsZip h' z TI TO (rawInt s.heap.objs.size)->Is3 h' TO x y v->S1 (k+1) h'->S2 (k+1) h'->S3 (k+1) h'->Is3 h' s.heap.objs.size x y v->h'.objs.size=s.heap.objs.size+1->
   (∀d o,d≠z->d≠TO->d≠i1->d≠i2->d≠i3->s.heap.get? d=some o->h'.get? d=some o)->Q (.ref s.heap.objs.size) {s with heap:=h',toks:=tk}) :
  wpAny (model prog w) A (Builtin.«zip.__next__» ⟨[.ref z],[]⟩) (λfin s'=>∃v,fin=.done (.ret v)/\Q v s') E s:=by
 have ni1:i1≠z:=λe=>ap.z1 (e ▸ ap.m1);have ni2:i2≠z:=λe=>ap.z2 (e ▸ ap.m2);have ni3:i3≠z:=λe=>ap.z3 (e ▸ ap.m3);have no1:TO≠i1:=λe=>ap.o1 (e ▸ ap.m1);have no2:TO≠i2:=λe=>ap.o2 (e ▸ ap.m2);have no3:TO≠i3:=λe=>ap.o3 (e ▸ ap.m3);refine ab5 hz hi ho ap.oz λh1 z1 b1=>?_;refine D1.item k _ _ _ k1 (far (D:=D1) b1 ap.z1 s1) λx h2 t2 px st2 b2=>?_;refine⟨b2.extBut _ _ no1 (b1.extBut _ _ ap.oz ho),λh3 o3 b3=>?_⟩;refine D2.item k _ _ _ k2 (far (D:=D2) b3 ap.o2 (far (D:=D2) b2 ap.x12 (far (D:=D2) b1 ap.z2 s2))) λy h4 t4 py st4 b4=>?_
 refine⟨b4.extBut _ _ no2 o3,λh5 o5 b5=>?_⟩;refine D3.item k _ _ _ k3 (far (D:=D3) b5 ap.o3 (far (D:=D3) b4 ap.x23 (far (D:=D3) b3 ap.o3 (far (D:=D3) b2 ap.x13 (far (D:=D3) b1 ap.z3 s3))))) λv h6 t6 pv st6 b6=>?_;refine⟨b6.extBut _ _ no3 o5,λh7 o7 b7=>⟨b7.extBut _ _ ap.oz.symm (b6.extBut _ _ ni3.symm (b5.extBut _ _ ap.oz.symm (b4.extBut _ _ ni2.symm (b3.extBut _ _ ap.oz.symm (b2.extBut _ _ ni1.symm z1))))),λh9 z9 t9 l9 k9=>⟨_,rfl,?_⟩⟩⟩;have sz:h7.objs.size=s.heap.objs.size:=by rw[b7.1,b6.1,b5.1,b4.1,b3.1,b2.1,b1.1]
 have fz:∀{i:Addr} {l:List Addr} {n:Nat} {P:Nat->Value->Prop} {S:Nat->Heap->Prop} (D:Draws prog w A i l n P S),z∉l->S (k+1) h7->S (k+1) h9:=λD ne st=>D.frame _ _ _ st λd hd o e=>k9 d o (λy=>ne (y ▸ hd)) e;have g1:S1 (k+1) h9:=fz D1 ap.z1 (far (D:=D1) b7 ap.o1 (far (D:=D1) b6 ap.x31 (far (D:=D1) b5 ap.o1 (far (D:=D1) b4 ap.x21 (far (D:=D1) b3 ap.o1 st2)))));have g2:S2 (k+1) h9:=fz D2 ap.z2 (far (D:=D2) b7 ap.o2 (far (D:=D2) b6 ap.x32 (far (D:=D2) b5 ap.o2 st4)));have g3:S3 (k+1) h9:=fz D3 ap.z3 (far (D:=D3) b7 ap.o3 st6)
 rw[sz]at z9 t9 l9 ⊢;exact hQ x y v h9 t6 px py pv z9 (k9 _ _ ap.oz o7) g1 g2 g3 t9 l9 λd o c1 c2 c3 c4 c5 e=>k9 d o c1 (b7.extBut _ _ c2 (b6.extBut _ _ c5 (b5.extBut _ _ c2 (b4.extBut _ _ c4 (b3.extBut _ _ c2 (b2.extBut _ _ c3 (b1.extBut _ _ c1 e)))))))
theorem ajt{Q:Fin->Shared->Prop}(D1:Draws prog w A i1 p n1 P1 S1)(D2:Draws prog w A i2 q n2 P2 S2)(D3:Draws prog w A i3 r n3 P3 S3)(ap:Ap3 z TO i1 i2 i3 p q r)(hz:IsZip s.heap z TI TO .none)(hi:Is3 s.heap TI (.ref i1) (.ref i2) (.ref i3))(ho:Is3 s.heap TO a b c)
  (s1:S1 k s.heap) (s2:S2 k s.heap) (s3:S3 k s.heap) (kk:k=n1\/(k<n1/\k=n2)\/(k<n1/\k<n2/\k=n3))
  (hE:∀h' tk e,(∀d o,d≠z->d≠TO->d≠i1->d≠i2->d≠i3->s.heap.get? d=some o->h'.get? d=some o)->(∃o,h'.get? e=some o/\o.cls=.type "StopIteration")->E (.ref e) {s with heap:=h',toks:=tk}) :
  wpAny (model prog w) A (Builtin.«zip.__next__» ⟨[.ref z],[]⟩) Q E s:=by
 have stop:∀{h:Heap} {e:Addr},(∃o,h.get? e=some o/\o.cls=.type "StopIteration")->IsZip h z TI TO .ellipsis->e≠z:=λ{h e} ⟨o,eo,ec⟩ zz y=>by
  subst y;rw[zz]at eo;cases eo;simp at ec
 have ni1:i1≠z:=λe=>ap.z1 (e ▸ ap.m1);have ni2:i2≠z:=λe=>ap.z2 (e ▸ ap.m2);have ni3:i3≠z:=λe=>ap.z3 (e ▸ ap.m3);have no1:TO≠i1:=λe=>ap.o1 (e ▸ ap.m1);have no2:TO≠i2:=λe=>ap.o2 (e ▸ ap.m2);have no3:TO≠i3:=λe=>ap.o3 (e ▸ ap.m3);refine ab5 hz hi ho ap.oz λh1 z1 b1=>?_
 rcases kk with rfl|⟨k1,rfl⟩|⟨k1,k2,rfl⟩
 .refine D1.done _ _ _ (far (D:=D1) b1 ap.z1 s1) λh2 e x2 st=>?_;have z2:IsZip h2 z TI TO .ellipsis:=x2 _ _ ni1.symm z1;have ne:=stop st z2;obtain⟨oe,f1,f2⟩:=st;refine wpAny_setField_rec z2 (Nat.succ_pos _) λh3 _ b3=>?_;exact hE h3 _ e (λd o c1 _ c3 _ _ y=>b3.extBut _ _ c1 (x2 _ _ c3 (b1.extBut _ _ c1 y))) ⟨oe,b3.extBut _ _ ne f1,f2⟩
 .refine D1.item k _ _ _ k1 (far (D:=D1) b1 ap.z1 s1) λx h2 t2 px st2 b2=>?_;refine⟨b2.extBut _ _ no1 (b1.extBut _ _ ap.oz ho),λh3 o3 b3=>?_⟩;refine D2.done _ _ _ (far (D:=D2) b3 ap.o2 (far (D:=D2) b2 ap.x12 (far (D:=D2) b1 ap.z2 s2))) λh4 e x4 st=>?_;have z4:IsZip h4 z TI TO .ellipsis:=x4 _ _ ni2.symm (b3.extBut _ _ ap.oz.symm (b2.extBut _ _ ni1.symm z1));have ne:=stop st z4;obtain⟨oe,f1,f2⟩:=st;refine wpAny_setField_rec z4 (Nat.succ_pos _) λh5 _ b5=>?_;exact hE h5 _ e (λd o c1 c2 c3 c4 _ y=>b5.extBut _ _ c1 (x4 _ _ c4 (b3.extBut _ _ c2 (b2.extBut _ _ c3 (b1.extBut _ _ c1 y))))) ⟨oe,b5.extBut _ _ ne f1,f2⟩
 .refine D1.item k _ _ _ k1 (far (D:=D1) b1 ap.z1 s1) λx h2 t2 px st2 b2=>?_;refine⟨b2.extBut _ _ no1 (b1.extBut _ _ ap.oz ho),λh3 o3 b3=>?_⟩;refine D2.item k _ _ _ k2 (far (D:=D2) b3 ap.o2 (far (D:=D2) b2 ap.x12 (far (D:=D2) b1 ap.z2 s2))) λy h4 t4 py st4 b4=>?_;refine⟨b4.extBut _ _ no2 o3,λh5 o5 b5=>?_⟩;refine D3.done _ _ _ (far (D:=D3) b5 ap.o3 (far (D:=D3) b4 ap.x23 (far (D:=D3) b3 ap.o3 (far (D:=D3) b2 ap.x13 (far (D:=D3) b1 ap.z3 s3))))) λh6 e x6 st=>?_;have z6:IsZip h6 z TI TO .ellipsis:=x6 _ _ ni3.symm (b5.extBut _ _ ap.oz.symm (b4.extBut _ _ ni2.symm (b3.extBut _ _ ap.oz.symm (b2.extBut _ _ ni1.symm z1))))
  have ne:=stop st z6;obtain⟨oe,f1,f2⟩:=st;refine wpAny_setField_rec z6 (Nat.succ_pos _) λh7 _ b7=>?_;exact hE h7 _ e (λd o c1 c2 c3 c4 c5 y'=>b7.extBut _ _ c1 (x6 _ _ c5 (b5.extBut _ _ c2 (b4.extBut _ _ c4 (b3.extBut _ _ c2 (b2.extBut _ _ c3 (b1.extBut _ _ c1 y'))))))) ⟨oe,b7.extBut _ _ ne f1,f2⟩
theorem acq{Q:Option Value->Shared->Prop}(D1:Draws prog w A.in1 i1 p n1 P1 S1)(D2:Draws prog w A.in1 i2 q n2 P2 S2)(D3:Draws prog w A.in1 i3 r n3 P3 S3)(ap:Ap3 z TO i1 i2 i3 p q r)(hz:IsZip s.heap z TI TO .none)(hi:Is3 s.heap TI (.ref i1) (.ref i2) (.ref i3))(ho:Is3 s.heap TO a b c)
  (s1:S1 k s.heap) (s2:S2 k s.heap) (s3:S3 k s.heap) (k1:k<n1) (k2:k<n2) (k3:k<n3)
  (hQ:∀x y v h' tk,P1 k x->P2 k y->P3 k v->IsZip h' z TI TO (rawInt s.heap.objs.size)->Is3 h' TO x y v->S1 (k+1) h'->S2 (k+1) h'->S3 (k+1) h'->Is3 h' s.heap.objs.size x y v->h'.objs.size=s.heap.objs.size+1->
   (∀d o,d≠z->d≠TO->d≠i1->d≠i2->d≠i3->s.heap.get? d=some o->h'.get? d=some o)->Q (some (.ref s.heap.objs.size)) {s with heap:=h',toks:=tk}):wpAny (model prog w) A (pyNext (.ref z)) Q E s:=by
 have ty:s.TypeIs (.ref z) "zip":=⟨_,hz,rfl⟩;rw[pyNext]
 apply wpAny_bind;apply wpAny_attempt
 apply wpAny_callSpecial?_slot (name:=Str.ofString "__next__") ty F.slot_zip_next
 apply wpAny_call_entry F.slot_zip_next ty F.entry_zip_next _ (F.args_zip_next_1 _)
 exact afx D1 D2 D3 ap hz hi ho s1 s2 s3 k1 k2 k3 λx y v h' tk c1 c2 c3 c4 c5 c6 c7 c8 c9 c10 c11=>wpAny_pure (hQ x y v h' tk c1 c2 c3 c4 c5 c6 c7 c8 c9 c10 c11)
theorem afy{Q:Option Value->Shared->Prop}(D1:Draws prog w A.in1 i1 p n1 P1 S1)(D2:Draws prog w A.in1 i2 q n2 P2 S2)(D3:Draws prog w A.in1 i3 r n3 P3 S3)(ap:Ap3 z TO i1 i2 i3 p q r)(hz:IsZip s.heap z TI TO .none)(hi:Is3 s.heap TI (.ref i1) (.ref i2) (.ref i3))(ho:Is3 s.heap TO a b c)
  (s1:S1 k s.heap) (s2:S2 k s.heap) (s3:S3 k s.heap) (kk:k=n1\/(k<n1/\k=n2)\/(k<n1/\k<n2/\k=n3))
  (hQ:∀h' tk,(∀d o,d≠z->d≠TO->d≠i1->d≠i2->d≠i3->s.heap.get? d=some o->h'.get? d=some o)->Q none {s with heap:=h',toks:=tk}):wpAny (model prog w) A (pyNext (.ref z)) Q E s:=by
 have ty:s.TypeIs (.ref z) "zip":=⟨_,hz,rfl⟩;rw[pyNext]
 apply wpAny_bind;apply wpAny_attempt
 apply wpAny_callSpecial?_slot (name:=Str.ofString "__next__") ty F.slot_zip_next
 apply wpAny_call_entry F.slot_zip_next ty F.entry_zip_next _ (F.args_zip_next_1 _)
 refine ajt D1 D2 D3 ap hz hi ho s1 s2 s3 kk λh' tk e kp ⟨o,f1,f2⟩=>?_;refine wpAny_bind (wpAny_isInstance (b:=true) (T := "StopIteration") ⟨o,f1,f2⟩ isSubtype_stop (wpAny_pure (hQ h' tk kp)))
end
end ZP
namespace ZP
open PySem.Builtin PySem.Builtin.SmallTypes L2
noncomputable def ayj(k1 k2 k3:Srk):It where
 go:=λi H=>∃xs ys zs x y v,its H k1=some xs/\its H k2=some ys/\its H k3=some zs/\xs[i]? = some x/\ys[i]? = some y/\zs[i]? = some v
 yld:=λi H u H'=>∃xs ys zs x y v p,its H k1=some xs/\its H k2=some ys/\its H k3=some zs/\xs[i]? = some x/\ys[i]? = some y/\zs[i]? = some v/\H p=none/\u=.ref p/\H'=upd H p (.tup [x,y,v])
 stop:=λi H=>∃xs ys zs,its H k1=some xs/\its H k2=some ys/\its H k3=some zs/\(i=xs.length\/(i<xs.length/\i=ys.length)\/(i<xs.length/\i<ys.length/\i=zs.length))
def azo(z TI TO i1 i2 i3:Addr)(t1 t2 t3:Tok)(k1 k2 k3:Srk)(i:Nat)(h:Heap):Prop :=
 IsZip h z TI TO .none/\Is3 h TI (.ref i1) (.ref i2) (.ref i3)/\(∃a b c,Is3 h TO a b c)/\own i1 t1 k1 i h/\own i2 t2 k2 i h/\own i3 t3 k3 i h
structure Far3 (z TI TO i1 i2 i3:Addr):Prop where
 a:TI≠z
 b:TO≠z
 c:i1≠z
 d:i2≠z
 d':i3≠z
 e:TI≠TO
 f:TI≠i1
 g:TI≠i2
 g':TI≠i3
 h:TO≠i1
 i:TO≠i2
 i':TO≠i3
 j:i1≠i2
 j':i1≠i3
 j'':i2≠i3
theorem afz{P:Program}{w:World}{K:Fg}{elts:List Expr}{x1:Nat}{pos:Pos}{z TI TO i1 i2 i3:Addr}{t1 t2 t3:Tok}{k1 k2 k3:Srk}(f:Far3 z TI TO i1 i2 i3):Turn P w K (.Tuple elts x1 pos) (ayj k1 k2 k3) [z,TI,TO,i1,i2,i3] z (azo z TI TO i1 i2 i3 t1 t2 t3 k1 k2 k3) where
 mem:=by simp
 obj:=λi h st b hb=>by
  obtain⟨h1,h2,⟨a,b',c',h3⟩,h4,h5,h6⟩:=st;simp only[List.mem_cons,List.not_mem_nil,or_false]at hb
  rcases hb with rfl|rfl|rfl|rfl|rfl|rfl
  .exact⟨_,h1,λv z=>(by cases z)⟩
  .exact⟨_,h2,λv z=>(by cases z)⟩
  .exact⟨_,h3,λv z=>(by cases z)⟩
  .exact wu h4
  .exact wu h5
  .exact wu h6
 keep:=λi h h' st k=>by
  obtain⟨h1,h2,⟨a,b',c',h3⟩,h4,h5,h6⟩:=st;exact⟨k z (by simp) _ h1,k TI (by simp) _ h2,⟨a,b',c',k TO (by simp) _ h3⟩,qm h4 λob e=>k i1 (by simp) ob e,qm h5 λob e=>k i2 (by simp) ob e,qm h6 λob e=>k i3 (by simp) ob e⟩
 item:=by
  intro X hP hw hK hc i aA s Z H E I hf st hg
  subst hP hw hK;obtain⟨xs,ys,zs,x,y,v,e1,e2,e3,g1,g2,g3⟩:=hg;obtain⟨h1,h2,⟨a,b,c,h3⟩,h4,h5,h6⟩:=st;have n:∀c∈[z,TI,TO,i1,i2,i3],H c=none:=λc hc=>(hf c hc).1;obtain⟨cs,P1,S1,D1,a1,b1,c1,d1⟩:=wy I (t:=t1) e1 (n i1 (by simp))
  obtain⟨ds,P2,S2,D2,a2,b2,c2,d2⟩:=wy I (t:=t2) e2 (n i2 (by simp))
  obtain⟨es,P3,S3,D3,a3,b3,c3,d3⟩:=wy I (t:=t3) e3 (n i3 (by simp))
  have hd:=I.ok.hd hc;have out1:∀c,H c=none->c∉cs:=λc e z=>c1 c z e;have out2:∀c,H c=none->c∉ds:=λc e z=>c2 c z e;have out3:∀c,H c=none->c∉es:=λc e z=>c3 c z e;have ap:Ap3 z TO i1 i2 i3 (i1::cs) (i2::ds) (i3::es):=⟨by simp,by simp,by simp,by simp[f.c.symm,out1 z (n z (by simp))],by simp[f.d.symm,out2 z (n z (by simp))],by simp[f.d'.symm,out3 z (n z (by simp))],by simp[f.h,out1 TO (n TO (by simp))],by simp[f.i,out2 TO (n TO (by simp))],by simp[f.i',out3 TO (n TO (by simp))],f.b,by simp[f.j,out2 i1 (n i1 (by simp))],by simp[f.j',out3 i1 (n i1 (by simp))],by simp[f.j.symm,out1 i2 (n i2 (by simp))],by simp[f.j'',out3 i2 (n i2 (by simp))],by simp[f.j'.symm,out1 i3 (n i3 (by simp))],by simp[f.j''.symm,out2 i3 (n i3 (by simp))]⟩
  refine acq (D1 X.A.in1 hd) (D2 X.A.in1 hd) (D3 X.A.in1 hd) ap h1 h2 h3 (a1 i h4) (a2 i h5) (a3 i h6) (List.getElem?_eq_some_iff.mp g1).1 (List.getElem?_eq_some_iff.mp g2).1 (List.getElem?_eq_some_iff.mp g3).1 λu1 u2 u3 h' tk pu pv pw z' to' s1' s2' s3' pr sz kp=>?_;obtain⟨x',q1,r1⟩:=d1 i u1 pu;obtain⟨y',q2,r2⟩:=d2 i u2 pv;obtain⟨v',q3,r3⟩:=d3 i u3 pw;rw[g1]at q1;cases q1
  rw[g2]at q2;cases q2
  rw[g3]at q3;cases q3
  refine⟨_,rfl,wpAny_letOwnedTupleGo_zip z' λh2' z2' sb=>?_⟩;have hp:H s.heap.objs.size=none:=I.hok.fresh (Nat.le_refl _);have lt:∀c∈[z,TI,TO,i1,i2,i3],c<s.heap.objs.size:=λc hc=>by
   simp only[List.mem_cons,List.not_mem_nil,or_false]at hc
   rcases hc with rfl|rfl|rfl|rfl|rfl|rfl
   .exact Heap.lt_size h1
   .exact Heap.lt_size h2
   .exact Heap.lt_size h3
   .obtain⟨_,e,_⟩:=wu h4;exact Heap.lt_size e
   .obtain⟨_,e,_⟩:=wu h5;exact Heap.lt_size e
   .obtain⟨_,e,_⟩:=wu h6;exact Heap.lt_size e
  have all:∀c o,c∉[z,TI,TO,i1,i2,i3]->s.heap.get? c=some o->h2'.get? c=some o:=λc o nc e=>by
   simp only[List.mem_cons,List.not_mem_nil,or_false,not_or]at nc;exact(sb.2 c nc.1).trans (kp c o nc.1 nc.2.2.1 nc.2.2.2.1 nc.2.2.2.2.1 nc.2.2.2.2.2 e)
  have nT:∀c∈[z,TI,TO,i1,i2,i3],c≠s.heap.objs.size:=λc hc=>Nat.ne_of_lt (lt c hc);have I0:Inv X aA Z (upd H s.heap.objs.size (.tup [x,y,v])) {s with heap:=s.heap.push {cls:=.type "tuple",data:=.seq #[u1,u2,u3]} } :=
   I.laid (t':=s.toks) (o:=.tup [x,y,v]) (λb o e=>Heap.get?_push_of_some _ e) (Nat.le_refl _) ⟨by show 3<=sizeLine;decide,[u1,u2,u3],.cons r1 (.cons r2 (.cons r3 .nil)),⟨_,Heap.get?_push_size _ rfl,rfl,_,rfl⟩⟩
  have I1:Inv X aA Z (upd H s.heap.objs.size (.tup [x,y,v])) {s with heap:=h2',toks:=tk}:=by
   refine a2z (s:={s with heap:=s.heap.push {cls:=.type "tuple",data:=.seq #[u1,u2,u3]} }) (ch:=[z,TI,TO,i1,i2,i3]) I0 (λb hb=>?_) λc o nc e=>?_
   .obtain⟨f0,f1⟩:=hf b hb;exact⟨by rw[di (nT b hb)];exact f0,f1⟩
   .rcases Heap.get?_push_cases e with⟨rfl,rfl⟩|e
    .exact(sb.2 _ (nT z (by simp)).symm).trans pr
    .exact all c o nc e
  refine⟨.ref s.heap.objs.size,_,I1,rfl,⟨xs,ys,zs,x,y,v,_,e1,e2,e3,g1,g2,g3,hp,rfl,rfl⟩,⟨z2',?_,⟨u1,u2,u3,(sb.2 _ f.b).trans to'⟩,qm (b1 _ _ s1') λob e=>(sb.2 _ f.c).trans e,qm (b2 _ _ s2') λob e=>(sb.2 _ f.d).trans e,qm (b3 _ _ s3') λob e=>(sb.2 _ f.d').trans e⟩,λb hb=>?_⟩
  .exact(sb.2 _ f.a).trans (kp TI _ f.a f.e f.f f.g f.g' h2)
  .rw[di (nT b hb)];exact n b hb
 done:=by
  intro X hP hw hK hc i aA s Z H E I hf st hg
  subst hP hw hK;obtain⟨xs,ys,zs,e1,e2,e3,g⟩:=hg;obtain⟨h1,h2,⟨a,b,c,h3⟩,h4,h5,h6⟩:=st;have n:∀c∈[z,TI,TO,i1,i2,i3],H c=none:=λc hc=>(hf c hc).1;obtain⟨cs,P1,S1,D1,a1,b1,c1,d1⟩:=wy I (t:=t1) e1 (n i1 (by simp))
  obtain⟨ds,P2,S2,D2,a2,b2,c2,d2⟩:=wy I (t:=t2) e2 (n i2 (by simp))
  obtain⟨es,P3,S3,D3,a3,b3,c3,d3⟩:=wy I (t:=t3) e3 (n i3 (by simp))
  have hd:=I.ok.hd hc;have out1:∀c,H c=none->c∉cs:=λc e z=>c1 c z e;have out2:∀c,H c=none->c∉ds:=λc e z=>c2 c z e;have out3:∀c,H c=none->c∉es:=λc e z=>c3 c z e;have ap:Ap3 z TO i1 i2 i3 (i1::cs) (i2::ds) (i3::es):=⟨by simp,by simp,by simp,by simp[f.c.symm,out1 z (n z (by simp))],by simp[f.d.symm,out2 z (n z (by simp))],by simp[f.d'.symm,out3 z (n z (by simp))],by simp[f.h,out1 TO (n TO (by simp))],by simp[f.i,out2 TO (n TO (by simp))],by simp[f.i',out3 TO (n TO (by simp))],f.b,by simp[f.j,out2 i1 (n i1 (by simp))],by simp[f.j',out3 i1 (n i1 (by simp))],by simp[f.j.symm,out1 i2 (n i2 (by simp))],by simp[f.j'',out3 i2 (n i2 (by simp))],by simp[f.j'.symm,out1 i3 (n i3 (by simp))],by simp[f.j''.symm,out2 i3 (n i3 (by simp))]⟩
  refine afy (D1 X.A.in1 hd) (D2 X.A.in1 hd) (D3 X.A.in1 hd) ap h1 h2 h3 (a1 i h4) (a2 i h5) (a3 i h6) g λh' tk kp=>⟨rfl,a2z I hf λc o nc e=>?_⟩;simp only[List.mem_cons,List.not_mem_nil,or_false,not_or]at nc;exact kp c o nc.1 nc.2.2.1 nc.2.2.2.1 nc.2.2.2.2.1 nc.2.2.2.2.2 e
 self:=λ_ _ _ _ _ st h=>wpAny_pyIter_zip st.1 h
noncomputable def mk3(h:Heap)(t1 t2 t3:Tok)(k1 k2 k3:Srk):Heap:=((h.push (iob t1 k1)).push (iob t2 k2)).push (iob t3 k3)
noncomputable def mk6(h:Heap)(t1 t2 t3:Tok)(k1 k2 k3:Srk):Heap :=
 (((mk3 h t1 t2 t3 k1 k2 k3).push {cls:=.type "tuple",data:=.seq #[.ref h.objs.size,.ref (h.objs.size+1),.ref (h.objs.size+2)]}).push {cls:=.type "tuple",data:=.seq #[.none,.none,.none]}).push
  {cls:=.type "zip",data:=.fields #[.none,.bool false,.bool false,.ref (h.objs.size+3),.ref (h.objs.size+4)]}
theorem ag0(t1 t2 t3:Tok)(k1 k2 k3:Srk)(us1 us2 us3:List Value):Meets (Builtin.«zip.__new__» ⟨[.type "zip",val t1 k1,val t2 k2,val t3 k3],[]⟩)
  (λ_ R s=>cont s.heap k1 us1/\cont s.heap k2 us2/\cont s.heap k3 us3/\R (.ok (.ret (.ref (s.heap.objs.size+5)))) {s with heap:=mk6 s.heap t1 t2 t3 k1 k2 k3}) :=
 .of_wp λprog w A R s h=>by
  obtain⟨hp,g,d,tk,os⟩:=s;obtain⟨c1,c2,c3,h⟩:=h;have sub:=sub_zip;have c1':cont (Shared.heap ⟨hp,g,d,tk,os⟩) k1 us1:=c1;have c2':cont (Shared.heap ⟨hp.push (iob t1 k1),g,d,tk,os⟩) k2 us2:=a2q c2 _;have c3':cont (Shared.heap ⟨(hp.push (iob t1 k1)).push (iob t2 k2),g,d,tk,os⟩) k3 us3:=a2q (a2q c3 _) _
  wp_walk using zx (t:=t1) c1',zx (t:=t2) c2',zx (t:=t3) c3'
  refine⟨_,rfl,?_⟩;simpa[mk6,mk3,Heap.size_push,ownedTupleFields,Nat.add_assoc] using h
theorem av2(n:Nat):Far3 (n+5) (n+3) (n+4) n (n+1) (n+2):=by
 refine⟨?_,?_,?_,?_,?_,?_,?_,?_,?_,?_,?_,?_,?_,?_,?_⟩<;>(intro z;have z:(_:Nat)=_:=z;lia)
theorem ayk(n b:Nat)(h:b∈[n+5,n+3,n+4,n,n+1,n+2]):n<=b:=by
 simp only[List.mem_cons,List.not_mem_nil,or_false]at h;lia
theorem a5n(a b c:Value):checkTypeCall "zip" ⟨[a,b,c],[]⟩=pure ():=by kernel_rfl
theorem a7a(a b c:Value):checkBuiltinCall "zip.__new__" ⟨[.type "zip",a,b,c],[]⟩=pure ():=by kernel_rfl
theorem a4s(a b c d:Value):argsOk "object.__init__" ⟨[a,b,c,d],[]⟩:=by
 unfold argsOk
 kernel_rfl
theorem vals3{v1 v2 v3:V}{us:List Value}(r:Vals [v1,v2,v3] us):∃u1 u2 u3,us=[u1,u2,u3]/\RelV v1 u1/\RelV v2 u2/\RelV v3 u3:=by
 cases r with
 |cons r1 rr=>cases rr with
  |cons r2 rr=>cases rr with
   |cons r3 rr=>cases rr;exact⟨_,_,_,rfl,r1,r2,r3⟩
section
variable{X:Cx}{elts:List Expr}{x1:Nat}{tpos:Pos}{e1 e2 e3:Expr}{ta:TA}{p pos:Pos}
noncomputable def ayl(ta:TA):TI:=λZ H R=>ta Z H λvs H1=>∃k1 k2 k3 xs ys zs,vs=[Srk.v k1,Srk.v k2,Srk.v k3]/\its H1 k1=some xs/\its H1 k2=some ys/\its H1 k3=some zs/\R (ayj k1 k2 k3) H1
theorem apb(hg:Gl X "zip")(hm:X.mg "zip" = none)(hb:bootBuiltins "zip" = some (.type "zip"))(ha:PA X [e1,e2,e3] ta)
  (h1:starEach [e1,e2,e3] X.env=[(false,eval e1 X.env),(false,eval e2 X.env),(false,eval e3 X.env)]:=by rfl) (h2:starEach [e2,e3] X.env=[(false,eval e2 X.env),(false,eval e3 X.env)]:=by rfl):PI X (.Tuple elts x1 tpos) (.Call (.Name "zip" p) [e1,e2,e3] [] pos) (ayl ta):=by
 intro aA s Z H R I h
 refine wpAny_Call_Name_kw (a1y I hg hm hb ?_ (by decide) (by decide))
 refine PyProof.Rows.callWith_type1 (thn (ha pos aA s Z H _ I h) λus s1 ⟨vs,H1,I1,r1,q1⟩=>?_) (by rw[h1,h2]) (by rw[h2];rfl)
 obtain⟨k1,k2,k3,xs,ys,zs,rfl,e1,e2,e3,q⟩:=q1;obtain⟨v1,v2,v3,rfl,rv1,rv2,rv3⟩:=vals3 r1;obtain⟨t1,rfl⟩:=a65 rv1;obtain⟨t2,rfl⟩:=a65 rv2;obtain⟨t3,rfl⟩:=a65 rv3;obtain⟨us1,c1,_⟩:=a1e I1 e1;obtain⟨us2,c2,_⟩:=a1e I1 e2;obtain⟨us3,c3,_⟩:=a1e I1 e3;refine callType_new F.called_zip (by decide) (a5n _ _ _) (a7a _ _ _) (λobj=>a4s obj _ _ _) F.entry_zip_new (ag0 t1 t2 t3 k1 k2 k3 us1 us2 us3) ⟨c1,c2,c3,?_⟩
 have z3:(mk3 s1.heap t1 t2 t3 k1 k2 k3).objs.size=s1.heap.objs.size+3:=by simp[mk3,Heap.size_push]
 have up:∀{b:Addr} {o:Obj},(mk3 s1.heap t1 t2 t3 k1 k2 k3).get? b=some o->(mk6 s1.heap t1 t2 t3 k1 k2 k3).get? b=some o:=λe=>by
  unfold mk6;exact Heap.get?_push_of_some _ (Heap.get?_push_of_some _ (Heap.get?_push_of_some _ e))
 have at0:(mk6 s1.heap t1 t2 t3 k1 k2 k3).get? s1.heap.objs.size=some (iob t1 k1):=up (by
  unfold mk3;exact Heap.get?_push_of_some _ (Heap.get?_push_of_some _ (Heap.get?_push_size _ (by cases k1<;>rfl))))
 have at1:(mk6 s1.heap t1 t2 t3 k1 k2 k3).get? (s1.heap.objs.size+1)=some (iob t2 k2):=up (by
  unfold mk3;have:=Heap.get?_push_size (o:=iob t2 k2) (s1.heap.push (iob t1 k1)) (by cases k2<;>rfl)
  rw[Heap.size_push]at this;exact Heap.get?_push_of_some _ this)
 have at2:(mk6 s1.heap t1 t2 t3 k1 k2 k3).get? (s1.heap.objs.size+2)=some (iob t3 k3):=up (by
  unfold mk3;have:=Heap.get?_push_size (o:=iob t3 k3) ((s1.heap.push (iob t1 k1)).push (iob t2 k2)) (by cases k3<;>rfl)
  rw[Heap.size_push,Heap.size_push]at this;exact this)
 have at3:Is3 (mk6 s1.heap t1 t2 t3 k1 k2 k3) (s1.heap.objs.size+3) (.ref s1.heap.objs.size) (.ref (s1.heap.objs.size+1)) (.ref (s1.heap.objs.size+2)):=by
  unfold mk6;rw[<-z3];exact Heap.get?_push_of_some _ (Heap.get?_push_of_some _ (Heap.get?_push_size _ rfl))
 have at4:Is3 (mk6 s1.heap t1 t2 t3 k1 k2 k3) (s1.heap.objs.size+4) .none .none .none:=by
  unfold mk6;have:=Heap.get?_push_size (o:={cls:=.type "tuple",data:=.seq #[.none,.none,.none]}) ((mk3 s1.heap t1 t2 t3 k1 k2 k3).push {cls:=.type "tuple",data:=.seq #[.ref s1.heap.objs.size,.ref (s1.heap.objs.size+1),.ref (s1.heap.objs.size+2)]}) rfl;rw[Heap.size_push,z3]at this;exact Heap.get?_push_of_some _ this
 have at5:IsZip (mk6 s1.heap t1 t2 t3 k1 k2 k3) (s1.heap.objs.size+5) (s1.heap.objs.size+3) (s1.heap.objs.size+4) .none:=by
  unfold mk6;have:=Heap.get?_push_size (o:={cls:=.type "zip",data:=.fields #[.none,.bool false,.bool false,.ref (s1.heap.objs.size+3),.ref (s1.heap.objs.size+4)]}) (((mk3 s1.heap t1 t2 t3 k1 k2 k3).push {cls:=.type "tuple",data:=.seq #[.ref s1.heap.objs.size,.ref (s1.heap.objs.size+1),.ref (s1.heap.objs.size+2)]}).push {cls:=.type "tuple",data:=.seq #[.none,.none,.none]}) rfl;rw[Heap.size_push,Heap.size_push,z3]at this;exact this
 have keepA:∀b o,s1.heap.get? b=some o->(mk6 s1.heap t1 t2 t3 k1 k2 k3).get? b=some o:=λb o e=>up (by
  unfold mk3;exact Heap.get?_push_of_some _ (Heap.get?_push_of_some _ (Heap.get?_push_of_some _ e)))
 have I2:Inv X aA Z H1 {s1 with heap:=mk6 s1.heap t1 t2 t3 k1 k2 k3}:=I1.kept (t':=s1.toks) keepA
 refine⟨⟨_,at5,rfl⟩,?_⟩;refine wpAny_pyIter_zip (s:={s1 with heap:=mk6 s1.heap t1 t2 t3 k1 k2 k3}) at5 ?_
 refine⟨s1.heap.objs.size+5,[s1.heap.objs.size+5,s1.heap.objs.size+3,s1.heap.objs.size+4,s1.heap.objs.size,s1.heap.objs.size+1,s1.heap.objs.size+2],azo _ _ _ _ _ _ t1 t2 t3 k1 k2 k3,ayj k1 k2 k3,H1,rfl,I2,afz (av2 s1.heap.objs.size),
  ⟨at5,at3,⟨_,_,_,at4⟩,aql at0,aql at1,aql at2⟩,λb hb=>?_,q⟩
 have:s1.heap.objs.size<=b:=ayk _ b hb
 exact I1.fpOk this (I1.hok.fresh this)
end
end ZP
namespace MI
open L2 ZP
noncomputable def acr{α:Type}:List α->List α->List α->List (α×α×α)
 |x::xs,y::ys,z::zs=>(x,y,z)::acr xs ys zs
 |_,_,_=>[]
theorem ag1{α:Type}:∀{xs ys zs:List α} {i:Nat} {t:α×α×α},(acr xs ys zs)[i]? = some t->xs[i]? = some t.1/\ys[i]? = some t.2.1/\zs[i]? = some t.2.2
 |x::xs,y::ys,z::zs,0,t,h=>by cases h;exact⟨rfl,rfl,rfl⟩
 |x::xs,y::ys,z::zs,i+1,t,h=>ag1 (xs:=xs) (ys:=ys) (zs:=zs) (i:=i) h
 |[],_,_,_,_,h=>by simp[acr]at h
 |_::_,[],_,_,_,h=>by simp[acr]at h
 |_::_,_::_,[],_,_,h=>by simp[acr]at h
theorem ab6{α:Type}:∀(xs ys zs:List α),(acr xs ys zs).length=min xs.length (min ys.length zs.length)
 |x::xs,y::ys,z::zs=>by rw[acr,List.length_cons,ab6 xs ys zs,List.length_cons,List.length_cons,List.length_cons];lia
 |[],_,_=>by simp[acr]
 |_::_,[],_=>by simp[acr]
 |_::_,_::_,[]=>by simp[acr]
noncomputable def apc(x y z:D)(h:Hd):R Itm:=match srcOf x h,srcOf y h,srcOf z h with
 |some (xs,c1),some (ys,c2),some (zs,c3)=>.ok ⟨(acr xs ys zs).map λp=>.tup [p.1,p.2.1,p.2.2],λh=>c1 h/\c2 h/\c3 h⟩ h
 |_,_,_=>.no
noncomputable def aju(f g k:SE):SI:=λτ h=>(f τ h).bind λx h1=>(g τ h1).bind λy h2=>(k τ h2).bind λz h3=>apc x y z h3
theorem apd{X:Cx}{E:XD}{elts:List Expr}{x1:Nat}{tpos:Pos}{e1 e2 e3:Expr}{p pos:Pos}{f g k:SE}(hg:Gl X "zip")(hm:X.mg "zip" = none)(hb:bootBuiltins "zip" = some (.type "zip"))(ha:ME X E e1 f)(hb':ME X E e2 g)(hc':ME X E e3 k)
  (h1:starEach [e1,e2,e3] X.env=[(false,eval e1 X.env),(false,eval e2 X.env),(false,eval e3 X.env)]:=by rfl) (h2:starEach [e2,e3] X.env=[(false,eval e2 X.env),(false,eval e3 X.env)]:=by rfl) (h3:starEach [e3] X.env=[(false,eval e3 X.env)]:=by rfl) :
  MI X E (.Tuple elts x1 tpos) (.Call (.Name "zip" p) [e1,e2,e3] [] pos) (aju f g k):=by
 intro aA s Z H Rr I ⟨U,τ,h,S,Rh,o⟩
 refine apb hg hm hb (a1b ha (a1b hb' (a1b hc' a7q (by rw[h3];rfl)) (by rw[h2,h3])) (by rw[h1,h2])) h1 h2 aA s Z H Rr I ?_
 refine⟨U,τ,h,S,Rh,bh o λd h1 U1 H1 v g1 r1 hr1 o1=>?_⟩;refine⟨U1,τ,h1,S.mono g1,hr1,bh o1 λd2 h2 U2 H2 u g2 r2 hr2 o2=>?_⟩;refine⟨U2,τ,h2,(S.mono g1).mono g2,hr2,bh o2 λd3 h3 U3 H3 t g3 r3 hr3 o3=>?_⟩;unfold apc at o3
 split at o3
 .rename_i xs c1 ys c2 zs c3 q1 q2 q3;obtain⟨k1,rfl,k1c,k1f⟩:=a66 ((r1.mono g2).mono g3) hr3 q1;obtain⟨k2,rfl,k2c,k2f⟩:=a66 (r2.mono g3) hr3 q2;obtain⟨k3,rfl,k3c,k3f⟩:=a66 r3 hr3 q3;obtain⟨vs1,w1,w2⟩:=k1f U3 H3 h3 (.refl _ _) hr3 k1c;obtain⟨vs2,w3,w4⟩:=k2f U3 H3 h3 (.refl _ _) hr3 k2c;obtain⟨vs3,w5,w6⟩:=k3f U3 H3 h3 (.refl _ _) hr3 k3c;refine⟨k1,k2,k3,vs1,vs2,vs3,rfl,w1,w3,w5,o3 U3 H3 _ (.refl _ _) ?_ hr3⟩
  intro U4 H4 h4 g4 hr4 c
  obtain⟨us1,a1,a2⟩:=k1f U4 H4 h4 g4 hr4 c.1;obtain⟨us2,a3,a4⟩:=k2f U4 H4 h4 g4 hr4 c.2.1;obtain⟨us3,a5,a6⟩:=k3f U4 H4 h4 g4 hr4 c.2.2;refine⟨λi d ed=>?_,us1,us2,us3,a1,a3,a5,?_⟩
  .simp only[List.getElem?_map,Option.map_eq_some_iff]at ed;obtain⟨⟨x,y,z⟩,ez,rfl⟩:=ed;obtain⟨ex,ey,ez⟩:=ag1 ez;obtain⟨v1,b1,b2⟩:=a2.get ex;obtain⟨v2,b3,b4⟩:=a4.get ey;obtain⟨v3,b5,b6⟩:=a6.get ez;refine⟨⟨us1,us2,us3,v1,v2,v3,a1,a3,a5,b1,b3,b5⟩,λx H' yl=>?_⟩;obtain⟨xs',ys',zs',x',y',z',p,c1,c2,c3,c4,c5,c6,c7,rfl,rfl⟩:=yl;rw[a1]at c1;cases c1
   rw[a3]at c2;cases c2
   rw[a5]at c3;cases c3
   rw[b1]at c4;cases c4
   rw[b3]at c5;cases c5
   rw[b5]at c6;cases c6
   exact⟨ur c7 _,.tup gh (.cons (b2.mono (ur c7 _)) (.cons (b4.mono (ur c7 _)) (.cons (b6.mono (ur c7 _)) .nil))),hr4.aside c7 _⟩
  .rw[List.length_map,ab6,a2.len,a4.len,a6.len];lia
 .exact o3.elim
end MI
namespace K28
open L2 MI
noncomputable def jc(ak:SF)(aq:SF):SE :=
 (sA vf (aj (sV 0) (aj (sV 1) bj)))
noncomputable def jd(ak:SF)(aq:SF):SE :=
 (sC (.str ""))
noncomputable def je(ak:SF)(aq:SF):ST :=
 (sT (s2 hNe (s2 gIx (sV 2) (sV 0)) (s2 gIx (sV 2) (sV 1))))
noncomputable def um(ak:SF)(aq:SF):SE :=
 (sV 0)
noncomputable def jf(ak:SF)(aq:SF):ST :=
 (sT (s2 (a3r true) (sV 0) (sV 1)))
noncomputable def jg(ak:SF)(aq:SF):SS :=
 (dw (iz 5 (sA (gq false 3 ak) (aj (sV 0) (aj (sV 2) (aj (sV 4) bj)))))
 (sIf (sT (s2 a5z (sV 5) (sC .non)))
 (a3l (sV 5) (sV 3) (sV 4))
 sNx))
noncomputable def ji(ak:SF)(aq:SF):ST :=
 (ap8 (sV 3))
noncomputable def jj(ak:SF)(aq:SF):SS :=
 (dw (vg (aqp (sV 2) (sV 3)))
 (dw (iz 3 ab4)
 (a2x (sIt (sZ (zu (sIt (sA (gq false 1 aq) (aj (sV 0) bj))) t1 (jf ak aq) (um ak aq) [2]))) (kN 4) (jg ak aq))))
noncomputable def my(ak:SF)(aq:SF):SS :=
 (dw (iz 1 (s2 gIx (sV 0) (sI 2)))
 (dw (iz 2 ab4)
 (dw (iz 3 (a8o (.dT []) (sIt (sA (gq false 1 aq) (aj (sV 0) bj))) (tN 2) (je ak aq) (jc ak aq) (jd ak aq) [1]))
 (dw (sWh (ji ak aq) (jj ak aq) 100000)
 (a06 (sV 2))))))
noncomputable def lz:SS :=
 (dw (iz 11 (sA vf (aj (sA a0x (aj (sV 9) (aj (sV 10) bj))) (aj (sA a0w (aj (sV 9) (aj (sV 10) bj))) bj))))
 (sIf (sT (s2 (a3r false) (sV 11) (sV 1)))
 (a06 (s2 j9 (sV 8) (s2 a0y (sV 1) (sV 11))))
 sNx))
noncomputable def uo:SS :=
 (dw (a7l (sV 0) (a2a 3 (g8 (kN 3) (g8 (kN 4) (g8 (kN 5) a2j)))))
 (dw (a7l (sV 2) (a2a 2 (g8 (kN 6) (g8 (kN 7) a2j))))
 (dw (a2x (aju (sV 3) (s2 gIx (sV 4) (sV 6)) (s2 gIx (sV 4) (sV 7))) (a2a 3 (g8 (kN 8) (g8 (kN 9) (g8 (kN 10) a2j)))) lz)
 (a06 (sC .non)))))
noncomputable def a1i(dh:SF):SS :=
 (a06 (a5m (sA (gq false 1 dh) (aj (sV 0) bj)) (sA vf (aj (sA a0x (aj (sV 1) (aj (sV 2) bj))) (aj (sA a0w (aj (sV 1) (aj (sV 2) bj))) bj)))))
noncomputable def a0o(dh:SF)(aq:SF):SE :=
 (sA vf (aj (sV 0) (aj (sV 1) (aj (a5m (sV 2) (sA vf (aj (sV 0) (aj (sV 1) bj)))) bj))))
noncomputable def a0i(dh:SF)(aq:SF):SS :=
 (dw (iz 1 (sA (gq false 1 dh) (aj (sV 0) bj)))
 (a06 (sA xr (aj (sZ (wj (sIt (sA (gq false 1 aq) (aj (sV 0) bj))) (tN 2) (a0o dh aq) [1])) bj))))
noncomputable def zb:SS :=
 (dw (sIf (sOr (sT (s2 gIs (sV 1) (sC .non))) (sT (s2 gIs (sV 0) (sC .non))))
 (a06 (a1c (s2 gIs (sV 1) (sC .non)) (s2 gIs (sV 0) (sC .non))))
 sNx)
 (a06 (a1c (sA a0e (aj (sV 0) (aj (sC (.ty "str")) bj))) (s2 hEq (sV 0) (sV 1)))))
noncomputable def j6(bu:SF)(j8:SF)(jx:SF):SE :=
 (sA (gq false 2 bu) (aj (sV 0) (aj (sV 1) bj)))
noncomputable def m5(bu:SF)(j8:SF)(jx:SF):SS :=
 (dw (iz 1 (sA (gq false 1 jx) (aj (sV 0) bj)))
 (dw (iz 2 (sA (gq false 1 j8) (aj (sV 0) bj)))
 (dw (sIf (sOr (a8a (a5j (sA a0e (aj (sV 1) (aj (sC (.ty "tuple")) bj))))) (sT (s2 hNe (sA oh (aj (sV 1) bj)) (sA oh (aj (sV 2) bj)))))
 aiw
 sNx)
 (a06 (sA aqk (aj (sZ (wj (a9r (sV 1) (sV 2)) (tN 2) (j6 bu j8 jx) [])) bj))))))
noncomputable def ik(bu:SF)(du:SF)(bx:SF)(j4:SF):SS :=
 (dw (iz 7 (s2 gIx (sV 2) (sV 4)))
 (dw (ad6 4 a5l (sI 1))
 (dw (sIf (sOr (a8a (a5j (sA a0e (aj (sV 7) (aj (sC (.ty "tuple")) bj))))) (sT (s2 hNe (sA oh (aj (sV 7) bj)) (sI 3))))
 aiw
 sNx)
 (dw (sIf (sOr (a8a (a5j (sA (gq false 3 du) (aj (s2 gIx (sV 7) (sI 0)) (aj (sV 5) (aj (sV 5) bj)))))) (a8a (a5j (sA (gq false 3 du) (aj (s2 gIx (sV 7) (sI 1)) (aj (sV 6) (aj (sV 6) bj)))))))
 aiw
 sNx)
 (sIf (a8a (a5j (sA (gq false 2 bu) (aj (s2 gIx (sV 7) (sI 2)) (aj (sA (gq false 4 bx) (aj (sV 0) (aj (sV 1) (aj (sV 5) (aj (sV 6) bj))))) bj)))))
 aiw
 sNx)))))
noncomputable def il(bu:SF)(du:SF)(bx:SF)(j4:SF):SS :=
 (a2x (sRg a07 (aj (s2 j9 (sV 5) (sI 1)) (aj (sV 3) bj))) (kN 6) (ik bu du bx j4))
noncomputable def ig(bu:SF)(du:SF)(bx:SF)(j4:SF):SS :=
 (dw (iz 2 (sA (gq false 1 j4) (aj (sV 0) bj)))
 (dw (iz 3 (sA oh (aj (s2 gIx (sV 0) (sI 1)) bj)))
 (dw (sIf (sOr (a8a (a5j (sA a0e (aj (sV 2) (aj (sC (.ty "tuple")) bj))))) (sT (s2 hNe (sA oh (aj (sV 2) bj)) (s2 aao (s2 zp (sV 3) (s2 a6h (sV 3) (sI 1))) (sI 2)))))
 aiw
 sNx)
 (dw (iz 4 (sI 0))
 (dw (a2x (sRg a0k (aj (sV 3) bj)) (kN 5) (il bu du bx j4))
 (a06 (sC (.bl true))))))))
noncomputable def v7(bu:SF)(bx:SF)(cj:SF)(jo:SF)(dj:SF)(qi:SF):SS :=
 (sIf (a8a (a5j (sA (gq false 2 bu) (aj (sA (gq false 3 qi) (aj (sV 0) (aj (sV 4) (aj (sV 5) bj)))) (aj (sA (gq false 4 bx) (aj (sV 0) (aj (sV 3) (aj (sV 4) (aj (sV 5) bj))))) bj)))))
 aiw
 sNx)
noncomputable def zc(bu:SF)(bx:SF)(cj:SF)(jo:SF)(dj:SF)(qi:SF):SS :=
 (dw (iz 3 (sA (gq false 2 jo) (aj (s2 gIx (sV 0) (sI 1)) (aj (s2 gIx (sV 0) (sI 2)) bj))))
 (dw (sIf (sOr (a8a (a5j (sA (gq false 1 dj) (aj (sV 0) bj)))) (a8a (a5j (sA (gq false 2 cj) (aj (sV 0) (aj (sV 3) bj))))))
 aiw
 sNx)
 (dw (a2x (sIt (sZ (sA a2h (aj (sA vf (aj (sV 1) (aj (sV 2) bj))) (aj (sA vf (aj (sV 2) (aj (sV 1) bj))) (aj (sA vf (aj (sV 1) (aj (sV 1) bj))) bj)))))) (a2a 2 (g8 (kN 4) (g8 (kN 5) a2j))) (v7 bu bx cj jo dj qi))
 (a06 (sC (.bl true))))))
noncomputable def ag2(iy:SF)(qz:SF)(km:SF)(aa:SF):SS :=
 (dw (iz 1 (sA (gq true 1 qz) (aj (sV 0) bj)))
 (dw (iz 2 (sA (gq false 1 iy) (aj (sV 1) bj)))
 (dw (iz 3 (sA (gq false 2 aa) (aj (sV 1) (aj (sA oh (aj (s2 gIx (sV 2) (sI 1)) bj)) bj))))
 (dw (iz 4 (sA (gq false 2 aa) (aj (sV 1) (aj (sA oh (aj (s2 gIx (sV 2) (sI 1)) bj)) bj))))
 (dw (iz 5 (sA (gq false 1 iy) (aj (sV 1) bj)))
 (dw (iz 6 (sA (gq false 2 aa) (aj (sV 1) (aj (sA oh (aj (s2 gIx (sV 5) (sI 1)) bj)) bj))))
 (a06 (a1c (sA (gq false 3 km) (aj (sV 2) (aj (sV 3) (aj (sV 4) bj)))) (a1c (sA (gq false 3 km) (aj (sV 5) (aj (sV 6) (aj (sI 0) bj)))) (sA (gq false 3 km) (aj (sV 2) (aj (sV 3) (aj (sV 4) bj)))))))))))))
end K28
namespace MI
open L2
theorem av3(ha:ME X E a fa)(hb:ME X E b fb)(hp:a6j b:=by with_unfolding_all exact λ_ _=>rfl):ME X E (.Subscript a b pos) (s2 gIx fa fb):=ano ha hb hp
theorem aym(i:Nat)(hN:X.N.Nodup)(he:ME X E e fa)(hi:X.N[i]? = some x:=by rfl)(hx:Loc X.env.scope x:=by with_unfolding_all first|exact Or.inl rfl|exact Or.inr rfl)(hs:swapsWith e (some (.Name x pos')) pos.line X.env=pure false:=by rfl)(hf:Hf X x:=by with_unfolding_all first|exact .inl rfl|exact .inr rfl|assumption) :
  MS X E (.Assign [.Name x pos'] e pos) (iz i fa):=atd hN hi hx he hs hf
theorem av4{X:Cx}(G:Dn X.prog X.w X.K X.mg X.base k x ps (aan X.K n F) f fd)(hr:Room k' X.A)(hk:k<=k')(ha:MA X X0 (e::es) ka)(hg:Gl X x:=by rfl)
  (hdb:(x == ("__debug__" : Str))=false:=by decide) (he:starEach (e::es) X.env=(false,eval e X.env)::starEach es X.env:=by rfl) (hpl:(backTo pos (starEach es X.env)).any (·.1)=false:=by rfl):ME X X0 (.Call (.Name x p) (e::es) [] pos) (sA (gq false n F) ka):=aaw false G (hr.mono hk) hg ha hdb he hpl
theorem av5(hm:X.mg "len" = none)(ha:MA X E [e] ka)(hg:Gl X "len":=by rfl)(he:starEach [e] X.env=(false,eval e X.env)::starEach [] X.env:=by rfl)(hpl:(backTo pos (starEach [] X.env)).any (·.1)=false:=by rfl):ME X E (.Call (.Name "len" p) [e] [] pos) (sA oh ka) :=
 a9o (L2.CallR.or a7x a7y) anr hg hm akz ha (by decide) (by decide) he hpl
theorem a4t(ho:OpR X (compareOp op) r)(hs:a2g X.K g r)(ha:ME X E a fa)(hb:ME X E b fb)(hm:behindInMarks op b=false:=by exact aaa _):MT X E (.Compare a [op] [b] pos) (sT (s2 g fa fb)):=a6w ho hs ha hb hm
theorem av6(hu:X.A.units+64<cLine)(ha:ME X E a fa)(hb:ME X E b fb):MT X E (.Compare a [.Eq] [b] pos) (sT (s2 hEq fa fb)):=a6w (al9 hu) aes ha hb (aaa _)
theorem pgn(i:Nat)(hN:N.Nodup:=by decide +kernel)(hi:N[i]? = some x:=by rfl)(hx:∀C fp s H,Loc (cxC X N aB cl C fp s H).env.scope x:=by with_unfolding_all exact λ_ _ _ _=>Or.inl rfl)(hf:∀C fp s H,(cxC X N aB cl C fp s H).fn x=true\/(cxC X N aB cl C fp s H).env.scope.names.lookup x=some .local:=by with_unfolding_all exact λ_ _ _ _=>.inr rfl) :
  ∀C fp s H,PG (cxC X N aB cl C fp s H) (.Name x pos) (a0v i):=λC fp s H=>a9a (X:=cxC X N aB cl C fp s H) hN hi (hx C fp s H) (hf C fp s H)
theorem pgm(i:Nat)(hN:N.Nodup:=by decide +kernel)(hi:N[i]? = some x:=by rfl)(hx:Loc (cxC X N aB cl C fp s H).env.scope x:=by with_unfolding_all exact Or.inl rfl)(hf:(cxC X N aB cl C fp s H).fn x=true\/(cxC X N aB cl C fp s H).env.scope.names.lookup x=some .local:=by with_unfolding_all exact .inr rfl) :
  PG (cxC X N aB cl C fp s H) (.Name x pos) (a0v i):=a9a (X:=cxC X N aB cl C fp s H) hN hi hx hf
def allP(P:α->Prop):List α->Prop
 |[]=>True
 |a::l=>P a/\allP P l
theorem allP.mem{P:α->Prop}:∀{l:List α},allP P l->∀a∈l,P a
 |b::l,h,a,m=>by
  rcases List.mem_cons.mp m with rfl|m
  .exact h.1
  .exact h.2.mem a m
theorem a3n{X:Cx}(ts fr:List Str)(ix:List Nat)(clos:closureFor aB X.env=pure cl:=by rfl)(kind:aB.kind=.function:=by rfl)
  (nocell:(aB.names.all λp=>p.2 != .cell)=true:=by rfl) (names:(aB.names.all λp=>p.2 != .local || aB.names.lookup p.1 == some .local)=true:=by rfl) (sub:allP (λp=>X.env.cells.lookup p.1=some p.2) cl:=by with_unfolding_all repeat' constructor)
  (has:((relabel aB X.env).names.all λp => !(p.2 == .cell || p.2 == .free) || (cl.lookup p.1).isSome)=true:=by rfl) (nofn:(ts.all λy=>(relabel aB X.env).names.lookup y == some .local)=true:=by rfl)
  (len:ix.length=fr.length:=by rfl) (vis:((fr.zip ix).all λp=>X.N[p.2]? == some p.1 && (X.env.kindOf p.1 == some .cell || X.env.kindOf p.1 == some .free) && ((relabel aB X.env).names.lookup p.1 == some .cell || (relabel aB X.env).names.lookup p.1 == some .free))=true:=by rfl) :
  CSc X aB cl ts fr ix:=.of clos kind nocell names sub.mem has nofn len vis
theorem ape{aB:Scope}(ts:List Str)(kind:aB.kind=.function:=by rfl)(h:∀y∈aB.names,y.2≠.cell/\y.2≠.free:=by decide +kernel)(names:∀y∈aB.names,y.2=.local->aB.names.lookup y.1=some .local:=by decide +kernel)
  (ht:∀y∈ts,aB.names.lookup y=some .local:=by decide +kernel):CSc X aB [] ts [] []:=.noFree kind h names ht
section
variable{α:Type}{us:List α}
theorem len0{P:List α->Prop}(h:us.length=0)(k:P []):P us:=by cases us with|nil=>exact k|cons _ _=>cases h
theorem acs{P:List α->Prop}(h:us.length=n+1)(k:∀a vs,vs.length=n->P (a::vs)):P us:=by cases us with|nil=>cases h|cons a vs=>exact k a vs (Nat.succ.inj h)
theorem azp{P:List α->Prop}(h:us.length=1)(k:∀a,P [a]):P us:=acs h λa _ h=>len0 (P:=λus=>P (a::us)) h (k a)
theorem azq{P:List α->Prop}(h:us.length=2)(k:∀a b,P [a,b]):P us:=acs h λa _ h=>azp (P:=λus=>P (a::us)) h (k a)
theorem av7{P:List α->Prop}(h:us.length=3)(k:∀a b c,P [a,b,c]):P us:=acs h λa _ h=>azq (P:=λus=>P (a::us)) h (k a)
theorem azr{P:List α->Prop}(h:us.length=4)(k:∀a b c d,P [a,b,c,d]):P us:=acs h λa _ h=>av7 (P:=λus=>P (a::us)) h (k a)
theorem azs{P:List α->Prop}(h:us.length=5)(k:∀a b c d e,P [a,b,c,d,e]):P us:=acs h λa _ h=>azr (P:=λus=>P (a::us)) h (k a)
theorem b0t{P:List α->Prop}(h:us.length=6)(k:∀a b c d e f,P [a,b,c,d,e,f]):P us:=acs h λa _ h=>azs (P:=λus=>P (a::us)) h (k a)
end
end MI
namespace K28
open L2 MI
noncomputable def top(i:Nat):Stmt:=PySem.Challenge.pw_nearreach_k28_ways_and_partings.main.body.getD i (.Pass ⟨0,0,0,0⟩)
structure Nm (mg:Str->Option Value):Prop where
 abs:mg "abs" = none
 all:mg "all" = none
 bool:mg "bool" = none
 enumerate:mg "enumerate" = none
 int:mg "int" = none
 isinstance:mg "isinstance" = none
 len:mg "len" = none
 list:mg "list" = none
 max:mg "max" = none
 min:mg "min" = none
 range:mg "range" = none
 str:mg "str" = none
 tuple:mg "tuple" = none
 zip:mg "zip" = none
section
variable{P:Program}{w:World}{K:Fg}{mg:Str->Option Value}{base:Heap}{f:Addr}
def MD(P:Program)(w:World)(K:Fg)(mg:Str->Option Value)(base:Heap)(f:Addr)(k:Nat)(N ps:List Str)(x:Str)(t:Stmt)(b:SS):Prop:=FnScope N ps (gj t)/\∀(cdv:Value) (A:Around) (outer:List Env) (s:Shared) (H:Hp) (E:XK),Room k (A.deeper (PyProof.Rows.envOfC x (gj t) s.heap.objs.size f cdv))->MSs (ahe CX0 P w K mg base N x (gj t) f cdv A outer s H E).nox X0 (wg t) b
theorem md{N ps:List Str}{x:Str}{t:Stmt}{b:SS}(S:FnScope N ps (gj t))(h:FnScope N ps (gj t)->∀(cdv:Value) (A:Around) (outer:List Env) (s:Shared) (H:Hp) (E:XK),Room k (A.deeper (PyProof.Rows.envOfC x (gj t) s.heap.objs.size f cdv))->MSs (ahe CX0 P w K mg base N x (gj t) f cdv A outer s H E).nox X0 (wg t) b):MD P w K mg base f k N ps x t b:=⟨S,h S⟩
def Dk(P:Program)(w:World)(K:Fg)(mg:Str->Option Value)(base:Heap)(k:Nat)(x:Str)(ps:List Str)(F:SF):Prop:=∃a d j,Dn P w K mg base j x ps (aan K ps.length F) a d/\j<=k
theorem dk{x:Str}{ps:List Str}{F:SF}{a:Addr}{d:FuncData}{j k:Nat}(D:Dn P w K mg base j x ps (aan K ps.length F) a d)(h:j<=k:=by decide):Dk P w K mg base k x ps F:=⟨a,d,j,D,h⟩
theorem ayn{X:Cx}{x:Str}{ps:List Str}{F:SF}{k n:Nat}{e:Expr}{es:List Expr}{ka:SA}{p pos:Pos}(G:Dk X.prog X.w X.K X.mg X.base k x ps F)(hr:Room k X.A)(ha:MA X X0 (e::es) ka)(hn:n=ps.length:=by rfl)(hg:Gl X x:=by rfl)(hdb:(x == ("__debug__" : Str))=false:=by decide)(he:starEach (e::es) X.env=(false,eval e X.env)::starEach es X.env:=by rfl)(hpl:(backTo pos (starEach es X.env)).any (·.1)=false:=by rfl):ME X X0 (.Call (.Name x p) (e::es) [] pos) (sA (gq false n F) ka):=by
 subst hn;obtain⟨_,_,_,D,h⟩:=G;exact av4 D hr h ha hg hdb he hpl
set_option hygiene false
local macro_rules|`(tactic|walk_at "m") => `(tactic|refine md ⟨rfl,rfl,rfl,by decide +kernel,rfl,by decide +kernel,by decide +kernel⟩ ?_;intro SC cdv A outer s H E hr)
local macro_rules|`(tactic|rfl) => `(tactic|with_unfolding_all exact Eq.refl _)
local macro_rules|`(tactic|exists $e) => `(tactic|with_unfolding_all exact $e)
local macro_rules|`(tactic|ac_rfl) => `(tactic|with_unfolding_all assumption)
local macro_rules|`(tactic|walk_at "d") => `(tactic|with_reducible repeat' first
 |(show PE _ _ _;first|refine b0q ?_|(show PE _ (.Name _ _) _;first|exact b0l _|exact aid (by rfl) (by exists M.tuple) aai|exact aid (by rfl) (by exists M.int) aso|exact aid (by rfl) (by exists M.bool) ao2|exact aid (by rfl) (by exists M.str) asl)|(show PE _ (.Constant _ _ _) _;first|exact asq|exact asr|exact ass|exact ay0)|(show PE _ (.Call _ _ _ _) _;first|refine ayn (by ac_rfl) (by exists hr) ?_|refine av4 (by ac_rfl) (by exists hr) (by ac_rfl) ?_|refine av5 (by exists M.len) ?_|refine a9o (ado (by rfl)) ail (by rfl) (by exists M.min) au7 ?_|refine a9o (adn (by rfl)) aik (by rfl) (by exists M.max) au6 ?_|refine a9o (L2.CallR.or a9g a8m) ajb (by rfl) (by exists M.isinstance) a6u ?_|refine aef (L2.CallR.or a6l (a88 (by rfl))) aer (by rfl) (by exists M.tuple) aai ?_|refine ap1 (by exists hr.u) ?_ ?_ ⟨rfl,rfl,rfl,rfl⟩|refine a9o ahw ant (by rfl) (by exists M.abs) asn ?_|refine a9o acj ajn (by rfl) (by exists M.len) akz ?_|refine av1 (by exists hr.u) ?_ ?_ ⟨rfl,rfl,rfl,rfl⟩|refine aef (L2.CallR.or a7z (a9i (by rfl))) aim (by rfl) (by exists M.list) aeb ?_|refine a9o (a9h (by rfl)) anz (by rfl) (by exists M.all) asm ?_|refine aaw true (by ac_rfl) (by exists hr.mono (by assumption)) (by rfl) ?_)|(show PE _ (.Subscript _ _ _) _;first|refine av3 ?_ ?_|refine aon (by exists hr.u) ?_ ?_ (by exists λ_ _=>rfl)|refine af1 ?_ ?_ ?_)|(show PE _ (.BinOp _ _ _ _) _;first|refine aok ?_ ?_|refine aol ?_ ?_|refine ato ?_ ?_|refine atp ?_ ?_|refine atq ?_ ?_|refine atr ?_ ?_)|refine at9 ?_|refine ata ?_|refine anv PySem.F.slot_list_append PySem.F.type_list_append (by exists ady) anw ?_ ?_|(show PE _ (.BoolOp _ _ _) _;first|refine at6 ?_ ?_|refine asz ?_)|(show PE _ (.ListComp _ _ _ _) _;first|refine a2k (by rfl) (a3n ["room"] ["words"] [2]) ?_ (pgn _) a2b (λ_ _ _ _=>?_)|refine aii (by rfl) (a3n ["pair"] ["words"] [2]) ?_ (pgn _) a2b (λ_ _ _ _=>?_) (λ_ _ _ _=>?_)|refine a2k (by rfl) (a3n ["one","other"] ["words"] [1]) ?_ (λ_ _ _ _=>(a7o (by rfl) (yc (pgm _) (yc (pgm _) a3z)))) aal (λ_ _ _ _=>?_)|refine a2k (by rfl) (a3n ["_law_k"] ["_law_room"] [6]) ?_ (pgn _) a2b (λ_ _ _ _=>?_)|refine a2k (by rfl) (a3n ["_law_to"] ["_law_places"] [4]) ?_ (pgn _) a2b (λ_ _ _ _=>?_)|refine a2k (by rfl) (a3n ["_law_one"] ["_law_kinds_here"] [2]) ?_ (pgn _) a2b (λ_ _ _ _=>?_)|refine a2k (by rfl) (a3n ["_law_room"] ["_law_words"] [1]) ?_ (pgn _) a2b (λ_ _ _ _=>?_)|refine a2k (by rfl) (ape ["_law_word","_law_one"]) ?_ (λ_ _ _ _=>(a7o (by rfl) (yc (pgm _) (yc (pgm _) a3z)))) aal (λ_ _ _ _=>?_))|(show PE _ (.UnaryOp _ _ _) _;first|refine atu ?_|refine at7 ?_)|(show PE _ (.Dict _ _ _) _;first|exact ajm|exact ao1|refine ay8 ?_ ?_)|(show PE _ (.Compare _ _ _ _) _;first|refine aee (akp.or aag) al5 ?_ ?_ (aaa _)|refine aie (amh.or a4f) (amh.or a4f) ael ael ?_ ?_ ?_|refine aee (al9 (by exists hr.u)) aes ?_ ?_ (aaa _))|refine anv PySem.F.slot_list_pop PySem.F.type_list_pop (by exists ai1) aeq ?_ ?_|refine ap0 (by rfl) (a3n ["one","other"] ["rooms"] [1]) ?_ (pgn _) (λ_ _ _ _=>?_) (pgn _) (λ_ _ _ _=>?_)|exact aez false (by ac_rfl) (by exists hr.mono (by assumption)) (by rfl)|refine anv PySem.F.slot_list_extend PySem.F.type_list_extend (by exists MtR.or acd ac2) aj1 ?_ ?_|refine aj7 (by rfl) (by rfl) (by exists M.list) (by rfl) (by exists M.range) ?_)
 |(show PSs _ _ _;first|exact auc|refine aak ?_ ?_|refine aeg ?_|exact ana)
 |(show PA _ _ _;first|refine a1d ?_ ?_ afl|exact at8|refine a1d ?_ ?_ afk|refine a1d ?_ ?_ ach|refine a1d ?_ ?_ afm|refine a1d ?_ ?_ ajl|refine a1d ?_ ?_ aci|refine a1d ?_ ?_|refine a1d ?_ ?_ ap2)
 |(show PS _ _ _;first|refine aym _ (by exists SC.nd) ?_|refine atc ?_|refine ay4 ?_ ?_ ?_|(show PS _ (.Assign _ _ _) _;first|refine ath ?_ ?_|refine atf ?_ ?_ ?_|refine aoo (by exists hr.u) ?_ ?_ ?_)|(show PS _ (.For _ _ _ _ _) _;first|refine atj PassesOwn.never (by rfl) ?_ ?_ ?_)|refine anb ?_|refine aig _ PassesOwn.never ?_ ?_|refine ate (by exists SC.nd) (by rfl) (by exists Or.inl rfl) (adl.or a4a) aat ?_|refine af0 (by exists SC.nd) (by rfl) (by exists Or.inl rfl) (by rfl) (ape ["_law_room"]) ?_ (pgn _) a2b (λ_ _ _ _=>?_)|refine aod ?_ ?_ ?_ (adl.or a4a) aat|refine aco (by exists SC.nd) (by rfl) (by exists Or.inl rfl) (by rfl) (by exists hr.u) (a3n ["one","other"] ["kinds"] [1]) ?_ (λ_ _ _ _=>(a7o (by rfl) (yc (pgm _) (yc (pgm _) a3z)))) aal (λ_ _ _ _=>?_) (λ_ _ _ _=>?_) (λ_ _ _ _=>?_)|refine af0 (by exists SC.nd) (by rfl) (by exists Or.inl rfl) (by rfl) (ape ["_law_at"]) ?_ (pgn _) a2b (λ_ _ _ _=>?_)|refine aaz (by exists SC.nd) (by rfl) (by exists Or.inl rfl) (by rfl) (a3n ["_law_room","_law_one"] ["_law_to"] [6]) ?_ (λ_ _ _ _=>(a7o (by rfl) (yc (pgm _) (yc (pgm _) a3z)))) aal (λ_ _ _ _=>?_) (λ_ _ _ _=>?_)|refine ao9 (by exists SC.nd) (by rfl) (by exists Or.inl rfl) (by rfl) (a3n ["_law_pair"] ["_law_sizes_here"] [2]) ?_ (pgn _) a2b (λ_ _ _ _=>?_) (λ_ _ _ _=>?_)|refine aaz (by exists SC.nd) (by rfl) (by exists Or.inl rfl) (by rfl) (a3n ["_law_pair"] ["_law_goes_here","_law_sizes_here"] [0,2]) ?_ (pgn _) a2b (λ_ _ _ _=>?_) (λ_ _ _ _=>?_)|exact aif)
 |(show PG _ _ _;first|exact aej (by exists SC.nd) (by rfl) (by exists Or.inl rfl)|refine atg (by rfl) ?_|exact aej (by exists SC.nd) (by rfl) (by exists Or.inr rfl))
 |(show PT _ _ _;first|(show PT _ (.Compare _ _ _ _) _;first|refine av6 (by exists hr.u) ?_ ?_|refine a4t (axi.or adm) atv ?_ ?_|refine a6w (af7 (by exists hr.u)) ace ?_ ?_ (by with_unfolding_all rfl)|refine a4t (au4 (by exists hr.u)) ao0 ?_ ?_|refine a4t axj atw ?_ ?_|refine a6w (auk (by exists hr.u)) aom ?_ ?_ (by with_unfolding_all rfl)|refine a4t (akp.or aag) al5 ?_ ?_|refine a4t (ami.or a9f) aeo ?_ ?_|refine a4t axk atx ?_ ?_|refine a4t (amh.or a4f) ael ?_ ?_)|refine asv ?_|refine asy ?_|refine ap9 ?_|refine PW.pt ?_)
 |(show PGs _ _ _;first|refine aiq ?_ ?_|exact ane)
 |(show PI _ _ _ _;first|refine ati ?_|refine ang (by rfl) (by exists M.range) ?_|refine anh (by rfl) (by exists M.range) ?_|refine au9 (by rfl) (by exists M.zip) alb ?_ ?_|refine aoq (by rfl) (by exists M.enumerate) ?_|refine apd (by rfl) (by exists M.zip) alb ?_ ?_ ?_|refine aot (by rfl) (by exists M.range) ?_)
 |(show PW _ _ _;first|refine ay3 ?_ ?_|refine asw ?_|refine asx ?_ ?_|refine an9 ?_)
 |(show PO _ _ _;first|exact anp|refine anq ?_)
 |(with_unfolding_all first|refine aak ?_ ?_|refine aeg ?_))
theorem m_0(M:Nm mg):MD P w K mg base f k ["table","start","passed","tongue","goes","kinds","words","waiting","looked","room","word","sign","to"] ["table","start","passed"] "words_to" (top 1) (STP.a0f):=by
 walk_at "m"
 unfold STP.a0f STP.yh STP.a0n STP.ug
 walk_at "d"
theorem m_1(M:Nm mg)(D_0:Dk P w K mg base k "words_to" ["table","start","passed"] F_0):MD P w K mg base f k ["table","rooms","words"] ["table"] "ways_to" (top 3) (STP.a1h F_0):=by
 walk_at "m"
 unfold STP.a1h STP.vh
 walk_at "d"
theorem m_2(M:Nm mg):MD P w K mg base f k ["table","rooms"] ["table"] "two_rooms" (top 4) (K30.yw):=by
 walk_at "m"
 unfold K30.yw K30.a01
 walk_at "d"
theorem m_3(D_4:Dk P w K mg base k "longer_word" ["table","words","pair"] F_4)(D_2:Dk P w K mg base k "two_rooms" ["table"] F_2):MD P w K mg base f k ["table","kinds","words","more","pair","word"] ["table"] "parting_words" (top 5) (my F_4 F_2):=by
 walk_at "m"
 unfold my jj ji jg jf um je jd jc
 walk_at "d"
theorem m_4(M:Nm mg):MD P w K mg base f k ["table","words","pair","tongue","goes","kinds","one","other","sign","near","far","led"] ["table","words","pair"] "longer_word" (top 6) (uo):=by
 walk_at "m"
 unfold uo lz
 walk_at "d"
theorem m_5(M:Nm mg)(D_3:Dk P w K mg base k "parting_words" ["table"] F_3):MD P w K mg base f k ["table","one","other"] ["table","one","other"] "parting" (top 7) (a1i F_3):=by
 walk_at "m"
 unfold a1i
 walk_at "d"
theorem m_6(M:Nm mg)(D_3:Dk P w K mg base k "parting_words" ["table"] F_3)(D_2:Dk P w K mg base k "two_rooms" ["table"] F_2):MD P w K mg base f k ["table","words"] ["table"] "partings" (top 8) (a0i F_3 F_2):=by
 walk_at "m"
 unfold a0i a0o
 walk_at "d"
theorem m_7(M:Nm mg):MD P w K mg base f k ["_law_script"] ["_law_script"] "_law_hand" (top 10) (HND.a1s):=by
 walk_at "m"
 unfold HND.a1s
 walk_at "d"
theorem m_8(M:Nm mg):MD P w K mg base f k ["_law_hand_here","_law_many","_law_cell","_law_told"] ["_law_hand_here","_law_many"] "_law_take" (top 11) (HND.a1t):=by
 walk_at "m"
 unfold HND.a1t
 walk_at "d"
theorem m_9:MD P w K mg base f k ["_law_some"] [] "_law_signs" (top 12) (HND.a0m):=by
 walk_at "m"
 unfold HND.a0m
 walk_at "d"
theorem b0u(M:Nm mg)(D_9:Dn P w K mg base k_9 "_law_signs" [] (aan K 0 F_9) a_9 d_9)(h_9:k_9<=k)(D_8:Dk P w K mg base k "_law_take" ["_law_hand_here","_law_many"] F_8):MD P w K mg base f k ["_law_hand_here","_law_rest","_law_tongue_here","_law_turn","_law_at"] ["_law_hand_here"] "_law_tongue" (top 13) (HND.zy F_9 F_8):=by
 walk_at "m"
 unfold HND.zy HND.mq
 walk_at "d"
theorem b0v(M:Nm mg)(D_8:Dk P w K mg base k "_law_take" ["_law_hand_here","_law_many"] F_8):MD P w K mg base f k ["_law_hand_here","_law_size","_law_rooms","_law_manner","_law_free","_law_goes_here","_law_room","_law_pick","_law_one","_law_at"] ["_law_hand_here","_law_size","_law_rooms"] "_law_goes" (top 14) (HND.a0b F_8):=by
 walk_at "m"
 unfold HND.a0b HND.uf HND.ue HND.yg HND.yf
 walk_at "d"
theorem b0w(M:Nm mg)(D_8:Dk P w K mg base k "_law_take" ["_law_hand_here","_law_many"] F_8):MD P w K mg base f k ["_law_hand_here","_law_rooms","_law_manner","_law_kinds_here","_law_room","_law_kind"] ["_law_hand_here","_law_rooms"] "_law_kinds" (top 15) (HND.yu F_8):=by
 walk_at "m"
 unfold HND.yu HND.p7
 walk_at "d"
theorem b0x(M:Nm mg)(D_8:Dk P w K mg base k "_law_take" ["_law_hand_here","_law_many"] F_8):MD P w K mg base f k ["_law_hand_here","_law_goes_here","_law_kinds_here","_law_rest","_law_places","_law_rows","_law_told","_law_room","_law_row"] ["_law_hand_here","_law_goes_here","_law_kinds_here"] "_law_shuffled" (top 16) (HND.p8 F_8):=by
 walk_at "m"
 unfold HND.p8 HND.ju HND.ux HND.a0d HND.a0c HND.jr HND.nj
 walk_at "d"
theorem b0y(M:Nm mg)(D_8:Dk P w K mg base k "_law_take" ["_law_hand_here","_law_many"] F_8):MD P w K mg base f k ["_law_hand_here","_law_goes_here","_law_kinds_here","_law_bases","_law_rows","_law_row","_law_to","_law_some"] ["_law_hand_here","_law_goes_here","_law_kinds_here"] "_law_split" (top 17) (K30.yx F_8):=by
 walk_at "m"
 unfold K30.yx K30.a03 K30.uz K30.uy K30.m7 K30.ph K30.a02
 walk_at "d"
theorem b0z(M:Nm mg)(D_11:Dk P w K mg base k "_law_goes" ["_law_hand_here","_law_size","_law_rooms"] F_11)(D_12:Dk P w K mg base k "_law_kinds" ["_law_hand_here","_law_rooms"] F_12)(D_13:Dk P w K mg base k "_law_shuffled" ["_law_hand_here","_law_goes_here","_law_kinds_here"] F_13)(D_14:Dk P w K mg base k "_law_split" ["_law_hand_here","_law_goes_here","_law_kinds_here"] F_14)(D_8:Dk P w K mg base k "_law_take" ["_law_hand_here","_law_many"] F_8)(D_10:Dk P w K mg base k "_law_tongue" ["_law_hand_here"] F_10):MD P w K mg base f k ["_law_hand_here","_law_tongue_here","_law_rooms","_law_rows","_law_some","_law_goes_here","_law_kinds_here"] ["_law_hand_here"] "_law_copied" (top 18) (K30.vm F_11 F_12 F_13 F_14 F_8 F_10):=by
 walk_at "m"
 unfold K30.vm
 walk_at "d"
theorem b11(M:Nm mg):MD P w K mg base f k ["_law_table","_law_words","_law_rooms","_law_at","_law_sign","_law_to"] ["_law_table"] "_law_ways" (top 19) (K30.a0g):=by
 walk_at "m"
 unfold K30.a0g K30.a2s K30.ym K30.yj K30.uh
 walk_at "d"
theorem b12(M:Nm mg):MD P w K mg base f k ["_law_goes_here","_law_sizes_here","_law_one","_law_other","_law_a","_law_b"] ["_law_goes_here","_law_sizes_here","_law_one","_law_other"] "_law_near" (top 20) (K30.a0h):=by
 walk_at "m"
 unfold K30.a0h K30.yo
 walk_at "d"
theorem b13(M:Nm mg)(D_17:Dk P w K mg base k "_law_near" ["_law_goes_here","_law_sizes_here","_law_one","_law_other"] F_17):MD P w K mg base f k ["_law_goes_here","_law_kinds_here","_law_sizes_here","_law_twos","_law_one","_law_other","_law_size","_law_many","_law_found","_law_pair"] ["_law_goes_here","_law_kinds_here"] "_law_sizes" (top 21) (K30.yz F_17):=by
 walk_at "m"
 unfold K30.yz K30.qg K30.v6 K30.v4 K30.qe K30.a05 K30.qd K30.a04 K30.qb K30.pq
 walk_at "d"
theorem b14(M:Nm mg):MD P w K mg base f k ["_law_table","_law_sizes_here","_law_one","_law_other","_law_tongue_here","_law_goes_here","_law_kinds_here","_law_word","_law_size","_law_at","_law_sign","_law_a","_law_b"] ["_law_table","_law_sizes_here","_law_one","_law_other"] "_law_parting" (top 22) (K30.ul):=by
 walk_at "m"
 unfold K30.ul K30.qp K30.lq
 walk_at "d"
theorem b15(M:Nm mg):MD P w K mg base f k ["_law_thing","_law_low","_law_high"] ["_law_thing","_law_low","_law_high"] "_law_number" (top 23) (K30.vo):=by
 walk_at "m"
 unfold K30.vo
 walk_at "d"
theorem b16(M:Nm mg):MD P w K mg base f k ["_law_found","_law_due"] ["_law_found","_law_due"] "_law_alike" (top 24) (zb):=by
 walk_at "m"
 unfold zb
 walk_at "d"
theorem b17(M:Nm mg)(D_21:Dk P w K mg base k "_law_alike" ["_law_found","_law_due"] F_21)(D_16:Dk P w K mg base k "_law_ways" ["_law_table"] F_16)(D_1:Dk P w K mg base k "ways_to" ["table"] F_1):MD P w K mg base f k ["_law_table","_law_found","_law_due"] ["_law_table"] "_law_ways_right" (top 25) (m5 F_21 F_16 F_1):=by
 walk_at "m"
 unfold m5 j6
 walk_at "d"
theorem b18(M:Nm mg)(D_21:Dk P w K mg base k "_law_alike" ["_law_found","_law_due"] F_21)(D_20:Dk P w K mg base k "_law_number" ["_law_thing","_law_low","_law_high"] F_20)(D_19:Dk P w K mg base k "_law_parting" ["_law_table","_law_sizes_here","_law_one","_law_other"] F_19)(D_6:Dk P w K mg base k "partings" ["table"] F_6):MD P w K mg base f k ["_law_table","_law_sizes_here","_law_found","_law_rooms","_law_at","_law_one","_law_other","_law_row"] ["_law_table","_law_sizes_here"] "_law_partings_right" (top 26) (ig F_21 F_20 F_19 F_6):=by
 walk_at "m"
 unfold ig il ik
 walk_at "d"
theorem b19(D_21:Dk P w K mg base k "_law_alike" ["_law_found","_law_due"] F_21)(D_19:Dk P w K mg base k "_law_parting" ["_law_table","_law_sizes_here","_law_one","_law_other"] F_19)(D_23:Dk P w K mg base k "_law_partings_right" ["_law_table","_law_sizes_here"] F_23)(D_18:Dk P w K mg base k "_law_sizes" ["_law_goes_here","_law_kinds_here"] F_18)(D_22:Dk P w K mg base k "_law_ways_right" ["_law_table"] F_22)(D_5:Dk P w K mg base k "parting" ["table","one","other"] F_5):MD P w K mg base f k ["_law_table","_law_one","_law_other","_law_sizes_here","_law_a","_law_b"] ["_law_table","_law_one","_law_other"] "_law_right" (top 27) (zc F_21 F_19 F_23 F_18 F_22 F_5):=by
 walk_at "m"
 unfold zc v7
 walk_at "d"
theorem b1a(M:Nm mg)(D_15:Dk P w K mg base k "_law_copied" ["_law_hand_here"] F_15)(D_7:Dn P w K mg base k_7 "_law_hand" ["_law_script"] (aan K 1 F_7) a_7 d_7)(h_7:k_7<=k)(D_24:Dk P w K mg base k "_law_right" ["_law_table","_law_one","_law_other"] F_24)(D_8:Dk P w K mg base k "_law_take" ["_law_hand_here","_law_many"] F_8):MD P w K mg base f k ["_law_script","_law_hand_here","_law_one","_law_a","_law_b","_law_other","_law_c"] ["_law_script"] "law" (top 28) (ag2 F_15 F_7 F_24 F_8):=by
 walk_at "m"
 unfold ag2
 walk_at "d"
end
end K28
namespace MI
open L2
noncomputable abbrev S(l:List Nat):Str:=⟨l.toArray⟩
theorem a7b(l:List Nat):(S l).cps.toList=l:=by simp
theorem ag3(l:List Nat):(S l).length=l.length:=by simp[Str.length]
theorem apf(x:Str):S x.cps.toList=x:=by cases x;simp
theorem ayo(a b:List Nat):S a++S b=S (a++b):=by rw[<-apf (S a++S b),axz]
theorem ayp(h:S a=S b):a=b:=by
 have:=congrArg (λx:Str=>x.cps.toList) h
 simpa using this
theorem ayq(a b:List Nat):(S a == S b)=decide (a=b):=by
 by_cases h:a=b
 .subst h;simp
 .have:¬ S a=S b:=λz=>h (ayp z)
  simp[h]
section
variable{h:Hd}{a b l:List Nat}{i:Nat}{c:Nat}
theorem b1b(hl:l.length<=LINE)(e:l[i]? = some c):gIx (.str (S l)) (.int (i:Nat)) h=.ok (.str (S [c])) h:=by
 unfold gIx;simp only[ag3,if_pos hl,a7b,u5 e]
theorem aa0(hl:a.length+b.length<=LINE):j9 (.str (S a)) (.str (S b)) h=.ok (.str (S (a++b))) h:=by
 unfold j9;simp only[ag3,if_pos hl,ayo]
theorem av8(hl:l.length<=LINE):oh [.str (S l)] h=.ok (.int l.length) h:=by
 unfold oh;simp only[ag3,if_pos hl]
theorem b1c(k:Nat)(hl:l.length<=LINE):ald (.str (S l)) none (some (k:Int)) h=.ok (.str (S (l.take k))) h:=by
 show gSl (.str (S l)) none (some (k:Int)) h=_;unfold gSl;simp only[ag3,if_pos hl,a7b,aec]
theorem av9(k:Nat)(hl:l.length<=LINE):ald (.str (S l)) (some (k:Int)) none h=.ok (.str (S (l.drop k))) h:=by
 show gSl (.str (S l)) (some (k:Int)) none h=_;unfold gSl;simp only[ag3,if_pos hl,a7b,aed]
end
section
variable{h:Hd}{i j:Int}{xs ys:List D}
theorem a4c:gIx (.tup xs) (.int i) h=(match atI xs i with|some d=>.ok d h|none=>.no):=rfl
theorem a8p:gIx (.rol xs) (.int i) h=(match atI xs i with|some d=>.ok d h|none=>.no):=rfl
theorem a68:gIx (.ref k) (.int i) h=(match a0l (.ref k) h with|some xs=>(match atI xs i with|some d=>.ok d h|none=>.no)|none=>.no):=rfl
theorem qw:oh [.tup xs] h=.ok (.int xs.length) h:=rfl
theorem a1j:oh [.rol xs] h=.ok (.int xs.length) h:=rfl
theorem xf:oh [.ref k] h=(match a0l (.ref k) h with|some xs=>.ok (.int xs.length) h|none=>.no):=rfl
theorem a1k:j9 (.int i) (.int j) h=.ok (.int (i+j)) h:=rfl
theorem a4u:a5l (.int i) (.int j) h=.ok (.int (i+j)) h:=rfl
open Classical in
theorem a8q:zp (.int i) (.int j) h=if CMul i j then .ok (.int (i*j)) h else .no:=by unfold zp;rfl
theorem vp(b:Bool):tru (.bl b) h=.ok b h:=rfl
theorem a7c:tru (.int i) h=.ok (i != 0) h:=rfl
theorem a7d:tru (.rol xs) h=.ok (!xs.isEmpty) h:=rfl
theorem a7e:tru (.tup xs) h=.ok (!xs.isEmpty) h:=rfl
theorem a7f:tru .non h=.ok false h:=rfl
theorem a8r:hEq (.int i) (.int j) h=.ok (.bl (i == j)) h:=rfl
theorem acu:hNe (.int i) (.int j) h=.ok (.bl (!(i == j))) h:=rfl
theorem ajv(a b:Bool):hEq (.bl a) (.bl b) h=.ok (.bl (a == b)) h:=rfl
theorem ajw(a b:Bool):hNe (.bl a) (.bl b) h=.ok (.bl (!(a == b))) h:=rfl
theorem ab7(x:D):gIs x .non h=.ok (.bl (a5k x)) h:=by cases x<;>rfl
theorem a2t(x:D):a5z x .non h=.ok (.bl (!a5k x)) h:=by cases x<;>rfl
theorem ajx(a b:Bool):gIs (.bl a) (.bl b) h=.ok (.bl (a == b)) h:=rfl
theorem a3w(a b:Bool):a5z (.bl a) (.bl b) h=.ok (.bl (a != b)) h:=rfl
theorem awr:a5k (.int i)=false:=rfl
theorem aws(x:Str):a5k (.str x)=false:=rfl
theorem awt:a5k .non=true:=rfl
theorem awu:a5k (.tup xs)=false:=rfl
end
end MI
namespace HND
open L2 MI AT
local macro_rules|`(tactic|walk_at "ev") => `(tactic|simp only[kh,ut,ab2,a8k,ab3,iz,ad6,a9t,sIf,a06,vg,a8c,put,a3l,a7l,a2a,g8,a2j,kN,sV,sC,s2,s1,sA,aj,bj,sNx,sT,asB,a5j,vp,a7c,a7d,a7e,a7f,ac4,sOr,a8a,a1c,awn,a8b,sCh,awo,az,ye,MI.a4c,MI.a8p,MI.a68,aob,a0l,gLt,gGt,gGe,gLe,a8r,acu,ajv,ajw,ab7,a2t,ajx,a3w,awr,aws,awt,awu,a1k,MI.a6h,ad7,aao,a8q,AT.ajk,AT.p18,qw,a1j,xf,awp,a4u,ad8,a0x,a0w,MI.vf,MI.a2h,sML,isL,a3k,oN,oS,ahk,a0a,sIt,ahh,sRg,List.length_map,List.length_cons,List.length_nil,List.length_append,List.getElem?_cons_zero,List.getElem?_cons_succ,List.set_cons_zero,List.set_cons_succ,List.nil_append,List.cons_append,AT.ajc,AT.ajd,AT.aje,AT.ajf,AT.ajg,AT.ajh,AT.aji,AT.ajj,AT.x10,AT.x20,AT.x21,AT.x30,AT.x31,AT.x32,AT.x40,AT.x41,AT.x42,AT.x43,AT.x50,AT.x51,AT.x52,AT.x53,AT.x54,AT.x60,AT.x61,AT.x62,AT.x63,AT.x64,AT.x65,AT.x70,AT.x71,AT.x72,AT.x73,AT.x74,AT.x75,AT.x76,decide_true,decide_false,reduceIte,Bool.true_and,Bool.and_self,Bool.not_true,Bool.not_false,and_self,true_and,and_true,beq_self_eq_true,Nat.reduceAdd,Nat.reduceLeDiff,Nat.reduceLT,Nat.reducePow,Int.reduceLT,Int.reduceLE,Int.reduceNeg,Int.reduceEq,Int.reduceBEq,Bool.false_eq_true,Bool.true_eq_false,ite_true,ite_false,if_true,if_false, *])
structure Hand (o:O) (N:Nat):Prop where
 ex:∃(cells:List Int) (a l s c:Int),o=.lst [.rol (cells.map D.int),.int a,.int l,.int s,.int c]/\0<=a/\0<=l/\0<=s/\s<2147483647/\0<=c/\c<=N/\cells.length<=63
theorem Hand.clo(P:Hand o N):a00 0 o:=by
 obtain⟨cells,a,l,s,c,rfl,_⟩:=P.ex;exact dm (mj (bz λx _=>bw x)) (dm (bw _) (dm (bw _) (dm (bw _) (dm (bw _) m9))))
theorem Hand.up(P:Hand o N)(h:N<=M):Hand o M:=by
 obtain⟨cells,a,l,s,c,e,h1,h2,h3,h4,h5,h6,h7⟩:=P.ex;exact⟨cells,a,l,s,c,e,h1,h2,h3,h4,h5,by lia,h7⟩
noncomputable def aa:SF:=ou a1t 4
theorem ag4(P:Hand o N)(hN:N<=1000000000)(m0:0<m)(m1:m<1073741824):∃r o',aa [.ref 0,.int m] [o]=.ok (.int r) [o']/\0<=r/\r<m/\Hand o' (N+1):=by
 obtain⟨cells,a,l,s,c,rfl,a0,l0,s0,s1,c0,c1,c63⟩:=P.ex;unfold aa;rw[fu];unfold a1t a2c;simp only[List.map_cons,List.map_nil,List.length_cons,List.length_nil,Nat.reduceSub,Nat.reduceAdd,List.replicate,List.cons_append,List.nil_append]
 by_cases h2:m<2
 .refine⟨0,_,?_,by lia,by lia,⟨cells,a,l,s,c,rfl,a0,l0,s0,s1,c0,by lia,c63⟩⟩
  walk_at "ev"
 .have k2:decide (m<2)=false:=decide_eq_false h2;have k3:(0<m/\m<1073741824)=True:=by simp[m0,m1]
  have k3':(0<m)=True:=by simp[m0]
  have draw:∀s':Int,0<=s'->s'<2147483647->∃r,0<=r/\r<m/\(s'+7368787*(c+1))^(5:Int).toNat%2147483647 / 1009%m=r/\CMul 7368787 (c+1)/\∀h,aek (.int (s'+7368787*(c+1))) (.int 5) h=.ok (.int ((s'+7368787*(c+1))^(5:Int).toNat)) h:=λs' h0 h1 =>
   ⟨_,Int.emod_nonneg _ (by lia),Int.emod_lt_of_pos _ m0,rfl,.inl ⟨by decide,by decide⟩,λh=>ayc ⟨by decide,by decide,by lia⟩⟩
  by_cases hA:l=0/\a<(cells.length:Int)
  .obtain⟨rfl,ha⟩:=hA;obtain⟨j,rfl⟩:=Int.eq_ofNat_of_zero_le a0;have hj:j<cells.length:=by lia
   have hat:atI (cells.map D.int) (j:Int)=some (.int cells[j]):=u5 (by simp[hj])
   have ka:decide ((j:Int)<(cells.length:Int))=true:=decide_eq_true ha;have cm:CMul s 48271:=.inr ⟨by decide,by decide⟩
   have s2:0<=(s*48271+cells[j])%2147483647:=Int.emod_nonneg _ (by decide)
   have s3:(s*48271+cells[j])%2147483647<2147483647:=Int.emod_lt_of_pos _ (by decide)
   generalize hs':(s*48271+cells[j])%2147483647=s' at s2 s3
   generalize hx:cells[j]=x at *
   by_cases hB:(1000000000000000000:Int)<=alf x
   .have kb:decide ((1000000000000000000:Int)<=alf x)=true:=decide_eq_true hB;have pos:0<alf x:=by lia
    have kc:decide (0<alf x)=true:=decide_eq_true pos;refine⟨alf x%m,_,?_,Int.emod_nonneg _ (by lia),Int.emod_lt_of_pos _ m0,⟨cells,(j:Int)+1,alf x / m,s',c,rfl,by lia,Int.ediv_nonneg (by lia) (by lia),s2,s3,c0,by lia,c63⟩⟩
    walk_at "ev"
   .have kb:decide ((1000000000000000000:Int)<=alf x)=false:=decide_eq_false hB;obtain⟨r,r0,r1,er,d1,d2⟩:=draw s' s2 s3;refine⟨r,_,?_,r0,r1,⟨cells,(j:Int)+1,0,s',c+1,rfl,by lia,by lia,s2,s3,by lia,by lia,c63⟩⟩
    walk_at "ev"
  .by_cases hC:0<l
   .have kc:decide (0<l)=true:=decide_eq_true hC;have kd:(l == 0)=false:=by simp;lia
    refine⟨l%m,_,?_,Int.emod_nonneg _ (by lia),Int.emod_lt_of_pos _ m0,⟨cells,a,l / m,s,c,rfl,a0,Int.ediv_nonneg (by lia) (by lia),s0,s1,c0,by lia,c63⟩⟩
    walk_at "ev"
   .have:l=0:=by lia
    subst this;have ka:decide (a<(cells.length:Int))=false:=decide_eq_false λz=>hA ⟨rfl,z⟩;obtain⟨r,r0,r1,er,d1,d2⟩:=draw s s0 s1;refine⟨r,_,?_,r0,r1,⟨cells,a,0,s,c+1,rfl,a0,by lia,s0,s1,by lia,by lia,c63⟩⟩
    walk_at "ev"
theorem m8(P:Hand o N)(hN:N<=1000000000)(m0:0<m)(m1:m<1073741824):∃r o',Dr aa 2 [.int m] o (.int r) o'/\0<=r/\r<m/\Hand o' (N+1):=by
 obtain⟨r,o',e,r0,r1,P'⟩:=ag4 P hN m0 m1;refine⟨r,o',Dr.of rfl (by simp[bw]) P.clo e (jb (bw _) ?_) (bw _) P'.clo,r0,r1,P'⟩
 intro u hu
 simp at hu
 subst hu;exact qu (by lia) P'.clo
end HND
namespace HND
open L2 MI AT
local macro_rules|`(tactic|walk_at "ev") => `(tactic|simp only[kh,ut,ab2,a8k,ab3,iz,ad6,a9t,sIf,a06,vg,a8c,put,a3l,a7l,a2a,g8,a2j,kN,sV,sC,s2,s1,sA,aj,bj,sNx,sT,asB,a5j,vp,a7c,a7d,a7e,a7f,ac4,sOr,a8a,a1c,awn,a8b,sCh,awo,az,ye,MI.a4c,MI.a8p,MI.a68,aob,a0l,gLt,gGt,gGe,gLe,a8r,acu,ajv,ajw,ab7,a2t,ajx,a3w,awr,aws,awt,awu,a1k,MI.a6h,ad7,aao,a8q,AT.ajk,AT.p18,qw,a1j,xf,awp,a4u,ad8,a0x,a0w,MI.vf,MI.a2h,sML,isL,a3k,oN,oS,ahk,a0a,sIt,ahh,sRg,a2x,a0k,a07,a9v,a3m,a9u,a9r,ala,srcOf,  List.length_map,List.length_cons,List.length_nil,List.length_append,List.getElem?_cons_zero,List.getElem?_cons_succ,List.set_cons_zero,List.set_cons_succ,List.nil_append,List.cons_append,AT.ajc,AT.ajd,AT.aje,AT.ajf,AT.ajg,AT.ajh,AT.aji,AT.ajj,AT.x10,AT.x20,AT.x21,AT.x30,AT.x31,AT.x32,AT.x40,AT.x41,AT.x42,AT.x43,AT.x50,AT.x51,AT.x52,AT.x53,AT.x54,AT.x60,AT.x61,AT.x62,AT.x63,AT.x64,AT.x65,AT.x70,AT.x71,AT.x72,AT.x73,AT.x74,AT.x75,AT.x76,decide_true,decide_false,reduceIte,Bool.true_and,Bool.and_self,Bool.not_true,Bool.not_false,and_self,true_and,and_true,beq_self_eq_true,Nat.reduceAdd,Nat.reduceLeDiff,Nat.reduceLT,Nat.reducePow,Int.reduceLT,Int.reduceLE,Int.reduceNeg,Int.reduceEq,Int.reduceBEq,Bool.false_eq_true,Bool.true_eq_false,ite_true,ite_false,if_true,if_false, *])
noncomputable def qz:SF:=ou a1s 1
theorem apg(ns:List Int)(h:Hd):∃o,Hand o 0/\gq true 1 qz [.scr (ns.map D.int)] h=.ok (.ref h.length) (h++[o]):=by
 have cl:clos 0 ((ns.take 63).map D.int):=bz λx _=>bw x;have z1:sZ (ahk (sV 0) oN (oS (sI 63))) [some (.scr (ns.map D.int))] []=.ok (.rol ((ns.take 63).map D.int)) []:=by
  refine a0z (by
   show gSl (.scr (ns.map D.int)) none (some ((63:Nat):Int)) []=_;unfold gSl;simp only[aec,List.map_take]) cl (by simp)
 have z2:sZ (sA a4j (aj (sZ (ahk (sV 0) oN (oS (sI 63)))) bj)) [some (.scr (ns.map D.int))] []=.ok (.rol ((ns.take 63).map D.int)) []:=by
  refine a0z (by
   simp only[sA,aj,bj,z1,az]
   rfl) cl (by simp)
 have e:qz [.scr (ns.map D.int)] []=.ok (.ref 0) [.lst [.rol ((ns.take 63).map D.int),.int 0,.int 0,.int 7,.int 0]]:=by
  unfold qz;rw[fu];unfold a1s a2c;simp only[List.map_cons,List.map_nil,List.length_cons,List.length_nil,Nat.reduceSub,Nat.reduceAdd,List.replicate,List.append_nil];simp only[a06,sA,aj,bj,sC,az,ye]at z2 ⊢;simp only[z2,az];rfl
 have P:Hand (.lst [.rol ((ns.take 63).map D.int),.int 0,.int 0,.int 7,.int 0]) 0:=⟨ns.take 63,0,0,7,0,rfl,by decide,by decide,by decide,by decide,by decide,by decide,by simp;lia⟩
 exact⟨_,P,aum rfl (by simpa[clo] using (bz λx _=>bw x:clos 0 (ns.map D.int))) e rfl P.clo h⟩
noncomputable def awv:Str := " !\"#$&'()*+,-./0123456789:;<=>?@ABCDEFGHIJKLMNOPQRSTUVWXYZ[\\]^_`"
noncomputable def aww:Str := "abcdefghijklmnopqrstuvwxyz{|}~\n"
noncomputable def sig:List Nat:=awv.cps.toList++aww.cps.toList
theorem aph:sig.length=95:=by decide +kernel
theorem ava:sig.Nodup:=by decide +kernel
noncomputable def jm:SF:=ou a0m 1
theorem lits{h:Hd}:j9 (.str awv) (.str aww) h=.ok (.str (S sig)) h:=by
 rw[<-apf awv,<-apf aww,aa0 (by decide +kernel)]
 rfl
theorem ajy:Pu jm 0 [] (.str (S sig)):=by
 refine Pu.of rfl (by simp) (r:=.ok (.str (S sig)) []) ?_ (by rw[jb (ud _) (by simp)];rfl) (ud _)
 unfold jm;rw[fu];unfold a0m;have e:=@lits [];unfold awv aww at e;show toR (dw (iz 0 _) _ [none] [])=_;simp only[kh,iz,sC,ye,ut,a06,s2,sV,List.set_cons_zero,List.getElem?_cons_zero,az,e,a8k]
structure Tongue (l:List Nat):Prop where
 lo:1<=l.length
 hi:l.length<=6
 nd:l.Nodup
 sub:∀c∈l,c∈sig
noncomputable def jy:SF:=ou (zy jm aa) 5
theorem a8s(a r:List Nat)(i:Nat)(c:Nat)(e:r[i]? = some c):List.Perm (a++r) ((a++[c])++(r.take i++r.drop (i+1))):=by
 obtain⟨hi,e⟩:=List.getElem?_eq_some_iff.mp e;have:r=r.take i++c::r.drop (i+1):=by rw[<-e];simp
 rw[List.append_assoc];refine List.Perm.append_left a ?_;rw[List.singleton_append]
 conv=>lhs;rw[this]
 exact List.perm_middle
theorem ag5(P:Hand o N)(hN:N<=999999000):∃l o',Tongue l/\Dr jy 1 [] o (.str (S l)) o'/\Hand o' (N+7):=by
 obtain⟨r0,o1,e1,r0a,r0b,P1⟩:=m8 (m:=6) P (by lia) (by decide) (by decide)
 have lo:=kj (g:=kN 3) (b:=mq jm aa) (λi:Nat=>D.int (0+(i:Nat)))
  (λpre τ h=>∃(aG told:List Nat) (u:O) (t3 t4:Option D),τ=[some (.ref 0),some (.str (S aG)),some (.str (S told)),t3,t4]/\h=[u]/\Hand u (N+1+pre.length)/\told.length=pre.length/\(told++aG).length=95/\(told++aG).Nodup/\∀c∈told++aG,c∈sig)
  (List.range (1+r0).toNat) [some (.ref 0),some (.str (S sig)),some (.str (S [])),none,none] [o1] ?_
  ⟨sig,[],o1,none,none,rfl,rfl,P1,rfl,by simp[aph],by simpa using ava,by simp⟩
 .obtain⟨τ',h',e2,aG,told,u,t3,t4,rfl,rfl,P2,l1,l2,nd,sb⟩:=lo;rw[List.length_range]at P2 l1;have T:Tongue told:=⟨by lia,by lia,(List.nodup_append.mp nd).1,λc hc=>sb c (List.mem_append_left _ hc)⟩
  refine⟨told,u,T,Dr.of rfl (by simp) P.clo (r:=.ok (.str (S told)) [u]) ?_ (jb (ud _) (by simpa using qu (by lia) P2.clo)) (ud _) P2.clo,P2.up (by lia)⟩
  unfold jy;rw[fu];unfold zy a2c;simp only[List.map_cons,List.map_nil,List.length_cons,List.length_nil,Nat.reduceSub,Nat.reduceAdd,List.replicate,List.cons_append,List.nil_append];have c1:=ajy [o];have c2:=e1 0 [o] rfl;have em:("" : Str)=S []:=rfl;have bd:B62 (1+r0):=by unfold B62;lia
  have e2:forL (λ_=>True) (kN 3) (mq jm aa) (rng 0 (1+r0).toNat) [some (D.ref 0),some (D.str (S sig)),some (D.str (S [])),none,none] [o1]=_:=e2
  walk_at "ev"
 .rintro pre i post τ h all ⟨aG,told,u,t3,t4,rfl,rfl,P2,l1,l2,nd,sb⟩
  have aH:pre.length<(1+r0).toNat:=by
   have:=congrArg List.length all
   simp at this;lia
  rw[List.length_append]at l2;obtain⟨r,u',e2,ra,rb,P3⟩:=m8 (m:=(aG.length:Nat)) P2 (by lia) (by lia) (by lia)
  obtain⟨j,rfl⟩:=Int.eq_ofNat_of_zero_le ra;have hj:j<aG.length:=by lia
  have gx:aG[j]? = some aG[j]:=List.getElem?_eq_getElem hj;have pp:=a8s told aG j aG[j] gx;refine⟨_,_,rfl,_,_,?_,aG.take j++aG.drop (j+1),told++[aG[j]],u',some (.int (0+(i:Nat))),some (.int (j:Nat)),rfl,rfl,by simpa[Nat.add_assoc] using P3,by simp[l1],?_,pp.nodup_iff.mp nd,λc hc=>sb c (pp.mem_iff.mpr hc)⟩
  .unfold mq;have L:∀n:Nat,n<=95->n<=LINE:=λn hn=>by show n<=16777216;lia
   have c2:=e2 0 [u] rfl;have x1:∀h,gIx (.str (S aG)) (.int (j:Nat)) h=.ok (.str (S [aG[j]])) h:=λh=>b1b (L _ (by lia)) gx
   have x2:∀h,oh [.str (S aG)] h=.ok (.int aG.length) h:=λh=>av8 (L _ (by lia))
   have x3:∀h,j9 (.str (S told)) (.str (S [aG[j]])) h=.ok (.str (S (told++[aG[j]]))) h:=λh=>aa0 (L _ (by simp;lia))
   have x4:∀h,ald (.str (S aG)) none (some (j:Int)) h=.ok (.str (S (aG.take j))) h:=λh=>b1c j (L _ (by lia))
   have x5:∀h,ald (.str (S aG)) (some ((j:Int)+1)) none h=.ok (.str (S (aG.drop (j+1)))) h:=λh=>av9 (j+1) (L _ (by lia))
   have x6:∀h,j9 (.str (S (aG.take j))) (.str (S (aG.drop (j+1)))) h=.ok (.str (S (aG.take j++aG.drop (j+1)))) h:=λh=>aa0 (L _ (by simp;lia))
   clear all aH
   walk_at "ev"
  .rw[<-pp.length_eq];simpa using l2
end HND
namespace HND
open L2 MI AT
theorem ab8{ck:Hd->Prop}{g:SG}{b:SS}{α:Type}(f:α->D)(I:List α->Sd->Hd->Prop)(c:∀pre τ h,I pre τ h->ck h):∀(xs pre:List α) (τ:Sd) (h:Hd),
  (∀pre' x post τ h,pre++xs=pre'++x::post->I pre' τ h->∃τ1 h1,g (f x) τ h=.nx τ1 h1/\∃τ2 h2,b τ1 h1=.nx τ2 h2/\I (pre'++[x]) τ2 h2)->I pre τ h->∃τ' h',forL ck g b (xs.map f) τ h=.nx τ' h'/\I (pre++xs) τ' h'
 |[],pre,τ,h,_,i0=>⟨τ,h,by rw[List.map_nil,forL,if_pos (c _ _ _ i0)],by simpa using i0⟩
 |x::xs,pre,τ,h,st,i0=>by
  obtain⟨τ1,h1,e1,τ2,h2,e2,i2⟩:=st pre x xs τ h rfl i0;obtain⟨τ',h',e3,i3⟩:=ab8 f I c xs (pre++[x]) τ2 h2 (λpre' y post τ h e=>st pre' y post τ h (by simpa using e)) i2
  refine⟨τ',h',?_,by simpa using i3⟩
  rw[List.map_cons,forL,if_pos (c _ _ _ i0),e1];dsimp only;rw[e2];exact e3
noncomputable abbrev a1w(p:Nat×Nat):D:=.tup [.int (p.1:Nat),.int (p.2:Nat)]
noncomputable abbrev ahm(r:List Int):O:=.lst (r.map D.int)
noncomputable def a3o(k:Nat):List D:=.ref 2::(List.range k).map λj=>.ref (4+j)
noncomputable def HP(u:O)(free:List (Nat×Nat))(r0:List Int)(rows:List (List Int)):Hd:=u::.lst (free.map a1w)::ahm r0::.lst (a3o rows.length)::rows.map ahm
noncomputable def adr(j:Nat):Nat:=if j=0 then 2 else 3+j
theorem api(h:j<=k):(a3o k)[j]? = some (.ref (adr j)):=by
 unfold a3o adr
 cases j with
 |zero=>rfl
 |succ j =>
  rw[List.getElem?_cons_succ,List.getElem?_map,List.getElem?_range (by lia),if_neg (by lia)]
  simp;lia
theorem ajz(k:Nat):(a3o k).length=k+1:=by simp[a3o]
noncomputable def a69(r0:List Int)(rows:List (List Int))(a b:Nat)(v:Int):List Int×List (List Int):=if a=0 then (r0.set b v,rows) else (r0,rows.set (a-1) ((rows.getD (a-1) []).set b v))
theorem aa1(h:k<n):ixN n (k:Int)=some k:=by unfold ixN;rw[if_pos (by lia),if_pos (by lia)];simp
theorem alk{r0:List Int}{rows:List (List Int)}(ha:a<=rows.length)(hb:b<s)(l0:r0.length=s)(l1:∀r∈rows,r.length=s) :
  put (.ref (adr a)) (.int (b:Nat)) (.int v) (HP u free r0 rows)=some (HP u free (a69 r0 rows a b v).1 (a69 r0 rows a b v).2):=by
 unfold HP adr a69
 by_cases h0:a=0
 .subst h0;simp only[if_true,put,List.getElem?_cons_succ,List.getElem?_cons_zero,List.length_map,l0,aa1 hb,List.set_cons_succ,List.set_cons_zero,List.map_set,ahm]
 .obtain⟨j,rfl⟩:∃j,a=j+1:=⟨a-1,by lia⟩
  have hj:j<rows.length:=by lia
  have lr:=l1 rows[j] (List.getElem_mem hj);simp only[if_neg h0,put,show 3+(j+1)=j+1+1+1+1 by lia,List.getElem?_cons_succ,List.getElem?_map,List.getElem?_eq_getElem hj,Option.map_some,List.length_map,lr,aa1 hb,List.set_cons_succ,Nat.add_sub_cancel,List.length_set,List.map_set,List.getD_eq_getElem?_getD,Option.getD_some,ahm]
theorem ag6{r0:List Int}{rows:List (List Int)}(ha:a<=rows.length)(v0:0<=v)(v1:v<n)(h0:r0.length=s/\∀x∈r0,0<=x/\x<n)(h1:∀r∈rows,r.length=s/\∀x∈r,0<=x/\x<n) :
  ((a69 r0 rows a b v).1.length=s/\∀x∈(a69 r0 rows a b v).1,0<=x/\x<n)/\(a69 r0 rows a b v).2.length=rows.length/\∀r∈(a69 r0 rows a b v).2,r.length=s/\∀x∈r,0<=x/\x<n:=by
 have ins:∀{r:List Int} {k:Nat},(∀x∈r,0<=x/\x<n)->∀x∈r.set k v,0<=x/\x<n:=λhr x hx=>by
  rcases List.mem_or_eq_of_mem_set hx with hx|rfl
  .exact hr x hx
  .exact⟨v0,v1⟩
 unfold a69
 by_cases z:a=0
 .rw[if_pos z];exact⟨⟨by simp[h0.1],ins h0.2⟩,rfl,h1⟩
 .rw[if_neg z];refine⟨h0,by simp,λr hr=>?_⟩
  rcases List.mem_or_eq_of_mem_set hr with hr|rfl
  .exact h1 r hr
  .have hj:a-1<rows.length:=by lia
   have:=h1 rows[a-1] (List.getElem_mem hj)
   rw[List.getD_eq_getElem?_getD,List.getElem?_eq_getElem hj,Option.getD_some];exact⟨by simp[this.1],ins this.2⟩
theorem apj:a0l (.ref 3) (HP u free r0 rows)=some (a3o rows.length):=rfl
theorem apk:a0l (.ref 1) (HP u free r0 rows)=some (free.map a1w):=rfl
theorem alm{rows:List (List Int)}(ha:a<=rows.length):gIx (.ref 3) (.int (a:Nat)) (HP u free r0 rows)=.ok (.ref (adr a)) (HP u free r0 rows):=by
 rw[a68,apj];simp only[u5 (api ha)]
noncomputable def nu:SF:=ou (a0b aa) 10
theorem ak0{u:O}{free:List (Nat×Nat)}{r0:List Int}{rows:List (List Int)}:a0j 1 (HP u free r0 rows) FU (.ref 3)=some (.rol ((r0::rows).map λr=>.rol (r.map D.int))):=by
 have one:∀(i:Nat) (r:List Int),1<=i->(HP u free r0 rows)[i]? = some (ahm r)->a0j 1 (HP u free r0 rows) 19 (.ref i)=some (.rol (r.map D.int)):=λi r hi e=>a78 hi e (bz λx _=>bw x);have all:zm (a0j 1 (HP u free r0 rows) 19) (a3o rows.length)=some ((r0::rows).map λr=>.rol (r.map D.int)):=by
  unfold a3o;rw[List.map_cons];refine a1g (one 2 r0 (by lia) rfl) ?_
  have go:∀(k:Nat) (rs:List (List Int)),(∀j r,rs[j]? = some r->rows[k+j]? = some r)->zm (a0j 1 (HP u free r0 rows) 19) ((List.range' k rs.length).map λj=>D.ref (4+j))=some (rs.map λr=>.rol (r.map D.int)):=by
   intro k rs
   induction rs generalizing k with
   |nil=>intro _;rfl
   |cons r rs ih =>
    intro hk
    rw[List.length_cons,List.range'_succ,List.map_cons,List.map_cons];refine a1g (one (4+k) r (by lia) ?_) (ih (k+1) λj r' e=>?_)
    .have:=hk 0 r rfl
     unfold HP;rw[show 4+k=k+1+1+1+1 by lia]
     simp only[List.getElem?_cons_succ,List.getElem?_map];rw[show k+0=k by lia]at this
     rw[this];rfl
    .have:=hk (j+1) r' (by simpa using e)
     rw[show k+1+j=k+(j+1) by lia];exact this
  have:=go 0 rows (λj r e=>by simpa using e)
  rw[<-List.range_eq_range']at this;exact this
 unfold FU a0j;rw[if_neg (by simp only[clo];lia)]
 have e3:(HP u free r0 rows)[3]? = some (.lst (a3o rows.length)):=rfl;simp only[e3,all,Option.map_some]
end HND
namespace MI
open L2
theorem ayr(n:Nat):rng 0 n=(List.range n).map λi:Nat=>D.int (i:Nat):=by
 unfold rng;exact List.map_congr_left λi _=>by rw[Int.zero_add]
theorem ays(a:Int)(n:Nat):rng a n=(List.range n).map λi:Nat=>D.int (a+(i:Nat)):=rfl
theorem aa2(h:n<=LINE):B62 (n:Int):=by
 have:n<=16777216:=h
 unfold B62;lia
theorem ak1(h : -16777216<=n)(h':n<=16777216):B62 n:=by unfold B62;lia
theorem avb(h:Hd)(z:n<=LINE):a0k [.int (n:Nat)] h=.ok ⟨(List.range n).map λi:Nat=>D.int (i:Nat),λ_=>True⟩ h:=by
 unfold a0k;simp only[aa2 z,if_true,Int.toNat_natCast,ayr]
theorem avc(h:Hd)(za:a<=LINE)(z:n<=LINE):a07 [.int (a:Nat),.int (n:Nat)] h=.ok ⟨(List.range (n-a)).map λi:Nat=>D.int ((a+i:Nat)),λ_=>True⟩ h:=by
 unfold a07;simp only[aa2 z,aa2 za,and_self,if_true,ays];rw[show((n:Int)-(a:Int)).toNat=n-a by lia]
 congr 2
theorem ayt(e:f τ h=.ok d h):aj f bj τ h=.ok [d] h:=by unfold aj bj;rw[e];rfl
theorem apl(e:f τ h=.ok c h)(e':g τ h=.ok d h):aj f (aj g bj) τ h=.ok [c,d] h:=by unfold aj;rw[e,az,e',az];rfl
theorem a3c(e:f τ h=.ok (.int (n:Nat)) h)(z:n<=LINE):sRg a0k (aj f bj) τ h=.ok ⟨(List.range n).map λi:Nat=>D.int (i:Nat),λ_=>True⟩ h:=by
 unfold sRg;rw[ayt e,az];exact avb h z
theorem a3d(e':g τ h=.ok (.int (a:Nat)) h)(e:f τ h=.ok (.int (n:Nat)) h)(za:a<=LINE)(z:n<=LINE):sRg a07 (aj g (aj f bj)) τ h=.ok ⟨(List.range (n-a)).map λi:Nat=>D.int ((a+i:Nat)),λ_=>True⟩ h:=by
 unfold sRg;rw[apl e' e,az];exact avc h za z
theorem bc(e:τ[i]? = some (some d)):sV i τ h=.ok d h:=by unfold sV;rw[e]
theorem uq{fi:SI}{t:D->Option Sd}{fe:SE}{ix:List Nat}{τ:Sd}{h:Hd}{α:Type}(g F:α->D)(xs:List α)(e:fi τ h=.ok ⟨xs.map g,λ_=>True⟩ h)(z:xs.length<=LINE)
  (st:∀x∈xs,a6y t fe (frs' ix τ) (g x) h=.ok (F x) h):wj fi t fe ix τ h=.ok (.ref h.length) (h++[.lst (xs.map F)]):=by
 unfold wj;rw[e,az];dsimp only;rw[if_pos (by rw[List.length_map];exact z),a8l g F st]
 rfl
theorem a3e(fe:SE)(r:Sd)(x:D)(h:Hd):a6y t1 fe r x h=fe (some x::r) h:=rfl
theorem aa3(c:ST)(fe:SE)(r:Sd)(x:D)(h:Hd):a8d t1 c fe r x h=(c (some x::r) h).bind λb h1=>if b=true then (fe (some x::r) h1).bind λy h2=>.ok (some y) h2 else .ok none h1:=rfl
theorem a3x(i:Nat)(ix:List Nat)(τ:Sd):frs' (i::ix) τ=(τ[i]?).join::frs' ix τ:=rfl
theorem a7g(τ:Sd):frs' [] τ=[]:=rfl
end MI
namespace HND
open L2 MI AT
theorem a1l(h:List.range k=pre++i::post):i=pre.length/\i<k:=by
 have h1:=congrArg (λl=>l[pre.length]?) h;have h2:=congrArg List.length h;simp at h1 h2;have:pre.length<k:=by lia
 rw[List.getElem?_range this]at h1;simp at h1;lia
abbrev a0p(s n:Nat)(r:List Int):Prop:=r.length=s/\∀x∈r,0<=x/\x<(n:Int)
theorem aln:(HP u free r0 rows).length=4+rows.length:=by simp[HP];lia
theorem alo(c:a00 0 u):∀o∈HP u free r0 rows,a00 (HP u free r0 rows).length o:=by
 intro o ho
 rw[aln];have rw1:∀r:List Int,a00 (4+rows.length) (ahm r):=λr=>bz λx _=>bw x
 rcases List.mem_cons.mp ho with rfl|ho
 .exact qu (by lia) c
 rcases List.mem_cons.mp ho with rfl|ho
 .exact bz λx _=>j7 (dm (bw _) (dm (bw _) m9))
 rcases List.mem_cons.mp ho with rfl|ho
 .exact rw1 _
 rcases List.mem_cons.mp ho with rfl|ho
 .show clos _ (a3o rows.length);refine dm (by simp only[clo];lia) ?_
  rw[uc]
  intro x hx
  obtain⟨j,hj,rfl⟩:=List.mem_map.mp hx;rw[List.mem_range]at hj;simp only[clo];lia
 .obtain⟨r,_,rfl⟩:=List.mem_map.mp ho;exact rw1 r
theorem a4v{α β:Type}(f:α->β):∀(l:List α) (k:Nat),(l.eraseIdx k).map f=(l.map f).eraseIdx k
 |[],_=>rfl
 |_::_,0=>rfl
 |x::l,k+1=>by simp[List.eraseIdx,a4v f l k]
theorem ak2(e:free[k]? = some p)(z:free.length<=LINE):a2p (.ref 1) [.int (k:Nat)] (HP u free r0 rows)=.ok (a1w p) (HP u (free.eraseIdx k) r0 rows):=by
 have hk:k<free.length:=(List.getElem?_eq_some_iff.mp e).1;have e1:(HP u free r0 rows)[1]? = some (.lst (free.map a1w)):=rfl;unfold a2p;simp only[e1,List.length_map,aa1 hk,List.getElem?_map,e,Option.map_some,if_pos z,<-a4v];rfl
theorem ak3{free more:List (Nat×Nat)}(z:free.length+more.length<=LINE):af3 (.ref 1) [.rol (more.map a1w)] (HP u free r0 rows)=.ok .non (HP u (free++more) r0 rows):=by
 have e1:(HP u free r0 rows)[1]? = some (.lst (free.map a1w)):=rfl;unfold af3;simp only[e1,a0a,List.length_map,if_pos z,<-List.map_append];rfl
theorem apm{rows:List (List Int)}(z:rows.length+1<LINE):a3k (.ref 3) [.ref (HP u free r0 rows).length] (HP u free r0 rows++[ahm r])=.ok .non (HP u free r0 (rows++[r])):=by
 have e1:(HP u free r0 rows++[ahm r])[3]? = some (.lst (a3o rows.length)):=rfl;unfold a3k;simp only[e1,ajz,if_pos z];rw[aln];unfold HP;simp[a3o,List.range_succ]
theorem mul_zero(z:s<=LINE):zp (.rol [.int 0]) (.int (s:Nat)) h=.ok (.ref h.length) (h++[ahm (List.replicate s 0)]):=by
 unfold zp;have z':s<=16777216:=z;simp only[a0a,List.length_cons,List.length_nil,Int.toNat_natCast];rw[if_pos ⟨⟨by lia,by lia⟩,by show _<=16777216;lia⟩]
 congr 3
 simp[ahm]
theorem ag7(c:a00 0 u)(z:s<=LINE)(z6:s<=6)(t1':τ[1]? = some (some (.int (s:Nat))))(t6:τ[6]? = some (some (.int (room:Nat)))) :
  sZ (wj (sRg a0k (aj (sV 1) bj)) t1 (yg aa) [6]) τ (HP u free r0 rows)=.ok (.rol (((List.range s).map λj=>(room,j)).map a1w)) (HP u free r0 rows):=by
 refine a0z ?_ (bz λx _=>j7 (dm (bw _) (dm (bw _) m9))) (alo c);rw[List.map_map];refine uq (λi:Nat=>D.int (i:Nat)) (λj:Nat=>a1w (room,j)) (List.range s) ?_ (by rw[List.length_range];exact z) λx _=>?_
 .exact a3c (bc t1') z
 .rw[a3e,a3x,a7g,t6];unfold yg;simp only[Option.join_some,sA,aj,bj,sV,List.getElem?_cons_zero,List.getElem?_cons_succ,az,MI.vf,List.length_cons,List.length_nil,Nat.reduceAdd,if_pos (show(2:Nat)<=LINE by decide)]
end HND
namespace MI
open L2
section
variable{f k f1 f2 f3:SE}{c c1 c2:ST}{g p q:SS}{τ τ1:Sd}{h h1 h2 h3 h4:Hd}{a b d v:D}{i:Nat}{t u:Bool}
theorem awx(d:D)(τ:Sd)(h:Hd):sC d τ h=.ok d h:=rfl
theorem xx(e1:f τ h=.ok a h1)(e3:G [a] h1=.ok v h2):sA G (aj f bj) τ h=.ok v h2:=by
 have:aj f bj τ h=.ok [a] h1:=by unfold aj;rw[e1];rfl
 unfold sA;rw[this,az,e3]
theorem sr(e1:f τ h=.ok a h1)(e2:k τ h1=.ok b h2)(e3:G [a,b] h2=.ok v h3):sA G (aj f (aj k bj)) τ h=.ok v h3:=by
 have:aj f (aj k bj) τ h=.ok [a,b] h2:=by unfold aj;rw[e1,az,e2];rfl
 unfold sA;rw[this,az,e3]
theorem acv(e0:f1 τ h=.ok d h1)(e1:f τ h1=.ok a h2)(e2:k τ h2=.ok b h3)(e3:G [d,a,b] h3=.ok v h4):sA G (aj f1 (aj f (aj k bj))) τ h=.ok v h4:=by
 have:aj f1 (aj f (aj k bj)) τ h=.ok [d,a,b] h3:=by unfold aj;rw[e0,az,e1,az,e2];rfl
 unfold sA;rw[this,az,e3]
theorem jl(e:f τ h=.ok d h1):dw (iz i f) g τ h=g (τ.set i (some d)) h1:=by
 rw[kh];unfold iz;rw[e];rfl
theorem awy(e:f τ h=.ok d h1):iz i f τ h=.nx (τ.set i (some d)) h1:=by
 unfold iz;rw[e];rfl
theorem xg(e:p τ h=.nx τ1 h1):dw p g τ h=g τ1 h1:=by rw[kh,e];rfl
theorem ayu(e:p τ h=.rt d h1):dw p g τ h=.rt d h1:=by rw[kh,e];rfl
theorem ifT(e:c τ h=.ok true h1):sIf c p q τ h=p τ h1:=by unfold sIf;rw[e];rfl
theorem ifF(e:c τ h=.ok false h1):sIf c p q τ h=q τ h1:=by unfold sIf;rw[e];rfl
theorem ifN(e:c τ h=.ok false h1):dw (sIf c p sNx) g τ h=g τ h1:=by rw[kh,ifF e];rfl
theorem tof(e:f τ h=.ok (.bl t) h1):sT f τ h=.ok t h1:=by unfold sT;rw[e];rfl
theorem a4w(e:f τ h=.ok d h1)(e':tru d h1=.ok t h2):a5j f τ h=.ok t h2:=by unfold a5j;rw[e,az,e']
theorem aqq(e:c1 τ h=.ok true h1)(e':c2 τ h1=.ok t h2):ac4 c1 c2 τ h=.ok t h2:=by unfold ac4;rw[e,az,if_pos rfl,e']
theorem awz(e:c1 τ h=.ok false h1):ac4 c1 c2 τ h=.ok false h1:=by unfold ac4;rw[e,az,if_neg (by simp)]
theorem orT(e:c1 τ h=.ok true h1):sOr c1 c2 τ h=.ok true h1:=by unfold sOr;rw[e,az,if_pos rfl]
theorem orF(e:c1 τ h=.ok false h1)(e':c2 τ h1=.ok t h2):sOr c1 c2 τ h=.ok t h2:=by unfold sOr;rw[e,az,if_neg (by simp),e']
theorem ayv(e:c τ h=.ok t h1):a8a c τ h=.ok (!t) h1:=by unfold a8a;rw[e];rfl
theorem ak4(e:c τ h=.ok true h1):a8a c τ h=.ok false h1:=ayv e
theorem vq(e:f τ h=.ok d h1):a06 f τ h=.rt d h1:=by unfold a06;rw[e];rfl
theorem ag8(e:f τ h=.ok (.bl true) h1)(e':k τ h1=.ok d h2):a1c f k τ h=.ok d h2:=by unfold a1c;rw[e,az];exact e'
theorem a1m(e1:f τ h=.ok d h1)(l:isL d h1=true)(e2:A τ h1=.ok ds h2)(e3:G d ds h2=.ok v h3):vg (sML G f A) τ h=.nx τ h3:=by
 unfold vg sML;rw[e1,az,if_pos l,e2,az,e3];rfl
theorem avd(e1:f τ h=.ok d h1)(l:isL d h1=true)(e2:A τ h1=.ok ds h2)(e3:G d ds h2=.ok v h3):sML G f A τ h=.ok v h3:=by
 unfold sML;rw[e1,az,if_pos l,e2,az,e3]
theorem arg1(e:f τ h=.ok d h1):aj f bj τ h=.ok [d] h1:=by unfold aj bj;rw[e];rfl
theorem n8(e1:f τ h=.ok a h1)(e2:k τ h1=.ok b h2)(e3:G a b h2=.ok v h3):s2 G f k τ h=.ok v h3:=by
 unfold s2;rw[e1,az,e2,az,e3]
theorem ahn(e:τ[i]? = some (some a))(e3:G a d h=.ok v h3):s2 G (sV i) (sC d) τ h=.ok v h3:=n8 (bc e) (awx _ _ _) e3
theorem ckk:sC d τ h=.ok d h:=rfl
theorem tvc(e:τ[i]? = some (some a))(e3:G a d h=.ok (.bl t) h3):sT (s2 G (sV i) (sC d)) τ h=.ok t h3:=tof (n8 (bc e) (awx _ _ _) e3)
theorem t2s(e1:f τ h=.ok a h1)(e2:k τ h1=.ok b h2)(e3:G a b h2=.ok (.bl t) h3):sT (s2 G f k) τ h=.ok t h3:=tof (n8 e1 e2 e3)
theorem ets{rr:R D}(e:f τ h=.ok d h1)(e2:toR (g (τ.set i (some d)) h1)=rr):toR (dw (iz i f) g τ h)=rr:=by rw[jl e,e2]
theorem eti{rr:R D}(e:c τ h=.ok false h1)(e2:toR (g τ h1)=rr):toR (dw (sIf c p sNx) g τ h)=rr:=by rw[ifN e,e2]
theorem etr{fa fb:Fl}{rr:R D}(e:fa=fb)(e2:toR fb=rr):toR fa=rr:=by rw[e,e2]
theorem ayw(e1:f τ h=.ok a h1)(e3:G a h1=.ok v h2):s1 G f τ h=.ok v h2:=by
 unfold s1;rw[e1,az,e3]
theorem ak5(ht:τ[i]? = some (some a))(e:f τ h=.ok b h1)(e2:G a b h1=.ok d h2):ad6 i G f τ h=.nx (τ.set i (some d)) h2:=by
 unfold ad6;rw[ht];dsimp only;rw[e,ye,e2];rfl
theorem aa4(e:f τ h=.ok d h1)(e2:G d τ h1=.nx τ1 h2):a7l f G τ h=.nx τ1 h2:=by
 unfold a7l;rw[e,ye,e2]
theorem ave(e1:f1 τ h=.ok v h1)(e2:f2 τ h1=.ok a h2)(e3:f3 τ h2=.ok b h3)(e4:put a b v h3=some h4):a8c f1 f2 f3 τ h=.nx τ h4:=by
 unfold a8c;rw[e1,ye,e2,ye,e3,ye,e4]
theorem a8t(e1:f1 τ h=.ok v h1)(e2:f2 τ h1=.ok a h2)(e3:f3 τ h2=.ok b h3)(e4:af8 a b v h3=some h4):a3l f1 f2 f3 τ h=.nx τ h4:=by
 unfold a3l;rw[e1,ye,e2,ye,e3,ye,e4]
theorem a3f{fi:SI}{G:SG}{b:SS}{xs:List D}{ck:Hd->Prop}(e:fi τ h=.ok ⟨xs,ck⟩ h1):dw (a2x fi G b) g τ h=thn (forL ck G b xs τ h1) g:=by
 rw[kh];unfold a2x;rw[e];rfl
theorem ag9(e:f τ h=.ok d h1)(e2:ahh d h1=.ok ⟨xs,ck⟩ h1):sIt f τ h=.ok ⟨xs,ck⟩ h1:=by
 unfold sIt;rw[e,az,e2]
theorem a2u(e:h[i]? = some (.lst xs))(z:xs.length<LINE):a3k (.ref i) [a] h=.ok .non (h.set i (.lst (xs++[a]))):=by
 unfold a3k;simp only[e,if_pos z]
theorem avf(e:h[i]? = some (.lst xs))(hj:j<xs.length):put (.ref i) (.int (j:Nat)) v h=some (h.set i (.lst (xs.set j v))):=by
 have:ixN xs.length (j:Int)=some j:=by unfold ixN;rw[if_pos (by lia),if_pos (by lia)];simp
 unfold put;simp only[e,this]
theorem apn(e:h[i]? = some (.lst xs))(hj:xs[j]? = some y)(z:xs.length<=LINE):a2p (.ref i) [.int (j:Nat)] h=.ok y (h.set i (.lst (xs.eraseIdx j))):=by
 have lt:j<xs.length:=(List.getElem?_eq_some_iff.mp hj).1;have:ixN xs.length (j:Int)=some j:=by unfold ixN;rw[if_pos (by lia),if_pos (by lia)];simp
 unfold a2p;simp only[e,this,hj,if_pos z]
theorem a6a(e:h[i]? = some (.lst xs))(hj:xs[j]? = some y):gIx (.ref i) (.int (j:Nat)) h=.ok y h:=by
 rw[a68];unfold a0l;simp only[e,u5 hj]
theorem avh(hj:xs[j]? = some y):gIx (.rol xs) (.int (j:Nat)) h=.ok y h:=by
 rw[a8p];simp only[u5 hj]
theorem a6b(hj:xs[j]? = some y):gIx (.tup xs) (.int (j:Nat)) h=.ok y h:=by
 rw[a4c];simp only[u5 hj]
theorem a7h(e:h[i]? = some (.lst xs)):oh [.ref i] h=.ok (.int (xs.length:Nat)) h:=by
 rw[xf];unfold a0l;simp only[e]
theorem aga(e:h[i]? = some (.lst xs)):xr [.ref i] h=.ok (.tup xs) h:=by
 unfold xr a0l;simp only[e]
theorem div_ii(c:0<y/\y<1073741824):aao (.int x) (.int y) h=.ok (.int (x / y)) h:=by unfold aao;exact if_pos c
theorem azt(c:y<x):gGt (.int x) (.int y) h=.ok (.bl true) h:=by unfold gGt;simp only[c,decide_true]
theorem azu(c:¬ y<x):gGt (.int x) (.int y) h=.ok (.bl false) h:=by unfold gGt;simp only[c,decide_false]
theorem b1d(c:x<y):gLt (.int x) (.int y) h=.ok (.bl true) h:=by unfold gLt;simp only[c,decide_true]
theorem b1e(c:¬ x<y):gLt (.int x) (.int y) h=.ok (.bl false) h:=by unfold gLt;simp only[c,decide_false]
theorem a8u(c:x=y):hEq (.int x) (.int y) h=.ok (.bl true) h:=by rw[a8r,c,beq_self_eq_true]
theorem a5o(c:¬ x=y):hEq (.int x) (.int y) h=.ok (.bl false) h:=by rw[a8r,beq_eq_false_iff_ne.mpr c]
theorem ayx(c:x=y):hNe (.int x) (.int y) h=.ok (.bl false) h:=by rw[acu,c,beq_self_eq_true];rfl
theorem ayy(c:¬ x=y):hNe (.int x) (.int y) h=.ok (.bl true) h:=by rw[acu,beq_eq_false_iff_ne.mpr c];rfl
theorem apo(x:Int):ad8 (.int x) h=.ok (.int (-x)) h:=rfl
theorem a6c(x y:Int):MI.a6h (.int x) (.int y) h=.ok (.int (x-y)) h:=rfl
theorem dz(h:n<=1000000):n<=LINE:=by show n<=16777216;lia
theorem zf(h:n<=1000000):n<LINE:=by show n<16777216;lia
theorem a8v:MI.vf [a,b] h=.ok (.tup [a,b]) h:=by unfold MI.vf;rw[if_pos (dz (by simp))]
theorem azv:MI.vf [a,b,v] h=.ok (.tup [a,b,v]) h:=by unfold MI.vf;rw[if_pos (dz (by simp))]
end
end MI
namespace HND
open L2 MI AT
theorem azw:isL (.ref 1) (HP u free r0 rows)=true:=rfl
theorem b1f:isL (.ref 3) (HP u free r0 rows)=true:=rfl
theorem azx{u:O}{free:List (Nat×Nat)}{r0:List Int}{rows:List (List Int)}:oh [.ref 1] (HP u free r0 rows)=.ok (.int (free.length:Nat)) (HP u free r0 rows):=by
 rw[xf,apk];simp only[List.length_map]
def Slt(L:List (List Int))(p k r:Nat):Prop:=∃row,L[p]? = some row/\row[k]? = some ((r:Nat):Int)
def Tre(L:List (List Int))(free:List (Nat×Nat))(m:Nat):Prop:=∀r,1<=r->r<m->∃p k,p<r/\Slt L p k r/\(p,k)∉free
theorem agb{r0:List Int}{rows:List (List Int)}{v:Int}{p k r:Nat}(ne:(p,k)≠(a,b))(h:Slt (r0::rows) p k r):Slt ((a69 r0 rows a b v).1::(a69 r0 rows a b v).2) p k r:=by
 obtain⟨row,h1,h2⟩:=h;unfold a69
 by_cases ha:a=0
 .subst ha;rw[if_pos rfl]
  cases p with
  |zero =>
   cases h1
   exact⟨_,rfl,by rw[List.getElem?_set_ne (λz=>ne (by rw[z]))];exact h2⟩
  |succ p=>exact⟨row,h1,h2⟩
 .rw[if_neg ha]
  cases p with
  |zero=>exact⟨row,h1,h2⟩
  |succ p =>
   rw[List.getElem?_cons_succ]at h1
   by_cases e:a-1=p
   .refine⟨((rows.getD (a-1) []).set b v),?_,?_⟩
    .rw[List.getElem?_cons_succ,e,List.getElem?_set_self (List.getElem?_eq_some_iff.mp h1).1]
    .rw[List.getElem?_set_ne (λz=>ne (by rw[z,<-e];congr 1;lia)),e,List.getD_eq_getElem?_getD,h1]
     exact h2
   .exact⟨row,by rw[List.getElem?_cons_succ,List.getElem?_set_ne e];exact h1,h2⟩
theorem apq{r0:List Int}{rows:List (List Int)}{r:Nat}(ha:a<=rows.length)(hb:b<s)(l0:r0.length=s)(l1:∀r∈rows,r.length=s):Slt ((a69 r0 rows a b (r:Nat)).1::(a69 r0 rows a b (r:Nat)).2) a b r:=by
 unfold a69
 cases a with
 |zero=>exact⟨_,rfl,by show(r0.set b _)[b]? = _;rw[List.getElem?_set_self (by lia)]⟩
 |succ a =>
  rw[if_neg (by lia),Nat.add_sub_cancel]
  have hl:a<rows.length:=by lia
  refine⟨_,by rw[List.getElem?_cons_succ,List.getElem?_set_self hl],?_⟩
  rw[List.getElem?_set_self];rw[List.getD_eq_getElem?_getD,List.getElem?_eq_getElem hl];show b<rows[a].length;rw[l1 _ (List.getElem_mem hl)];exact hb
theorem agc{L M:List (List Int)}(h:Slt L p k r):Slt (L++M) p k r:=by
 obtain⟨row,h1,h2⟩:=h;exact⟨row,by rw[List.getElem?_append_left (List.getElem?_eq_some_iff.mp h1).1];exact h1,h2⟩
theorem agd{free:List (Nat×Nat)}{rows:List (List Int)}{t6:Option D}(P:Hand o N)(hN:N<=999999000)(s1:1<=s)(s6:s<=6)(n32:n<=32)(hi:1+i<n)(lr:rows.length=i)(f1:s<=free.length)(f2:free.length<=1000)(ff:∀p∈free,p.1<=i/\p.2<s)(q0:a0p s n r0)(q1:∀r∈rows,a0p s n r)(fr:free.Nodup)(tr:Tre (r0::rows) free (1+i)) :
  ∃(u:O) (free':List (Nat×Nat)) (r0':List Int) (rows':List (List Int)) (z7 z8 z9:Option D),ue aa [some (.ref 0),some (.int (s:Nat)),some (.int (n:Nat)),some (.int m),some (.ref 1),some (.ref 3),some (.int ((1+i:Nat))),t7,t8,t9] (HP o free r0 rows)=.nx [some (.ref 0),some (.int (s:Nat)),some (.int (n:Nat)),some (.int m),some (.ref 1),some (.ref 3),some (.int ((1+i:Nat))),z7,z8,z9] (HP u free' r0' rows')
   /\ Hand u (N+2)/\rows'.length=i+1/\s<=free'.length/\free'.length<=free.length+s/\(∀p∈free',p.1<=i+1/\p.2<s)/\a0p s n r0'/\(∀r∈rows',a0p s n r)/\free'.Nodup/\Tre (r0'::rows') free' (2+i):=by
 obtain⟨x,o1,e1,x0,x1,P1⟩:=m8 (m:=(s:Nat)) P (by lia) (by lia) (by lia)
 obtain⟨y,o2,e2,y0,y1,P2⟩:=m8 (m:=(free.length:Nat)) P1 (by lia) (by lia) (by lia)
 obtain⟨k,u,hk,Pu,ek⟩:∃(k:Nat) (u:O),k<free.length/\Hand u (N+2)/\∀τ:Sd,∀τ':Sd,τ=[some (.ref 0),some (.int (s:Nat)),some (.int (n:Nat)),some (.int m),some (.ref 1),some (.ref 3),some (.int ((1+i:Nat))),t7,t8,t9]->τ'=[some (.ref 0),some (.int (s:Nat)),some (.int (n:Nat)),some (.int m),some (.ref 1),some (.ref 3),some (.int ((1+i:Nat))),some (.int (k:Nat)),t8,t9]->∀g:SS,
   (dw (iz 7 (s2 a6h (s2 a6h (sA oh (aj (sV 4) bj)) (sI 1)) (sA (gq false 2 aa) (aj (sV 0) (aj (sV 1) bj)))))
 (dw (sIf (sT (s2 hEq (sV 3) (sI 0)))
 (iz 7 (sA (gq false 2 aa) (aj (sV 0) (aj (sA oh (aj (sV 4) bj)) bj))))
 sNx) g)) τ (HP o free r0 rows)=g τ' (HP u free r0 rows):=by
  have c1:gq false 2 aa [.ref 0,.int (s:Nat)] (HP o free r0 rows)=.ok (.int x) (HP o1 free r0 rows):=e1 0 _ rfl;have c2:gq false 2 aa [.ref 0,.int (free.length:Nat)] (HP o1 free r0 rows)=.ok (.int y) (HP o2 free r0 rows):=e2 0 _ rfl;have l1:=@azx o free r0 rows;have l2:=@azx o1 free r0 rows
  by_cases hm:m=0
  .obtain⟨k,rfl⟩:=Int.eq_ofNat_of_zero_le y0;refine⟨k,o2,by lia,P2,λτ τ' eτ eτ' g=>?_⟩
   subst eτ eτ' hm;simp only[kh,ut,iz,sIf,sV,sC,s2,sA,aj,bj,sNx,sT,asB,az,ye,MI.a6h,a8r,l1,l2,c1,c2,List.getElem?_cons_zero,List.getElem?_cons_succ,List.set_cons_zero,List.set_cons_succ,beq_self_eq_true,if_true,a5j,vp]
  .have hb:(m == 0)=false:=by simpa using hm
   refine⟨(free.length-1-x).toNat,o1,by lia,P1.up (by lia),λτ τ' eτ eτ' g=>?_⟩
   subst eτ eτ';rw[show(((free.length:Int)-1-x).toNat:Int)=(free.length:Int)-1-x by lia]
   simp only[kh,ut,iz,sIf,sV,sC,s2,sA,aj,bj,sNx,sT,asB,az,ye,MI.a6h,a8r,l1,l2,c1,c2,List.getElem?_cons_zero,List.getElem?_cons_succ,List.set_cons_zero,List.set_cons_succ,hb,Bool.false_eq_true,if_false,a5j,vp]
 have gk:free[k]? = some free[k]:=List.getElem?_eq_getElem hk;obtain⟨fa,fb⟩:=ff free[k] (List.getElem_mem hk);have pn:free[k]∉free.eraseIdx k:=λz=>by
  obtain⟨j,_,ne,e⟩:=List.mem_eraseIdx_iff_getElem.mp z;exact ne ((List.getElem_inj fr).mp e)
 generalize free[k]=p at gk fa fb pn
 have l0:=dz (n:=free.length) (by lia)
 have so:=ag6 (b:=p.2) (v:=((1+i:Nat):Int)) (by lia:p.1<=rows.length) (by lia) (by lia:((1+i:Nat):Int)<(n:Int)) q0 q1
 refine⟨u,free.eraseIdx k++(List.range s).map (λj=>(1+i,j)),(a69 r0 rows p.1 p.2 ((1+i:Nat):Int)).1,(a69 r0 rows p.1 p.2 ((1+i:Nat):Int)).2++[List.replicate s 0],some (.int (k:Nat)),some (.int (p.1:Nat)),some (.int (p.2:Nat)),?_,Pu,?_,?_,?_,?_,so.1,?_,?_,?_⟩
 .unfold ue;rw[ek _ _ rfl rfl];rw[kh];have st1:∀τ:Sd,τ=[some (.ref 0),some (.int (s:Nat)),some (.int (n:Nat)),some (.int m),some (.ref 1),some (.ref 3),some (.int ((1+i:Nat))),some (.int (k:Nat)),t8,t9]->a7l (sML a2p (sV 4) (aj (sV 7) bj)) (a2a 2 (g8 (kN 8) (g8 (kN 9) a2j))) τ (HP u free r0 rows)=.nx [some (.ref 0),some (.int (s:Nat)),some (.int (n:Nat)),some (.int m),some (.ref 1),some (.ref 3),some (.int ((1+i:Nat))),some (.int (k:Nat)),some (.int (p.1:Nat)),some (.int (p.2:Nat))] (HP u (free.eraseIdx k) r0 rows):=by
   rintro τ rfl
   unfold a7l;rw[avd (bc rfl) azw (arg1 (bc rfl)) (ak2 gk l0)];rfl
  rw[st1 _ rfl,ut,kh]
  generalize HT:([some (.ref 0),some (.int (s:Nat)),some (.int (n:Nat)),some (.int m),some (.ref 1),some (.ref 3),some (.int ((1+i:Nat))),some (.int (k:Nat)),some (.int (p.1:Nat)),some (.int (p.2:Nat))]:Sd)=τ
  have pa:=alk (u:=u) (free:=free.eraseIdx k) (v:=((1+i:Nat):Int)) (by lia:p.1<=rows.length) fb q0.1 λr hr=>(q1 r hr).1
  have st2:a8c (sV 6) (s2 gIx (sV 5) (sV 8)) (sV 9) τ (HP u (free.eraseIdx k) r0 rows)=.nx τ (HP u (free.eraseIdx k) (a69 r0 rows p.1 p.2 ((1+i:Nat):Int)).1 (a69 r0 rows p.1 p.2 ((1+i:Nat):Int)).2):=by
   subst HT;unfold a8c;rw[bc rfl,ye,n8 (bc rfl) (bc rfl) (alm (by lia)),ye,bc rfl,ye,pa]
  rw[st2,ut,kh]
  generalize (a69 r0 rows p.1 p.2 ((1+i:Nat):Int)).1=r0' at so
  generalize (a69 r0 rows p.1 p.2 ((1+i:Nat):Int)).2=rows' at so
  have st3:vg (sML a3k (sV 5) (aj (s2 zp (sZ (sA a2h (aj (sI 0) bj))) (sV 1)) bj)) τ (HP u (free.eraseIdx k) r0' rows')=.nx τ (HP u (free.eraseIdx k) r0' (rows'++[List.replicate s 0])):=by
   subst HT;exact a1m (bc rfl) b1f (arg1 (n8 (a0z (xs:=[.int 0]) rfl (dm (bw _) m9) (alo Pu.clo)) (bc rfl) (mul_zero (dz (by lia))))) (apm (by have:=so.2.1;have:=dz (n:=rows'.length+2) (by lia);lia))
  rw[st3,ut];subst HT;refine a1m (bc rfl) azw (arg1 (ag7 Pu.clo (dz (by lia)) s6 rfl rfl)) (ak3 (dz ?_))
  simp only[List.length_eraseIdx,List.length_map,List.length_range]
  split<;>lia
 .rw[List.length_append,so.2.1,lr];rfl
 .simp only[List.length_append,List.length_eraseIdx,List.length_map,List.length_range]
  split<;>lia
 .simp only[List.length_append,List.length_eraseIdx,List.length_map,List.length_range]
  split<;>lia
 .intro q hq
  rcases List.mem_append.mp hq with h|h
  .have:=ff q (List.mem_of_mem_eraseIdx h)
   lia
  .obtain⟨j,hj,rfl⟩:=List.mem_map.mp h;rw[List.mem_range]at hj;exact⟨by simp only[];lia,hj⟩
 .intro r hr
  rcases List.mem_append.mp hr with h|h
  .exact so.2.2 r h
  .rw[List.mem_singleton]at h;subst h;exact⟨by simp,λx hx=>by rw[List.eq_of_mem_replicate hx];lia⟩
 .refine List.nodup_append.mpr ⟨fr.sublist (List.eraseIdx_sublist ..),List.nodup_range.map _ |> λz=>z λa b ne e=>ne (congrArg Prod.snd e),λq hq q' hq' e=>?_⟩
  subst e;obtain⟨j,_,rfl⟩:=List.mem_map.mp hq';have:=ff _ (List.mem_of_mem_eraseIdx hq);simp only at this;lia
 .have nw:∀{a c:Nat},a<1+i->(a,c)∉free.eraseIdx k->(a,c)∉free.eraseIdx k++(List.range s).map λj=>(1+i,j):=λha hn z=>by
   rcases List.mem_append.mp z with z|z
   .exact hn z
   .obtain⟨j,_,e⟩:=List.mem_map.mp z;have:=congrArg Prod.fst e;simp only at this;lia
  intro r r1 r2
  rw[<-List.cons_append]
  by_cases e:r=1+i
  .subst e;exact⟨p.1,p.2,by lia,agc (apq (by lia) fb q0.1 λr hr=>(q1 r hr).1),nw (by lia) pn⟩
  .obtain⟨a,c,h1,h2,h3⟩:=tr r r1 (by lia)
   exact⟨a,c,h1,agc (agb (λz=>h3 (by rw[z];exact List.mem_of_getElem? gk)) h2),nw (by lia) λz=>h3 (List.mem_of_mem_eraseIdx z)⟩
theorem age{o:O}{N s n:Nat}{p:Nat×Nat}{free:List (Nat×Nat)}{r0:List Int}{rows:List (List Int)}{t3 t6 t7:Option D}(P:Hand o N)(hN:N<=999999000)(n1:1<=n)(n32:n<=32)(pa:p.1<=rows.length)(pb:p.2<s)(q0:a0p s n r0)(q1:∀r∈rows,a0p s n r) :
  ∃(u:O) (r0':List Int) (rows':List (List Int)),uf aa [some (.ref 0),some (.int (s:Nat)),some (.int (n:Nat)),t3,some (.ref 1),some (.ref 3),t6,t7,some (.int (p.1:Nat)),some (.int (p.2:Nat))] (HP o free r0 rows)=.nx [some (.ref 0),some (.int (s:Nat)),some (.int (n:Nat)),t3,some (.ref 1),some (.ref 3),t6,t7,some (.int (p.1:Nat)),some (.int (p.2:Nat))] (HP u free r0' rows')
   /\ Hand u (N+1)/\rows'.length=rows.length/\a0p s n r0'/\(∀r∈rows',a0p s n r)/\∀q c r,(q,c)≠p->Slt (r0::rows) q c r->Slt (r0'::rows') q c r:=by
 obtain⟨x,o1,e1,x0,x1,P1⟩:=m8 (m:=(n:Nat)) P (by lia) (by lia) (by lia)
 have so:=ag6 (b:=p.2) pa x0 x1 q0 q1;have pa':=alk (u:=o1) (free:=free) (v:=x) pa pb q0.1 λr hr=>(q1 r hr).1;refine⟨o1,_,_,?_,P1,so.2.1,so.1,so.2.2,λq c r ne h=>agb ne h⟩;have c1:gq false 2 aa [.ref 0,.int (n:Nat)] (HP o free r0 rows)=.ok (.int x) (HP o1 free r0 rows):=e1 0 _ rfl;unfold uf a8c
 generalize HT:([some (.ref 0),some (.int (s:Nat)),some (.int (n:Nat)),t3,some (.ref 1),some (.ref 3),t6,t7,some (.int (p.1:Nat)),some (.int (p.2:Nat))]:Sd)=τ
 have a1:(sA (gq false 2 aa) (aj (sV 0) (aj (sV 2) bj))) τ (HP o free r0 rows)=.ok (.int x) (HP o1 free r0 rows):=by
  subst HT;unfold sA;rw[apl (bc rfl) (bc rfl),az,c1]
 rw[a1,ye];subst HT;rw[n8 (bc rfl) (bc rfl) (alm pa),ye,bc rfl,ye,pa']
theorem ak6(P:Hand o N)(hN:N<=999990000)(s1:1<=s)(s6:s<=6)(n1:1<=n)(n32:n<=32) :
  ∃(rows:List (List Int)) (o':O),rows.length=n/\(∀r∈rows,a0p s n r)/\Dr nu 3 [.int (s:Nat),.int (n:Nat)] o (.rol (rows.map λr=>.rol (r.map D.int))) o'/\Hand o' (N+1000)/\∀r,1<=r->r<n->∃p k,p<r/\Slt rows p k r:=by
 obtain⟨m,o1,e1,m0,m1,P1⟩:=m8 (m:=2) P (by lia) (by lia) (by lia)
 have z:a0p s n (List.replicate s 0):=⟨by simp,λx hx=>by rw[List.eq_of_mem_replicate hx];lia⟩
 have lo:=kj (g:=kN 6) (b:=ue aa) (λi:Nat=>D.int ((1+i:Nat)))
  (λpre τ h=>∃(u:O) (free:List (Nat×Nat)) (r0:List Int) (rows:List (List Int)) (t6 t7 t8 t9:Option D),τ=[some (.ref 0),some (.int (s:Nat)),some (.int (n:Nat)),some (.int m),some (.ref 1),some (.ref 3),t6,t7,t8,t9]/\h=HP u free r0 rows/\Hand u (N+1+2*pre.length)/\rows.length=pre.length/\s<=free.length/\free.length<=s+s*pre.length/\(∀p∈free,p.1<=pre.length/\p.2<s)/\a0p s n r0/\(∀r∈rows,a0p s n r)/\free.Nodup/\Tre (r0::rows) free (1+pre.length))
  (List.range (n-1)) [some (.ref 0),some (.int (s:Nat)),some (.int (n:Nat)),some (.int m),some (.ref 1),some (.ref 3),none,none,none,none] (HP o1 ((List.range s).map λj=>(0,j)) (List.replicate s 0) []) ?_
  ⟨o1,_,_,[],none,none,none,none,rfl,rfl,P1,rfl,by simp,by simp,λp hp=>by
   obtain⟨j,hj,rfl⟩:=List.mem_map.mp hp;rw[List.mem_range]at hj;exact⟨Nat.le_refl _,hj⟩,z,by simp,List.nodup_range.map _ |> (λz=>z λa b ne e=>ne (congrArg Prod.snd e)),λr r1 r2=>absurd r2 (by show ¬ r<1+0;lia)⟩
 .obtain⟨τ',h',e2,u,free,r0,rows,t6,t7,t8,t9,rfl,rfl,P2,l1,l2,l3,ff,q0,q1,fr,tr⟩:=lo;rw[List.length_range]at P2 l1 l3 ff tr;have f31:s*(n-1)<=6*31:=Nat.mul_le_mul s6 (by lia)
  have lo2:=ab8 (g:=a2a 2 (g8 (kN 8) (g8 (kN 9) a2j))) (b:=uf aa) (ck:=λh=>h[1]? = some (.lst (free.map a1w))) a1w
   (λpre τ h=>∃(u:O) (r0:List Int) (rows:List (List Int)) (t8 t9:Option D),τ=[some (.ref 0),some (.int (s:Nat)),some (.int (n:Nat)),some (.int m),some (.ref 1),some (.ref 3),t6,t7,t8,t9]/\h=HP u free r0 rows/\Hand u (N+1+2*(n-1)+pre.length)/\rows.length=n-1/\a0p s n r0/\(∀r∈rows,a0p s n r)/\Tre (r0::rows) free (1+(n-1)))
   (λpre τ h ⟨u,r0,rows,_,_,_,e,_⟩=>by rw[e];rfl) free [] [some (.ref 0),some (.int (s:Nat)),some (.int (n:Nat)),some (.int m),some (.ref 1),some (.ref 3),t6,t7,t8,t9] (HP u free r0 rows) ?_ ⟨u,r0,rows,t8,t9,rfl,rfl,P2,l1,q0,q1,tr⟩
  .obtain⟨τ',h',e3,u',r0',rows',t8',t9',rfl,rfl,P3,l1',q0',q1',tr'⟩:=lo2;rw[List.nil_append]at P3;refine⟨r0'::rows',u',by rw[List.length_cons];lia,λr hr=>by
    rcases List.mem_cons.mp hr with rfl|h
    .exact q0'
    .exact q1' r h,?_,P3.up (by lia),λr r1 r2=>let ⟨p,k,h1,h2,_⟩:=tr' r r1 (by lia); ⟨p,k,h1,h2⟩⟩
   refine Dr.of rfl (by intro x hx;simp only[List.mem_cons,List.not_mem_nil,or_false]at hx;rcases hx with rfl|rfl<;>exact bw _) P.clo (r:=.ok (.ref 3) (HP u' free r0' rows')) ?_ (a2l ak0 (by intro x hx;rw[show List.take 1 (HP u' free r0' rows')=[u'] from rfl,List.mem_singleton]at hx;subst hx;exact qu (by lia) P3.clo)) (mj (bz λx _=>mj (bz λy _=>bw y))) P3.clo
   unfold nu;rw[fu];show toR (a0b aa [some (.ref 0),some (.int (s:Nat)),some (.int (n:Nat)),none,none,none,none,none,none,none] [o])=_;unfold a0b;have c1:gq false 2 aa [.ref 0,.int 2] [o]=.ok (.int m) [o1]:=e1 0 _ rfl;rw[jl (sr (bc rfl) ckk c1)];simp only[List.set_cons_zero,List.set_cons_succ];have z6:=dz (n:=s) (by lia)
   have c2:∀τ:Sd,τ[1]? = some (some (.int (s:Nat)))->wj (sRg a0k (aj (sV 1) bj)) t1 (yf aa) [] τ [o1]=.ok (.ref 1) ([o1]++[.lst ((List.range s).map λj=>a1w (0,j))]):=λτ ht=>by
    refine uq (λi:Nat=>D.int (i:Nat)) (λj:Nat=>a1w (0,j)) (List.range s) (a3c (bc ht) z6) (by rw[List.length_range];exact z6) λx _=>?_
    rw[a3e,a7g];unfold yf;simp only[sA,aj,bj,sV,sC,List.getElem?_cons_zero,az,MI.vf,List.length_cons,List.length_nil,Nat.reduceAdd,if_pos (show(2:Nat)<=LINE by decide)]
    rfl
   rw[jl (c2 _ rfl)];simp only[List.set_cons_zero,List.set_cons_succ,List.cons_append,List.nil_append];have cl:∀x∈[o1,O.lst ((List.range s).map λj=>a1w (0,j))],a00 2 x:=by
    intro x hx
    simp only[List.mem_cons,List.not_mem_nil,or_false]at hx
    rcases hx with rfl|rfl
    .exact qu (by lia) P1.clo
    .exact bz λx _=>j7 (dm (bw _) (dm (bw _) m9))
   have c3:∀τ:Sd,τ[1]? = some (some (.int (s:Nat)))->sA a2h (aj (s2 zp (sZ (sA a2h (aj (sI 0) bj))) (sV 1)) bj) τ [o1,O.lst ((List.range s).map λj=>a1w (0,j))]=.ok (.ref 3) (HP o1 ((List.range s).map λj=>(0,j)) (List.replicate s 0) []):=λτ ht=>by
    refine xx (n8 (a0z (xs:=[.int 0]) rfl (dm (bw _) m9) cl) (bc ht) (mul_zero z6)) ?_;unfold MI.a2h HP;simp only[List.map_map,List.length_nil,List.map_nil];rfl
   rw[jl (c3 _ rfl)];simp only[List.set_cons_zero,List.set_cons_succ];have i2:∀(τ:Sd) (h:Hd),τ[2]? = some (some (.int (n:Nat)))->sRg a07 (aj (sI 1) (aj (sV 2) bj)) τ h=.ok ⟨(List.range (n-1)).map λi:Nat=>D.int ((1+i:Nat)),λ_=>True⟩ h:=λτ h ht=>a3d (a:=1) ckk (bc ht) (dz (by lia)) (dz (by lia))
   rw[a3f (i2 _ _ rfl),e2,ut];have i3:∀τ:Sd,τ[4]? = some (some (.ref 1))->sIt (sV 4) τ (HP u free r0 rows)=.ok ⟨free.map a1w,λh=>h[1]? = some (.lst (free.map a1w))⟩ (HP u free r0 rows):=λτ ht=>by
    unfold sIt;rw[bc ht,az];rfl
   rw[a3f (i3 _ rfl),e3,ut];rfl
  .rintro pre p post τ h all ⟨u,r0,rows,t8,t9,rfl,rfl,P3,l1',q0',q1',tr'⟩
   rw[List.nil_append]at all;have hp:p∈free:=by rw[all];simp
   have hl:pre.length<free.length:=by rw[all];simp
   obtain⟨fa,fb⟩:=ff p hp;obtain⟨u',r0',rows',e4,P4,l4,q4,q5,q6⟩:=age (t3:=some (.int m)) (t6:=t6) (t7:=t7) (free:=free) P3 (by lia) n1 n32 (by lia:p.1<=rows.length) fb q0' q1'
   exact⟨_,_,rfl,_,_,e4,u',r0',rows',_,_,rfl,rfl,by simpa[Nat.add_assoc] using P4,by lia,q4,q5,λr r1 r2=>let ⟨a,c,h1,h2,h3⟩:=tr' r r1 r2; ⟨a,c,h1,q6 a c r (λz=>h3 (by rw[z];exact hp)) h2,h3⟩⟩
 .rintro pre i post τ h all ⟨u,free,r0,rows,t6,t7,t8,t9,rfl,rfl,P2,l1,l2,l3,ff,q0,q1,fr,tr⟩
  obtain⟨hi,hk⟩:=a1l all;have f31:s*pre.length<=6*31:=Nat.mul_le_mul s6 (by lia)
  obtain⟨u',free',r0',rows',z7,z8,z9,e3,P3,l4,l5,l6,f',q3,q4,fr',tr'⟩:=agd (m:=m) (t6:=t6) (t7:=t7) (t8:=t8) (t9:=t9) (i:=i) P2 (by lia) s1 s6 n32 (by lia) (by lia:rows.length=i) l2 (by lia) (λp hp=>by have:=ff p hp;lia) q0 q1 fr (by rw[hi];exact tr)
  refine⟨_,_,rfl,_,_,e3,u',free',r0',rows',_,z7,z8,z9,rfl,rfl,P3.up (by rw[List.length_append,List.length_singleton];lia),by rw[List.length_append,List.length_singleton];lia,l5,?_,λp hp=>by rw[List.length_append,List.length_singleton];have:=f' p hp;lia,q3,q4,fr',by rw[List.length_append,List.length_singleton,show 1+(pre.length+1)=2+i by lia];exact tr'⟩
  rw[List.length_append,List.length_singleton,Nat.mul_add];lia
theorem apr(P:Hand o N)(hN:N<=999990000)(s1:1<=s)(s6:s<=6)(n1:1<=n)(n32:n<=32) :
  ∃(rows:List (List Int)) (o':O),rows.length=n/\(∀r∈rows,a0p s n r)/\Dr nu 3 [.int (s:Nat),.int (n:Nat)] o (.rol (rows.map λr=>.rol (r.map D.int))) o'/\Hand o' (N+1000) :=
 let ⟨rows,o',a,b,c,d,_⟩:=ak6 P hN s1 s6 n1 n32
 ⟨rows,o',a,b,c,d⟩
noncomputable def mz:SF:=ou (yu aa) 6
abbrev KOk(k:Int):Prop := -1<=k/\k<=5
theorem acw{ks:List Int}(P:Hand o N)(hN:N<=999999000)(l:ks.length<=100) :
  ∃(u:O) (k:Int),p7 aa [some (.ref 0),some (.int n),some (.int m),some (.ref 1),some (.int room),t5] [o,.lst (ks.map D.int)]=.nx [some (.ref 0),some (.int n),some (.int m),some (.ref 1),some (.int room),some (.int k)] [u,.lst ((ks++[k]).map D.int)]/\Hand u (N+2)/\KOk k:=by
 obtain⟨x,o1,e1,x0,x1,P1⟩:=m8 (m:=7) P (by lia) (by lia) (by lia)
 obtain⟨y,o2,e2,y0,y1,P2⟩:=m8 (m:=3) P1 (by lia) (by lia) (by lia)
 have c1:gq false 2 aa [.ref 0,.int 7] [o,.lst (ks.map D.int)]=.ok (.int x) [o1,.lst (ks.map D.int)]:=e1 0 _ rfl;have c2:gq false 2 aa [.ref 0,.int 3] [o1,.lst (ks.map D.int)]=.ok (.int y) [o2,.lst (ks.map D.int)]:=e2 0 _ rfl;have fin:∀(u:O) (k:Int),vg (sML a3k (sV 3) (aj (sV 5) bj)) [some (.ref 0),some (.int n),some (.int m),some (.ref 1),some (.int room),some (.int k)] [u,.lst (ks.map D.int)]=.nx [some (.ref 0),some (.int n),some (.int m),some (.ref 1),some (.int room),some (.int k)] [u,.lst ((ks++[k]).map D.int)]:=λu k=>by
  rw[List.map_append];exact a1m (bc rfl) rfl (arg1 (bc rfl)) (a2u (xs:=ks.map D.int) rfl (by rw[List.length_map];exact zf (by lia)))
 unfold p7
 by_cases h1:m=1
 .subst h1;refine⟨o1,(x-1) / 5,?_,P1.up (by lia),by lia⟩
  refine Eq.trans (jl (n8 (sr (bc rfl) ckk c1) ckk (a6c _ _))) ?_;refine Eq.trans (xg (Eq.trans (ifT (tvc rfl (a8u rfl))) (awy (ahn rfl (div_ii (by decide)))))) ?_
  refine Eq.trans (ifN (awz (tvc rfl (a5o (by decide))))) ?_
  exact fin _ _
 .by_cases h2:m=2
  .subst h2
   by_cases hy:0<y
   .refine⟨o2,-1,?_,P2,by decide⟩
    refine Eq.trans (jl (n8 (sr (bc rfl) ckk c1) ckk (a6c _ _))) ?_;refine Eq.trans (ifN (tvc rfl (a5o h1))) ?_;refine Eq.trans (xg (Eq.trans (ifT (aqq (tvc rfl (a8u rfl)) (t2s (sr (bc rfl) ckk c2) ckk (azt hy)))) (awy (ayw ckk (apo _))))) ?_;exact fin _ _
   .refine⟨o2,x-1,?_,P2,by lia⟩
    refine Eq.trans (jl (n8 (sr (bc rfl) ckk c1) ckk (a6c _ _))) ?_;refine Eq.trans (ifN (tvc rfl (a5o h1))) ?_;refine Eq.trans (ifN (aqq (tvc rfl (a8u rfl)) (t2s (sr (bc rfl) ckk c2) ckk (azu hy)))) ?_;exact fin _ _
  .refine⟨o1,x-1,?_,P1.up (by lia),by lia⟩
   refine Eq.trans (jl (n8 (sr (bc rfl) ckk c1) ckk (a6c _ _))) ?_;refine Eq.trans (ifN (tvc rfl (a5o h1))) ?_;refine Eq.trans (ifN (awz (tvc rfl (a5o h2)))) ?_;exact fin _ _
theorem kinds_ok(P:Hand o N)(hN:N<=999990000)(n1:1<=n)(n32:n<=32) :
  ∃(ks:List Int) (o':O),ks.length=n/\ks[0]? = some (-1)/\(∀k∈ks,KOk k)/\Dr mz 2 [.int (n:Nat)] o (.rol (ks.map D.int)) o'/\Hand o' (N+1000):=by
 obtain⟨m,o1,e1,m0,m1,P1⟩:=m8 (m:=3) P (by lia) (by lia) (by lia)
 have lo:=kj (g:=kN 4) (b:=p7 aa) (λi:Nat=>D.int ((1+i:Nat)))
  (λpre τ h=>∃(u:O) (ks:List Int) (t4 t5:Option D),τ=[some (.ref 0),some (.int (n:Nat)),some (.int m),some (.ref 1),t4,t5]/\h=[u,.lst (ks.map D.int)]/\Hand u (N+1+2*pre.length)/\ks.length=1+pre.length/\ks[0]? = some (-1)/\∀k∈ks,KOk k)
  (List.range (n-1)) [some (.ref 0),some (.int (n:Nat)),some (.int m),some (.ref 1),none,none] [o1,.lst ([-1].map D.int)] ?_
  ⟨o1,[-1],none,none,rfl,rfl,P1,rfl,rfl,by intro k hk;rw[List.mem_singleton]at hk;subst hk;decide⟩
 .obtain⟨τ',h',e2,u,ks,t4,t5,rfl,rfl,P2,l1,k0,kk⟩:=lo;rw[List.length_range]at P2 l1;refine⟨ks,u,by lia,k0,kk,?_,P2.up (by lia)⟩
  refine Dr.of rfl (by intro x hx;simp only[List.mem_cons,List.not_mem_nil,or_false]at hx;rw[hx];exact bw _) P.clo (r:=.ok (.ref 1) [u,.lst (ks.map D.int)]) ?_ (a3s (Nat.le_refl _) rfl (bz λx _=>bw x) (by intro x hx;rw[show List.take 1 [u,O.lst (ks.map D.int)]=[u] from rfl,List.mem_singleton]at hx;subst hx;exact qu (by lia) P2.clo)) (mj (bz λy _=>bw y)) P2.clo
  unfold mz;rw[fu];show toR (yu aa [some (.ref 0),some (.int (n:Nat)),none,none,none,none] [o])=_;unfold yu;have c1:gq false 2 aa [.ref 0,.int 3] [o]=.ok (.int m) [o1]:=e1 0 _ rfl;rw[jl (sr (bc rfl) ckk c1),jl (d:=.ref 1) (h1:=[o1,.lst ([-1].map D.int)]) rfl];simp only[List.set_cons_zero,List.set_cons_succ];have i2:∀(τ:Sd) (h:Hd),τ[1]? = some (some (.int (n:Nat)))->sRg a07 (aj (sI 1) (aj (sV 1) bj)) τ h=.ok ⟨(List.range (n-1)).map λi:Nat=>D.int ((1+i:Nat)),λ_=>True⟩ h:=λτ h ht=>a3d (a:=1) ckk (bc ht) (dz (by lia)) (dz (by lia))
  rw[a3f (i2 _ _ rfl),e2,ut];rfl
 .rintro pre i post τ h all ⟨u,ks,t4,t5,rfl,rfl,P2,l1,k0,kk⟩
  obtain⟨hi,hk⟩:=a1l all;obtain⟨u',k,e3,P3,hk3⟩:=acw (n:=n) (m:=m) (room:=((1+i:Nat):Int)) (t5:=t5) P2 (by lia) (by lia:ks.length<=100)
  refine⟨_,_,rfl,_,_,e3,u',ks++[k],_,_,rfl,rfl,P3.up (by rw[List.length_append,List.length_singleton];lia),by rw[List.length_append,List.length_append,List.length_singleton,List.length_singleton];lia,?_,λq hq=>?_⟩
  .rw[List.getElem?_append_left (by lia)];exact k0
  .rcases List.mem_append.mp hq with h|h
   .exact kk q h
   .rw[List.mem_singleton]at h;subst h;exact hk3
noncomputable abbrev au(i:Nat):D:=.int (i:Nat)
noncomputable def iu:SF:=ou (p8 aa) 9
theorem vy(l:List Nat):clos k (l.map au):=bz λx _=>bw _
theorem agf(P:Hand o N)(hN:N<=999990000)(n1:1<=n)(n32:n<=32) :
  ∃(pl:List Nat) (u:O),sWh (nj aa) (jr aa) 100000 [some (.ref 0),some d1,some d2,some (.ref 1),some (.ref 2),t5,t6,t7,t8] [o,.lst (((List.range (n-1)).map (1+·)).map au),.lst ([0].map au)]=.nx [some (.ref 0),some d1,some d2,some (.ref 1),some (.ref 2),t5,t6,t7,t8] [u,.lst [],.lst (pl.map au)]
   /\ List.Perm pl (List.range n)/\pl[0]? = some 0/\Hand u (N+32):=by
 have w:=acf (c:=nj aa) (f:=jr aa)
  (λm τ h=>∃(u:O) (pl aG:List Nat),τ=[some (.ref 0),some d1,some d2,some (.ref 1),some (.ref 2),t5,t6,t7,t8]/\h=[u,.lst (aG.map au),.lst (pl.map au)]/\m=aG.length/\List.Perm (pl++aG) (List.range n)/\pl[0]? = some 0/\Hand u (N+pl.length))
  (λτ h=>∃(u:O) (pl:List Nat),τ=[some (.ref 0),some d1,some d2,some (.ref 1),some (.ref 2),t5,t6,t7,t8]/\h=[u,.lst [],.lst (pl.map au)]/\List.Perm pl (List.range n)/\pl[0]? = some 0/\Hand u (N+32))
  (λ_ _=>False) ?_ (n-1) 100000 [some (.ref 0),some d1,some d2,some (.ref 1),some (.ref 2),t5,t6,t7,t8] [o,.lst (((List.range (n-1)).map (1+·)).map au),.lst ([0].map au)] (by lia)
  ⟨o,[0],(List.range (n-1)).map (1+·),rfl,rfl,by simp,?_,rfl,P.up (by lia)⟩
 .rcases w with⟨τ',h',e,u,pl,rfl,rfl,a,b,c⟩|⟨_,_,_,z⟩
  .exact⟨pl,u,e,a,b,c⟩
  .exact z.elim
 .rintro m τ h ⟨u,pl,aG,rfl,rfl,rfl,pm,p0,Pu⟩
  have ln:(pl++aG).length=n:=by rw[pm.length_eq,List.length_range]
  rw[List.length_append]at ln
  cases aG with
  |nil =>
   refine .inl ⟨_,?_,u,pl,rfl,rfl,by simpa using pm,p0,Pu.up (by lia)⟩
   exact t2s (xx (bc rfl) (a7h rfl)) ckk (azu (by simp))
  |cons r0 rs =>
   refine .inr ⟨_,t2s (xx (bc rfl) (a7h rfl)) ckk (azt (by simp)),.inl ?_⟩
   generalize hr:r0::rs=aG at *
   have rl:0<aG.length:=by rw[<-hr];simp
   obtain⟨x,u',e1,x0,x1,P1⟩:=m8 (m:=(aG.length:Nat)) Pu (by lia) (by lia) (by lia)
   obtain⟨j,rfl⟩:=Int.eq_ofNat_of_zero_le x0;have hj:j<aG.length:=by lia
   have gx:aG[j]? = some aG[j]:=List.getElem?_eq_getElem hj;have pp:=a8s pl aG j aG[j] gx;rw[<-List.eraseIdx_eq_take_drop_succ]at pp;have c1:gq false 2 aa [.ref 0,.int ((aG.map au).length:Nat)] [u,.lst (aG.map au),.lst (pl.map au)]=.ok (.int (j:Nat)) [u',.lst (aG.map au),.lst (pl.map au)]:=by
    rw[List.length_map];exact e1 0 _ rfl
   refine⟨_,[u',.lst ((aG.eraseIdx j).map au),.lst ((pl++[aG[j]]).map au)],(aG.eraseIdx j).length,?_,?_,u',pl++[aG[j]],aG.eraseIdx j,rfl,rfl,rfl,pp.symm.trans pm,?_,?_⟩
   .unfold jr;refine a1m (v:=.non) (bc rfl) rfl (arg1 (avd (bc rfl) rfl (arg1 (sr (bc rfl) (xx (bc rfl) (a7h rfl)) c1)) (apn (xs:=aG.map au) rfl (y:=au aG[j]) (by rw[List.getElem?_map,gx];rfl) (by rw[List.length_map];exact dz (by lia))))) ?_
    rw[<-a4v,List.map_append];exact a2u (xs:=pl.map au) rfl (by rw[List.length_map];exact zf (by lia))
   .rw[List.length_eraseIdx,if_pos hj];lia
   .have:0<pl.length:=by
     cases pl with
     |nil=>simp at p0
     |cons a b=>simp
    rw[List.getElem?_append_left this];exact p0
   .rw[List.length_append,List.length_singleton];exact P1
 .obtain⟨k,rfl⟩:∃k,n=k+1:=⟨n-1,by lia⟩
  rw[List.range_succ_eq_map,show k+1-1=k by lia]
  refine List.Perm.of_eq ?_;show 0::_=_
  congr 1
  exact List.map_congr_left λi _=>by simp[Nat.succ_eq_add_one,Nat.add_comm]
theorem aps{α:Type}{xs:List α}{pre post:List (Nat×α)}{x:Nat×α}(h:(List.range xs.length).zip xs=pre++x::post):x.1=pre.length/\xs[pre.length]? = some x.2:=by
 have h1:=congrArg (λl=>l[pre.length]?) h;have h2:=congrArg List.length h;simp at h1 h2;have hl:pre.length<xs.length:=by lia
 rw[List.getElem?_eq_getElem (by simpa using hl)]at h1
 simp at h1
 rw[List.getElem?_eq_getElem hl,<-h1];exact⟨rfl,rfl⟩
theorem all_map{α:Type}(f:α->D)(P:α->Prop):∀(l:List D),(∀x∈l,∃r,P r/\x=f r)->∃G:List α,l=G.map f/\∀r∈G,P r
 |[],_=>⟨[],rfl,by simp⟩
 |x::l,h=>by
  obtain⟨r,pr,rfl⟩:=h _ List.mem_cons_self;obtain⟨G,rfl,pG⟩:=all_map f P l λy hy=>h y (List.mem_cons_of_mem _ hy);exact⟨r::G,rfl,λq hq=>by
   rcases List.mem_cons.mp hq with rfl|h
   .exact pr
   .exact pG q h⟩
noncomputable abbrev a3y(r:List Nat):D:=.tup (r.map au)
noncomputable abbrev a1x(r:List Int):D:=.rol (r.map D.int)
abbrev apt(s n:Nat)(r:List Nat):Prop:=r.length=s/\∀x∈r,x<n
theorem ak7{a b:List Nat}(e:a3y a=a3y b):a=b:=by
 have e:=D.tup.inj e;exact(List.map_inj_right λx y h=>by have:=D.int.inj h;lia).mp e
theorem agg{N s n i q:Nat}{pl:List Nat}{ks ts:List Int}{rs:List D}{k:Int}(Pu:Hand u N)(n32:n<=32)(s6:s<=6)(pm:List.Perm pl (List.range n))(hq:pl[i]? = some q)(hk:ks[i]? = some k)(hr:a0p s n r)(lr:rs.length=n)(lt:ts.length=n)(cr:∀x∈rs,clo 0 x) :
  ∃r':List Nat,r'=(r.map λx=>(pl[x.toNat]?).getD 0)/\apt s n r'/\ju aa [some (.ref 0),some d1,some (.rol (ks.map D.int)),some (.ref 1),some (.ref 2),some (.ref 3),some (.ref 4),some (au i),some (a1x r)] [u,.lst [],.lst (pl.map au),.lst rs,.lst (ts.map D.int)]=.nx [some (.ref 0),some d1,some (.rol (ks.map D.int)),some (.ref 1),some (.ref 2),some (.ref 3),some (.ref 4),some (au i),some (a1x r)] [u,.lst [],.lst (pl.map au),.lst (rs.set q (a3y r')),.lst ((ts.set q k).map D.int)]:=by
 have pln:pl.length=n:=by rw[pm.length_eq,List.length_range]
 have at':∀x:Int,x∈r->∃(j:Nat),x=j/\∃y:Nat,y<n/\pl[j]? = some y:=λx hx=>by
  obtain⟨a,b⟩:=hr.2 x hx;obtain⟨j,rfl⟩:=Int.eq_ofNat_of_zero_le a;have hj:j<pl.length:=by lia
  exact⟨j,rfl,pl[j],by have:=pm.mem_iff.mp (List.getElem_mem hj);simpa using this,List.getElem?_eq_getElem hj⟩
 have qn:q<n:=by
  have:=List.mem_of_getElem? hq
  simpa using pm.mem_iff.mp this
 refine⟨r.map λx=>(pl[x.toNat]?).getD 0,rfl,⟨by simp[hr.1],λy hy=>?_⟩,?_⟩
 .obtain⟨x,hx,rfl⟩:=List.mem_map.mp hy;obtain⟨j,rfl,y,yn,e⟩:=at' x hx;simpa[e] using yn
 .have cl:∀o∈[u,O.lst [],.lst (pl.map au),.lst rs,.lst (ts.map D.int)],a00 5 o:=by
   intro o ho
   simp only[List.mem_cons,List.not_mem_nil,or_false]at ho
   rcases ho with rfl|rfl|rfl|rfl|rfl
   .exact qu (by lia) Pu.clo
   .exact(m9:clos 5 [])
   .exact vy _
   .exact uc.mpr λx hx=>a4n (by lia) (cr x hx)
   .exact bz λx _=>bw x
  have cz:sZ (wj (sIt (sV 8)) t1 (ux aa) [4]) [some (.ref 0),some d1,some (.rol (ks.map D.int)),some (.ref 1),some (.ref 2),some (.ref 3),some (.ref 4),some (au i),some (a1x r)] [u,.lst [],.lst (pl.map au),.lst rs,.lst (ts.map D.int)]=.ok (.rol (r.map λx=>au ((pl[x.toNat]?).getD 0))) [u,.lst [],.lst (pl.map au),.lst rs,.lst (ts.map D.int)]:=by
   refine a0z (uq D.int (λx=>au ((pl[x.toNat]?).getD 0)) r (ag9 (bc rfl) rfl) (dz ?_) λx hx=>?_) (bz λx _=>bw _) cl
   .have:=hr.1
    lia
   .obtain⟨j,rfl,y,yn,e⟩:=at' x hx;rw[a3e];refine(n8 (bc rfl) (bc rfl) (a6a (xs:=pl.map au) rfl (y:=au y) (by rw[List.getElem?_map,e];rfl))).trans ?_
    simp[e]
  unfold ju;have ip:∀(h:Hd),h[2]? = some (.lst (pl.map au))->gIx (.ref 2) (au i) h=.ok (au q) h:=λh hh=>a6a hh (by rw[List.getElem?_map,hq];rfl)
  refine Eq.trans (xg (ave (xx cz rfl) (bc rfl) (n8 (bc rfl) (bc rfl) (ip _ rfl)) (avf (xs:=rs) rfl (by lia)))) ?_
  rw[List.map_set];refine Eq.trans (ave (n8 (bc rfl) (bc rfl) (avh (by rw[List.getElem?_map,hk];rfl))) (bc rfl) (n8 (bc rfl) (bc rfl) (ip _ rfl)) (avf (xs:=ts.map D.int) rfl (by rw[List.length_map];lia))) ?_
  simp only[List.set_cons_succ,List.set_cons_zero,a3y,List.map_map];rfl
theorem a8w{N s n:Nat}{rows:List (List Int)}{ks:List Int}(P:Hand o N)(hN:N<=999990000)(n1:1<=n)(n32:n<=32)(s6:s<=6)(lr:rows.length=n)(qr:∀r∈rows,a0p s n r)(lk:ks.length=n)(k0:ks[0]? = some (-1))(kk:∀k∈ks,KOk k) :
  ∃(G:List (List Nat)) (ts:List Int) (o':O),G.length=n/\(∀r∈G,apt s n r)/\ts.length=n/\ts[0]? = some (-1)/\(∀k∈ts,KOk k)/\Dr iu 3 [.rol (rows.map a1x),.rol (ks.map D.int)] o (.tup [.tup (G.map a3y),.tup (ts.map D.int)]) o'/\Hand o' (N+32)/\∃pl:List Nat,List.Perm pl (List.range n)/\pl[0]? = some 0/\∀(j q:Nat) (row:List Int),pl[j]? = some q->rows[j]? = some row->G[q]? = some (row.map λx=>(pl[x.toNat]?).getD 0):=by
 obtain⟨pl,u,e1,pm,p0,Pu⟩:=agf (d1:=.rol (rows.map a1x)) (d2:=.rol (ks.map D.int)) (t5:=none) (t6:=none) (t7:=none) (t8:=none) P hN n1 n32;have pln:pl.length=n:=by rw[pm.length_eq,List.length_range]
 have pnd:pl.Nodup:=pm.nodup_iff.mpr List.nodup_range;have lo:=kj (g:=a2a 2 (g8 (kN 7) (g8 (kN 8) a2j))) (b:=ju aa) (λp:Nat×D=>D.tup [.int (p.1:Nat),p.2])
  (λpre τ h=>∃(rs:List D) (ts:List Int) (t7 t8:Option D),τ=[some (.ref 0),some (.rol (rows.map a1x)),some (.rol (ks.map D.int)),some (.ref 1),some (.ref 2),some (.ref 3),some (.ref 4),t7,t8]/\h=[u,.lst [],.lst (pl.map au),.lst rs,.lst (ts.map D.int)]/\rs.length=n/\ts.length=n/\(∀x∈rs,clo 0 x)/\(∀j q,j<pre.length->pl[j]? = some q->∃r':List Nat,(∀row:List Int,rows[j]? = some row->r'=row.map λx=>(pl[x.toNat]?).getD 0)/\apt s n r'/\rs[q]? = some (a3y r'))/\(∀k∈ts,KOk k)/\(0<pre.length->ts[0]? = some (-1)))
  ((List.range (rows.map a1x).length).zip (rows.map a1x)) [some (.ref 0),some (.rol (rows.map a1x)),some (.rol (ks.map D.int)),some (.ref 1),some (.ref 2),some (.ref 3),some (.ref 4),none,none] [u,.lst [],.lst (pl.map au),.lst (rows.map λ_=>.tup []),.lst ((rows.map λ_=>(-1:Int)).map D.int)] ?_
  ⟨_,_,none,none,rfl,rfl,by simpa using lr,by simpa using lr,λx hx=>by
   obtain⟨_,_,rfl⟩:=List.mem_map.mp hx;exact j7 m9,λj q hj=>by simp at hj,λk hk=>by
   obtain⟨_,_,rfl⟩:=List.mem_map.mp hk
   decide,λz=>by simp at z⟩
 .obtain⟨τ',h',e2,rs,ts,t7,t8,rfl,rfl,l1,l2,c1,full,tk,t0⟩:=lo;have zl:((List.range (rows.map a1x).length).zip (rows.map a1x)).length=n:=by simp[lr]
  rw[zl]at full t0;obtain⟨G,rfl,hG⟩:=all_map a3y (apt s n) rs λx hx=>by
   obtain⟨q,hq,rfl⟩:=List.mem_iff_getElem.mp hx;have:q∈pl:=pm.mem_iff.mpr (by simp;lia)
   obtain⟨j,hj,ej⟩:=List.mem_iff_getElem.mp this;obtain⟨r',_,a,b⟩:=full j q (by lia) (by rw[List.getElem?_eq_getElem hj,ej])
   rw[List.getElem?_eq_getElem hq]at b;exact⟨r',a,Option.some.inj b⟩
  refine⟨G,ts,u,by simpa using l1,hG,l2,t0 (by lia),tk,?_,Pu,pl,pm,p0,λj q row hq hr=>?_⟩
  rotate_left
  .have jn:j<n:=by have:=(List.getElem?_eq_some_iff.mp hr).1;lia
   obtain⟨r',e,_,b⟩:=full j q jn hq;rw[List.getElem?_map]at b;obtain⟨g,hg,eg⟩:=Option.map_eq_some_iff.mp b;rw[hg,<-e row hr,ak7 eg]
  have cd:clo 0 (.tup [.tup (G.map a3y),.tup (ts.map D.int)]):=j7 (dm (j7 (uc.mpr c1)) (dm (j7 (bz λx _=>bw x)) m9));refine Dr.of rfl (by
   intro x hx;simp only[List.mem_cons,List.not_mem_nil,or_false]at hx
   rcases hx with rfl|rfl
   .exact mj (bz λx _=>mj (bz λy _=>bw y))
   .exact mj (bz λy _=>bw y)) P.clo (r:=.ok (.tup [.tup (G.map a3y),.tup (ts.map D.int)]) [u,.lst [],.lst (pl.map au),.lst (G.map a3y),.lst (ts.map D.int)]) ?_ (jb (a4n (by lia) cd) (by intro x hx;rw[show List.take 1 [u,O.lst [],.lst (pl.map au),.lst (G.map a3y),.lst (ts.map D.int)]=[u] from rfl,List.mem_singleton]at hx;subst hx;exact qu (by lia) Pu.clo)) cd Pu.clo
  unfold iu;rw[fu];show toR (p8 aa [some (.ref 0),some (.rol (rows.map a1x)),some (.rol (ks.map D.int)),none,none,none,none,none,none] [o])=_;unfold p8;have r1:a8j [.int 1,.int ((rows.map a1x).length:Nat)] [o]=.ok (.ref 1) [o,.lst (((List.range (n-1)).map (1+·)).map au)]:=by
   rw[List.length_map,lr];unfold a8j;dsimp only;rw[if_pos ⟨⟨ak1 (by lia) (by lia),ak1 (by lia) (by lia)⟩,dz (by lia)⟩,show((n:Int)-1).toNat=n-1 by lia]
   simp only[rng,List.map_map];rfl
  refine ets (sr ckk (xx (bc rfl) a1j) r1) ?_;refine etr (jl (d:=.ref 2) (h1:=[o,.lst (((List.range (n-1)).map (1+·)).map au),.lst ([0].map au)]) rfl) ?_;refine etr (xg e1) ?_;have zr:(rows.length:Nat)<=LINE:=dz (by lia)
  refine ets (uq a1x (λ_=>.tup []) rows (ag9 (bc rfl) rfl) zr λx _=>rfl) ?_;refine ets (uq a1x (λ_=>.int (-1)) rows (ag9 (bc rfl) rfl) zr λx _=>rfl) ?_;have en:∀(τ:Sd) (h:Hd),τ[1]? = some (some (.rol (rows.map a1x)))->a3m (sV 1) τ h=.ok ⟨((List.range (rows.map a1x).length).zip (rows.map a1x)).map λp=>.tup [.int (p.1:Nat),p.2],λ_=>True⟩ h:=λτ h ht=>by
   unfold a3m;rw[bc ht,az];rfl
  refine etr (a3f (en _ _ rfl)) ?_;rw[show((rows.map λ_=>(-1:Int)).map D.int)=rows.map λ_=>.int (-1) from by rw[List.map_map];rfl]at e2
  refine Eq.trans (congrArg (λz=>toR (thn z _)) e2) ?_;rw[ut];refine etr (vq (sr (xx (bc rfl) (aga rfl)) (xx (bc rfl) (aga rfl)) a8v)) ?_;rfl
 .rintro pre x post τ h all ⟨rs,ts,t7,t8,rfl,rfl,l1,l2,c1,full,tk,t0⟩
  obtain⟨hi,hx⟩:=aps all;obtain⟨i,d⟩:=x;simp only at hi hx;subst hi;rw[List.getElem?_map]at hx;obtain⟨r,hr,rfl⟩:=Option.map_eq_some_iff.mp hx;have hlt:pre.length<n:=by have:=(List.getElem?_eq_some_iff.mp hr).1;lia
  have hq:pl[pre.length]? = some pl[pre.length]:=List.getElem?_eq_getElem (by lia)
  have hk:ks[pre.length]? = some ks[pre.length]:=List.getElem?_eq_getElem (by lia)
  generalize pl[pre.length]=q at hq
  generalize ks[pre.length]=k at hk
  have qn:q<n:=by simpa using pm.mem_iff.mp (List.mem_of_getElem? hq)
  obtain⟨r',er',hr',e3⟩:=agg (d1:=.rol (rows.map a1x)) Pu n32 s6 pm hq hk (qr r (List.mem_of_getElem? hr)) l1 l2 c1;have kq:=kk k (List.mem_of_getElem? hk);refine⟨_,_,rfl,_,_,e3,_,_,_,_,rfl,rfl,by simpa using l1,by simpa using l2,λy hy=>?_,λj q' hj hq'=>?_,λy hy=>?_,λ_=>?_⟩
  .rcases List.mem_or_eq_of_mem_set hy with h|rfl
   .exact c1 y h
   .exact j7 (vy _)
  .by_cases eq:q'=q
   .subst eq;refine⟨r',λrow hrow=>?_,hr',by rw[List.getElem?_set_self (by lia)]⟩
    have:j=pre.length:=by
     have h1:=List.getElem?_eq_some_iff.mp hq;have h2:=List.getElem?_eq_some_iff.mp hq';obtain⟨a1,b1⟩:=h1;obtain⟨a2,b2⟩:=h2;exact(List.getElem_inj pnd).mp (b2.trans b1.symm)
    rw[this,hr]at hrow;cases hrow
    exact er'
   .rw[List.length_append,List.length_singleton]at hj
    by_cases ej:j=pre.length
    .subst ej;rw[hq]at hq';exact(eq (Option.some.inj hq').symm).elim
    .rw[List.getElem?_set_ne (Ne.symm eq)];exact full j q' (by lia) hq'
  .rcases List.mem_or_eq_of_mem_set hy with h|rfl
   .exact tk y h
   .exact kq
  .by_cases z:pre.length=0
   .rw[z]at hq hk;rw[p0]at hq;rw[k0]at hk;cases hq
    cases hk
    rw[List.getElem?_set_self (by lia)]
   .have:q≠0:=λe=>by
     subst e;have h1:=List.getElem?_eq_some_iff.mp hq;have h0:=List.getElem?_eq_some_iff.mp p0;obtain⟨a1,b1⟩:=h1;obtain⟨a0,b0⟩:=h0;exact z ((List.getElem_inj pnd).mp (b1.trans b0.symm))
    rw[List.getElem?_set_ne this];exact t0 (by lia)
structure Table where
 tg:List Nat
 go:List (List Nat)
 ks:List Int
noncomputable def Table.d(T:Table):D:=.tup [.str (S T.tg),.tup (T.go.map a3y),.tup (T.ks.map D.int)]
structure Table.Ok (T:Table):Prop where
 tong:Tongue T.tg
 n1:1<=T.go.length
 n32:T.go.length<=32
 row:∀r∈T.go,apt T.tg.length T.go.length r
 kl:T.ks.length=T.go.length
 k0:T.ks[0]? = some (-1)
 kk:∀k∈T.ks,KOk k
theorem Table.clo{T:Table}:clo 0 T.d:=j7 (dm (ud _) (dm (j7 (bz λx _=>j7 (vy _))) (dm (j7 (bz λx _=>bw x)) m9)))
end HND
namespace PN
open L2 MI AT HND
end PN
namespace PAP
open L2 MI AT HND
theorem avi(e:f τ h=.ok d h1)(e2:k τ h1=.ok ds h2):aj f k τ h=.ok (d::ds) h2:=by
 unfold aj;rw[e,az,e2,az]
theorem aof(e:k τ h=.ok ds h1)(e2:G ds h1=.ok v h2):sA G k τ h=.ok v h2:=by
 unfold sA;rw[e,az,e2]
end PAP
def cns:=@PAP.avi
namespace SRC
open L2 MI AT HND
theorem avj(c:x<=y):gLe (.int x) (.int y) h=.ok (.bl true) h:=by
 show R.ok (D.bl (decide (x<=y))) h=_;rw[decide_eq_true c]
theorem avk(c:¬ x<=y):gLe (.int x) (.int y) h=.ok (.bl false) h:=by
 show R.ok (D.bl (decide (x<=y))) h=_;rw[decide_eq_false c]
end SRC
namespace BF
noncomputable def walk(step:Nat->Nat->Nat)(r:Nat):List Nat->Nat
 |[]=>r
 |c::p=>step (walk step r p) c
theorem a7i:∀(n:Nat) (l:List Nat),l.Nodup->(∀x∈l,x<n)->l.length<=n
 |0,l,_,h=>by
  cases l with
  |nil=>exact Nat.le_refl _
  |cons x l=>exact absurd (h x List.mem_cons_self) (by lia)
 |n+1,l,nd,h=>by
  have:=a7i n (l.erase n) (nd.erase n) λx hx=>by
   have h1:=h x (List.mem_of_mem_erase hx);have h2:x≠n:=λz=>by subst z;exact(List.Nodup.not_mem_erase nd) hx
   lia
  have:=List.length_erase (a:=n) (l:=l)
  split at this<;>lia
end BF
namespace SRC
open L2 MI AT HND
theorem azy{ck:Hd->Prop}{f:D->Hd->R D}{α:Type}(g F:α->D){h:Hd}(c:ck h):∀{xs:List α},(∀x∈xs,f (g x) h=.ok (F x) h)->mapR ck f (xs.map g) h=.ok (xs.map F) h
 |[],_=>by rw[List.map_nil,mapR,if_pos c];rfl
 |x::xs,st=>by
  rw[List.map_cons,mapR,if_pos c,st x List.mem_cons_self];show(mapR _ f (xs.map g) h).bind _=_;rw[azy g F c λy hy=>st y (List.mem_cons_of_mem _ hy)];rfl
theorem ayz{fi:SI}{t:D->Option Sd}{fe:SE}{ix:List Nat}{τ:Sd}{h:Hd}{α:Type}{ck:Hd->Prop}(g F:α->D)(xs:List α)(c:ck h)(e:fi τ h=.ok ⟨xs.map g,ck⟩ h)(z:xs.length<=LINE)
  (st:∀x∈xs,a6y t fe (frs' ix τ) (g x) h=.ok (F x) h):wj fi t fe ix τ h=.ok (.ref h.length) (h++[.lst (xs.map F)]):=by
 unfold wj;rw[e,az];dsimp only;rw[if_pos (by rw[List.length_map];exact z),azy g F c st]
 rfl
noncomputable abbrev cst(l:List Nat):List Int:=l.map λx:Nat=>(x:Int)
theorem agh(l:List Nat):l.map au=(cst l).map D.int:=by unfold cst;rw[List.map_map];rfl
noncomputable def pos(m:List Nat)(x:Nat):Nat:=(ixI (x:Int) (cst m)).getD 0
end SRC
namespace K22
open L2 MI AT HND
section
variable(T:Table)
noncomputable def stp(r c:Nat):Nat:=(((T.go[r]?).getD [])[c]?).getD 0
noncomputable def knd(r:Nat):Bool:=decide ((T.ks[r]?).getD (-1) ≠ -1)
noncomputable def tgA(c:Nat):Nat:=(T.tg[c]?).getD 0
def hit(r0:Nat)(w:List Nat):Prop:=w≠[]/\knd T (BF.walk (stp T) r0 w)=true
end
section
variable{T:Table}(h:T.Ok)
theorem vz(h:T.Ok)(r c:Nat):stp T r c<T.go.length:=by
 have h1:=h.n1;unfold stp
 cases e:T.go[r]? with
 |none=>simp;lia
 |some row =>
  simp only[Option.getD_some]
  cases e2:row[c]? with
  |none=>simp;lia
  |some x=>simp only[Option.getD_some];exact(h.row row (List.mem_of_getElem? e)).2 x (List.mem_of_getElem? e2)
theorem agi(h:T.Ok)(hr:r<T.go.length):∃row:List Nat,T.go[r]? = some row/\row.length=T.tg.length/\(∀x∈row,x<T.go.length)/\∀c,c<T.tg.length->row[c]? = some (stp T r c):=by
 refine⟨T.go[r],List.getElem?_eq_getElem hr,(h.row _ (List.getElem_mem hr)).1,(h.row _ (List.getElem_mem hr)).2,λc hc=>?_⟩;have l:=(h.row _ (List.getElem_mem hr)).1;unfold stp;rw[List.getElem?_eq_getElem hr,Option.getD_some,List.getElem?_eq_getElem (by lia),Option.getD_some]
theorem az0(h:T.Ok)(hr:r<T.go.length):∃k:Int,T.ks[r]? = some k /\ -1<=k/\knd T r=decide (k ≠ -1):=by
 have l:r<T.ks.length:=by rw[h.kl];exact hr
 refine⟨T.ks[r],List.getElem?_eq_getElem l,(h.kk _ (List.getElem_mem l)).1,?_⟩;unfold knd;rw[List.getElem?_eq_getElem l,Option.getD_some]
theorem a8x(hc:c<T.tg.length):T.tg[c]? = some (tgA T c):=by
 unfold tgA;rw[List.getElem?_eq_getElem hc,Option.getD_some]
end
theorem agj{T:Table}{row:List Nat}(l:row.length=T.tg.length)(at':∀c,c<T.tg.length->row[c]? = some (stp T r c)) :
  ((zq (S T.tg)).zip (row.map au)).map (λp=>D.tup [p.1,p.2])=(List.range T.tg.length).map λc=>.tup [.str (S [tgA T c]),au (stp T r c)]:=by
 refine List.ext_getElem? λi=>?_;unfold zq;rw[a7b]
 by_cases hi:i<T.tg.length
 .have hx:=at' i hi;have ht:=a8x (T:=T) hi;rw[List.getElem?_map,List.getElem?_map,List.getElem?_range hi,List.getElem?_zip_eq_some (z:=(D.str (S [tgA T i]),au (stp T r i))).mpr ⟨by rw[List.getElem?_map,ht];rfl,by rw[List.getElem?_map,hx];rfl⟩]
  rfl
 .rw[List.getElem?_eq_none (by simp;lia),List.getElem?_eq_none (by simp;lia)]
section
variable{T:Table}
theorem az1(h:T.Ok)(hr:r<T.go.length):T.go[r]? = some ((List.range T.tg.length).map (stp T r)):=by
 obtain⟨row,e,l,_,at'⟩:=agi h hr;rw[e]
 congr 1
 refine List.ext_getElem? λi=>?_
 by_cases hi:i<T.tg.length
 .rw[at' i hi,List.getElem?_map,List.getElem?_range hi];rfl
 .rw[List.getElem?_eq_none (by lia),List.getElem?_eq_none (by simp;lia)]
noncomputable def kI(T:Table)(r:Nat):Int:=(T.ks[r]?).getD (-1)
end
end K22
namespace K23
open L2 MI AT HND K22
section
variable{T:Table}
def Pln:D->Prop
 |.non=>True|.bl _=>True|.int _=>True|.str x=>x.cps.toList.length<=1000|.tup xs=>clos 0 xs|.rol xs=>clos 0 xs|.rod _ xs=>clos 0 xs|_=>False
theorem Pln.clo(p:Pln d):clo 0 d:=by
 cases d<;>first|(simp only[Pln]at p;done)|(simp only[Pln]at p;simpa[MI.clo] using p)|simp[MI.clo]
noncomputable def psn(T:Table)(c:Nat):Nat:=(an6 (S T.tg) c).toNat
noncomputable def ldw(T:Table)(r:Nat):List Nat->Nat
 |[]=>r
 |c::l=>ldw T (stp T r (psn T c)) l
theorem alp(h:T.Ok):∀(l:List Nat) {r:Nat},r<T.go.length->ldw T r l<T.go.length
 |[],_,hr=>hr
 |c::l,r,_=>alp h l (vz h r _)
theorem a7j(c:Nat):∀(l:List Nat) (r:Nat),ldw T r (l++[c])=stp T (ldw T r l) (psn T c)
 |[],_=>rfl
 |d::l,r=>a7j c l _
theorem apu(hd:clo 0 d)(he:clo 0 e):∀x∈[T.d,d,e],clo 0 x:=by
 intro x hx
 simp only[List.mem_cons,List.not_mem_nil,or_false]at hx
 rcases hx with rfl|rfl|rfl
 .exact Table.clo
 .exact hd
 .exact he
theorem avl(bs:List Bool)(h:Hd):aqk [.rol (bs.map D.bl)] h=.ok (.bl (bs.all id)) h:=by
 unfold aqk;simp only[ain]
theorem avm(e:f τ h=.ok (.bl false) h1):a1c f k τ h=.ok (.bl false) h1:=by unfold a1c;rw[e,az]
end
end K23
namespace K21
open L2 MI AT HND K22 K23
section
variable{T:Table}
theorem apl(ha:MI.clo 0 a)(hb:MI.clo 0 b):∀x∈[a,b],MI.clo 0 x:=by
 intro x hx
 simp only[List.mem_cons,List.not_mem_nil,or_false]at hx
 rcases hx with rfl|rfl
 .exact ha
 .exact hb
theorem ab9(ha:MI.clo 0 a)(hb:MI.clo 0 b)(hc:MI.clo 0 c):∀x∈[a,b,c],MI.clo 0 x:=by
 intro x hx
 simp only[List.mem_cons,List.not_mem_nil,or_false]at hx
 rcases hx with rfl|rfl|rfl
 .exact ha
 .exact hb
 .exact hc
theorem aba(h:T.Ok)(hr:r<T.go.length)(hh:Hd):gIx (.tup (T.ks.map D.int)) (au r) hh=.ok (.int (kI T r)) hh:=by
 obtain⟨k,e,_⟩:=az0 h hr;exact a6b (by rw[List.getElem?_map,e];simp[kI,e])
end
end K21
namespace PN
open L2 MI AT HND K22 K23 K21
end PN
namespace PN
open L2 MI AT HND K22 K23 K21
section
variable{g:Hd}{n tu:Nat}{tg:List Nat}{rows:List (List Nat)}{ks:List Int}
def Rch(rows:List (List Nat))(r:Nat):Prop:=∀Q:Nat->Prop,Q 0->(∀r,Q r->∀x∈(rows[r]?).getD [],Q x)->Q r
theorem Rch.zero(rows:List (List Nat)):Rch rows 0:=λ_ q _=>q
theorem Rch.step(h:Rch rows r)(hx:x∈(rows[r]?).getD []):Rch rows x:=λQ q0 qs=>qs r (h Q q0 qs) x hx
end
end PN
namespace HND
theorem ak8{n:Nat}{rows:List (List Int)}{G:List (List Nat)}{pl:List Nat}(lr:rows.length=n)(pm:List.Perm pl (List.range n))(p0:pl[0]? = some 0)
  (mp:∀(j q:Nat) (row:List Int),pl[j]? = some q->rows[j]? = some row->G[q]? = some (row.map λx=>(pl[x.toNat]?).getD 0))
  (tr:∀r,1<=r->r<n->∃(p:Nat) (row:List Int),p<r/\rows[p]? = some row/\((r:Nat):Int)∈row):∀r,r<n->PN.Rch G r:=by
 have pln:pl.length=n:=by rw[pm.length_eq,List.length_range]
 have go:∀j q:Nat,pl[j]? = some q->PN.Rch G q:=by
  intro j
  induction j using Nat.strongRecOn with
  |_ j ih =>
   intro q hq
   by_cases j0:j=0
   .subst j0;rw[p0]at hq;cases hq;exact PN.Rch.zero G
   have jn:j<n:=by have:=(List.getElem?_eq_some_iff.mp hq).1;lia
   obtain⟨p,row,pj,hr,hm⟩:=tr j (by lia) jn
   have hp:pl[p]? = some pl[p]:=List.getElem?_eq_getElem (by lia)
   have hG:=mp p _ row hp hr;refine(ih p pj _ hp).step (x:=q) ?_;rw[hG];exact List.mem_map.mpr ⟨_,hm,by rw[Int.toNat_natCast,hq];rfl⟩
 intro r hr
 have:r∈pl:=pm.mem_iff.mpr (List.mem_range.mpr hr)
 obtain⟨j,hj,e⟩:=List.getElem_of_mem this;exact go j r (by rw[List.getElem?_eq_getElem hj,e])
end HND
namespace K40
open L2 MI AT HND K22 K23 K21
section
variable{τ:Sd}{h h1 h2:Hd}{c1 c2:ST}{f g k:SE}{p q:SS}
theorem agk(e1:f τ h=.ok (.bl a) h)(e2:a=true->k τ h=.ok (.bl b) h):a1c f k τ h=.ok (.bl (a && b)) h:=by
 cases a with
 |true=>rw[ag8 e1 (e2 rfl)];rfl
 |false=>unfold a1c;rw[e1,az];rfl
theorem ax0(x y:Int):hEq (.int x) (.int y) h=.ok (.bl (decide (x=y))) h:=by
 by_cases c:x=y
 .rw[a8u c,decide_eq_true c]
 .rw[a5o c,decide_eq_false c]
theorem alq(x y:Int):hNe (.int x) (.int y) h=.ok (.bl (decide (x≠y))) h:=by
 by_cases c:x=y
 .rw[ayx c,decide_eq_false (by simpa using c)]
 .rw[ayy c,decide_eq_true c]
theorem ax1(e1:f τ h=.ok (.int x) h)(e2:g τ h=.ok (.int y) h)(e3:k τ h=.ok (.int z) h):sCh gLe gLe f g k τ h=.ok (.bl (decide (x<=y/\y<=z))) h:=by
 unfold sCh;rw[e1,az,e2,az]
 by_cases c:x<=y
 .rw[SRC.avj c,az];dsimp only;rw[e3,az]
  by_cases c2:y<=z
  .rw[SRC.avj c2,decide_eq_true ⟨c,c2⟩]
  .rw[SRC.avk c2,decide_eq_false λw=>c2 w.2]
 .rw[SRC.avk c,az];rw[decide_eq_false λw=>c w.1]
end
theorem ak9(ha:MI.clo 0 a)(hb:MI.clo 0 b)(hc:MI.clo 0 c)(hd:MI.clo 0 d):∀x∈[a,b,c,d],MI.clo 0 x:=by
 intro x hx
 simp only[List.mem_cons,List.not_mem_nil,or_false]at hx
 rcases hx with rfl|rfl|rfl|rfl
 .exact ha
 .exact hb
 .exact hc
 .exact hd
section
variable{T:Table}
noncomputable def rw'(T:Table)(r:Nat):List Nat:=(T.go[r]?).getD []
theorem a0q(h:T.Ok)(hr:r<T.go.length):T.go[r]? = some (rw' T r)/\(rw' T r).length<=6/\∀x∈rw' T r,x<T.go.length:=by
 have e:T.go[r]? = some (rw' T r):=by unfold rw';rw[List.getElem?_eq_getElem hr];rfl
 obtain⟨a,b⟩:=h.row _ (List.mem_of_getElem? e);exact⟨e,by have:=h.tong.hi;lia,b⟩
theorem xj(h:T.Ok)(hr:r<T.go.length)(hh:Hd):gIx (.tup (T.go.map a3y)) (au r) hh=.ok (a3y (rw' T r)) hh:=a6b (by rw[List.getElem?_map,(a0q h hr).1];rfl)
theorem go1(h:Hd):gIx T.d (.int 1) h=.ok (.tup (T.go.map a3y)) h:=a6b (j:=1) rfl
end
section
variable{T:Table}
noncomputable def isI:D->Bool|.int _=>true|_=>false
noncomputable def isB:D->Bool|.bl _=>true|_=>false
theorem aka(p:Pln d):a0e [d,.ty "int"] h=.ok (.bl (isI d || isB d)) h:=by
 cases d<;>first|(simp only[Pln]at p;done)|simp[a0e,al6,tyD,ahj,isI,isB]
theorem abb(p:Pln d):a0e [d,.ty "bool"] h=.ok (.bl (isB d)) h:=by
 cases d<;>first|(simp only[Pln]at p;done)|simp[a0e,al6,tyD,ahj,isB]
structure Th (d:D):Prop where
 p:Pln d
 el:∀xs,d=.tup xs->xs.length<=1000/\∀x∈xs,Pln x
theorem az2(ha:MI.clo 0 a):∀x∈[a],MI.clo 0 x:=by intro x hx;rw[List.mem_singleton]at hx;subst hx;exact ha
end
theorem a5g(e:fi τ h=.ok ⟨xs,ck⟩ h1):a2x fi G b τ h=forL ck G b xs τ h1:=by
 unfold a2x;rw[e];rfl
end K40
namespace RCH
open L2 MI AT HND K22 K23 K21 K40
noncomputable def cnt(n:Nat)(p:Nat->Bool):Nat:=((List.range n).filter p).length
theorem a4x:∀{l:List Nat},(∀x∈l,p x=true->q x=true)->(∃x∈l,q x=true/\p x=false)->(l.filter p).length<(l.filter q).length
 |[],_,⟨_,h,_⟩=>by simp at h
 |x::l,h,⟨y,hy,q1,p1⟩=>by
  have le:(l.filter p).length<=(l.filter q).length:=by
   clear hy q1 p1 y
   induction l with
   |nil=>simp
   |cons z l ih =>
    have ih:=ih λy hy=>h y (by simp only[List.mem_cons]at hy ⊢;rcases hy with e|e<;>simp[e])
    have hz:=h z (by simp)
    rw[List.filter_cons,List.filter_cons]
    cases e1:p z with
    |true=>rw[hz e1];simp only[if_true,List.length_cons];lia
    |false=>cases q z<;>simp<;>lia
  rw[List.filter_cons,List.filter_cons]
  rcases List.mem_cons.mp hy with rfl|hy
  .rw[q1,p1];simp only[if_true,Bool.false_eq_true,if_false,List.length_cons];lia
  .have lt:=a4x (l:=l) (λz hz=>h z (List.mem_cons_of_mem _ hz)) ⟨y,hy,q1,p1⟩
   cases e1:p x with
   |true=>rw[h x List.mem_cons_self e1];simp only[if_true,List.length_cons];lia
   |false=>cases q x<;>simp<;>lia
theorem aG{n:Nat}{P:Nat->Nat->Bool}(anti:∀k x,x<n->P (k+1) x=true->P k x=true)(det:∀k,(∀x,x<n->P k x=P (k+1) x)->∀x,x<n->P (k+1) x=P (k+2) x):∀k x,x<n->P n x=true->P (n+k) x=true:=by
 have key:∀k,cnt n (P k)<=n-k\/∃j,j<=k/\∀x,x<n->P j x=P (j+1) x:=by
  intro k
  induction k with
  |zero=>exact .inl (by unfold cnt;exact Nat.le_trans (List.length_filter_le _ _) (by simp))
  |succ k ih =>
   rcases ih with ih|⟨j,hj,e⟩
   .by_cases c:∃x∈List.range n,P k x=true/\P (k+1) x=false
    .have:=a4x (p:=P (k+1)) (q:=P k) (l:=List.range n) (λx hx=>anti k x (List.mem_range.mp hx)) c
     exact .inl (by unfold cnt at ih ⊢;lia)
    .refine .inr ⟨k,Nat.le_succ _,λx hx=>?_⟩
     cases e1:P k x with
     |true =>
      cases e2:P (k+1) x with
      |true=>rfl
      |false=>exact(c ⟨x,List.mem_range.mpr hx,e1,e2⟩).elim
     |false =>
      cases e2:P (k+1) x with
      |true=>rw[anti k x hx e2]at e1;cases e1
      |false=>rfl
   .exact .inr ⟨j,Nat.le_succ_of_le hj,e⟩
 have stay:∀j,(∀x,x<n->P j x=P (j+1) x)->∀k x,x<n->P (j+k) x=P j x:=by
  intro j e k
  have step:∀k x,x<n->P (j+k) x=P (j+k+1) x:=by
   intro k
   induction k with
   |zero=>exact e
   |succ k ih=>exact det _ ih
  induction k with
  |zero=>intro x _;rfl
  |succ k ih=>intro x hx;rw[<-ih x hx];exact(step k x hx).symm
 intro k x hx h
 rcases key n with z|⟨j,hj,e⟩
 .have:x∈(List.range n).filter (P n):=List.mem_filter.mpr ⟨List.mem_range.mpr hx,h⟩
  have:=List.length_pos_of_mem this
  unfold cnt at z;lia
 .have e1:=stay j e (n-j) x hx;have e2:=stay j e (n-j+k) x hx;rw[show j+(n-j)=n by lia]at e1
  rw[show j+(n-j+k)=n+k by lia]at e2
  rw[e2,<-e1];exact h
section
variable{T:Table}
theorem a6d(h:T.Ok)(hr:r<T.go.length):rw' T r=(List.range T.tg.length).map (stp T r):=by unfold rw';rw[az1 h hr];rfl
theorem xm(h:T.Ok)(hr:r<T.go.length):x∈rw' T r↔∃c,c<T.tg.length/\stp T r c=x:=by
 rw[a6d h hr,List.mem_map];exact⟨λ⟨c,hc,e⟩=>⟨c,List.mem_range.mp hc,e⟩,λ⟨c,hc,e⟩=>⟨c,List.mem_range.mpr hc,e⟩⟩
end
end RCH
namespace K30
open L2 MI AT HND
open SRC (avj avk)
theorem avn{ck:Hd->Prop}{f:D->Hd->R (Option D)}{α:Type}(g:α->D)(F:α->Option D){h:Hd}(c:ck h):∀{xs:List α},(∀x∈xs,f (g x) h=.ok (F x) h)->ahi ck f (xs.map g) h=.ok (xs.filterMap F) h
 |[],_=>by rw[List.map_nil,ahi,if_pos c];rfl
 |x::xs,st=>by
  rw[List.map_cons,ahi,if_pos c,st x List.mem_cons_self];show(ahi _ f (xs.map g) h).bind _=_;rw[avn g F c λy hy=>st y (List.mem_cons_of_mem _ hy)];show R.ok ((F x).toList++_) h=_;rw[List.filterMap_cons]
  cases F x<;>rfl
theorem abd{fi:SI}{t:D->Option Sd}{c:ST}{fe:SE}{ix:List Nat}{τ:Sd}{h:Hd}{α:Type}{ck:Hd->Prop}(g:α->D)(F:α->Option D)(xs:List α)(hc:ck h)(e:fi τ h=.ok ⟨xs.map g,ck⟩ h)(z:xs.length<=LINE)
  (st:∀x∈xs,a8d t c fe (frs' ix τ) (g x) h=.ok (F x) h):zu fi t c fe ix τ h=.ok (.ref h.length) (h++[.lst (xs.filterMap F)]):=by
 unfold zu;rw[e,az];dsimp only;rw[if_pos (by rw[List.length_map];exact z),avn g F hc st]
 rfl
noncomputable abbrev avo(r:List Nat):O:=.lst (r.map au)
noncomputable def refs(k:Nat):List D:=(List.range k).map λj=>.ref (3+j)
noncomputable def HS(u:O)(bs:List Nat)(k:Nat)(rs:List (List Nat)):Hd:=u::.lst (bs.map au)::.lst (refs k)::rs.map avo
variable{u:O}{bs:List Nat}{rs:List (List Nat)}{cur:List Nat}{k n s:Nat}
theorem alr:(HS u bs k rs).length=3+rs.length:=by simp[HS];lia
theorem aqr:(HS u bs k rs)[1]? = some (.lst (bs.map au)):=rfl
theorem azz:(HS u bs k rs)[2]? = some (.lst (refs k)):=rfl
theorem agl:(HS u bs k (rs++[cur]))[3+rs.length]? = some (avo cur):=by
 unfold HS;rw[show 3+rs.length=rs.length+1+1+1 by lia]
 simp
theorem als:isL (.ref (3+rs.length)) (HS u bs k (rs++[cur]))=true:=by unfold isL;simp only[agl]
theorem alu(c:List Nat):(HS u bs k (rs++[cur])).set (3+rs.length) (avo c)=HS u bs k (rs++[c]):=by
 unfold HS;rw[show 3+rs.length=rs.length+1+1+1 by lia]
 simp only[List.set_cons_succ,List.map_append,List.map_cons,List.map_nil];rw[show rs.length=(rs.map avo).length by rw[List.length_map],List.set_append_right _ _ (Nat.le_refl _),Nat.sub_self]
 rfl
theorem alv(cu:a00 0 u)(kl:k<=rs.length):∀o∈HS u bs k rs,a00 (HS u bs k rs).length o:=by
 intro o ho
 rw[alr];unfold HS at ho;simp only[List.mem_cons]at ho
 rcases ho with rfl|rfl|rfl|ho
 .exact qu (Nat.zero_le _) cu
 .exact vy _
 .exact uc.mpr λx hx=>by
   obtain⟨j,hj,rfl⟩:=List.mem_map.mp hx;have:=List.mem_range.mp hj;show 3+j<3+rs.length;lia
 .obtain⟨r,_,rfl⟩:=List.mem_map.mp ho;exact vy _
noncomputable def dist(n:Nat)(bs:List Nat):Nat:=RCH.cnt n λx=>decide (x∈bs)
structure Spl (n s:Nat) (bs:List Nat) (rs:List (List Nat)) (cur:List Nat):Prop where
 lt:∀b∈bs,b<n
 z:bs[0]? = some 0
 cn:bs.length+(n-dist n bs)<=32
 rw:∀r∈rs,apt s bs.length r
 cu:∀x∈cur,x<bs.length
 tr:∀r,1<=r->r<bs.length->∃p row,p<r/\(rs++[cur])[p]? = some row/\r∈row
theorem aa5:dist n bs<=n:=by
 unfold dist RCH.cnt;have:=List.length_filter_le (λx=>decide (x∈bs)) (List.range n)
 rwa[List.length_range]at this
theorem acx{t:Nat}(ht:t<n)(nt:t∉bs):dist n bs<dist n (bs++[t]):=by
 unfold dist RCH.cnt;refine RCH.a4x (λx _ h=>decide_eq_true (List.mem_append_left _ (of_decide_eq_true h))) ⟨t,List.mem_range.mpr ht,decide_eq_true (by simp),decide_eq_false nt⟩
theorem abe{t:Nat}(ht:t<n)(h:t∈bs):0<dist n bs:=by
 unfold dist RCH.cnt;exact List.length_pos_of_mem (List.mem_filter.mpr ⟨List.mem_range.mpr ht,decide_eq_true h⟩)
theorem Spl.len(P:Spl n s bs rs cur):bs.length<=32:=by have:=P.cn;lia
theorem Spl.new(P:Spl n s bs rs cur){t:Nat}(ht:t<n)(kb:rs.length<bs.length)(c:t∉bs\/bs.length+n<=32):Spl n s (bs++[t]) rs (cur++[bs.length]):=by
 have cn:=P.cn;have dl:=aa5 (n:=n) (bs:=bs);refine⟨λb hb=>?_,?_,?_,λr hr=>⟨(P.rw r hr).1,λx hx=>?_⟩,λx hx=>?_,λr r1 r2=>?_⟩
 .rcases List.mem_append.mp hb with h|h
  .exact P.lt b h
  .rw[List.mem_singleton.mp h];exact ht
 .rw[List.getElem?_append_left (by lia)];exact P.z
 .rw[List.length_append,List.length_singleton]
  by_cases nt:t∉bs
  .have:=acx ht nt;have:=aa5 (n:=n) (bs:=bs++[t]);lia
  .have:=c.resolve_left nt
   have h0:=abe (bs:=bs++[t]) ht (by simp)
   lia
 .have:=(P.rw r hr).2 x hx;rw[List.length_append];lia
 .rw[List.length_append,List.length_singleton]
  rcases List.mem_append.mp hx with h|h
  .have:=P.cu x h;lia
  .rw[List.mem_singleton.mp h];lia
 .rw[List.length_append,List.length_singleton]at r2
  by_cases e:r=bs.length
  .exact⟨rs.length,cur++[bs.length],by lia,by simp,by rw[e];simp⟩
  .obtain⟨p,row,a,b,c⟩:=P.tr r r1 (by lia)
   by_cases ep:p<rs.length
   .exact⟨p,row,a,by rw[List.getElem?_append_left ep]at b ⊢;exact b,c⟩
   .have:p=rs.length:=by
     have:=(List.getElem?_eq_some_iff.mp b).1
     rw[List.length_append,List.length_singleton]at this;lia
    subst this;rw[List.getElem?_append_right (Nat.le_refl _),Nat.sub_self]at b;cases b
    exact⟨rs.length,cur++[bs.length],a,by simp,List.mem_append_left _ c⟩
theorem Spl.old(P:Spl n s bs rs cur){x:Nat}(hx:x<bs.length):Spl n s bs rs (cur++[x]):=by
 refine⟨P.lt,P.z,P.cn,P.rw,λy hy=>?_,λr r1 r2=>?_⟩
 .rcases List.mem_append.mp hy with h|h
  .exact P.cu y h
  .rw[List.mem_singleton.mp h];exact hx
 .obtain⟨p,row,a,b,c⟩:=P.tr r r1 r2
  by_cases ep:p<rs.length
  .exact⟨p,row,a,by rw[List.getElem?_append_left ep]at b ⊢;exact b,c⟩
  .have:p=rs.length:=by
    have:=(List.getElem?_eq_some_iff.mp b).1
    rw[List.length_append,List.length_singleton]at this;lia
   subst this;rw[List.getElem?_append_right (Nat.le_refl _),Nat.sub_self]at b;cases b
   exact⟨rs.length,cur++[x],a,by simp,List.mem_append_left _ c⟩
theorem Spl.done(P:Spl n s bs rs cur)(lc:cur.length=s):Spl n s bs (rs++[cur]) []:=by
 refine⟨P.lt,P.z,P.cn,λr hr=>?_,by simp,λr r1 r2=>?_⟩
 .rcases List.mem_append.mp hr with h|h
  .exact P.rw r h
  .rw[List.mem_singleton.mp h];exact⟨lc,P.cu⟩
 .obtain⟨p,row,a,b,c⟩:=P.tr r r1 r2;exact⟨p,row,a,by rw[List.getElem?_append_left (List.getElem?_eq_some_iff.mp b).1];exact b,c⟩
noncomputable abbrev τP(rows:List (List Int))(ks:List Int)(a b c:Option D):Sd:=[some (.ref 0),some (.rol (rows.map a1x)),some (.rol (ks.map D.int)),some (.ref 1),some (.ref 2),a,b,c]
noncomputable def smI(bs:List Nat)(t:Nat):List Nat:=(((List.range bs.length).zip bs).filter λp=>decide (p.2=t)).map (·.1)
theorem az3{t x:Nat}(h:x∈smI bs t):x<bs.length:=by
 obtain⟨p,hp,rfl⟩:=List.mem_map.mp h;exact List.mem_range.mp (List.of_mem_zip (List.mem_filter.mp hp).1).1
theorem apv{t:Nat}(h:smI bs t=[]):t∉bs:=λm=>by
 obtain⟨j,hj,e⟩:=List.getElem_of_mem m;have:(j,bs[j])∈(List.range bs.length).zip bs:=List.mem_iff_getElem.mpr ⟨j,by simpa using hj,by simp⟩
 have:j∈smI bs t:=List.mem_map.mpr ⟨_,List.mem_filter.mpr ⟨this,decide_eq_true e⟩,rfl⟩
 rw[h]at this;cases this
theorem avp{t:Nat}:(smI bs t).length<=bs.length:=by
 unfold smI;rw[List.length_map];have:=List.length_filter_le (λp:Nat×Nat=>decide (p.2=t)) ((List.range bs.length).zip bs);rw[List.length_zip,List.length_range,Nat.min_self]at this;exact this
theorem acy{N:Nat}{rows:List (List Int)}{ks:List Int}{c7:Option D}{t:Nat}(P:Hand u N)(hN:N<=999999000)(S':Spl n s bs rs cur)(lr:rows.length=n)(cl:cur.length<=6)(kb:rs.length<bs.length)(ht:t<n) :
  ∃(u':O) (bs':List Nat) (x:Nat) (c7':Option D),m7 aa (τP rows ks (some (.ref (3+rs.length))) (some (au t)) c7) (HS u bs rs.length (rs++[cur]))=.nx (τP rows ks (some (.ref (3+rs.length))) (some (au t)) c7') (HS u' bs' rs.length (rs++[cur++[x]]))/\Hand u' (N+2)/\Spl n s bs' rs (cur++[x])/\bs.length<=bs'.length:=by
 have bl:=S'.len;have sl:=avp (bs:=bs) (t:=t);obtain⟨y,o1,e1,y0,y1,P1⟩:=m8 (m:=4) P (by lia) (by lia) (by lia)
 have c1:gq false 2 aa [.ref 0,.int 4] (HS u bs rs.length (rs++[cur]))=.ok (.int y) (HS o1 bs rs.length (rs++[cur])):=e1 0 _ rfl;have av7:∀{u:O} {τ:Sd},τ[3]? = some (some (.ref 1))->sA oh (aj (sV 3) bj) τ (HS u bs rs.length (rs++[cur]))=.ok (au bs.length) (HS u bs rs.length (rs++[cur])):=λh3=>by
  refine xx (bc h3) ?_;rw[xf];show R.ok (D.int ((bs.map au).length:Nat)) _=_;rw[List.length_map]
 have cz:sZ (zu (a3m (sV 3)) (tN 2) (ph aa) (a02 aa) [6]) (τP rows ks (some (.ref (3+rs.length))) (some (au t)) c7) (HS u bs rs.length (rs++[cur]))=.ok (.rol ((smI bs t).map au)) (HS u bs rs.length (rs++[cur])):=by
  have ef:(((List.range bs.length).zip bs).filterMap λp:Nat×Nat=>if p.2=t then some (au p.1) else none)=(smI bs t).map au:=by
   unfold smI;rw[List.map_map]
   induction (List.range bs.length).zip bs with
   |nil=>rfl
   |cons p l ih =>
    rw[List.filterMap_cons,List.filter_cons]
    by_cases e:p.2=t
    .simp only[e,decide_true,if_true,List.map_cons,ih];rfl
    .simp only[e,decide_false,if_false,ih,Bool.false_eq_true]
  rw[<-ef];refine a0z (abd (ck:=λh=>h[1]? = some (.lst (bs.map au))) (λp:Nat×Nat=>D.tup [.int (p.1:Nat),au p.2]) (λp:Nat×Nat=>if p.2=t then some (au p.1) else none) ((List.range bs.length).zip bs) aqr ?_ (dz (by rw[List.length_zip,List.length_range,Nat.min_self];lia)) λp _=>?_) (by rw[ef];exact vy _) (alv P.clo (by simp))
  .unfold a3m;rw[bc rfl,az];unfold a9u srcOf;simp only[aqr]
   congr 2
   rw[List.length_map,List.zip_map_right,List.map_map];rfl
  .have q:∀h:Hd,hEq (au p.2) (au t) h=.ok (.bl (decide (p.2=t))) h:=λh=>by
    by_cases e:p.2=t
    .rw[decide_eq_true e,e];exact a8u rfl
    .rw[decide_eq_false e];exact a5o (by lia)
   unfold a8d;rw[show tN 2 (D.tup [.int (p.1:Nat),au p.2])=some [some (.int (p.1:Nat)),some (au p.2)] from rfl]
   show((ph aa) [some (.int (p.1:Nat)),some (au p.2),some (au t)] _).bind _=_;rw[show(ph aa) [some (.int (p.1:Nat)),some (au p.2),some (au t)] (HS u bs rs.length (rs++[cur]))=.ok (decide (p.2=t)) _ from t2s (bc rfl) (bc rfl) (q _),az]
   by_cases e:p.2=t
   .simp only[e,decide_true,if_true];rfl
   .simp only[e,decide_false,if_false,Bool.false_eq_true]
 have len7:∀{u:O} {τ:Sd},τ[7]? = some (some (.rol ((smI bs t).map au)))->sA oh (aj (sV 7) bj) τ (HS u bs rs.length (rs++[cur]))=.ok (au (smI bs t).length) (HS u bs rs.length (rs++[cur])):=λh7=>xx (bc h7) (by rw[a1j,List.length_map])
 have mk:∀{o:O},(t∉bs\/bs.length+n<=32)->Hand o (N+2)->∃(u':O) (bs':List Nat) (x:Nat) (c7':Option D),dw (vg (sML a3k (sV 5) (aj (sA oh (aj (sV 3) bj)) bj))) (vg (sML a3k (sV 3) (aj (sV 6) bj))) (τP rows ks (some (.ref (3+rs.length))) (some (au t)) (some (.rol ((smI bs t).map au)))) (HS o bs rs.length (rs++[cur]))=.nx (τP rows ks (some (.ref (3+rs.length))) (some (au t)) c7') (HS u' bs' rs.length (rs++[cur++[x]]))/\Hand u' (N+2)/\Spl n s bs' rs (cur++[x])/\bs.length<=bs'.length:=λ{o} c Po=>by
  refine⟨o,bs++[t],bs.length,some (.rol ((smI bs t).map au)),?_,Po,S'.new ht kb c,by simp⟩
  refine Eq.trans (xg (a1m (bc rfl) als (arg1 (av7 rfl)) (a2u agl (by rw[List.length_map];exact zf (by lia))))) ?_
  rw[show(cur.map au++[au bs.length])=(cur++[bs.length]).map au by simp,alu]
  refine(a1m (bc rfl) rfl (arg1 (bc rfl)) (a2u aqr (by rw[List.length_map];exact zf (by lia)))).trans ?_
  rw[show(bs.map au++[au t])=(bs++[t]).map au by simp]
  rfl
 unfold m7
 by_cases e0:smI bs t=[]
 .obtain⟨u',bs',x,c',e,r⟩:=mk (o:=u) (.inl (apv e0)) (P.up (by lia))
  refine⟨u',bs',x,c',Eq.trans (jl cz) (Eq.trans (ifT (orT (t2s (len7 rfl) ckk (a8u (by rw[e0];rfl))))) e),r⟩
 have l0:(smI bs t).length≠0:=λz=>e0 (List.length_eq_zero_iff.mp z);have le1:∀{u:O} {τ:Sd},τ[3]? = some (some (.ref 1))->τ[1]? = some (some (.rol (rows.map a1x)))->s2 j9 (sA oh (aj (sV 3) bj)) (sA oh (aj (sV 1) bj)) τ (HS u bs rs.length (rs++[cur]))=.ok (au (bs.length+n)) (HS u bs rs.length (rs++[cur])):=λh3 h1=>(n8 (av7 h3) (xx (bc h1) (a1j.trans (by rw[List.length_map,lr]))) a1k).trans rfl
 have ol:∀{o:O} {M:Nat},Hand o M->M+1<=N+2->∃(u':O) (bs':List Nat) (x:Nat) (c7':Option D),vg (sML a3k (sV 5) (aj (s2 gIx (sV 7) (sA (gq false 2 aa) (aj (sV 0) (aj (sA oh (aj (sV 7) bj)) bj)))) bj)) (τP rows ks (some (.ref (3+rs.length))) (some (au t)) (some (.rol ((smI bs t).map au)))) (HS o bs rs.length (rs++[cur]))=.nx (τP rows ks (some (.ref (3+rs.length))) (some (au t)) c7') (HS u' bs' rs.length (rs++[cur++[x]]))/\Hand u' (N+2)/\Spl n s bs' rs (cur++[x])/\bs.length<=bs'.length:=λ{o M} Po hM=>by
  obtain⟨z,o2,e2,z0,z1,P2⟩:=m8 (m:=((smI bs t).length:Nat)) Po (by lia) (by lia) (by lia)
  obtain⟨z,rfl⟩:=Int.eq_ofNat_of_zero_le z0;have hz:z<(smI bs t).length:=by lia
  have c2:gq false 2 aa [.ref 0,au (smI bs t).length] (HS o bs rs.length (rs++[cur]))=.ok (au z) (HS o2 bs rs.length (rs++[cur])):=e2 0 _ rfl;refine⟨o2,bs,(smI bs t)[z],some (.rol ((smI bs t).map au)),?_,P2.up hM,S'.old (az3 (List.getElem_mem hz)),Nat.le_refl _⟩;refine(a1m (bc rfl) als (arg1 (n8 (bc rfl) (sr (bc rfl) (len7 rfl) c2) (avh (by rw[List.getElem?_map,List.getElem?_eq_getElem hz];rfl)))) (a2u agl (by rw[List.length_map];exact zf (by lia)))).trans ?_
  rw[show(cur.map au++[au (smI bs t)[z]])=(cur++[(smI bs t)[z]]).map au by simp,alu]
 have n0:∀{u:O} {τ:Sd},τ[7]? = some (some (.rol ((smI bs t).map au)))->sT (s2 hEq (sA oh (aj (sV 7) bj)) (sI 0)) τ (HS u bs rs.length (rs++[cur]))=.ok false (HS u bs rs.length (rs++[cur])):=λh7=>t2s (len7 h7) ckk (a5o (by lia))
 by_cases e32:bs.length+n<=32
 .have t32:∀{τ:Sd},τ[3]? = some (some (.ref 1))->τ[1]? = some (some (.rol (rows.map a1x)))->sT (s2 gLe (s2 j9 (sA oh (aj (sV 3) bj)) (sA oh (aj (sV 1) bj))) (sI 32)) τ (HS u bs rs.length (rs++[cur]))=.ok true (HS u bs rs.length (rs++[cur])):=λh3 h1=>t2s (le1 h3 h1) ckk (avj (by lia))
  by_cases hy:y=0
  .obtain⟨u',bs',x,c',e,r⟩:=mk (o:=o1) (.inr e32) (P1.up (by lia))
   exact⟨u',bs',x,c',Eq.trans (jl cz) (Eq.trans (ifT (orF (n0 rfl) (aqq (t32 rfl rfl) (t2s (sr (bc rfl) ckk c1) ckk (a8u hy))))) e),r⟩
  .obtain⟨u',bs',x,c',e,r⟩:=ol (o:=o1) P1 (by lia)
   exact⟨u',bs',x,c',Eq.trans (jl cz) (Eq.trans (ifF (orF (n0 rfl) (aqq (t32 rfl rfl) (t2s (sr (bc rfl) ckk c1) ckk (a5o hy))))) e),r⟩
 .obtain⟨u',bs',x,c',e,r⟩:=ol (o:=u) P (by lia)
  exact⟨u',bs',x,c',Eq.trans (jl cz) (Eq.trans (ifF (orF (n0 rfl) (awz (t2s (le1 rfl rfl) ckk (avk (by lia)))))) e),r⟩
end K30
namespace K30
open L2 MI AT HND
open SRC (avj avk cst agh)
section
variable{u:O}{bs:List Nat}{rs:List (List Nat)}{cur:List Nat}{k n s:Nat}
noncomputable def n6:SF:=ou (yx aa) 8
theorem avq:a0j 1 (HS u bs rs.length rs) 19 (.ref 2)=some (.rol (rs.map λr=>.rol (r.map au))):=by
 have one:∀(i:Nat) (r:List Nat),1<=i->(HS u bs rs.length rs)[i]? = some (avo r)->a0j 1 (HS u bs rs.length rs) 18 (.ref i)=some (.rol (r.map au)):=λi r hi e=>a78 hi e (vy _);have all:zm (a0j 1 (HS u bs rs.length rs) 18) (refs rs.length)=some (rs.map λr=>.rol (r.map au)):=by
  have go:∀(k:Nat) (xs:List (List Nat)),(∀j r,xs[j]? = some r->rs[k+j]? = some r)->zm (a0j 1 (HS u bs rs.length rs) 18) ((List.range' k xs.length).map λj=>D.ref (3+j))=some (xs.map λr=>.rol (r.map au)):=by
   intro k xs
   induction xs generalizing k with
   |nil=>intro _;rfl
   |cons r xs ih =>
    intro hk
    rw[List.length_cons,List.range'_succ,List.map_cons,List.map_cons];refine a1g (one (3+k) r (by lia) ?_) (ih (k+1) λj r' e=>?_)
    .have:=hk 0 r rfl
     unfold HS;rw[show 3+k=k+1+1+1 by lia]
     simp only[List.getElem?_cons_succ,List.getElem?_map];rw[show k+0=k by lia]at this
     rw[this];rfl
    .have:=hk (j+1) r' (by simpa using e)
     rw[show k+1+j=k+(j+1) by lia];exact this
  have:=go 0 rs (λj r e=>by simpa using e)
  rw[<-List.range_eq_range']at this;exact this
 unfold a0j;rw[if_neg (by simp only[MI.clo];lia)]
 simp only[azz,all,Option.map_some]
theorem apw{N:Nat}{rows:List (List Int)}{ks:List Int}{b c:Option D}(P:Hand u N)(hN:N<=999999000-12)(S0:Spl n s bs rs [])(lr:rows.length=n)(s6:s<=6)(kb:rs.length<bs.length){row:List Nat}(ls:row.length=s)(rn:∀x∈row,x<n) :
  ∃(u':O) (bs' cur':List Nat) (b' c':Option D),forL (λ_=>True) (kN 6) (m7 aa) (row.map au) (τP rows ks (some (.ref (3+rs.length))) b c) (HS u bs rs.length (rs++[[]]))=.nx (τP rows ks (some (.ref (3+rs.length))) b' c') (HS u' bs' rs.length (rs++[cur']))/\Hand u' (N+12)/\Spl n s bs' rs cur'/\cur'.length=s/\bs.length<=bs'.length:=by
 have lp:=kj (g:=kN 6) (b:=m7 aa) au
  (λpre τ hh=>∃(u':O) (bs' cur':List Nat) (b' c':Option D),τ=τP rows ks (some (.ref (3+rs.length))) b' c'/\hh=HS u' bs' rs.length (rs++[cur'])/\Hand u' (N+2*pre.length)/\Spl n s bs' rs cur'/\cur'.length=pre.length/\bs.length<=bs'.length) row (τP rows ks (some (.ref (3+rs.length))) b c) (HS u bs rs.length (rs++[[]])) ?_
  ⟨u,bs,[],b,c,rfl,rfl,P,S0,rfl,Nat.le_refl _⟩
 .obtain⟨τ',h',e,u',bs',cur',b',c',rfl,rfl,P',S',lc,bb⟩:=lp;exact⟨u',bs',cur',b',c',e,P'.up (by lia),S',by lia,bb⟩
 .rintro pre t post τ hh all ⟨u1,bs1,cur1,b1,c1,rfl,rfl,P1,S1,lc,bb⟩
  have tn:t<n:=rn t (by rw[all];simp)
  have pl:pre.length<s:=by rw[<-ls,all];simp
  obtain⟨u2,bs2,x,c2,e,P2,S2,b2⟩:=acy (ks:=ks) (c7:=c1) P1 (by lia) S1 lr (by lia) (by lia) tn
  exact⟨_,_,rfl,_,_,e,u2,bs2,cur1++[x],_,_,rfl,rfl,P2.up (by rw[List.length_append,List.length_singleton];lia),S2,by rw[List.length_append,List.length_append,lc];rfl,by lia⟩
def b00(m:Nat)(rs:List (List Int)):Prop:=∀r,1<=r->r<m->∃(p:Nat) (row:List Int),p<r/\rs[p]? = some row/\((r:Nat):Int)∈row
theorem akb{o:O}{N:Nat}{rows:List (List Int)}{ks:List Int}(P:Hand o N)(hN:N<=999990000)(n1:1<=n)(n32:n<=32)(s6:s<=6)(lr:rows.length=n)(qr:∀r∈rows,a0p s n r)(lk:ks.length=n)(k0:ks[0]? = some (-1))(kk:∀k∈ks,KOk k) :
  ∃(m:Nat) (rs:List (List Int)) (ts:List Int) (o':O),1<=m/\m<=32/\rs.length=m/\(∀r∈rs,a0p s m r)/\ts.length=m/\ts[0]? = some (-1)/\(∀k∈ts,KOk k)/\b00 m rs/\Dr n6 3 [.rol (rows.map a1x),.rol (ks.map D.int)] o (.tup [.rol (rs.map a1x),.rol (ts.map D.int)]) o'/\Hand o' (N+400):=by
 have S0:Spl n s [0] [] []:=⟨by simp;lia,rfl,by
  have:=abe (n:=n) (bs:=[0]) (t:=0) (by lia) (by simp)
  have:=aa5 (n:=n) (bs:=[0])
  simp only[List.length_singleton];lia,by simp,by simp,λr r1 r2=>by simp at r2;lia⟩
 have w:=acf (c:=uy aa) (f:=uz aa)
  (λm τ hh=>∃(u:O) (bs:List Nat) (rs:List (List Nat)) (a b c:Option D),τ=τP rows ks a b c/\hh=HS u bs rs.length rs/\Hand u (N+12*rs.length)/\Spl n s bs rs []/\rs.length<=bs.length/\m=33-rs.length)
  (λτ hh=>∃(u:O) (bs:List Nat) (rs:List (List Nat)) (a b c:Option D),τ=τP rows ks a b c/\hh=HS u bs rs.length rs/\Hand u (N+12*rs.length)/\Spl n s bs rs []/\rs.length=bs.length)
  (λ_ _=>False) ?_ 33 100000 (τP rows ks none none none) (HS o [0] 0 []) (by lia) ⟨o,[0],[],none,none,none,rfl,rfl,P,S0,by simp,rfl⟩
 .rcases w with⟨τ',h',e,u,bs,rs,a,b,c,rfl,rfl,Pu,Sp,le⟩|⟨_,_,_,z⟩
  .have bl:=Sp.len;have b1:1<=bs.length:=by have:=(List.getElem?_eq_some_iff.mp Sp.z).1;lia
   have kg:∀b∈bs,∃k,ks[b]? = some k/\KOk k:=λb hb=>by
    have:=Sp.lt b hb
    have hl:b<ks.length:=by lia
    exact⟨ks[b],List.getElem?_eq_getElem hl,kk _ (List.getElem_mem hl)⟩
   let ts:List Int:=bs.map λb=>(ks[b]?).getD 0
   have cl:∀x∈[D.rol (rows.map a1x),.rol (ks.map D.int)],MI.clo 0 x:=λx hx=>by
    simp only[List.mem_cons,List.not_mem_nil,or_false]at hx
    rcases hx with rfl|rfl
    .exact mj (bz λx _=>mj (bz λy _=>bw y))
    .exact mj (bz λy _=>bw y)
   have cr:MI.clo 0 (.tup [.rol ((rs.map cst).map a1x),.rol (ts.map D.int)]):=j7 (dm (mj (bz λx _=>mj (bz λy _=>bw y))) (dm (mj (bz λy _=>bw y)) m9));refine⟨bs.length,rs.map cst,ts,u,b1,bl,by rw[List.length_map,le],λr hr=>?_,List.length_map _,?_,λk hk=>?_,λr r1 r2=>?_,Dr.of rfl cl P.clo (r:=.ok (.tup [.ref 2,.rol (ts.map D.int)]) (HS u bs rs.length rs)) ?_ ?_ cr Pu.clo,Pu.up (by lia)⟩
   .obtain⟨r',hr',rfl⟩:=List.mem_map.mp hr;obtain⟨z1,z2⟩:=Sp.rw r' hr';refine⟨by rw[List.length_map,z1],λx hx=>?_⟩
    obtain⟨y,hy,rfl⟩:=List.mem_map.mp hx;have:=z2 y hy;lia
   .show(bs.map _)[0]? = _;rw[List.getElem?_map,Sp.z];show some ((ks[0]?).getD 0)=_;rw[k0];rfl
   .obtain⟨b,hb,rfl⟩:=List.mem_map.mp hk;obtain⟨k,e,q⟩:=kg b hb;rw[e];exact q
   .obtain⟨p,row,h1,h2,h3⟩:=Sp.tr r r1 r2;rw[List.getElem?_append_left (by lia)]at h2
    exact⟨p,cst row,h1,by rw[List.getElem?_map,h2];rfl,List.mem_map.mpr ⟨r,h3,rfl⟩⟩
   .unfold n6;rw[fu];show toR (yx aa [some (.ref 0),some (.rol (rows.map a1x)),some (.rol (ks.map D.int)),none,none,none,none,none] [o])=_;unfold yx;refine etr (jl (d:=.ref 1) (h1:=[o,.lst [.int 0]]) rfl) ?_;refine etr (jl (d:=.ref 2) (h1:=HS o [0] 0 []) rfl) ?_;refine etr (xg e) ?_;have cz:sZ (wj (sIt (sV 3)) t1 (a03 aa) [2]) (τP rows ks a b c) (HS u bs rs.length rs)=.ok (.rol (ts.map D.int)) (HS u bs rs.length rs):=by
     have em:ts.map D.int=bs.map λb=>D.int ((ks[b]?).getD 0):=List.map_map ..;rw[em];refine a0z (SRC.ayz (ck:=λh=>h[1]? = some (.lst (bs.map au))) au (λb=>D.int ((ks[b]?).getD 0)) bs aqr (ag9 (bc rfl) (by unfold ahh;simp only[aqr])) (dz (by lia)) λb hb=>?_) (bz λy _=>bw _) (alv Pu.clo (Nat.le_refl _))
     obtain⟨k,e,_⟩:=kg b hb;rw[a3e];refine(n8 (bc rfl) (bc rfl) (avh (y:=.int k) (by rw[List.getElem?_map,e];rfl))).trans ?_
     rw[e];rfl
    exact congrArg toR (vq (sr (bc rfl) cz a8v))
   .have ef:a0j 1 (HS u bs rs.length rs) FU (.tup [.ref 2,.rol (ts.map D.int)])=some (.tup [.rol ((rs.map cst).map a1x),.rol (ts.map D.int)]):=by
     have er:(rs.map cst).map a1x=rs.map λr=>D.rol (r.map au):=by
      rw[List.map_map];exact List.map_congr_left λr _=>by show D.rol ((cst r).map D.int)=_;rw[<-agh]
     rw[er];refine aj9 (k:=19) (a1g avq (a1g (a2r (mj (bz λy _=>bw y))) rfl)) ?_
     intro z
     have:=uc.mp z (.ref 2) List.mem_cons_self
     simp only[MI.clo]at this;lia
    exact a2l ef (by intro x hx;rw[show List.take 1 (HS u bs rs.length rs)=[u] from rfl,List.mem_singleton]at hx;subst hx;exact qu (by lia) Pu.clo)
  .exact z.elim
 .rintro m τ hh ⟨u,bs,rs,a,b,c,rfl,rfl,Pu,Sp,le,rfl⟩
  have bl:=Sp.len;have tc:uy aa (τP rows ks a b c) (HS u bs rs.length rs)=.ok (decide (rs.length<bs.length)) (HS u bs rs.length rs):=by
   have l4:sA oh (aj (sV 4) bj) (τP rows ks a b c) (HS u bs rs.length rs)=.ok (au rs.length) (HS u bs rs.length rs):=xx (bc rfl) (by rw[xf];show R.ok (D.int ((refs rs.length).length:Nat)) _=_;unfold refs;rw[List.length_map,List.length_range])
   have l3:sA oh (aj (sV 3) bj) (τP rows ks a b c) (HS u bs rs.length rs)=.ok (au bs.length) (HS u bs rs.length rs):=xx (bc rfl) (by rw[xf];show R.ok (D.int ((bs.map au).length:Nat)) _=_;rw[List.length_map])
   refine(t2s l4 l3 rfl).trans ?_
   congr 1
   exact decide_eq_decide.mpr (by lia)
  by_cases q:rs.length<bs.length
  .rw[decide_eq_true q]at tc;refine .inr ⟨_,tc,.inl ?_⟩;obtain⟨b0,hb0⟩:∃x,bs[rs.length]? = some x:=⟨_,List.getElem?_eq_getElem q⟩;have bn:b0<n:=Sp.lt b0 (List.mem_of_getElem? hb0);obtain⟨row,hrow⟩:∃x,rows[b0]? = some x:=⟨_,List.getElem?_eq_getElem (by lia)⟩
   obtain⟨q1,q2⟩:=qr row (List.mem_of_getElem? hrow)
   let rn:List Nat:=row.map Int.toNat
   have en:row.map D.int=rn.map au:=by
    show _=(row.map Int.toNat).map au;rw[List.map_map];exact List.map_congr_left λx hx=>by have:=(q2 x hx).1;show D.int x=D.int ((x.toNat:Nat):Int);rw[Int.toNat_of_nonneg this]
   obtain⟨u',bs',cur',b',c',e,P',S',lc,bb⟩:=apw (ks:=ks) (b:=b) (c:=c) Pu (by lia) Sp lr s6 q (row:=rn) (by show(row.map Int.toNat).length=s;rw[List.length_map,q1]) (λx hx=>by
    obtain⟨y,hy,rfl⟩:=List.mem_map.mp hx;have:=q2 y hy;lia)
   refine⟨τP rows ks (some (.ref (3+rs.length))) b' c',HS u' bs' (rs++[cur']).length (rs++[cur']),33-(rs++[cur']).length,?_,?_,u',bs',rs++[cur'],_,_,_,rfl,rfl,P'.up (by rw[List.length_append,List.length_singleton];lia),S'.done lc,by rw[List.length_append,List.length_singleton];lia,rfl⟩
   .unfold uz;have h5:iz 5 (sA MI.a2h bj) (τP rows ks a b c) (HS u bs rs.length rs)=.nx (τP rows ks (some (.ref (3+rs.length))) b c) (HS u bs rs.length (rs++[[]])):=by
     refine(awy (d:=.ref (3+rs.length)) (h1:=HS u bs rs.length (rs++[[]])) ?_).trans rfl;show R.ok (D.ref (HS u bs rs.length rs).length) (HS u bs rs.length rs++[.lst []])=_;rw[alr];unfold HS;simp
    refine Eq.trans (xg h5) ?_;have l4:sA oh (aj (sV 4) bj) (τP rows ks (some (.ref (3+rs.length))) b c) (HS u bs rs.length (rs++[[]]))=.ok (au rs.length) (HS u bs rs.length (rs++[[]])):=xx (bc rfl) (by rw[xf];show R.ok (D.int ((refs rs.length).length:Nat)) _=_;unfold refs;rw[List.length_map,List.length_range])
    have it:sIt (s2 gIx (sV 1) (s2 gIx (sV 3) (sA oh (aj (sV 4) bj)))) (τP rows ks (some (.ref (3+rs.length))) b c) (HS u bs rs.length (rs++[[]]))=.ok ⟨rn.map au,λ_=>True⟩ (HS u bs rs.length (rs++[[]])) :=
     ag9 (n8 (bc rfl) (n8 (bc rfl) l4 (a6a aqr (by rw[List.getElem?_map,hb0];rfl))) (avh (y:=.rol (rn.map au)) (by rw[List.getElem?_map,hrow];show some (D.rol (row.map D.int))=_;rw[en]))) rfl
    refine Eq.trans (a3f it) ?_;rw[e,ut];refine(a1m (bc rfl) rfl (arg1 (bc rfl)) (a2u azz (by unfold refs;rw[List.length_map,List.length_range];exact zf (by lia)))).trans ?_
    rw[show refs rs.length++[D.ref (3+rs.length)]=refs (rs++[cur']).length by
     unfold refs;rw[List.length_append,List.length_singleton,List.range_succ,List.map_append];rfl]
    rfl
   .rw[List.length_append,List.length_singleton];lia
  .rw[decide_eq_false q]at tc;exact .inl ⟨_,tc,u,bs,rs,a,b,c,rfl,rfl,Pu,Sp,by lia⟩
theorem akc{l:List Nat}{G:List (List Nat)}{ts:List Int}{pl:List Nat}{rows:List (List Int)}(Tl:Tongue l)(n1:1<=n)(n32:n<=32)(l7:G.length=n)(q7:∀r∈G,apt l.length n r)(lt:ts.length=n)(t0:ts[0]? = some (-1))(tk:∀k∈ts,KOk k)(lr:rows.length=n)(pm:List.Perm pl (List.range n))(p0:pl[0]? = some 0)
  (mp:∀(j q:Nat) (row:List Int),pl[j]? = some q->rows[j]? = some row->G[q]? = some (row.map λx=>(pl[x.toNat]?).getD 0)) (tr:b00 n rows):Table.Ok ⟨l,G,ts⟩/\∀r,r<G.length->PN.Rch G r :=
 ⟨⟨Tl,(by lia:1<=G.length),(by lia:G.length<=32),by rw[l7];exact q7,(by lia:ts.length=G.length),t0,tk⟩,λr hr=>ak8 lr pm p0 mp tr r (by lia)⟩
noncomputable def iy:SF:=ou (vm nu mz iu n6 aa jy) 7
theorem a8y{o:O}{N:Nat}(P:Hand o N)(hN:N<=999900000):∃(T:Table) (o':O),T.Ok/\(∀r,r<T.go.length->PN.Rch T.go r)/\Dr iy 1 [] o T.d o'/\Hand o' (N+4000):=by
 obtain⟨l,o1,T1,e1,P1⟩:=ag5 P (by lia)
 obtain⟨x,o2,e2,x0,x1,P2⟩:=m8 (m:=5) P1 (by lia) (by lia) (by lia)
 obtain⟨y,o3,e3,y0,y1,P3⟩:=m8 (m:=6) P2 (by lia) (by lia) (by lia)
 obtain⟨z,o4,e4,z0,z1,P4⟩:=m8 (m:=32) P3 (by lia) (by lia) (by lia)
 obtain⟨n,u,n1,n32,Pu,eu⟩:∃(n:Nat) (u:O),1<=n/\n<=32/\Hand u (N+10)/\∀g:SS,dw (iz 2 (s2 j9 (sI 1) (sA (gq false 2 aa) (aj (sV 0) (aj (sI 5) bj)))))
   (dw (sIf (sT (s2 hEq (sA (gq false 2 aa) (aj (sV 0) (aj (sI 6) bj))) (sI 0)))
    (iz 2 (s2 j9 (sI 1) (sA (gq false 2 aa) (aj (sV 0) (aj (sI 32) bj)))))
    sNx) g) [some (.ref 0),some (.str (S l)),none,none,none,none,none] [o1]=g [some (.ref 0),some (.str (S l)),some (.int (n:Nat)),none,none,none,none] [u]:=by
  have c2:gq false 2 aa [.ref 0,.int 5] [o1]=.ok (.int x) [o2]:=e2 0 _ rfl;have c3:gq false 2 aa [.ref 0,.int 6] [o2]=.ok (.int y) [o3]:=e3 0 _ rfl;have c4:gq false 2 aa [.ref 0,.int 32] [o3]=.ok (.int z) [o4]:=e4 0 _ rfl
  by_cases hy:y=0
  .refine⟨(1+z).toNat,o4,by lia,by lia,P4,λg=>?_⟩
   rw[show(((1+z).toNat:Nat):Int)=1+z by lia]
   refine Eq.trans (jl (n8 ckk (sr (bc rfl) ckk c2) a1k)) ?_;exact xg (Eq.trans (ifT (t2s (sr (bc rfl) ckk c3) ckk (a8u hy))) (awy (n8 ckk (sr (bc rfl) ckk c4) a1k)))
  .refine⟨(1+x).toNat,o3,by lia,by lia,P3.up (by lia),λg=>?_⟩
   rw[show(((1+x).toNat:Nat):Int)=1+x by lia]
   refine Eq.trans (jl (n8 ckk (sr (bc rfl) ckk c2) a1k)) ?_;exact ifN (t2s (sr (bc rfl) ckk c3) ckk (a5o hy))
 obtain⟨rows,o5,l5,q5,e5,P5⟩:=apr Pu (by lia) T1.lo T1.hi n1 n32
 obtain⟨ks,o6,l6,k0,kk,e6,P6⟩:=kinds_ok P5 (by lia) n1 n32
 obtain⟨m,rs,us,o7,m1,m32,lr,qr,lu,u0,uk,tr,e7,P7⟩:=akb P6 (by lia) n1 n32 T1.hi l5 q5 l6 k0 kk
 obtain⟨G,ts,o8,l8,q8,lt,t0,tk,e8,P8,pl,pm,p0,mp⟩:=a8w P7 (by lia) m1 m32 T1.hi lr qr lu u0 uk
 obtain⟨ok,rc⟩:=akc T1 m1 m32 l8 q8 lt t0 tk lr pm p0 mp tr;refine⟨⟨l,G,ts⟩,o8,ok,rc,?_,P8.up (by lia)⟩
 refine Dr.of rfl (by simp) P.clo (r:=.ok (Table.d ⟨l,G,ts⟩) [o8]) ?_ (jb (a4n (by lia) Table.clo) (by simpa using qu (by lia) P8.clo)) Table.clo P8.clo
 unfold iy;rw[fu];show toR (vm nu mz iu n6 aa jy [some (.ref 0),none,none,none,none,none,none] [o])=_;unfold vm;have c1:gq false 1 jy [.ref 0] [o]=.ok (.str (S l)) [o1]:=e1 0 _ rfl;refine ets (xx (bc rfl) c1) ?_;refine etr (eu _) ?_;have c5:gq false 3 nu [.ref 0,.int (l.length:Nat),.int (n:Nat)] [u]=.ok (.rol (rows.map a1x)) [o5]:=e5 0 _ rfl;have c6:gq false 2 mz [.ref 0,.int (n:Nat)] [o5]=.ok (.rol (ks.map D.int)) [o6]:=e6 0 _ rfl;have c7:gq false 3 n6 [.ref 0,.rol (rows.map a1x),.rol (ks.map D.int)] [o6]=.ok (.tup [.rol (rs.map a1x),.rol (us.map D.int)]) [o7]:=e7 0 _ rfl
 have c8:gq false 3 iu [.ref 0,.rol (rs.map a1x),.rol (us.map D.int)] [o7]=.ok (.tup [.tup (G.map a3y),.tup (ts.map D.int)]) [o8]:=e8 0 _ rfl;refine etr (xg (aa4 (acv (bc rfl) (acv (bc rfl) (xx (bc rfl) (av8 (dz (by have:=T1.hi;lia)))) (bc rfl) c5) (sr (bc rfl) (bc rfl) c6) c7) rfl)) ?_
 refine etr (xg (aa4 (acv (bc (i:=0) rfl) (bc (i:=3) rfl) (bc (i:=4) rfl) c8) rfl)) ?_;refine etr (vq (acv (bc (i:=1) rfl) (bc (i:=5) rfl) (bc (i:=6) rfl) azv)) ?_;rfl
end
end K30
namespace RCH
open L2 MI AT HND K22 K23 K21 K40
section
variable{T:Table}
end
end RCH
namespace STP
open L2 MI AT HND K23 K21 RCH
open K22
open K40
section
variable{T:Table}
theorem zg(h:T.Ok){c:Nat}(hc:c<T.tg.length):psn T (tgA T c)=c:=by
 have hm:tgA T c∈T.tg:=List.mem_of_getElem? (a8x hc);obtain⟨i,e1,e2,_⟩:=aic (T:=S T.tg) (c:=tgA T c) (by rw[a7b];exact hm)
 rw[a7b]at e2;have e3:psn T (tgA T c)=i:=by unfold psn;rw[e1];simp
 rw[e3];obtain⟨a,ea⟩:=List.getElem?_eq_some_iff.mp e2;obtain⟨b,eb⟩:=List.getElem?_eq_some_iff.mp (a8x hc);have pw:=List.pairwise_iff_getElem.mp h.tong.nd
 rcases Nat.lt_trichotomy i c with z|z|z
 .exact absurd (ea.trans eb.symm) (pw _ _ a b z)
 .exact z
 .exact absurd (eb.trans ea.symm) (pw _ _ b a z)
abbrev Ent:=Nat×List Nat
noncomputable def wtD(e:Ent):D:=.tup [au e.1,.str (S e.2)]
noncomputable def kvD(e:Ent):Key×D:=(.inl (e.1:Int),.str (S e.2))
structure Way (T:Table) (ps:Nat->Bool) (s:Nat) (e:Ent):Prop where
 to:ldw T s e.2=e.1
 sg:∀c∈e.2,c∈T.tg
 ps:∀i,i<e.2.length->ps (ldw T s (e.2.take (i+1)))=true
structure WSt (T:Table) (ps:Nat->Bool) (s:Nat) (es:List Ent):Prop where
 way:∀e∈(s,[])::es,Way T ps s e
 ne:∀e∈es,e.2≠[]
 nd:(es.map (·.1)).Nodup
 len:∀(j:Nat) (e:Ent),((s,[])::es)[j]? = some e->e.2.length<=j
variable{ps:Nat->Bool}{s:Nat}{es:List Ent}
theorem WSt.start:WSt T ps s []:=by
 refine⟨λe he=>?_,by simp,by simp,λj e he=>?_⟩
 .rw[List.mem_singleton]at he;subst he;exact⟨rfl,by simp,λi hi=>absurd hi (Nat.not_lt_zero i)⟩
 .cases j with
  |zero=>simp at he;subst he;exact Nat.le_refl _
  |succ j=>simp at he
theorem WSt.lt(h:T.Ok)(hs:s<T.go.length)(W:WSt T ps s es){e:Ent}(he:e∈(s,[])::es):e.1<T.go.length:=by rw[<-(W.way e he).to];exact alp h _ hs
theorem WSt.few(h:T.Ok)(hs:s<T.go.length)(W:WSt T ps s es):es.length<=T.go.length:=by
 have:=BF.a7i T.go.length (es.map (·.1)) W.nd λx hx=>by
  obtain⟨e,he,rfl⟩:=List.mem_map.mp hx;exact W.lt h hs (List.mem_cons_of_mem _ he)
 simpa using this
theorem WSt.add(W:WSt T ps s es){e:Ent}(we:Way T ps s e)(ne:e.2≠[])(nw:e.1∉es.map (·.1))(le:e.2.length<=es.length+1):WSt T ps s (es++[e]):=by
 refine⟨λx hx=>?_,λx hx=>?_,?_,λj x hx=>?_⟩
 .rcases List.mem_append.mp (show x∈((s,[])::es)++[e] from hx) with z|z
  .exact W.way x z
  .rw[List.mem_singleton]at z;subst z;exact we
 .rcases List.mem_append.mp hx with z|z
  .exact W.ne x z
  .rw[List.mem_singleton]at z;subst z;exact ne
 .rw[List.map_append,List.nodup_append];refine⟨W.nd,by simp,λa ha b hb=>?_⟩
  rw[List.map_singleton,List.mem_singleton]at hb;subst hb;exact λz=>nw (z ▸ ha)
 .rw[show(s,[])::(es++[e])=((s,[])::es)++[e] from rfl]at hx
  by_cases hj:j<((s,([]:List Nat))::es).length
  .rw[List.getElem?_append_left hj]at hx;exact W.len j x hx
  .rw[List.getElem?_append_right (by lia)]at hx
   rw[List.length_cons]at hx hj;have:j-(es.length+1)=0:=by
    have:=(List.getElem?_eq_some_iff.mp hx).1
    simp at this;lia
   rw[this]at hx;simp at hx;subst hx;lia
theorem agm{x:Nat}(h:x∉es.map (·.1)):a4m (es.map kvD) (.inl (x:Int))=none/\∀d,putD (es.map kvD) (.inl (x:Int)) d=es.map kvD++[(.inl (x:Int),d)]:=by
 have no:∀kv∈es.map kvD,¬ decide (kv.1=(.inl (x:Int):Key))=true:=λkv hkv=>by
  obtain⟨e,he,rfl⟩:=List.mem_map.mp hkv;rw[decide_eq_true_iff]
  intro z
  have:(e.1:Int)=(x:Int):=Sum.inl.inj z
  exact h (List.mem_map.mpr ⟨e,he,by lia⟩)
 constructor
 .unfold a4m;rw[List.find?_eq_none.mpr no];rfl
 .intro d
  unfold putD;rw[if_neg]
  intro z
  obtain⟨kv,hkv,e⟩:=List.any_eq_true.mp z;exact no kv hkv e
theorem a1n:∀{es:List Ent} {e:Ent},e∈es->(es.map (·.1)).Nodup->a4m (es.map kvD) (.inl (e.1:Int))=some (.str (S e.2))
 |a::es,e,he,nd=>by
  unfold a4m;rw[List.map_cons,List.find?_cons]
  by_cases q:a=e
  .subst q;rw[show decide ((kvD a).1=(.inl (a.1:Int):Key))=true from decide_eq_true rfl]
   rfl
  .have he':e∈es:=(List.mem_cons.mp he).resolve_left λz=>q z.symm;have na:a.1≠e.1:=λz=>(List.nodup_cons.mp nd).1 (List.mem_map.mpr ⟨e,he',z.symm⟩);rw[show decide ((kvD a).1=(.inl (e.1:Int):Key))=false from decide_eq_false λz=>na (by have:(a.1:Int)=(e.1:Int):=Sum.inl.inj z;lia)]
   exact a1n he' (List.nodup_cons.mp nd).2
theorem avr(es:List Ent):((es.map kvD).map (·.1)).zip ((es.map kvD).map (·.2))=es.map kvD:=by
 rw[List.map_map,List.map_map]
 induction es with
 |nil=>rfl
 |cons a l ih=>rw[List.map_cons,List.map_cons,List.zip_cons_cons,ih];rfl
theorem apx(hi:n<=i)(e:h[i]? = some (.dK kvs))(c:clos n (kvs.map (·.2))):a0j n h (k+2) (.ref i)=some (.rod (kvs.map (·.1)) (kvs.map (·.2))):=by
 unfold a0j;rw[if_neg (by simp only[MI.clo];lia)]
 simp only[e];rw[a4o λx hx=>a2r (uc.mp c x hx)];rfl
noncomputable abbrev wrD(es:List Ent):D:=.rod ((es.map kvD).map (·.1)) ((es.map kvD).map (·.2))
theorem alw(n:Nat)(es:List Ent):clos n ((es.map kvD).map (·.2)):=by rw[List.map_map];exact bz λe _=>ud _
theorem apy(n:Nat):MI.clo n (wrD es):=by
 have:=alw n es
 simpa[MI.clo] using this
theorem apz(he:e∈es)(nd:(es.map (·.1)).Nodup)(hh:Hd):a0y (wrD es) (au e.1) hh=.ok (.str (S e.2)) hh:=by
 have q:aj3 (wrD es) (au e.1) hh=some (some (.str (S e.2))):=by
  show some (a4m (((es.map kvD).map (·.1)).zip ((es.map kvD).map (·.2))) (.inl (e.1:Int)))=_;rw[avr,a1n he nd]
 unfold a0y;rw[q]
noncomputable abbrev hW(s:Nat)(es:List Ent):Hd:=[.dK (es.map kvD),.lst (((s,[])::es).map wtD)]
noncomputable abbrev τW(T:Table)(s:Nat)(P:D)(l:Nat)(t9 t10 t11 t12:Option D):Sd:=[some T.d,some (au s),some P,some (.str (S T.tg)),some (.tup (T.go.map a3y)),some (.tup (T.ks.map D.int)),some (.ref 0),some (.ref 1),some (au l),t9,t10,t11,t12]
noncomputable def jw:SF:=ou a0f 13
end
section
variable{T:Table}
noncomputable def jx:SF:=ou (a1h jw) 3
noncomputable def wdO(es:List Ent)(r:Nat):List Nat:=((es.find? λe=>decide (e.1=r)).map (·.2)).getD []
theorem avs{es:List Ent}(hr:r∈es.map (·.1)):(r,wdO es r)∈es:=by
 obtain⟨e,he,rfl⟩:=List.mem_map.mp hr;unfold wdO
 cases q:es.find? λx=>decide (x.1=e.1) with
 |none=>exact absurd (decide_eq_true rfl) (List.find?_eq_none.mp q e he)
 |some x =>
  have h1:=List.find?_some q;have h2:=List.mem_of_find?_eq_some q;have h3:x.1=e.1:=of_decide_eq_true h1;show(e.1,x.2)∈es;rw[<-h3];exact h2
theorem akd(z:n<=LINE):zp (.rol [.bl true]) (.int (n:Nat)) h=.ok (.ref h.length) (h++[.lst (List.replicate n (.bl true))]):=by
 unfold zp;have z':n<=16777216:=z;simp only[a0a,List.length_cons,List.length_nil,Int.toNat_natCast];rw[if_pos ⟨⟨by lia,by lia⟩,by show _<=16777216;lia⟩]
 congr 3
 simp
end
section
variable{T:Table}
noncomputable abbrev zpD(T:Table)(r c:Nat):D:=.tup [.str (S [tgA T c]),au (stp T r c)]
theorem zj(h:T.Ok){r:Nat}(hr:r<T.go.length){f g:SE}{τ:Sd}{hh:Hd}(e1:f τ hh=.ok (.str (S T.tg)) hh)(e2:g τ hh=.ok (a3y (rw' T r)) hh):a9r f g τ hh=.ok ⟨(List.range T.tg.length).map (zpD T r),λ_=>True⟩ hh:=by
 obtain⟨row,er,lr,lx,at'⟩:=agi h hr;have e3:rw' T r=row:=by unfold rw';rw[er];rfl
 unfold a9r;rw[e1,az,e2,az,e3,<-agj lr at'];unfold ala;simp only[srcOf,and_self]
end
end STP
namespace PRS
open L2 MI AT HND K22 K23
open STP (zj zpD)
section
noncomputable def prs(n:Nat):List (Nat×Nat):=(List.range n).flatMap λa=>(List.range (n-(a+1))).map λj=>(a,a+1+j)
theorem aq0:∀n,n<=32->(prs n).length=n*(n-1) / 2:=by decide +kernel
theorem a0r{n:Nat}(hn:n<=32):(prs n).length<=496:=by
 have:∀n,n<=32->(prs n).length<=496:=by decide +kernel
 exact this n hn
theorem qx{n a b:Nat}:(a,b)∈prs n↔a<b/\b<n:=by
 unfold prs;simp only[List.mem_flatMap,List.mem_map,List.mem_range,Prod.mk.injEq]
 constructor
 .rintro⟨x,hx,j,hj,rfl,rfl⟩;lia
 .rintro⟨h1,h2⟩;exact⟨a,by lia,b-(a+1),by lia,rfl,by lia⟩
theorem a4y(n:Nat):(prs n).Nodup:=by
 unfold prs;refine List.pairwise_flatMap.mpr ⟨λa _=>?_,?_⟩
 .exact List.Pairwise.map _ (λx y h e=>h (by have:=congrArg Prod.snd e;simp only at this;lia)) List.nodup_range
 .refine List.Pairwise.imp ?_ (List.nodup_range (n:=n))
  intro x y h p hp q hq e
  obtain⟨j,_,rfl⟩:=List.mem_map.mp hp;obtain⟨i,_,rfl⟩:=List.mem_map.mp hq;exact h (by have:=congrArg Prod.fst e;simpa using this)
theorem a1u{α:Type}[BEq α][LawfulBEq α]:∀{l t:List α},l.Nodup->(∀x∈l,x∈t)->l.length<=t.length
 |[],_,_,_=>Nat.zero_le _
 |a::l,t,nd,h=>by
  obtain⟨na,nl⟩:=List.nodup_cons.mp nd;have ha:=h a List.mem_cons_self;have:=a1u (t:=t.erase a) nl λx hx=>(List.mem_erase_of_ne (λe:x=a=>na (e ▸ hx))).mpr (h x (List.mem_cons_of_mem _ hx));rw[List.length_erase_of_mem ha]at this;have:=List.length_pos_of_mem ha;rw[List.length_cons];lia
noncomputable abbrev prD(p:Nat×Nat):D:=.tup [au p.1,au p.2]
noncomputable abbrev kk(p:Nat×Nat):List Key:=[.inl (p.1:Int),.inl (p.2:Int)]
theorem alx{p q:Nat×Nat}(h:kk p=kk q):p=q:=by
 simp only[kk,List.cons.injEq,Sum.inl.injEq]at h;exact Prod.ext (by lia) (by lia)
theorem agn(p:Nat×Nat):aj2 (prD p)=some (kk p):=rfl
section
variable{α:Type}(f:α->D)
abbrev Es(α:Type):=List ((Nat×Nat)×α)
noncomputable def kvP(e:(Nat×Nat)×α):List Key×D:=(kk e.1,f e.2)
noncomputable def fnd(es:Es α)(p:Nat×Nat):Option α:=(es.find? λe=>decide (e.1=p)).map (·.2)
theorem avt(es:Es α)(p:Nat×Nat):a4m (es.map (kvP f)) (kk p)=(fnd es p).map f:=by
 unfold a4m fnd
 induction es with
 |nil=>rfl
 |cons e l ih =>
  rw[List.map_cons,List.find?_cons,List.find?_cons]
  by_cases h:e.1=p
  .rw[show decide ((kvP f e).1=kk p)=true from decide_eq_true (by rw[<-h];rfl),decide_eq_true h];rfl
  .rw[show decide ((kvP f e).1=kk p)=false from decide_eq_false λz=>h (alx z),decide_eq_false h];exact ih
theorem yp{es:Es α}{p:Nat×Nat}:fnd es p=none↔p∉es.map (·.1):=by
 unfold fnd;rw[Option.map_eq_none_iff,List.find?_eq_none]
 constructor
 .intro h m
  obtain⟨e,he,rfl⟩:=List.mem_map.mp m;exact h e he (decide_eq_true rfl)
 .intro h e he z
  exact h (List.mem_map.mpr ⟨e,he,of_decide_eq_true z⟩)
theorem a1v{es:Es α}(nd:(es.map (·.1)).Nodup){p:Nat×Nat}{v:α}:fnd es p=some v↔(p,v)∈es:=by
 induction es with
 |nil=>simp[fnd]
 |cons e l ih =>
  obtain⟨n1,n2⟩:=List.nodup_cons.mp nd;unfold fnd;rw[List.find?_cons]
  by_cases h:e.1=p
  .rw[decide_eq_true h];show some e.2=some v↔_
   constructor
   .intro z;cases z;rw[<-h];exact List.mem_cons_self
   .intro z
    rcases List.mem_cons.mp z with z|z
    .rw[<-z]
    .exact absurd (List.mem_map.mpr ⟨_,z,h.symm⟩) n1
  .rw[decide_eq_false h];refine(ih n2).trans ⟨List.mem_cons_of_mem _,λz=>?_⟩
   rcases List.mem_cons.mp z with z|z
   .exact absurd (by rw[<-z]) h
   .exact z
theorem avu{es:Es α}{p:Nat×Nat}(v:α)(h:fnd es p=none):putD (es.map (kvP f)) (kk p) (f v)=(es++[(p,v)]).map (kvP f):=by
 have:((es.map (kvP f)).any λkv=>decide (kv.1=kk p))=false:=by
  rw[List.any_eq_false]
  intro kv hk z
  obtain⟨e,he,rfl⟩:=List.mem_map.mp hk;exact yp.mp h (List.mem_map.mpr ⟨e,he,alx (of_decide_eq_true z)⟩)
 unfold putD;rw[this,if_neg (by simp),List.map_append]
 rfl
theorem az4(es:Es α):((es.map (kvP f)).map (·.1)).zip ((es.map (kvP f)).map (·.2))=es.map (kvP f):=by
 rw[List.map_map,List.map_map]
 induction es with
 |nil=>rfl
 |cons a l ih=>rw[List.map_cons,List.map_cons,List.zip_cons_cons,ih];rfl
noncomputable abbrev tbD(es:Es α):D:=.rdT ((es.map (kvP f)).map (·.1)) ((es.map (kvP f)).map (·.2))
theorem a4z(es:Es α)(p:Nat×Nat)(h:Hd):aj3 (tbD f es) (prD p) h=some ((fnd es p).map f):=by
 show(aj2 (prD p)).map _=_;rw[agn,Option.map_some,az4,avt]
theorem a5a{h:Hd}{i:Nat}{es:Es α}(e:h[i]? = some (.dT (es.map (kvP f))))(p:Nat×Nat):aj3 (.ref i) (prD p) h=some ((fnd es p).map f):=by
 unfold aj3;simp only[e];show(aj2 (prD p)).map _=_;rw[agn,Option.map_some,avt]
theorem a7k{h:Hd}{i:Nat}{es:Es α}(e:h[i]? = some (.dT (es.map (kvP f)))){p:Nat×Nat}{v:α}(nw:fnd es p=none)(l:es.length<LINE):af8 (.ref i) (prD p) (f v) h=some (h.set i (.dT ((es++[(p,v)]).map (kvP f)))):=by
 unfold af8;simp only[e,agn,avu f v nw,List.length_map];rw[if_pos l]
theorem ago{h:Hd}{n i k:Nat}{kvs:List (List Key×D)}(hi:n<=i)(e:h[i]? = some (.dT kvs))(c:clos n (kvs.map (·.2))):a0j n h (k+2) (.ref i)=some (.rdT (kvs.map (·.1)) (kvs.map (·.2))):=by
 unfold a0j;rw[if_neg (by simp only[MI.clo];lia)]
 simp only[e];rw[a4o λx hx=>a2r (uc.mp c x hx)];rfl
end
variable{T:Table}
noncomputable def Bq(T:Table):Nat->Nat->Nat->Bool
 |0,a,b=>decide (kI T a≠kI T b)
 |k+1,a,b=>Bq T k a b || (List.range T.tg.length).any λc=>Bq T k (stp T a c) (stp T b c)
theorem a5b:∀{k a b:Nat},Bq T k a b=Bq T k b a
 |0,a,b=>by unfold Bq;exact decide_eq_decide.mpr ⟨Ne.symm,Ne.symm⟩
 |k+1,a,b=>by
  unfold Bq;rw[a5b (k:=k) (a:=a)]
  congr 2
  funext c
  exact a5b
theorem a5c:∀{k a:Nat},Bq T k a a=false
 |0,a=>by unfold Bq;exact decide_eq_false λh=>h rfl
 |k+1,a=>by
  unfold Bq;rw[a5c,Bool.false_or,List.any_eq_false]
  intro c _
  rw[a5c];simp
theorem aq1{k a b:Nat}(h:Bq T k a b=true):Bq T (k+1) a b=true:=by unfold Bq;rw[h];rfl
theorem a5d{a b:Nat}:∀{j k:Nat},j<=k->Bq T j a b=true->Bq T k a b=true
 |j,0,hj,h=>by rw[show j=0 by lia]at h;exact h
 |j,k+1,hj,h=>by
  by_cases e:j=k+1
  .rw[<-e];exact h
  .exact aq1 (a5d (by lia) h)
def Lv(T:Table)(k a b:Nat):Prop:=Bq T k a b=true/\∀j,j<k->Bq T j a b=false
theorem abf{k j a b:Nat}(h:Lv T k a b)(g:Lv T j a b):k=j:=by
 rcases Nat.lt_trichotomy k j with q|q|q
 .have:=g.2 k q;rw[h.1]at this;cases this
 .exact q
 .have:=h.2 j q;rw[g.1]at this;cases this
theorem abg{k a b:Nat}:Lv T k a b↔Lv T k b a:=by
 unfold Lv;rw[a5b]
 constructor<;>exact λ⟨x,y⟩=>⟨x,λj hj=>by rw[a5b];exact y j hj⟩
theorem aq2{k a b:Nat}(h:Bq T k a b=true):∃j,j<=k/\Lv T j a b:=by
 induction k with
 |zero=>exact⟨0,Nat.le_refl _,h,λj hj=>by lia⟩
 |succ k ih =>
  cases q:Bq T k a b with
  |true=>obtain⟨j,hj,l⟩:=ih q;exact⟨j,by lia,l⟩
  |false =>
   refine⟨k+1,Nat.le_refl _,h,λj hj=>?_⟩
   cases z:Bq T j a b with
   |false=>rfl
   |true=>rw[a5d (by lia) z]at q;cases q
theorem aq3{k a b:Nat}(h:Lv T k a b):a≠b:=λe=>by
 have:=h.1
 rw[e,a5c]at this;cases this
theorem aa6{k a b:Nat}(h:Lv T (k+1) a b):∃c,c<T.tg.length/\Lv T k (stp T a c) (stp T b c):=by
 have h1:=h.1;unfold Bq at h1;rw[h.2 k (by lia),Bool.false_or]at h1
 obtain⟨c,hc,e⟩:=List.any_eq_true.mp h1;refine⟨c,List.mem_range.mp hc,e,λj hj=>?_⟩
 cases z:Bq T j (stp T a c) (stp T b c) with
 |false=>rfl
 |true =>
  have:=h.2 (j+1) (by lia)
  unfold Bq at this;rw[Bool.or_eq_false_iff]at this;have:=List.any_eq_false.mp this.2 c hc;rw[z]at this;exact absurd rfl this
theorem agp{n k:Nat}(hs:∀a c,a<n->c<T.tg.length->stp T a c<n)(st:∀a b,a<n->b<n->Bq T (k+1) a b=true->Bq T k a b=true):∀i a b,a<n->b<n->Bq T (k+i) a b=true->Bq T k a b=true:=by
 intro i
 induction i with
 |zero=>intro a b _ _ h;exact h
 |succ i ih =>
  intro a b ha hb h
  rw[show k+(i+1)=(k+i)+1 by lia]at h
  unfold Bq at h
  rcases Bool.or_eq_true_iff.mp h with h|h
  .exact ih a b ha hb h
  .obtain⟨c,hc,e⟩:=List.any_eq_true.mp h;have hc':=List.mem_range.mp hc;have:=ih _ _ (hs a c ha hc') (hs b c hb hc') e;refine st a b ha hb ?_;unfold Bq;rw[Bool.or_eq_true];exact .inr (List.any_eq_true.mpr ⟨c,hc,this⟩)
end
end PRS
namespace K30
open L2 MI AT HND K22 K23 PRS
open STP (Ent kvD a1n agm zj zpD zg)
open K40 (rw' a0q xj go1)
open RCH (xm)
section
variable{T:Table}
theorem aly{c:ST}{fe:SE}{x:D}{rd:Sd}{h:Hd}{α:Type}(g F:α->D):∀(ys:List α) (zs:List D),zs.length+ys.length<=1000000->(∀y∈ys,c (some x::some (g y)::rd) h=.ok true h/\fe (some x::some (g y)::rd) h=.ok (F y) h)->afi (λ_=>True) c fe x rd (ys.map g) zs h=.ok (zs++ys.map F) h
 |[],zs,_,_=>by rw[List.map_nil,afi,if_pos True.intro,List.map_nil,List.append_nil]
 |y::ys,zs,hz,st=>by
  obtain⟨e1,e2⟩:=st y (by simp)
  rw[List.length_cons]at hz;rw[List.map_cons,afi,if_pos True.intro,e1,az,if_pos rfl,e2,az,if_pos (dz (by lia)),aly g F ys (zs++[F y]) (by rw[List.length_append];show zs.length+1+ys.length<=_;lia) λy hy=>st y (by simp[hy])]
  rw[List.append_assoc];rfl
theorem alz{fj:SI}{rd:Sd}{h:Hd}{ys:Nat->List Nat}:∀(xs:List Nat) (zs:List D),(∀x∈xs,(ys x).length<=100/\fj (some (au x)::none::rd) h=.ok ⟨(ys x).map au,λ_=>True⟩ h)->zs.length+xs.length*100<=1000000->a4q (λ_=>True) fj ali (sA vf (aj (sV 0) (aj (sV 1) bj))) rd (xs.map au) zs h=.ok (zs++(xs.flatMap λx=>(ys x).map λy=>(x,y)).map prD) h
 |[],zs,_,_=>by rw[List.map_nil,a4q,if_pos True.intro];show _=R.ok (zs++[]) h;rw[List.append_nil]
 |x::xs,zs,e,hz=>by
  rw[List.length_cons,Nat.succ_mul]at hz;obtain⟨el,ex⟩:=e x List.mem_cons_self;rw[List.map_cons,a4q,if_pos True.intro,ex,az];have:=aly (c:=ali) (fe:=sA vf (aj (sV 0) (aj (sV 1) bj))) (x:=au x) (rd:=rd) (h:=h) au (λy=>prD (x,y)) (ys x) zs (by lia) λy _=>⟨rfl,sr (bc rfl) (bc rfl) a8v⟩
  show(afi (λ_=>True) ali _ (au x) rd ((ys x).map au) zs h).bind _=_;rw[this,az,alz xs _ (λx hx=>e x (List.mem_cons_of_mem _ hx)) (by rw[List.length_append,List.length_map];lia)]
  rw[List.flatMap_cons,List.map_append,List.append_assoc,List.map_map];rfl
theorem a2m(n:Nat)(ps:List (Nat×Nat)):clos n (ps.map prD):=bz λ_ _=>j7 (dm (bw _) (dm (bw _) m9))
noncomputable def aq:SF:=ou yw 2
theorem avv(h:T.Ok):Pu aq 1 [T.d] (.rol ((prs T.go.length).map prD)):=by
 have n32:=h.n32;refine Pu.of rfl (by intro x hx;rw[List.mem_singleton]at hx;subst hx;exact Table.clo) (r:=.ok (.ref 0) [.lst ((prs T.go.length).map prD)]) ?_ (a3s (Nat.le_refl _) rfl (a2m _ _) (by simp)) (mj (a2m _ _))
 unfold aq;rw[fu];show toR (yw [some T.d,none] [])=_;unfold yw;refine ets (xx (ahn rfl (go1 _)) (qw.trans (by rw[List.length_map]))) ?_
 have e1:sRg a0k (aj (sV 1) bj) [some T.d,some (au T.go.length)] []=.ok ⟨(List.range T.go.length).map au,λ_=>True⟩ []:=a3c (bc rfl) (dz (by lia))
 have cz:afj (sRg a0k (aj (sV 1) bj)) (sRg a07 (aj (s2 j9 (sV 0) (sI 1)) (aj (sV 2) bj))) ali a01 [1] [some T.d,some (au T.go.length)] []=.ok (.ref 0) [.lst ((prs T.go.length).map prD)]:=by
  unfold afj;rw[e1,az];have:=alz (fj:=sRg a07 (aj (s2 j9 (sV 0) (sI 1)) (aj (sV 2) bj))) (rd:=[some (au T.go.length)]) (h:=[]) (ys:=λa=>(List.range (T.go.length-(a+1))).map λj=>a+1+j) (List.range T.go.length) [] (λa ha=>by
   have:=List.mem_range.mp ha
   refine⟨by rw[List.length_map,List.length_range];lia,?_⟩
   rw[List.map_map];exact a3d (a:=a+1) (n:=T.go.length) ((ahn rfl a1k).trans rfl) (bc rfl) (dz (by lia)) (dz (by lia))) (by rw[List.length_range,List.length_nil];lia)
  show(a4q (λ_=>True) (sRg a07 (aj (s2 j9 (sV 0) (sI 1)) (aj (sV 2) bj))) ali (sA vf (aj (sV 0) (aj (sV 1) bj))) [some (au T.go.length)] ((List.range T.go.length).map au) [] []).bind _=_;have em:((List.range T.go.length).flatMap λx=>((List.range (T.go.length-(x+1))).map λj=>x+1+j).map λy=>(x,y))=prs T.go.length:=by
   unfold prs;refine congrArg (λf=>(List.range T.go.length).flatMap f) (funext λa=>?_);rw[List.map_map];exact List.map_congr_left λj _=>rfl
  rw[this,az,List.nil_append,em];rfl
 exact congrArg toR (vq cz)
noncomputable def rm(T:Table)(e:Ent)(es:List Ent)(c:Nat):List Ent:=if stp T e.1 c∈es.map (·.1) then es else es++[(stp T e.1 c,e.2++[tgA T c])]
structure WyI (T:Table) (es:List Ent):Prop where
 h0:es[0]? = some (0,[])
 nd:(es.map (·.1)).Nodup
 lt:∀e∈es,e.1<T.go.length
 sg:∀e∈es,∀c∈e.2,c∈T.tg
 to:∀e∈es,ldw T 0 e.2=e.1
 ln:∀(i:Nat) (e:Ent),es[i]? = some e->e.2.length<=i
theorem WyI.few{es:List Ent}(W:WyI T es):es.length<=T.go.length:=by
 have:=BF.a7i T.go.length (es.map (·.1)) W.nd λx hx=>by obtain⟨e,he,rfl⟩:=List.mem_map.mp hx;exact W.lt e he
 rwa[List.length_map]at this
theorem WyI.step(h:T.Ok){es:List Ent}(W:WyI T es){e:Ent}(he:e∈es){c:Nat}(hc:c<T.tg.length):WyI T (rm T e es c):=by
 unfold rm
 split
 .exact W
 .rename_i nw;obtain⟨i,hi,ei⟩:=List.getElem_of_mem he;have li:=W.ln i e (by rw[List.getElem?_eq_getElem hi,ei])
  refine⟨by rw[List.getElem?_append_left (List.getElem?_eq_some_iff.mp W.h0).1];exact W.h0,?_,λx hx=>?_,λx hx=>?_,λx hx=>?_,λj x hj=>?_⟩
  .rw[List.map_append,List.nodup_append];refine⟨W.nd,by simp,λa ha b hb z=>?_⟩
   rw[List.mem_map]at hb;obtain⟨y,hy,rfl⟩:=hb;rw[List.mem_singleton.mp hy]at z;have z:a=stp T e.1 c:=z;exact nw (by rw[<-z];exact ha)
  .rcases List.mem_append.mp hx with hx|hx
   .exact W.lt x hx
   .rw[List.mem_singleton.mp hx];exact vz h _ _
  .rcases List.mem_append.mp hx with hx|hx
   .exact W.sg x hx
   .rw[List.mem_singleton.mp hx]
    intro d hd
    rcases List.mem_append.mp hd with z|z
    .exact W.sg e he d z
    .rw[List.mem_singleton.mp z];exact List.mem_of_getElem? (a8x hc)
  .rcases List.mem_append.mp hx with hx|hx
   .exact W.to x hx
   .rw[List.mem_singleton.mp hx];show ldw T 0 (e.2++[tgA T c])=stp T e.1 c;rw[a7j,zg h hc,W.to e he]
  .by_cases q:j<es.length
   .rw[List.getElem?_append_left q]at hj;exact W.ln j x hj
   .rw[List.getElem?_append_right (by lia)]at hj
    have:j-es.length=0:=by
     have:=(List.getElem?_eq_some_iff.mp hj).1
     rw[List.length_singleton]at this;lia
    rw[this]at hj;cases hj
    show(e.2++[tgA T c]).length<=j;rw[List.length_append,List.length_singleton];lia
theorem a8z{e:Ent}{es:List Ent}{c:Nat}:∃m,rm T e es c=es++m:=by
 unfold rm
 split
 .exact⟨[],(List.append_nil _).symm⟩
 .exact⟨_,rfl⟩
theorem abh{e:Ent}{es:List Ent}{c:Nat}:stp T e.1 c∈(rm T e es c).map (·.1):=by
 unfold rm
 split
 .assumption
 .rw[List.map_append];exact List.mem_append_right _ (by simp)
noncomputable def a1a(T:Table)(es:List Ent)(e:Ent)(cs:List Nat):List Ent:=cs.foldl (rm T e) es
theorem a0s{e:Ent}:∀{cs:List Nat} {es:List Ent},∃m,a1a T es e cs=es++m
 |[],es=>⟨[],(List.append_nil _).symm⟩
 |c::cs,es=>by
  obtain⟨m,hm⟩:=a8z (T:=T) (e:=e) (es:=es) (c:=c);obtain⟨m',hm'⟩:=a0s (cs:=cs) (es:=rm T e es c);refine⟨m++m',?_⟩;show a1a T (rm T e es c) e cs=_;rw[hm',hm,List.append_assoc]
noncomputable def itW(T:Table):Nat->List Ent
 |0=>[(0,[])]
 |l+1=>match (itW T l)[l]? with
  |some e=>a1a T (itW T l) e (List.range T.tg.length)
  |none=>itW T l
noncomputable abbrev hY(es:List Ent):Hd:=[.dK (es.map kvD),.lst (es.map λe=>au e.1)]
noncomputable abbrev τY(T:Table)(l:Nat)(a b:Option D):Sd:=[some T.d,some (.ref 0),some (.ref 1),some (au l),a,b]
theorem agq(h:T.Ok){es:List Ent}{e:Ent}{l c:Nat}(W:WyI T es)(he:es[l]? = some e)(hc:c<T.tg.length) :
  uh (τY T l (some (.str (S [tgA T c]))) (some (au (stp T e.1 c)))) (hY es)=.nx (τY T l (some (.str (S [tgA T c]))) (some (au (stp T e.1 c)))) (hY (rm T e es c)):=by
 have n32:=h.n32;have fw:=W.few;have le:=W.ln l e he;have lt:=(List.getElem?_eq_some_iff.mp he).1;have din:a3r true (au (stp T e.1 c)) (.ref 0) (hY es)=.ok (.bl (!(a4m (es.map kvD) (.inl ((stp T e.1 c:Nat):Int))).isSome)) (hY es):=rfl;unfold uh rm
 by_cases sn:stp T e.1 c∈es.map (·.1)
 .obtain⟨e2,he2,q⟩:=List.mem_map.mp sn;rw[if_pos sn];refine(ifF (t2s (bc rfl) (bc rfl) (din.trans ?_))).trans rfl;rw[<-q,a1n he2 W.nd];rfl
 .rw[if_neg sn];obtain⟨v1,v2⟩:=agm sn;have ad:∀hh,j9 (.str (S e.2)) (.str (S [tgA T c])) hh=.ok (.str (S (e.2++[tgA T c]))) hh:=λhh=>aa0 (dz (by rw[List.length_singleton];lia))
  have gt:a0y (.ref 0) (au e.1) (hY es)=.ok (.str (S e.2)) (hY es):=by
   unfold a0y;show(match (some (a4m (es.map kvD) (.inl ((e.1:Nat):Int))):Option (Option D)) with|some (some d)=>R.ok d _|_=>.no)=_
   rw[a1n (List.mem_of_getElem? he) W.nd]
  have p:af8 (.ref 0) (au (stp T e.1 c)) (.str (S (e.2++[tgA T c]))) (hY es)=some [.dK ((es++[(stp T e.1 c,e.2++[tgA T c])]).map kvD),.lst (es.map λe=>au e.1)]:=by
   have lt:(es.map kvD).length<LINE:=zf (by rw[List.length_map];lia)
   show(if (es.map kvD).length<LINE then some [O.dK (putD (es.map kvD) (.inl ((stp T e.1 c:Nat):Int)) (.str (S (e.2++[tgA T c])))),O.lst (es.map λe=>au e.1)] else none)=_
   rw[if_pos lt,v2,List.map_append];rfl
  refine Eq.trans (ifT (t2s (bc rfl) (bc rfl) (din.trans (by rw[v1];rfl)))) ?_
  have ix:gIx (.ref 1) (au l) (hY es)=.ok (au e.1) (hY es):=a6a (xs:=es.map λe=>au e.1) rfl (by rw[List.getElem?_map,he];rfl)
  refine Eq.trans (xg (a8t (n8 (n8 (bc rfl) (n8 (bc rfl) (bc rfl) ix) gt) (bc rfl) (ad _)) (bc rfl) (bc rfl) p)) ?_;refine Eq.trans (a1m (bc rfl) rfl (arg1 (bc rfl)) (a2u (xs:=es.map λe=>au e.1) rfl (zf (by rw[List.length_map];lia)))) ?_
  rw[show(es.map λe=>au e.1)++[au (stp T e.1 c)]=(es++[(stp T e.1 c,e.2++[tgA T c])]).map λe=>au e.1 by rw[List.map_append];rfl]
  rfl
noncomputable def j8:SF:=ou a0g 6
noncomputable def wyO(es:List Ent)(r:Nat):List Nat:=((es.find? λe=>decide (e.1=r)).map (·.2)).getD []
theorem agr{es:List Ent}(nd:(es.map (·.1)).Nodup){e:Ent}(he:e∈es):wyO es e.1=e.2:=by
 have h:=a1n he nd;unfold a4m at h;unfold wyO;rw[List.find?_map]at h;rw[show((λkv:Key×D=>decide (kv.1=(.inl (e.1:Int):Key))) ∘ kvD)=λx:Ent=>decide (x.1=e.1) from funext λx=>decide_eq_decide.mpr ⟨λz=>by have:(x.1:Int)=e.1:=Sum.inl.inj z;lia,λz=>by show Sum.inl _=Sum.inl _;rw[z]⟩]at h
 cases q:es.find? λx:Ent=>decide (x.1=e.1) with
 |none=>rw[q]at h;cases h
 |some y =>
  rw[q]at h;have:=D.str.inj (Option.some.inj h);show y.2=e.2;have:=congrArg (λs=>s.cps.toList) this;simpa[a7b] using this
noncomputable abbrev wsD(es:List Ent)(n:Nat):List D:=(List.range n).map λr=>.str (S (wyO es r))
structure WyA (T:Table) (es:List Ent):Prop extends WyI T es where
 all:∀r,r<T.go.length->r∈es.map (·.1)
 it:es=itW T es.length
theorem ake(h:T.Ok)(rc:∀r,r<T.go.length->PN.Rch T.go r):∃es,WyA T es/\j8 [T.d] []=.ok (.ref 2) (hY es++[.lst (wsD es T.go.length)]):=by
 have n32:=h.n32;have n1:=h.n1;have w:=acf (c:=yj) (f:=ym)
  (λm τ hh=>∃(es:List Ent) (l:Nat) (a b:Option D),τ=τY T l a b/\hh=hY es/\WyI T es/\es=itW T l/\l<=es.length/\m=33-l/\∀(j:Nat) (e:Ent),j<l->es[j]? = some e->∀c,c<T.tg.length->stp T e.1 c∈es.map (·.1))
  (λτ hh=>∃(es:List Ent) (l:Nat) (a b:Option D),τ=τY T l a b/\hh=hY es/\WyI T es/\es=itW T l/\l=es.length/\∀(j:Nat) (e:Ent),j<l->es[j]? = some e->∀c,c<T.tg.length->stp T e.1 c∈es.map (·.1))
  (λ_ _=>False) ?_ 33 100000 (τY T 0 none none) (hY [(0,[])]) (by lia)
  ⟨[(0,[])],0,none,none,rfl,rfl,⟨rfl,by simp,by simpa using (by lia:0<T.go.length),by simp,by simp[ldw],λi e hi=>by
   have:i=0:=by have:=(List.getElem?_eq_some_iff.mp hi).1;simp at this;lia
   subst this;cases hi;simp⟩,rfl,by simp,rfl,λj e hj=>by lia⟩
 .rcases w with⟨τ',h',e,es,l,a,b,rfl,rfl,W,ei,el,cl⟩|⟨_,_,_,z⟩
  .have fw:=W.few;have all:∀r,r<T.go.length->r∈es.map (·.1):=λr hr=>by
    refine rc r hr (λx=>x∈es.map (·.1)) (List.mem_map.mpr ⟨_,List.mem_of_getElem? W.h0,rfl⟩) λx hx y hy=>?_;obtain⟨e0,he0,rfl⟩:=List.mem_map.mp hx;obtain⟨c,hc,rfl⟩:=(xm h (W.lt e0 he0)).mp hy;obtain⟨j,hj,ej⟩:=List.getElem_of_mem he0;exact cl j e0 (by lia) (by rw[List.getElem?_eq_getElem hj,ej]) c hc
   have ln:es.length=T.go.length:=by
    have:=PRS.a1u (l:=List.range T.go.length) (t:=es.map (·.1)) List.nodup_range λx hx=>all x (List.mem_range.mp hx)
    rw[List.length_range,List.length_map]at this;lia
   refine⟨es,⟨W,all,by rw[<-el];exact ei⟩,?_⟩
   unfold j8;rw[fu];show toR (a0g [some T.d,none,none,none,none,none] [])=_;unfold a0g;refine etr (jl (d:=.ref 0) (h1:=[.dK [(.inl 0,.str (S []))]]) rfl) ?_;refine etr (jl (d:=.ref 1) (h1:=hY [(0,[])]) rfl) ?_;refine etr (jl ckk) ?_;refine etr (xg e) ?_;have gt:∀r,r<T.go.length->a0y (.ref 0) (au r) (hY es)=.ok (.str (S (wyO es r))) (hY es):=λr hr=>by
    obtain⟨e1,he1,q⟩:=List.mem_map.mp (all r hr);unfold a0y;show(match (some (a4m (es.map kvD) (.inl ((r:Nat):Int))):Option (Option D)) with|some (some d)=>R.ok d _|_=>.no)=_
    rw[<-q,a1n he1 W.nd,agr W.nd he1]
   refine congrArg toR (vq ?_);refine(uq au (λr=>D.str (S (wyO es r))) (List.range T.go.length) (a3c (n:=T.go.length) (xx (bc rfl) (by rw[xf];show R.ok (D.int ((es.map λe=>au e.1).length:Nat)) _=_;rw[List.length_map,ln])) (dz (by lia))) (by rw[List.length_range];exact dz (by lia)) λr hr=>?_).trans rfl
   rw[a3e];exact n8 (bc rfl) (bc rfl) (gt r (List.mem_range.mp hr))
  .exact z.elim
 .rintro m τ hh ⟨es,l,a,b,rfl,rfl,W,ei,ll,rfl,cl⟩
  have fw:=W.few;have tc:yj (τY T l a b) (hY es)=.ok (decide (l<es.length)) (hY es):=by
   refine(t2s (bc rfl) (xx (bc rfl) (by rw[xf];show R.ok (D.int ((es.map λe=>au e.1).length:Nat)) _=_;rw[List.length_map])) rfl).trans ?_
   congr 1
   exact decide_eq_decide.mpr (by lia)
  by_cases q:l<es.length
  .rw[decide_eq_true q]at tc;refine .inr ⟨_,tc,.inl ?_⟩;obtain⟨e,he⟩:∃e,es[l]? = some e:=⟨_,List.getElem?_eq_getElem q⟩;have hr:=W.lt e (List.mem_of_getElem? he);have lp:=kj (g:=a2a 2 (g8 (kN 4) (g8 (kN 5) a2j))) (b:=uh) (zpD T e.1)
    (λpre τ hh=>∃(a b:Option D),τ=τY T l a b/\hh=hY (a1a T es e pre)/\WyI T (a1a T es e pre)/\∀c∈pre,stp T e.1 c∈(a1a T es e pre).map (·.1)) (List.range T.tg.length) (τY T l a b) (hY es) ?_ ⟨a,b,rfl,rfl,W,by simp⟩
   .obtain⟨τ',h',el,a',b',rfl,rfl,W',cl'⟩:=lp;obtain⟨m,hm⟩:=a0s (T:=T) (e:=e) (cs:=List.range T.tg.length) (es:=es);have gl:∀{j:Nat} {x:Ent},es[j]? = some x->(a1a T es e (List.range T.tg.length))[j]? = some x:=λ{j x} hx=>by rw[hm,List.getElem?_append_left (List.getElem?_eq_some_iff.mp hx).1];exact hx
    refine⟨τY T (l+1) a' b',hY (a1a T es e (List.range T.tg.length)),33-(l+1),?_,by lia,_,l+1,a',b',rfl,rfl,W',?_,?_,rfl,λj x hj hx c hc=>?_⟩
    .unfold ym;refine Eq.trans (a3f (zj h hr (ahn rfl (a6b (j:=0) rfl)) (n8 (ahn rfl (go1 _)) (n8 (bc rfl) (bc rfl) (a6a (xs:=es.map λe=>au e.1) rfl (by rw[List.getElem?_map,he];rfl))) (xj h hr _)))) ?_
     rw[el,ut];exact ak5 rfl ckk rfl
    .show _=(match (itW T l)[l]? with|some e=>a1a T (itW T l) e (List.range T.tg.length)|none=>itW T l)
     rw[<-ei,he]
    .rw[hm,List.length_append];lia
    .by_cases q2:j=l
     .subst q2;rw[gl he]at hx;cases hx
      exact cl' c (List.mem_range.mpr hc)
     .have hj':j<es.length:=by lia
      have hx':es[j]? = some x:=by rw[hm,List.getElem?_append_left hj']at hx;exact hx
      have:=cl j x (by lia) hx' c hc
      rw[hm,List.map_append];exact List.mem_append_left _ this
   .rintro pre c post τ hh all ⟨a,b,rfl,rfl,W',cl'⟩
    have hc:c<T.tg.length:=List.mem_range.mp (by rw[all];simp)
    obtain⟨m,hm⟩:=a0s (T:=T) (e:=e) (cs:=pre) (es:=es);have he':(a1a T es e pre)[l]? = some e:=by rw[hm,List.getElem?_append_left q];exact he
    have ea:a1a T es e (pre++[c])=rm T e (a1a T es e pre) c:=by unfold a1a;rw[List.foldl_append];rfl
    refine⟨_,_,rfl,_,_,agq h W' he' hc,_,_,rfl,by rw[ea],by rw[ea];exact W'.step h (List.mem_of_getElem? he') hc,λd hd=>?_⟩
    rw[ea]
    rcases List.mem_append.mp hd with hd|hd
    .obtain⟨m',hm'⟩:=a8z (T:=T) (e:=e) (es:=a1a T es e pre) (c:=c);rw[hm',List.map_append];exact List.mem_append_left _ (cl' d hd)
    .rw[List.mem_singleton.mp hd];exact abh
  .rw[decide_eq_false q]at tc;exact .inl ⟨_,tc,es,l,a,b,rfl,rfl,W,ei,by lia,cl⟩
end
end K30
namespace K30
open L2 MI AT HND K22 K23 PRS
open STP (zj zpD zg)
open K40 (rw' a0q xj go1 a5g)
open RCH (xm)
section
variable{T:Table}
theorem ags(i j:Nat)(hh:Hd):a0x [au i,au j] hh=.ok (au (min i j)) hh:=by
 show R.ok (D.int (if (j:Int)<i then (j:Int) else i)) hh=_
 split<;>(congr 2;lia)
theorem agt(i j:Nat)(hh:Hd):a0w [au i,au j] hh=.ok (au (max i j)) hh:=by
 show R.ok (D.int (if (j:Int) > i then (j:Int) else i)) hh=_
 split<;>(congr 2;lia)
theorem aq4{F:SF}{a c e v:D}{o:O}(ca:MI.clo 0 a)(cc:MI.clo 0 c)(ce:MI.clo 0 e)(co:a00 0 o)(ef:F [a,.ref 0,c,e] [o]=.ok v [o])(cv:MI.clo 0 v)(p:Nat)(h:Hd)(hp:h[p]? = some o):gq false 4 F [a,.ref p,c,e] h=.ok v h:=by
 have nr:∀{x:D},MI.clo 0 x->refOf x=none:=λ{x} cx=>by cases x<;>first|rfl|(simp only[MI.clo]at cx;lia)
 have e1:a1f [a,.ref p,c,e]=[p]:=by
  show[a,D.ref p,c,e].filterMap refOf=[p];rw[List.filterMap_cons,nr ca];show p::[c,e].filterMap refOf=_;rw[List.filterMap_cons,nr cc,List.filterMap_cons,nr ce];rfl
 have rn:∀{x:D} {n:Nat} {l:List D},MI.clo 0 x->wz n (x::l)=x::wz n l:=λ{x n l} cx=>by cases x<;>first|rfl|(simp only[MI.clo]at cx;lia)
 have e2:wz 0 [a,.ref p,c,e]=[a,.ref 0,c,e]:=by
  rw[rn ca];show a::.ref 0::wz 1 [c,e]=_;rw[rn cc,rn ce];rfl
 unfold gq;rw[if_pos (show[a,D.ref p,c,e].length=4 from rfl)]
 unfold ao7;rw[e1];simp only[zm,hp,List.length_singleton,Bool.false_eq_true,if_false];have all:∀y∈[a,D.ref p,c,e],MI.clo 0 y\/isRef y:=λy hy=>by
  simp only[List.mem_cons,List.not_mem_nil,or_false]at hy
  rcases hy with rfl|rfl|rfl|rfl
  .exact .inl ca
  .exact .inr ⟨p,rfl⟩
  .exact .inl cc
  .exact .inl ce
 have z:a9s 1 (.ok v [o])=.ok v [o]:=jb (a4n (Nat.zero_le 1) cv) (by intro u hu;rw[show([o]:Hd).take 1=[o] from rfl,List.mem_singleton]at hu;subst hu;exact qu (by lia) co)
 rw[if_pos ⟨by simp,all,λu hu=>by rw[List.mem_singleton.mp hu];exact co⟩,e2,ef,z]
 have es:h.set p o=h:=by
  refine List.ext_getElem? λi=>?_;rw[List.getElem?_set]
  split
  .rename_i q;subst q;rw[if_pos (List.getElem?_eq_some_iff.mp hp).1,hp]
  .rfl
 simp[cv,co,qy,es]
noncomputable abbrev goD(T:Table):D:=.tup (T.go.map a3y)
noncomputable abbrev ksD(T:Table):D:=.tup (T.ks.map D.int)
theorem agu:MI.clo 0 (goD T):=j7 (bz λx _=>j7 (vy _))
theorem aq5:MI.clo 0 (ksD T):=j7 (bz λx _=>bw x)
noncomputable abbrev twD(T:Table)(x y c:Nat):D:=.tup [au (stp T x c),au (stp T y c)]
theorem zip_rows(h:T.Ok){x y:Nat}(hx:x<T.go.length)(hy:y<T.go.length){f g:SE}{τ:Sd}{hh:Hd}(e1:f τ hh=.ok (a3y (rw' T x)) hh)(e2:g τ hh=.ok (a3y (rw' T y)) hh):a9r f g τ hh=.ok ⟨(List.range T.tg.length).map (twD T x y),λ_=>True⟩ hh:=by
 unfold a9r;rw[e1,az,e2,az];unfold ala srcOf;dsimp only;rw[RCH.a6d h hx,RCH.a6d h hy,List.map_map,List.map_map,List.zip_map,List.map_map]
 congr 2
 .rw[show(List.range T.tg.length).zip (List.range T.tg.length)=(List.range T.tg.length).map λc=>(c,c) from by
   induction List.range T.tg.length with
   |nil=>rfl
   |cons a l ih=>rw[List.zip_cons_cons,ih];rfl,List.map_map]
  rfl
 .funext _;simp
structure Sz (T:Table) (s:Nat) (es:Es Nat):Prop where
 nd:(es.map (·.1)).Nodup
 up:∀e∈es,e.1.1<e.1.2/\e.1.2<T.go.length
 lv:∀e∈es,e.2<=s/\Lv T e.2 e.1.1 e.1.2
 all:∀a b,a<b->b<T.go.length->Bq T s a b=true->(a,b)∈es.map (·.1)
theorem Sz.few(h:T.Ok){s:Nat}{es:Es Nat}(Z:Sz T s es):es.length<=496:=by
 have:=a1u (t:=prs T.go.length) Z.nd λp hp=>by
  obtain⟨e,he,rfl⟩:=List.mem_map.mp hp;exact qx.mpr (Z.up e he)
 rw[List.length_map]at this;have:=a0r h.n32;lia
theorem Sz.has{s:Nat}{es:Es Nat}(Z:Sz T s es){a b:Nat}(ha:a<T.go.length)(hb:b<T.go.length):(fnd es (min a b,max a b)).isSome=Bq T s a b:=by
 cases q:Bq T s a b with
 |true =>
  have ne:a≠b:=λe=>by rw[e,a5c]at q;cases q
  have m:(min a b,max a b)∈es.map (·.1):=Z.all _ _ (by lia) (by lia) (by
   rcases Nat.le_total a b with z|z
   .rw[Nat.min_eq_left z,Nat.max_eq_right z];exact q
   .rw[Nat.min_eq_right z,Nat.max_eq_left z,a5b];exact q)
  rw[Option.isSome_iff_ne_none];exact λz=>yp.mp z m
 |false =>
  rw[Option.isSome_eq_false_iff,Option.isNone_iff_eq_none,yp]
  intro m
  obtain⟨e,he,q2⟩:=List.mem_map.mp m;obtain⟨l1,l2⟩:=Z.lv e he;have l3:=a5d l1 l2.1;have e1:=congrArg Prod.fst q2;have e2:=congrArg Prod.snd q2;simp only at e1 e2;rw[e1,e2]at l3
  rcases Nat.le_total a b with z|z
  .rw[Nat.min_eq_left z,Nat.max_eq_right z,q]at l3;cases l3
  .rw[Nat.min_eq_right z,Nat.max_eq_left z,a5b,q]at l3;cases l3
noncomputable def bf:SF:=ou a0h 6
noncomputable abbrev dtO(es:Es Nat):O:=.dT (es.map (kvP au))
theorem a5e(n:Nat)(es:Es Nat):a00 n (dtO es):=by
 show clos n ((es.map (kvP au)).map (·.2));rw[List.map_map];exact bz λe _=>bw _
theorem akf(h:T.Ok){s:Nat}{es:Es Nat}(Z:Sz T s es){x y:Nat}(hx:x<T.go.length)(hy:y<T.go.length):bf [goD T,.ref 0,au x,au y] [dtO es]=.ok (.bl ((List.range T.tg.length).any λc=>Bq T s (stp T x c) (stp T y c))) [dtO es]:=by
 have t6:=h.tong.hi;unfold bf;rw[fu];show toR (a0h [some (goD T),some (.ref 0),some (au x),some (au y),none,none] [dtO es])=_;unfold a0h;have lp:=a3u (g:=a2a 2 (g8 (kN 4) (g8 (kN 5) a2j))) (b:=yo) (twD T x y)
  (λpre τ hh=>∃a b:Option D,τ=[some (goD T),some (.ref 0),some (au x),some (au y),a,b]/\hh=[dtO es]/\(pre.any λc=>Bq T s (stp T x c) (stp T y c))=false)
  (λd hh=>d=.bl true/\hh=[dtO es]/\((List.range T.tg.length).any λc=>Bq T s (stp T x c) (stp T y c))=true) (List.range T.tg.length) [] [some (goD T),some (.ref 0),some (au x),some (au y),none,none] [dtO es] ?_ ⟨none,none,rfl,rfl,rfl⟩
 .have it:=zip_rows h hx hy (f:=s2 gIx (sV 0) (sV 2)) (g:=s2 gIx (sV 0) (sV 3)) (τ:=[some (goD T),some (.ref 0),some (au x),some (au y),none,none]) (hh:=[dtO es]) (n8 (bc rfl) (bc rfl) (xj h hx _)) (n8 (bc rfl) (bc rfl) (xj h hy _));refine etr (a3f it) ?_
  rcases lp with⟨τ',h',e,a,b,rfl,rfl,nq⟩|⟨d,h',e,rfl,rfl,q⟩
  .refine Eq.trans (congrArg (λz=>toR (MI.thn z _)) e) ?_;rw[List.nil_append]at nq;rw[nq];exact congrArg toR (vq ckk)
  .refine Eq.trans (congrArg (λz=>toR (MI.thn z _)) e) ?_;rw[q];rfl
 .rintro pre c post τ hh all ⟨a,b,rfl,rfl,nq⟩
  rw[List.nil_append]at all;have din:∀p:Nat×Nat,a3r false (prD p) (.ref 0) [dtO es]=.ok (.bl (fnd es p).isSome) [dtO es]:=λp=>by
   unfold a3r;rw[a5a au (i:=0) rfl p];show R.ok (D.bl ((fnd es p).map au).isSome) _=_;rw[Option.isSome_map]
  have tt:sT (s2 (a3r false) (sA MI.vf (aj (sA a0x (aj (sV 4) (aj (sV 5) bj))) (aj (sA a0w (aj (sV 4) (aj (sV 5) bj))) bj))) (sV 1)) [some (goD T),some (.ref 0),some (au x),some (au y),some (au (stp T x c)),some (au (stp T y c))] [dtO es]=.ok (Bq T s (stp T x c) (stp T y c)) [dtO es] :=
   t2s (sr (sr (bc (i:=4) rfl) (bc (i:=5) rfl) (ags _ _ _)) (sr (bc (i:=4) rfl) (bc (i:=5) rfl) (agt _ _ _)) a8v) (bc rfl) ((din (min (stp T x c) (stp T y c),max (stp T x c) (stp T y c))).trans (by rw[Z.has (vz h _ _) (vz h _ _)]))
  refine⟨_,_,rfl,?_⟩;unfold yo
  cases q:Bq T s (stp T x c) (stp T y c) with
  |true =>
   rw[q]at tt;exact .inr ⟨_,_,Eq.trans (ifT tt) (vq ckk),rfl,rfl,List.any_eq_true.mpr ⟨c,by rw[all];simp,q⟩⟩
  |false =>
   rw[q]at tt;exact .inl ⟨_,_,Eq.trans (ifF tt) rfl,_,_,rfl,rfl,by rw[List.any_append,nq];simp[q]⟩
theorem aq6(h:T.Ok){s:Nat}{es:Es Nat}(Z:Sz T s es){x y:Nat}(hx:x<T.go.length)(hy:y<T.go.length){p:Nat}{hh:Hd}(hp:hh[p]? = some (dtO es)):gq false 4 bf [goD T,.ref p,au x,au y] hh=.ok (.bl ((List.range T.tg.length).any λc=>Bq T s (stp T x c) (stp T y c))) hh :=
 aq4 agu (bw _) (bw _) (a5e _ _) (akf h Z hx hy) (xu _) p hh hp
end
section
variable{T:Table}
noncomputable def a5h(n a:Nat):List (Nat×Nat):=(List.range (n-(a+1))).map λj=>(a,a+1+j)
theorem agv(n:Nat):prs n=(List.range n).flatMap (a5h n):=rfl
noncomputable def e0(T:Table)(tw:List (Nat×Nat)):Es Nat:=(tw.filter λp=>Bq T 0 p.1 p.2).map λp=>(p,0)
theorem avw(tw:List (Nat×Nat))(p:Nat×Nat):e0 T (tw++[p])=e0 T tw++if Bq T 0 p.1 p.2=true then [(p,0)] else []:=by
 unfold e0;rw[List.filter_append,List.map_append]
 congr 1
 cases q:Bq T 0 p.1 p.2<;>simp[q]
theorem avx{tw:List (Nat×Nat)}{p:Nat×Nat}(h:p∉tw):fnd (e0 T tw) p=none:=by
 rw[yp]
 intro m
 obtain⟨e,he,rfl⟩:=List.mem_map.mp m;obtain⟨q,hq,rfl⟩:=List.mem_map.mp he;exact h (List.mem_filter.mp hq).1
theorem avy{tw:List (Nat×Nat)}:(e0 T tw).length<=tw.length:=by
 unfold e0;rw[List.length_map];exact List.length_filter_le _ _
theorem agw{n x:Nat}{pre post:List Nat}(h:List.range n=pre++x::post):x∉pre:=λm=>by
 have nd:(List.range n).Nodup:=List.nodup_range;rw[h]at nd;exact(List.nodup_append.mp nd).2.2 x m x List.mem_cons_self rfl
noncomputable abbrev τZ(T:Table)(i:Nat)(a b c d e f:Option D):Sd:=[some (goD T),some (ksD T),some (.ref 0),some (.ref i),a,b,c,d,e,f]
noncomputable abbrev hZ(es:Es Nat)(tw:List (Nat×Nat)):Hd:=[dtO es,.lst (tw.map prD)]
noncomputable abbrev b01:=pq bf
theorem agx(h:T.Ok){tw:List (Nat×Nat)}{a b:Nat}{c d e f:Option D}(ha:a<T.go.length)(hb:b<T.go.length)(nw:(a,b)∉tw)(tl:tw.length<=1000) :
  b01 (τZ T 1 (some (au a)) (some (au b)) c d e f) (hZ (e0 T tw) tw)=.nx (τZ T 1 (some (au a)) (some (au b)) c d e f) (hZ (e0 T (tw++[(a,b)])) (tw++[(a,b)])):=by
 have l0:=avy (T:=T) (tw:=tw);unfold b01 pq;refine Eq.trans (xg (a1m (bc rfl) rfl (arg1 (sr (bc (i:=4) rfl) (bc (i:=5) rfl) a8v)) (a2u (i:=1) (xs:=tw.map prD) rfl (by rw[List.length_map];exact zf (by lia))))) ?_
 rw[show tw.map prD++[D.tup [au a,au b]]=(tw++[(a,b)]).map prD by rw[List.map_append];rfl]
 have tt:sT (s2 hNe (s2 gIx (sV 1) (sV 4)) (s2 gIx (sV 1) (sV 5))) (τZ T 1 (some (au a)) (some (au b)) c d e f) (hZ (e0 T tw) (tw++[(a,b)]))=.ok (Bq T 0 a b) (hZ (e0 T tw) (tw++[(a,b)])) :=
  t2s (n8 (bc rfl) (bc (i:=4) rfl) (K21.aba h ha _)) (n8 (bc rfl) (bc (i:=5) rfl) (K21.aba h hb _)) (K40.alq _ _)
 rw[avw];show sIf _ _ _ _ (hZ (e0 T tw) (tw++[(a,b)]))=_
 cases q:Bq T 0 a b with
 |true =>
  rw[q]at tt;rw[if_pos rfl];exact(ifT tt).trans (a8t ckk (bc (i:=2) rfl) (sr (bc (i:=4) rfl) (bc (i:=5) rfl) a8v) (a7k au (i:=0) (p:=(a,b)) (v:=0) rfl (avx nw) (zf (by lia))))
 |false =>
  rw[q]at tt;rw[if_neg (by simp),List.append_nil]
  exact(ifF tt).trans rfl
theorem akg(h:T.Ok){a b c d e f:Option D}:∃a' b':Option D,∀g:SS,dw (a2x (sRg a0k (aj (sA oh (aj (sV 0) bj)) bj)) (kN 4) (qb bf)) g (τZ T 1 a b c d e f) (hZ [] [])=g (τZ T 1 a' b' c d e f) (hZ (e0 T (prs T.go.length)) (prs T.go.length)):=by
 have n32:=h.n32;have pf:=a0r h.n32;have lp:=kj (g:=kN 4) (b:=qb bf) au
  (λpre τ hh=>∃a b:Option D,τ=τZ T 1 a b c d e f/\hh=hZ (e0 T (pre.flatMap (a5h T.go.length))) (pre.flatMap (a5h T.go.length))) (List.range T.go.length) (τZ T 1 a b c d e f) (hZ [] []) ?_ ⟨a,b,rfl,rfl⟩
 .obtain⟨τ',h',el,a',b',rfl,rfl⟩:=lp;refine⟨a',b',λg=>?_⟩;refine Eq.trans (a3f (a3c (n:=T.go.length) (xx (bc rfl) (qw.trans (by rw[List.length_map]))) (dz (by lia)))) ?_
  rw[el,ut];rfl
 .rintro pre x post τ hh all ⟨a,b,rfl,rfl⟩
  have hx:x<T.go.length:=List.mem_range.mp (by rw[all];simp)
  refine⟨_,_,rfl,?_⟩;have lp2:=kj (g:=kN 5) (b:=pq bf) (λj:Nat=>D.int ((x+1+j:Nat)))
   (λpr τ hh=>∃b:Option D,τ=τZ T 1 (some (au x)) b c d e f/\hh=hZ (e0 T (pre.flatMap (a5h T.go.length)++pr.map λj=>(x,x+1+j))) (pre.flatMap (a5h T.go.length)++pr.map λj=>(x,x+1+j))) (List.range (T.go.length-(x+1))) (τZ T 1 (some (au x)) b c d e f) (hZ (e0 T (pre.flatMap (a5h T.go.length))) (pre.flatMap (a5h T.go.length))) ?_ ⟨b,rfl,by rw[List.map_nil,List.append_nil]⟩
  .obtain⟨τ',h',el,b',rfl,rfl⟩:=lp2;refine⟨_,_,?_,some (au x),b',rfl,by rw[List.flatMap_append,List.flatMap_cons,List.flatMap_nil,List.append_nil]⟩
   unfold qb;exact Eq.trans (a5g (a3d (a:=x+1) (n:=T.go.length) ((ahn rfl a1k).trans rfl) (xx (bc (i:=0) rfl) (qw.trans (by rw[List.length_map]))) (dz (by lia)) (dz (by lia)))) el
  .rintro pr j po τ hh all2 ⟨b,rfl,rfl⟩
   have hj:j<T.go.length-(x+1):=List.mem_range.mp (by rw[all2];simp)
   have sub:∀p∈pre.flatMap (a5h T.go.length)++pr.map (λj=>(x,x+1+j)),p∈prs T.go.length:=λp hp=>by
    rcases List.mem_append.mp hp with z|z
    .rw[agv,all,List.flatMap_append];exact List.mem_append_left _ z
    .obtain⟨i,hi,rfl⟩:=List.mem_map.mp z;have:i<T.go.length-(x+1):=List.mem_range.mp (by rw[all2];exact List.mem_append_left _ hi)
     exact qx.mpr ⟨by lia,by lia⟩
   have nw:(x,x+1+j)∉pre.flatMap (a5h T.go.length)++pr.map λj=>(x,x+1+j):=λm=>by
    rcases List.mem_append.mp m with z|z
    .obtain⟨y,hy,q⟩:=List.mem_flatMap.mp z;obtain⟨i,_,q⟩:=List.mem_map.mp q;have:=congrArg Prod.fst q;simp only at this;exact agw all (this ▸ hy)
    .obtain⟨i,hi,q⟩:=List.mem_map.mp z;have:=congrArg Prod.snd q;simp only at this;have:i=j:=by lia
     exact agw all2 (this ▸ hi)
   have tl:(pre.flatMap (a5h T.go.length)++pr.map λj=>(x,x+1+j)).length<=1000:=by
    have nd:(pre.flatMap (a5h T.go.length)++pr.map λj=>(x,x+1+j)).Nodup:=by
     have:=a4y T.go.length
     rw[agv,all,List.flatMap_append,List.flatMap_cons]at this;unfold a5h at this;rw[all2,List.map_append]at this;rw[<-List.append_assoc,<-List.append_assoc]at this;exact(List.nodup_append.mp (List.nodup_append.mp this).1).1
    have:=a1u nd sub
    lia
   refine⟨_,_,rfl,_,_,agx h hx (by lia:x+1+j<T.go.length) nw tl,_,rfl,?_⟩
   rw[List.map_append,<-List.append_assoc];rfl
theorem sz0(T:Table):Sz T 0 (e0 T (prs T.go.length)):=by
 refine⟨?_,λe he=>?_,λe he=>?_,λa b ab bn q=>?_⟩
 .unfold e0;rw[List.map_map];show(((prs T.go.length).filter _).map λp=>p).Nodup;rw[List.map_id'];exact(a4y _).filter _
 .obtain⟨p,hp,rfl⟩:=List.mem_map.mp he;exact qx.mp (List.mem_filter.mp hp).1
 .obtain⟨p,hp,rfl⟩:=List.mem_map.mp he;exact⟨Nat.le_refl _,(List.mem_filter.mp hp).2,λj hj=>by lia⟩
 .exact List.mem_map.mpr ⟨((a,b),0),List.mem_map.mpr ⟨(a,b),List.mem_filter.mpr ⟨qx.mpr ⟨ab,bn⟩,q⟩,rfl⟩,rfl⟩
noncomputable def twN(es:Es Nat)(tw:List (Nat×Nat)):List (Nat×Nat):=tw.filter λp=>(fnd es p).isNone
noncomputable def near(T:Table)(s:Nat)(p:Nat×Nat):Bool:=(List.range T.tg.length).any λc=>Bq T s (stp T p.1 c) (stp T p.2 c)
noncomputable def fdN(T:Table)(s:Nat)(es:Es Nat)(tw:List (Nat×Nat)):List (Nat×Nat):=(twN es tw).filter (near T s)
noncomputable def esN(T:Table)(s:Nat)(es:Es Nat)(tw:List (Nat×Nat)):Es Nat:=es++(fdN T s es tw).map λp=>(p,s+1)
structure Tw (T:Table) (s:Nat) (tw:List (Nat×Nat)):Prop where
 nd:tw.Nodup
 sub:∀p∈tw,p∈prs T.go.length
 all:∀p∈prs T.go.length,Bq T s p.1 p.2=false->p∈tw
theorem Tw.few(h:T.Ok){s:Nat}{tw:List (Nat×Nat)}(W:Tw T s tw):tw.length<=496:=by
 have:=a1u W.nd W.sub
 have:=a0r h.n32
 lia
theorem Sz.no{s:Nat}{es:Es Nat}(Z:Sz T s es){p:Nat×Nat}(hp:p∈prs T.go.length):(fnd es p).isNone=true↔Bq T s p.1 p.2=false:=by
 obtain⟨ab,bn⟩:=qx.mp (show(p.1,p.2)∈prs T.go.length from hp)
 have:=Z.has (a:=p.1) (b:=p.2) (by lia) bn
 rw[Nat.min_eq_left (by lia),Nat.max_eq_right (by lia)]at this
 rw[<-this]
 cases fnd es (p.1,p.2)<;>simp
theorem aq7{s:Nat}{es:Es Nat}{tw:List (Nat×Nat)}(Z:Sz T s es)(W:Tw T s tw):Tw T (s+1) (twN es tw):=by
 refine⟨W.nd.filter _,λp hp=>W.sub p (List.mem_filter.mp hp).1,λp hp q=>?_⟩;have q0:Bq T s p.1 p.2=false:=by
  cases z:Bq T s p.1 p.2 with
  |false=>rfl
  |true=>rw[aq1 z]at q;cases q
 exact List.mem_filter.mpr ⟨W.all p hp q0,(Z.no hp).mpr q0⟩
theorem akh{s:Nat}{es:Es Nat}{tw:List (Nat×Nat)}(Z:Sz T s es)(W:Tw T s tw){p:Nat×Nat}:p∈fdN T s es tw↔p∈prs T.go.length/\Bq T s p.1 p.2=false/\Bq T (s+1) p.1 p.2=true:=by
 unfold fdN twN;rw[List.mem_filter,List.mem_filter]
 constructor
 .rintro⟨⟨a,b⟩,c⟩
  have hp:=W.sub p a;refine⟨hp,(Z.no hp).mp b,?_⟩;unfold Bq;rw[Bool.or_eq_true];exact .inr c
 .rintro⟨hp,a,b⟩
  refine⟨⟨W.all p hp a,(Z.no hp).mpr a⟩,?_⟩;unfold Bq at b;rw[a,Bool.false_or]at b;exact b
theorem aq8{s:Nat}{es:Es Nat}{tw:List (Nat×Nat)}(Z:Sz T s es)(W:Tw T s tw):Sz T (s+1) (esN T s es tw):=by
 have fk:((fdN T s es tw).map λp=>(p,s+1)).map (·.1)=fdN T s es tw:=by rw[List.map_map];exact List.map_id _
 refine⟨?_,λe he=>?_,λe he=>?_,λa b ab bn q=>?_⟩
 .unfold esN;rw[List.map_append,fk,List.nodup_append];refine⟨Z.nd,(W.nd.filter _).filter _,λp hp p' hp' e=>?_⟩;subst e;have:=((akh Z W).mp hp').2.1;obtain⟨e,he,rfl⟩:=List.mem_map.mp hp;obtain⟨l1,l2⟩:=Z.lv e he;rw[a5d l1 l2.1]at this;cases this
 .rcases List.mem_append.mp he with z|z
  .exact Z.up e z
  .obtain⟨p,hp,rfl⟩:=List.mem_map.mp z;exact qx.mp ((akh Z W).mp hp).1
 .rcases List.mem_append.mp he with z|z
  .obtain⟨l1,l2⟩:=Z.lv e z;exact⟨by lia,l2⟩
  .obtain⟨p,hp,rfl⟩:=List.mem_map.mp z;obtain⟨_,a,b⟩:=(akh Z W).mp hp;refine⟨Nat.le_refl _,b,λj hj=>?_⟩
   cases z:Bq T j p.1 p.2 with
   |false=>rfl
   |true=>rw[a5d (by lia) z]at a;cases a
 .unfold esN;rw[List.map_append,fk]
  cases z:Bq T s a b with
  |true=>exact List.mem_append_left _ (Z.all a b ab bn z)
  |false=>exact List.mem_append_right _ ((akh Z W).mpr ⟨qx.mpr ⟨ab,bn⟩,z,q⟩)
end
section
variable{T:Table}
noncomputable def jo:SF:=ou (yz bf) 10
structure SzA (T:Table) (es:Es Nat):Prop where
 nd:(es.map (·.1)).Nodup
 up:∀e∈es,e.1.1<e.1.2/\e.1.2<T.go.length
 lv:∀e∈es,e.2<=500/\Lv T e.2 e.1.1 e.1.2
 all:∀k a b,a<b->b<T.go.length->Bq T k a b=true->(a,b)∈es.map (·.1)
 few:es.length<=496
theorem abi(ps:List (Nat×Nat)):clos 0 (ps.map prD):=a2m 0 ps
theorem a1o(p:Nat×Nat->Bool)(l:List (Nat×Nat)):(l.filterMap λq=>if p q=true then some (prD q) else none)=(l.filter p).map prD:=by
 induction l with
 |nil=>rfl
 |cons a l ih =>
  rw[List.filterMap_cons,List.filter_cons]
  cases h:p a<;>simp[h,ih]
theorem aq9{s:Nat}{es:Es Nat}(Z:Sz T (s+1) es)(lo:∀e∈es,e.2<=s):∀a b,a<T.go.length->b<T.go.length->Bq T (s+1) a b=true->Bq T s a b=true:=by
 have go:∀a b,a<b->b<T.go.length->Bq T (s+1) a b=true->Bq T s a b=true:=λa b ab bn q=>by
  obtain⟨e,he,q2⟩:=List.mem_map.mp (Z.all a b ab bn q);have:=(Z.lv e he).2.1;have:=a5d (lo e he) this;rw[q2]at this;exact this
 intro a b ha hb q
 rcases Nat.lt_trichotomy a b with z|z|z
 .exact go a b z hb q
 .rw[z,a5c]at q;cases q
 .rw[a5b]at q ⊢;exact go b a z ha q
theorem acz(h:T.Ok){s i:Nat}{es:Es Nat}{tw:List (Nat×Nat)}{hh:Hd}{a b c d e:Option D}(Z:Sz T s es)(W:Tw T s tw)(h0:hh[0]? = some (dtO es))(i1:1<=i)(hi:hh[i]? = some (.lst (tw.map prD)))(ch:∀o∈hh,a00 0 o) :
  ∃(i':Nat) (hh':Hd) (e':Option D),qg bf (τZ T i a b (some (au s)) c d e) hh=.nx (τZ T i' a b (some (au (s+1))) (some (au es.length)) (some (.rol ((fdN T s es tw).map prD))) e') hh'/\1<=i'/\hh'[0]? = some (dtO (esN T s es tw))/\hh'[i']? = some (.lst ((twN es tw).map prD))/\∀o∈hh',a00 0 o:=by
 have n32:=h.n32;have ef:=Z.few h;have wf:=W.few h;have hl:0<hh.length:=(List.getElem?_eq_some_iff.mp h0).1;have din:∀(p:Nat×Nat) (hx:Hd),hx[0]? = some (dtO es)->a3r true (prD p) (.ref 0) hx=.ok (.bl (fnd es p).isNone) hx:=λp hx e=>by
  unfold a3r;rw[a5a au e p];show R.ok (D.bl (!((fnd es p).map au).isSome)) _=_;rw[Option.isSome_map]
  cases fnd es p<;>rfl
 have c1:∀τ:Sd,τ[3]? = some (some (.ref i))->τ[2]? = some (some (.ref 0))->zu (sIt (sV 3)) t1 (qd bf) (a04 bf) [2] τ hh=.ok (.ref hh.length) (hh++[.lst ((twN es tw).map prD)]):=λτ t3 t2=>by
  unfold twN;rw[<-a1o];refine abd (ck:=λh=>h[i]? = some (.lst (tw.map prD))) prD (λp=>if (fnd es p).isNone=true then some (prD p) else none) tw hi (ag9 (bc t3) (by unfold ahh;simp only[hi])) (dz (by lia)) λp _=>?_
  rw[aa3,a3x,a7g,t2];have q:qd bf [some (prD p),some (.ref 0)] hh=.ok (fnd es p).isNone hh:=t2s (bc rfl) (bc rfl) (din p hh h0);show(qd bf [some (prD p),some (.ref 0)] hh).bind _=_;rw[q,az]
  cases (fnd es p).isNone<;>rfl
 let h1:Hd:=hh++[.lst ((twN es tw).map prD)]
 have h10:h1[0]? = some (dtO es):=by show(hh++_)[0]? = _;rw[List.getElem?_append_left hl];exact h0
 have h1i:h1[hh.length]? = some (.lst ((twN es tw).map prD)):=by show(hh++_)[hh.length]? = _;rw[List.getElem?_append_right (Nat.le_refl _),Nat.sub_self];rfl
 have ch1:∀o∈h1,a00 0 o:=λo ho=>by
  rcases List.mem_append.mp ho with z|z
  .exact ch o z
  .rw[List.mem_singleton.mp z];exact abi _
 have tl:(twN es tw).length<=tw.length:=List.length_filter_le _ _;have c2:∀τ:Sd,τ[3]? = some (some (.ref hh.length))->τ[0]? = some (some (goD T))->τ[2]? = some (some (.ref 0))->sZ (zu (sIt (sV 3)) t1 (qe bf) (a05 bf) [0,2]) τ h1=.ok (.rol ((fdN T s es tw).map prD)) h1:=λτ t3 t0 t2=>by
  unfold fdN;rw[<-a1o];refine a0z (abd (ck:=λh=>h[hh.length]? = some (.lst ((twN es tw).map prD))) prD (λp=>if near T s p=true then some (prD p) else none) (twN es tw) h1i (ag9 (bc t3) (by unfold ahh;simp only[h1i])) (dz (by lia)) λp hp=>?_) (by rw[a1o];exact a2m _ _) (λo ho=>qu (Nat.zero_le _) (ch1 o ho))
  rw[aa3,a3x,a3x,a7g,t0,t2];obtain⟨ab,bn⟩:=qx.mp (show(p.1,p.2)∈prs T.go.length from W.sub p (List.mem_filter.mp hp).1)
  have q:qe bf [some (prD p),some (goD T),some (.ref 0)] h1=.ok (near T s p) h1 :=
   a4w (PAP.aof (cns (bc rfl) (cns (bc rfl) (cns (ahn rfl (a6b (j:=0) rfl)) (cns (ahn rfl (a6b (j:=1) rfl)) rfl)))) (aq6 h Z (x:=p.1) (y:=p.2) (by lia) bn h10)) (vp _)
  show(qe bf [some (prD p),some (goD T),some (.ref 0)] h1).bind _=_;rw[q,az]
  cases near T s p<;>rfl
 have fl:(fdN T s es tw).length<=(twN es tw).length:=List.length_filter_le _ _;have fnd':(fdN T s es tw).Nodup:=(W.nd.filter _).filter _;have lp:=kj (g:=kN 9) (b:=v4 bf) prD
  (λpre τ hx=>∃e':Option D,τ=τZ T hh.length a b (some (au (s+1))) (some (au es.length)) (some (.rol ((fdN T s es tw).map prD))) e'/\hx=h1.set 0 (dtO (es++pre.map λp=>(p,s+1)))) (fdN T s es tw)
  (τZ T hh.length a b (some (au (s+1))) (some (au es.length)) (some (.rol ((fdN T s es tw).map prD))) e) h1 ?_ ⟨e,rfl,by
   rw[List.map_nil,List.append_nil];refine List.ext_getElem? λj=>?_;rw[List.getElem?_set]
   split
   .rename_i z;subst z;rw[if_pos (List.getElem?_eq_some_iff.mp h10).1,h10]
   .rfl⟩
 .obtain⟨τ',h',el,e',rfl,rfl⟩:=lp;refine⟨hh.length,h1.set 0 (dtO (es++(fdN T s es tw).map λp=>(p,s+1))),e',?_,by lia,?_,?_,λo ho=>?_⟩
  .unfold qg;refine Eq.trans (jl (xx (bc rfl) ((alj h0).trans (by rw[List.length_map])))) ?_
   refine Eq.trans (xg (ak5 (a:=au s) (d:=au (s+1)) rfl ckk rfl)) ?_;refine Eq.trans (jl (c1 _ rfl rfl)) ?_;refine Eq.trans (jl (c2 _ rfl rfl rfl)) ?_;exact Eq.trans (a5g (ag9 (bc rfl) rfl)) el
  .rw[List.getElem?_set_self (List.getElem?_eq_some_iff.mp h10).1];rfl
  .rw[List.getElem?_set_ne (by lia)];exact h1i
  .rcases List.mem_or_eq_of_mem_set ho with z|z
   .exact ch1 o z
   .rw[z];exact a5e _ _
 .rintro pre p post τ hx all ⟨e',rfl,rfl⟩
  refine⟨_,_,rfl,_,_,?_,some (prD p),rfl,rfl⟩;have h1l:=(List.getElem?_eq_some_iff.mp h10).1;have pl:pre.length<=(fdN T s es tw).length:=by rw[all];simp
  have nw:fnd (es++pre.map λp=>(p,s+1)) p=none:=by
   rw[yp,List.map_append]
   intro m
   rcases List.mem_append.mp m with z|z
   .have hp:p∈fdN T s es tw:=by rw[all];simp
    have:=(List.mem_filter.mp (List.mem_filter.mp hp).1).2
    rw[Option.isNone_iff_eq_none]at this;exact yp.mp this z
   .rw[List.map_map]at z;have z:p∈pre:=by simpa using z
    rw[all]at fnd';exact(List.nodup_append.mp fnd').2.2 p z p List.mem_cons_self rfl
  unfold v4;refine(a8t (bc (i:=6) rfl) (bc (i:=2) rfl) (bc (i:=9) rfl) (a7k au (i:=0) (es:=es++pre.map λp=>(p,s+1)) (v:=s+1) (List.getElem?_set_self h1l) nw (zf (by rw[List.length_append,List.length_map];lia)))).trans ?_
  rw[List.set_set,List.map_append (l₁:=pre),<-List.append_assoc];rfl
theorem aki(h:T.Ok):∃es,SzA T es/\Pu jo 2 [goD T,ksD T] (tbD au es):=by
 have n32:=h.n32;have n1:=h.n1;obtain⟨a',b',e1⟩:=akg h (a:=none) (b:=none) (c:=none) (d:=none) (e:=none) (f:=none);have w:=acf (c:=v6 bf) (f:=qg bf)
  (λm τ hh=>∃(s i:Nat) (M:Int) (es:Es Nat) (tw:List (Nat×Nat)) (e f:Option D),τ=τZ T i a' b' (some (au s)) (some (.int M)) e f/\Sz T s es/\Tw T s tw/\hh[0]? = some (dtO es)/\1<=i/\hh[i]? = some (.lst (tw.map prD))/\(∀o∈hh,a00 0 o) /\ -1<=M/\M<=496/\(s:Int)<=M+1/\m=(500-M).toNat/\((es.length:Int)<=M->1<=s/\∀e∈es,e.2<=s-1))
  (λτ hh=>∃(s i:Nat) (M:Int) (es:Es Nat) (e f:Option D),τ=τZ T i a' b' (some (au s)) (some (.int M)) e f/\Sz T s es/\hh[0]? = some (dtO es)/\(∀o∈hh,a00 0 o)/\1<=s/\s<=497/\∀e∈es,e.2<=s-1)
  (λ_ _=>False) ?_ 501 100000 (τZ T 1 a' b' (some (au 0)) (some (.int (-1))) none none) (hZ (e0 T (prs T.go.length)) (prs T.go.length)) (by lia)
  ⟨0,1,-1,_,_,none,none,rfl,sz0 T,⟨a4y _,λp hp=>hp,λp hp _=>hp⟩,rfl,by lia,rfl,by
   intro o ho
   simp only[List.mem_cons,List.not_mem_nil,or_false]at ho
   rcases ho with rfl|rfl
   .exact a5e _ _
   .exact abi _,by lia,by lia,by lia,rfl,λz=>by lia⟩
 .rcases w with⟨τ',h',ew,s,i,M,es,e,f,rfl,Z,h0,ch,s1,s2,lo⟩|⟨_,_,_,z⟩
  .obtain⟨s,rfl⟩:∃t,s=t+1:=⟨s-1,by lia⟩
   rw[Nat.add_sub_cancel]at lo;have same:=aq9 Z lo;refine⟨es,⟨Z.nd,Z.up,λe he=>⟨by have:=lo e he;lia,(Z.lv e he).2⟩,λk a b ab bn q=>?_,Z.few h⟩,?_⟩
   .have ks:Bq T s a b=true:=by
     by_cases c:k<=s
     .exact a5d c q
     .exact agp (n:=T.go.length) (λa c _ _=>vz h a c) same (k-s) a b (by lia) bn (by rw[show s+(k-s)=k by lia];exact q)
    exact Z.all a b ab bn (aq1 ks)
   .have cd:MI.clo 0 (tbD au es):=by
     show clos 0 ((es.map (kvP au)).map (·.2));exact a5e 0 es
    refine Pu.of rfl (by intro x hx;simp only[List.mem_cons,List.not_mem_nil,or_false]at hx;rcases hx with rfl|rfl;exact agu;exact aq5) (r:=.ok (.ref 0) h') ?_ (a2l (ago (k:=18) (Nat.le_refl _) h0 (a5e 0 es)) (by simp)) cd
    unfold jo;rw[fu];show toR (yz bf [some (goD T),some (ksD T),none,none,none,none,none,none,none,none] [])=_;unfold yz;refine etr (jl (d:=.ref 0) (h1:=[.dT []]) rfl) ?_;refine etr (jl (d:=.ref 1) (h1:=hZ [] []) rfl) ?_;refine etr (e1 _) ?_;refine etr (jl ckk) ?_;refine etr (jl (d:=.int (-1)) (ayw ckk (apo _))) ?_;refine etr (xg ew) ?_;exact congrArg toR (vq (bc (i:=2) rfl))
  .exact z.elim
 .rintro m τ hh ⟨s,i,M,es,tw,e,f,rfl,Z,W,h0,i1,hi,ch,m1,m2,sM,rfl,stb⟩
  have ef:=Z.few h;have tc:v6 bf (τZ T i a' b' (some (au s)) (some (.int M)) e f) hh=.ok (decide (M<(es.length:Nat))) hh :=
   t2s (bc (i:=7) rfl) (xx (bc (i:=2) rfl) ((alj h0).trans (by rw[List.length_map]))) rfl
  by_cases q:M<(es.length:Nat)
  .rw[decide_eq_true q]at tc;refine .inr ⟨_,tc,.inl ?_⟩;obtain⟨i',hh',e',et,i1',h0',hi',ch'⟩:=acz h (a:=a') (b:=b') (c:=some (.int M)) (d:=e) (e:=f) Z W h0 i1 hi ch;refine⟨_,hh',_,et,?_,s+1,i',es.length,esN T s es tw,twN es tw,_,e',rfl,aq8 Z W,aq7 Z W,h0',i1',hi',ch',by lia,by lia,by lia,rfl,λz=>⟨by lia,λx hx=>?_⟩⟩
   .lia
   .have:(fdN T s es tw)=[]:=by
     unfold esN at z;rw[List.length_append,List.length_map]at z;exact List.length_eq_zero_iff.mp (by lia)
    unfold esN at hx;rw[this,List.map_nil,List.append_nil]at hx;rw[Nat.add_sub_cancel];exact(Z.lv x hx).1
  .rw[decide_eq_false q]at tc;obtain⟨s1,lo⟩:=stb (by lia)
   exact .inl ⟨_,tc,s,i,M,es,e,f,rfl,Z,h0,ch,s1,by lia,lo⟩
end
theorem agy{g:SG}{b:SS}{α:Type}(f:α->D)(I J:Sd->Hd->Prop):∀(pre:List α) (x:α) (post:List α) (τ:Sd) (h:Hd),
  (∀y∈pre,∀τ h,I τ h->∃τ1 h1,g (f y) τ h=.nx τ1 h1/\∃τ2 h2,b τ1 h1=.nx τ2 h2/\I τ2 h2)->
  (∀τ h,I τ h->∃τ1 h1,g (f x) τ h=.nx τ1 h1/\∃τ2 h2,b τ1 h1=.bk τ2 h2/\J τ2 h2)->I τ h->
  ∃τ' h',forL (λ_=>True) g b ((pre++x::post).map f) τ h=.nx τ' h'/\J τ' h'
 |[],x,post,τ,h,_,lst,i0=>by
  obtain⟨τ1,h1,e1,τ2,h2,e2,j⟩:=lst τ h i0;refine⟨τ2,h2,?_,j⟩;rw[List.nil_append,List.map_cons,a4p _ _ _ _ _ _ _ _ e1,e2];rfl
 |y::pre,x,post,τ,h,st,lst,i0=>by
  obtain⟨τ1,h1,e1,τ2,h2,e2,i2⟩:=st y List.mem_cons_self τ h i0;obtain⟨τ',h',e,j⟩:=agy f I J pre x post τ2 h2 (λz hz=>st z (List.mem_cons_of_mem _ hz)) lst i2;refine⟨τ',h',?_,j⟩;rw[List.cons_append,List.map_cons,a4p _ _ _ _ _ _ _ _ e1,e2,ale];exact e
section
variable{T:Table}
theorem SzA.get{es:Es Nat}(Z:SzA T es){a b v:Nat}(ha:a<T.go.length)(hb:b<T.go.length):fnd es (min a b,max a b)=some v↔Lv T v a b:=by
 have mm:∀v,Lv T v (min a b) (max a b)↔Lv T v a b:=λv=>by
  rcases Nat.le_total a b with z|z
  .rw[Nat.min_eq_left z,Nat.max_eq_right z]
  .rw[Nat.min_eq_right z,Nat.max_eq_left z];exact abg
 constructor
 .intro h
  have:=(Z.lv _ ((a1v Z.nd).mp h)).2
  exact(mm v).mp this
 .intro h
  have ne:=aq3 h;have m:=Z.all v (min a b) (max a b) (by lia) (by lia) ((mm v).mpr h).1
  cases q:fnd es (min a b,max a b) with
  |none=>exact absurd m (yp.mp q)
  |some w =>
   have:=(mm w).mp (Z.lv _ ((a1v Z.nd).mp q)).2
   rw[abf this h]
noncomputable def lvB(T:Table)(k a b:Nat):Bool:=Bq T k a b && (List.range k).all λj => !Bq T j a b
theorem uw{k a b:Nat}:lvB T k a b=true↔Lv T k a b:=by
 unfold lvB Lv;rw[Bool.and_eq_true,List.all_eq_true]
 constructor
 .rintro⟨x,y⟩;exact⟨x,λj hj=>by simpa using y j (List.mem_range.mpr hj)⟩
 .rintro⟨x,y⟩;exact⟨x,λj hj=>by rw[y j (List.mem_range.mp hj)];rfl⟩
noncomputable def wdP(T:Table):Nat->Nat->Nat->List Nat
 |0,_,_=>[]
 |k+1,x,y=>match (List.range T.tg.length).find? λc=>lvB T k (stp T x c) (stp T y c) with
  |some c=>tgA T c::wdP T k (stp T x c) (stp T y c)
  |none=>[]
theorem agz{k x y:Nat}(h:Lv T (k+1) x y):∃c pre post,List.range T.tg.length=pre++c::post/\(∀d∈pre,lvB T k (stp T x d) (stp T y d)=false)/\Lv T k (stp T x c) (stp T y c)/\wdP T (k+1) x y=tgA T c::wdP T k (stp T x c) (stp T y c):=by
 obtain⟨c,hc,l⟩:=aa6 h
 cases q:(List.range T.tg.length).find? λc=>lvB T k (stp T x c) (stp T y c) with
 |none=>exact absurd (uw.mpr l) (List.find?_eq_none.mp q c (List.mem_range.mpr hc))
 |some d =>
  obtain⟨pd,pre,post,e,np⟩:=List.find?_eq_some_iff_append.mp q;refine⟨d,pre,post,e,λa ha=>by simpa using np a ha,uw.mp pd,?_⟩
  show(match (List.range T.tg.length).find? λc=>lvB T k (stp T x c) (stp T y c) with|some c=>tgA T c::wdP T k (stp T x c) (stp T y c)|none=>[])=_
  rw[q]
theorem am0:∀{k x y:Nat},Lv T k x y->(wdP T k x y).length=k/\∀c∈wdP T k x y,c∈T.tg
 |0,x,y,h=>⟨rfl,by simp[wdP]⟩
 |k+1,x,y,h=>by
  obtain⟨c,pre,post,e,_,l,ew⟩:=agz h;obtain⟨h1,h2⟩:=am0 l;have hc:c<T.tg.length:=List.mem_range.mp (by rw[e];simp)
  rw[ew];refine⟨by rw[List.length_cons,h1],λd hd=>?_⟩
  rcases List.mem_cons.mp hd with rfl|hd
  .exact List.mem_of_getElem? (a8x hc)
  .exact h2 d hd
noncomputable def bx:SF:=ou ul 13
noncomputable def pwD(T:Table)(es:Es Nat)(x y:Nat):D:=match fnd es (min x y,max x y) with
 |some v=>.str (S (wdP T v x y))
 |none=>.non
theorem a90{es:Es Nat}{x y:Nat}:MI.clo 0 (pwD T es x y):=by unfold pwD;split;exact ud _;exact a9w
noncomputable abbrev τW(T:Table)(es:Es Nat)(x y:Nat)(w:List Nat)(a b c d e:Option D):Sd:=[some T.d,some (tbD au es),some (au x),some (au y),some (.str (S T.tg)),some (goD T),some (ksD T),some (.str (S w)),a,b,c,d,e]
theorem a91(h:T.Ok){es:Es Nat}(Z:SzA T es){x y k c:Nat}{w:List Nat}{d e:Option D}(hx:x<T.go.length)(hy:y<T.go.length)(hc:c<T.tg.length)(wl:w.length<=1000) :
  lq (τW T es x y w (some (au (k+1))) (some (au c)) (some (.str (S [tgA T c]))) d e) []=if lvB T k (stp T x c) (stp T y c)=true then .bk (τW T es (stp T x c) (stp T y c) (w++[tgA T c]) (some (au (k+1))) (some (au c)) (some (.str (S [tgA T c]))) (some (au (stp T x c))) (some (au (stp T y c)))) [] else .nx (τW T es x y w (some (au (k+1))) (some (au c)) (some (.str (S [tgA T c]))) (some (au (stp T x c))) (some (au (stp T y c)))) []:=by
 have row:∀{r:Nat},r<T.go.length->∀hh:Hd,gIx (a3y (rw' T r)) (au c) hh=.ok (au (stp T r c)) hh:=λ{r} hr hh=>a6b (by rw[List.getElem?_map,RCH.a6d h hr,List.getElem?_map,List.getElem?_range hc];rfl)
 unfold lq;refine Eq.trans (jl (n8 (n8 (bc (i:=5) rfl) (bc (i:=2) rfl) (xj h hx _)) (bc (i:=9) rfl) (row hx _))) ?_;refine Eq.trans (jl (n8 (n8 (bc (i:=5) rfl) (bc (i:=3) rfl) (xj h hy _)) (bc (i:=9) rfl) (row hy _))) ?_;have gt:a5m (sV 1) (sA MI.vf (aj (sA a0x (aj (sV 11) (aj (sV 12) bj))) (aj (sA a0w (aj (sV 11) (aj (sV 12) bj))) bj))) (τW T es x y w (some (au (k+1))) (some (au c)) (some (.str (S [tgA T c]))) (some (au (stp T x c))) (some (au (stp T y c)))) []=.ok (((fnd es (min (stp T x c) (stp T y c),max (stp T x c) (stp T y c))).map au).getD .non) []:=by
  unfold a5m;rw[bc (d:=tbD au es) rfl,az];show((sA MI.vf _) _ _).bind _=_;rw[sr (sr (bc (i:=11) rfl) (bc (i:=12) rfl) (ags _ _ _)) (sr (bc (i:=11) rfl) (bc (i:=12) rfl) (agt _ _ _)) a8v,az];unfold a9z;rw[show(D.tup [au (min (stp T x c) (stp T y c)),au (max (stp T x c) (stp T y c))])=prD (min (stp T x c) (stp T y c),max (stp T x c) (stp T y c)) from rfl,a4z au]
 have tt:sT (s2 hEq (a5m (sV 1) (sA MI.vf (aj (sA a0x (aj (sV 11) (aj (sV 12) bj))) (aj (sA a0w (aj (sV 11) (aj (sV 12) bj))) bj)))) (s2 a6h (sV 8) (sI 1))) (τW T es x y w (some (au (k+1))) (some (au c)) (some (.str (S [tgA T c]))) (some (au (stp T x c))) (some (au (stp T y c)))) []=.ok (lvB T k (stp T x c) (stp T y c)) []:=by
  refine(tof (t:=lvB T k (stp T x c) (stp T y c)) (n8 gt (n8 (bc (i:=8) rfl) ckk (a6c _ _)) ?_));rw[show D.int (((k+1:Nat):Int)-1)=au k by show D.int _=D.int _;congr 1;lia]
  cases q:fnd es (min (stp T x c) (stp T y c),max (stp T x c) (stp T y c)) with
  |none =>
   have:lvB T k (stp T x c) (stp T y c)=false:=by
    cases z:lvB T k (stp T x c) (stp T y c) with
    |false=>rfl
    |true=>rw[(Z.get (vz h _ _) (vz h _ _)).mpr (uw.mp z)]at q;cases q
   rw[this];rfl
  |some v =>
   have lv:=(Z.get (vz h _ _) (vz h _ _)).mp q;have:lvB T k (stp T x c) (stp T y c)=decide (v=k):=by
    by_cases e:v=k
    .rw[decide_eq_true e,uw,<-e];exact lv
    .rw[decide_eq_false e]
     cases z:lvB T k (stp T x c) (stp T y c) with
     |false=>rfl
     |true=>exact absurd (abf lv (uw.mp z)) e
   rw[this];show hEq (au v) (au k) []=_;rw[K40.ax0]
   congr 2
   exact decide_eq_decide.mpr (by lia)
 cases q:lvB T k (stp T x c) (stp T y c) with
 |true =>
  rw[q]at tt;rw[if_pos rfl];refine Eq.trans (ifT tt) ?_;refine Eq.trans (jl (n8 (bc (i:=7) rfl) (bc (i:=10) rfl) (aa0 (dz (by rw[List.length_singleton];lia))))) ?_
  refine Eq.trans (jl (bc (i:=11) rfl)) ?_;exact Eq.trans (jl (bc (i:=12) rfl)) rfl
 |false =>
  rw[q]at tt;rw[if_neg (by simp)]
  exact(ifF tt).trans rfl
theorem aqa(hh:Hd)(tl:T.tg.length<=1000):a9u (.str (S T.tg)) hh=.ok ⟨(List.range T.tg.length).map λc=>.tup [au c,.str (S [tgA T c])],λ_=>True⟩ hh:=by
 unfold a9u srcOf zq;simp only[a7b]
 congr 2
 rw[List.length_map];refine List.ext_getElem? λi=>?_;simp only[List.getElem?_map,List.getElem?_zip_eq_some,List.zip,List.getElem?_zipWith]
 by_cases hi:i<T.tg.length
 .rw[List.getElem?_range hi,a8x hi];rfl
 .rw[List.getElem?_eq_none (by rw[List.length_range];lia)];rfl
theorem a6e(h:T.Ok){es:Es Nat}(Z:SzA T es){x y:Nat}(hx:x<T.go.length)(hy:y<T.go.length):Pu bx 4 [T.d,tbD au es,au x,au y] (pwD T es x y):=by
 have n32:=h.n32;have t6:=h.tong.hi;have cd:MI.clo 0 (tbD au es):=a5e 0 es;refine Pu.of rfl (K40.ak9 Table.clo cd (bw _) (bw _)) (r:=.ok (pwD T es x y) []) ?_ (jb a90 (by simp)) a90
 unfold bx;rw[fu];show toR (ul [some T.d,some (tbD au es),some (au x),some (au y),none,none,none,none,none,none,none,none,none] [])=_;unfold ul;have a0:a7l (sV 0) (a2a 3 (g8 (kN 4) (g8 (kN 5) (g8 (kN 6) a2j)))) [some T.d,some (tbD au es),some (au x),some (au y),none,none,none,none,none,none,none,none,none] []=.nx [some T.d,some (tbD au es),some (au x),some (au y),some (.str (S T.tg)),some (goD T),some (ksD T),none,none,none,none,none,none] []:=aa4 (bc rfl) rfl;refine etr (xg a0) ?_;have kt:∀{τ:Sd},τ[2]? = some (some (au x))->τ[3]? = some (some (au y))->sA MI.vf (aj (sA a0x (aj (sV 2) (aj (sV 3) bj))) (aj (sA a0w (aj (sV 2) (aj (sV 3) bj))) bj)) τ []=.ok (prD (min x y,max x y)) []:=λh2 h3=>sr (sr (bc h2) (bc h3) (ags _ _ _)) (sr (bc h2) (bc h3) (agt _ _ _)) a8v
 have din:a3r true (prD (min x y,max x y)) (tbD au es) []=.ok (.bl (fnd es (min x y,max x y)).isNone) []:=by
  unfold a3r;rw[a4z au];show R.ok (D.bl (!((fnd es (min x y,max x y)).map au).isSome)) _=_;rw[Option.isSome_map]
  cases fnd es (min x y,max x y)<;>rfl
 unfold pwD
 cases q:fnd es (min x y,max x y) with
 |none =>
  rw[q]at din;exact congrArg toR (ayu (Eq.trans (ifT (t2s (kt rfl rfl) (bc (i:=1) rfl) din)) (vq ckk)))
 |some v =>
  rw[q]at din;have l0:=(Z.get hx hy).mp q;have v5:=(Z.lv _ ((a1v Z.nd).mp q)).1;have dg:a0y (tbD au es) (prD (min x y,max x y)) []=.ok (au v) []:=by
   unfold a0y;rw[a4z au,q];rfl
  refine eti (t2s (kt rfl rfl) (bc (i:=1) rfl) din) ?_;refine etr (jl ckk) ?_;have it:sRg a9v (aj (s2 a0y (sV 1) (sA MI.vf (aj (sA a0x (aj (sV 2) (aj (sV 3) bj))) (aj (sA a0w (aj (sV 2) (aj (sV 3) bj))) bj)))) (aj (sI 0) (aj (s1 ad8 (sI 1)) bj))) (τW T es x y [] none none none none none) []=.ok ⟨(List.range v).map λi=>D.int ((v:Int)-(i:Nat)),λ_=>True⟩ []:=by
   unfold sRg;rw[cns (n8 (bc (i:=1) rfl) (kt rfl rfl) dg) (cns ckk (cns (ayw ckk (apo _)) rfl)),az];unfold a9v;dsimp only;rw[if_pos ⟨rfl,ak1 (by lia) (by lia),ak1 (by lia) (by lia)⟩]
   unfold aqn;rw[show((v:Int)-0).toNat=v by lia]
  have lp:=kj (g:=kN 8) (b:=qp) (λi:Nat=>D.int ((v:Int)-(i:Nat)))
   (λpre τ hh=>∃(x' y':Nat) (w:List Nat) (a b c d e:Option D),τ=τW T es x' y' w a b c d e/\hh=[]/\x'<T.go.length/\y'<T.go.length/\Lv T (v-pre.length) x' y'/\w.length=pre.length/\wdP T v x y=w++wdP T (v-pre.length) x' y') (List.range v) (τW T es x y [] none none none none none) [] ?_ ⟨x,y,[],none,none,none,none,none,rfl,rfl,hx,hy,l0,rfl,rfl⟩
  .obtain⟨τ',h',el,x',y',w,a,b,c,d,e,rfl,rfl,_,_,_,_,ew⟩:=lp;rw[List.length_range,Nat.sub_self]at ew;rw[show wdP T 0 x' y'=[] from rfl,List.append_nil]at ew
   refine etr (a3f it) ?_;refine Eq.trans (congrArg (λz=>toR (MI.thn z _)) el) ?_;show _=R.ok (D.str (S (wdP T v x y))) [];rw[ew];exact congrArg toR (vq (bc (i:=7) rfl))
  .rintro pre i post τ hh all ⟨x',y',w,a,b,c,d,e,rfl,rfl,hx',hy',l1,wl,ew⟩
   have hi:i=pre.length/\i<v:=a1l all;obtain⟨k,hk⟩:∃k,v-pre.length=k+1:=⟨v-pre.length-1,by lia⟩
   rw[hk]at l1 ew;obtain⟨c0,pr,po,er,np,l2,ew2⟩:=agz l1;have hc0:c0<T.tg.length:=List.mem_range.mp (by rw[er];simp)
   have e8:D.int ((v:Int)-(i:Nat))=au (k+1):=by show D.int _=D.int _;congr 1;lia
   refine⟨_,_,rfl,?_⟩;rw[e8];obtain⟨τ',h',el,J⟩:=agy (g:=a2a 2 (g8 (kN 9) (g8 (kN 10) a2j))) (b:=lq) (λc=>D.tup [au c,.str (S [tgA T c])])
    (λτ hh=>∃(b c d e:Option D),τ=τW T es x' y' w (some (au (k+1))) b c d e/\hh=[])
    (λτ hh=>∃(b c d e:Option D),τ=τW T es (stp T x' c0) (stp T y' c0) (w++[tgA T c0]) (some (au (k+1))) b c d e/\hh=[])
    pr c0 po (τW T es x' y' w (some (au (k+1))) b c d e) []
    (λc1 hc1 τ hh ⟨b,c,d,e,eτ,eh⟩=>by
     subst eτ eh;have hc2:c1<T.tg.length:=List.mem_range.mp (by rw[er];exact List.mem_append_left _ hc1)
     refine⟨_,_,rfl,_,_,(a91 h Z (k:=k) hx' hy' hc2 (by lia)).trans (by rw[np c1 hc1,if_neg (by simp)]),_,_,_,_,rfl,rfl⟩)
    (λτ hh ⟨b,c,d,e,eτ,eh⟩=>by
     subst eτ eh;refine⟨_,_,rfl,_,_,(a91 h Z (k:=k) hx' hy' hc0 (by lia)).trans (by rw[uw.mpr l2,if_pos rfl]),_,_,_,_,rfl,rfl⟩)
    ⟨b,c,d,e,rfl,rfl⟩
   obtain⟨b',c',d',e',rfl,rfl⟩:=J;refine⟨_,_,?_,stp T x' c0,stp T y' c0,w++[tgA T c0],some (au (k+1)),b',c',d',e',rfl,rfl,vz h _ _,vz h _ _,?_,?_,?_⟩
   .unfold qp;have ie:a3m (sV 4) (τW T es x' y' w (some (au (k+1))) b c d e) []=.ok ⟨(pr++c0::po).map λc=>.tup [au c,.str (S [tgA T c])],λ_=>True⟩ []:=by
     unfold a3m;rw[bc (d:=.str (S T.tg)) rfl,az,aqa [] (by lia),er]
    exact Eq.trans (a5g ie) el
   .rw[List.length_append,List.length_singleton,show v-(pre.length+1)=k by lia];exact l2
   .rw[List.length_append,List.length_append,wl];rfl
   .rw[List.length_append,List.length_singleton,show v-(pre.length+1)=k by lia,ew,ew2,List.append_assoc];rfl
end
section
variable{T:Table}
noncomputable abbrev sD(w:List Nat):D:=.str (S w)
end
end K30
namespace K28
open L2 MI AT HND K22 K23 PRS K30
section
variable{T:Table}
theorem aqb{k a b:Nat}:lvB T k a b=lvB T k b a:=by
 rw[Bool.eq_iff_iff,uw,uw];exact abg
theorem am1:∀{k x y:Nat},wdP T k x y=wdP T k y x
 |0,_,_=>rfl
 |k+1,x,y=>by
  unfold wdP;rw[show(λc=>lvB T k (stp T x c) (stp T y c))=λc=>lvB T k (stp T y c) (stp T x c) from funext λc=>aqb]
  cases (List.range T.tg.length).find? λc=>lvB T k (stp T y c) (stp T x c) with
  |none=>rfl
  |some c=>show _::_=_::_;rw[am1]
noncomputable def mk(T:Table)(k:Nat)(ps:List (Nat×Nat)):Es (List Nat):=(ps.filter λp=>lvB T k p.1 p.2).map λp=>(p,wdP T k p.1 p.2)
noncomputable def wk(T:Table):Nat->Es (List Nat)
 |0=>[]
 |k+1=>wk T k++mk T k (prs T.go.length)
theorem abj{k:Nat}{ps:List (Nat×Nat)}:(mk T k ps).map (·.1)=ps.filter λp=>lvB T k p.1 p.2:=by
 unfold mk;rw[List.map_map];exact List.map_id _
theorem ah0{k:Nat}{ps:List (Nat×Nat)}{p:Nat×Nat}{w:List Nat}:(p,w)∈mk T k ps↔p∈ps/\Lv T k p.1 p.2/\w=wdP T k p.1 p.2:=by
 unfold mk
 constructor
 .intro h
  obtain⟨q,hq,e⟩:=List.mem_map.mp h;obtain⟨h1,h2⟩:=List.mem_filter.mp hq;cases e
  exact⟨h1,uw.mp h2,rfl⟩
 .rintro⟨h1,h2,rfl⟩
  exact List.mem_map.mpr ⟨p,List.mem_filter.mpr ⟨h1,uw.mpr h2⟩,rfl⟩
theorem a6f{p:Nat×Nat}{w:List Nat}:∀{k:Nat},(p,w)∈wk T k↔p∈prs T.go.length/\∃j,j<k/\Lv T j p.1 p.2/\w=wdP T j p.1 p.2
 |0=>⟨λh=>(by cases h),λ⟨_,j,hj,_⟩=>absurd hj (Nat.not_lt_zero j)⟩
 |k+1=>by
  show(p,w)∈wk T k++mk T k (prs T.go.length)↔_;rw[List.mem_append,a6f,ah0]
  constructor
  .rintro(⟨h1,j,h2,h3⟩|⟨h1,h2⟩)
   .exact⟨h1,j,by lia,h3⟩
   .exact⟨h1,k,by lia,h2⟩
  .rintro⟨h1,j,h2,h3⟩
   by_cases e:j=k
   .subst e;exact .inr ⟨h1,h3⟩
   .exact .inl ⟨h1,j,by lia,h3⟩
theorem ad0:∀k,((wk T k).map (·.1)).Nodup
 |0=>List.nodup_nil
 |k+1=>by
  show((wk T k++mk T k (prs T.go.length)).map (·.1)).Nodup;rw[List.map_append,List.nodup_append];refine⟨ad0 k,by rw[abj];exact(a4y _).filter _,λx hx y hy e=>?_⟩
  obtain⟨⟨p,w⟩,h1,rfl⟩:=List.mem_map.mp hx;obtain⟨⟨q,v⟩,h2,rfl⟩:=List.mem_map.mp hy;obtain⟨_,j,hj,l,_⟩:=a6f.mp h1;obtain⟨_,l2,_⟩:=ah0.mp h2;have e:p=q:=e;subst e;have:=abf l l2;lia
theorem am2(h:T.Ok){k:Nat}:(wk T k).length<=496:=by
 have:=a1u (ad0 (T:=T) k) (t:=prs T.go.length) λx hx=>by
  obtain⟨⟨p,w⟩,h1,rfl⟩:=List.mem_map.mp hx;exact(a6f.mp h1).1
 rw[List.length_map]at this;exact Nat.le_trans this (a0r h.n32)
theorem abk{k a b:Nat}{w:List Nat}(ha:a<T.go.length)(hb:b<T.go.length):fnd (wk T k) (min a b,max a b)=some w↔∃j,j<k/\Lv T j a b/\w=wdP T j a b:=by
 have mm:∀v,Lv T v (min a b) (max a b)↔Lv T v a b:=λv=>by
  rcases Nat.le_total a b with z|z
  .rw[Nat.min_eq_left z,Nat.max_eq_right z]
  .rw[Nat.min_eq_right z,Nat.max_eq_left z];exact abg
 have ww:∀v,wdP T v (min a b) (max a b)=wdP T v a b:=λv=>by
  rcases Nat.le_total a b with z|z
  .rw[Nat.min_eq_left z,Nat.max_eq_right z]
  .rw[Nat.min_eq_right z,Nat.max_eq_left z];exact am1
 rw[a1v (ad0 k),a6f]
 constructor
 .rintro⟨_,j,hj,l,e⟩
  exact⟨j,hj,(mm j).mp l,e.trans (ww j)⟩
 .rintro⟨j,hj,l,e⟩
  have ne:=aq3 l;exact⟨qx.mpr ⟨by lia,by lia⟩,j,hj,(mm j).mpr l,e.trans (ww j).symm⟩
theorem avz{k:Nat}{p:Nat×Nat}(hp:p∈prs T.go.length):(fnd (wk T (k+1)) p).isNone = !Bq T k p.1 p.2:=by
 cases q:fnd (wk T (k+1)) p with
 |none =>
  cases z:Bq T k p.1 p.2 with
  |false=>rfl
  |true =>
   obtain⟨j,hj,l⟩:=aq2 z;have:=a6f.mpr ⟨hp,j,(by lia:j<k+1),l,rfl⟩
   rw[(a1v (ad0 (k+1))).mpr this]at q;cases q
 |some w =>
  obtain⟨_,j,hj,l,_⟩:=a6f.mp ((a1v (ad0 (k+1))).mp q);rw[a5d (by lia) l.1]
  rfl
theorem aw0{k:Nat}(h:T.Ok)(e:mk T k (prs T.go.length)=[]){a b v:Nat}(ha:a<T.go.length)(hb:b<T.go.length)(l:Lv T v a b):v<k:=by
 have no:∀a b,a<T.go.length->b<T.go.length->¬ Lv T k a b:=by
  have go:∀a b,a<b->b<T.go.length->¬ Lv T k a b:=λa b h1 h2 l=>by
   have:((a,b),wdP T k a b)∈mk T k (prs T.go.length):=ah0.mpr ⟨qx.mpr ⟨h1,h2⟩,l,rfl⟩
   rw[e]at this;cases this
  intro a b ha hb l
  have ne:=aq3 l
  rcases Nat.lt_or_ge a b with z|z
  .exact go a b z hb l
  .exact go b a (by lia) ha (abg.mp l)
 rcases Nat.lt_or_ge v k with z|z
 .exact z
 .have q:=agp (T:=T) (n:=T.go.length) (k:=k) (λa c ha hc=>vz h a c) (λa b ha hb q=>?_) (v-k) a b ha hb (by rw[show k+(v-k)=v by lia];exact l.1)
  .obtain⟨j,hj,l2⟩:=aq2 q;have:=abf l l2;have:v=k:=by lia
   subst this;exact absurd l (no a b ha hb)
  .obtain⟨j,hj,l2⟩:=aq2 q
   by_cases jk:j<=k
   .exact a5d jk l2.1
   .have:j=k+1:=by lia
    subst this;obtain⟨c,hc,l3⟩:=aa6 l2;exact absurd l3 (no _ _ (vz h _ _) (vz h _ _))
end
end K28
namespace K28
open L2 MI AT HND K22 K23 PRS K30
open STP (zj zpD zg)
open K40 (rw' a0q xj go1 a5g)
open RCH (xm)
theorem akj{F:SF}{a c v:D}{o:O}(ca:MI.clo 0 a)(cc:MI.clo 0 c)(co:a00 0 o)(ef:F [a,.ref 0,c] [o]=.ok v [o])(cv:MI.clo 0 v)(p:Nat)(h:Hd)(hp:h[p]? = some o):gq false 3 F [a,.ref p,c] h=.ok v h:=by
 have nr:∀{x:D},MI.clo 0 x->refOf x=none:=λ{x} cx=>by cases x<;>first|rfl|(simp only[MI.clo]at cx;lia)
 have e1:a1f [a,.ref p,c]=[p]:=by
  show[a,D.ref p,c].filterMap refOf=[p];rw[List.filterMap_cons,nr ca];show p::[c].filterMap refOf=_;rw[List.filterMap_cons,nr cc];rfl
 have rn:∀{x:D} {n:Nat} {l:List D},MI.clo 0 x->wz n (x::l)=x::wz n l:=λ{x n l} cx=>by cases x<;>first|rfl|(simp only[MI.clo]at cx;lia)
 have e2:wz 0 [a,.ref p,c]=[a,.ref 0,c]:=by
  rw[rn ca];show a::.ref 0::wz 1 [c]=_;rw[rn cc];rfl
 unfold gq;rw[if_pos (show[a,D.ref p,c].length=3 from rfl)]
 unfold ao7;rw[e1];simp only[zm,hp,List.length_singleton,Bool.false_eq_true,if_false];have all:∀y∈[a,D.ref p,c],MI.clo 0 y\/isRef y:=λy hy=>by
  simp only[List.mem_cons,List.not_mem_nil,or_false]at hy
  rcases hy with rfl|rfl|rfl
  .exact .inl ca
  .exact .inr ⟨p,rfl⟩
  .exact .inl cc
 have z:a9s 1 (.ok v [o])=.ok v [o]:=jb (a4n (Nat.zero_le 1) cv) (by intro u hu;rw[show([o]:Hd).take 1=[o] from rfl,List.mem_singleton]at hu;subst hu;exact qu (by lia) co)
 rw[if_pos ⟨by simp,all,λu hu=>by rw[List.mem_singleton.mp hu];exact co⟩,e2,ef,z]
 have es:h.set p o=h:=by
  refine List.ext_getElem? λi=>?_;rw[List.getElem?_set]
  split
  .rename_i q;subst q;rw[if_pos (List.getElem?_eq_some_iff.mp hp).1,hp]
  .rfl
 simp[cv,co,qy,es]
section
variable{T:Table}
noncomputable abbrev yq(es:Es (List Nat)):O:=.dT (es.map (kvP sD))
theorem a3j(n:Nat)(es:Es (List Nat)):a00 n (yq es):=by
 show clos n ((es.map (kvP sD)).map (·.2));rw[List.map_map];exact bz λe _=>ud _
noncomputable abbrev tpD(T:Table)(x y c:Nat):D:=.tup [.str (S [tgA T c]),au (stp T x c),au (stp T y c)]
theorem akk:zq (S T.tg)=(List.range T.tg.length).map λc=>D.str (S [tgA T c]):=by
 unfold zq;rw[a7b];refine List.ext_getElem? λi=>?_;simp only[List.getElem?_map]
 by_cases hi:i<T.tg.length
 .rw[List.getElem?_range hi,a8x hi];rfl
 .rw[List.getElem?_eq_none (l:=T.tg) (by lia),List.getElem?_eq_none (l:=List.range T.tg.length) (by rw[List.length_range];lia)];rfl
theorem abl{α:Type}{f g k:Nat->α}:∀l:List Nat,acr (l.map f) (l.map g) (l.map k)=l.map λc=>(f c,g c,k c)
 |[]=>rfl
 |c::l=>by rw[List.map_cons,List.map_cons,List.map_cons,acr,abl l];rfl
theorem ah1(h:T.Ok){x y:Nat}(hx:x<T.go.length)(hy:y<T.go.length){f g k:SE}{τ:Sd}{hh:Hd}(e0:f τ hh=.ok (.str (S T.tg)) hh)(e1:g τ hh=.ok (a3y (rw' T x)) hh)(e2:k τ hh=.ok (a3y (rw' T y)) hh):aju f g k τ hh=.ok ⟨(List.range T.tg.length).map (tpD T x y),λ_=>True⟩ hh:=by
 unfold aju;rw[e0,az,e1,az,e2,az];unfold apc srcOf;dsimp only;rw[RCH.a6d h hx,RCH.a6d h hy,akk,List.map_map,List.map_map,abl,List.map_map]
 congr 2
 funext _;simp
noncomputable def ak:SF:=ou uo 12
noncomputable abbrev τL(T:Table)(p:Nat×Nat)(a b c d:Option D):Sd:=[some T.d,some (.ref 0),some (prD p),some (.str (S T.tg)),some (goD T),some (ksD T),some (au p.1),some (au p.2),a,b,c,d]
noncomputable def lwD(T:Table)(k:Nat)(p:Nat×Nat):D:=if lvB T (k+1) p.1 p.2=true then sD (wdP T (k+1) p.1 p.2) else .non
theorem aqc(h:T.Ok){k c:Nat}{p:Nat×Nat}{d:Option D}(hx:p.1<T.go.length)(hy:p.2<T.go.length)(nb:Bq T k p.1 p.2=false)(hc:c<T.tg.length)(fw:∀a b,Lv T k a b->(wdP T k a b).length<=500) :
  lz (τL T p (some (.str (S [tgA T c]))) (some (au (stp T p.1 c))) (some (au (stp T p.2 c))) d) [yq (wk T (k+1))]=if lvB T k (stp T p.1 c) (stp T p.2 c)=true then .rt (sD (tgA T c::wdP T k (stp T p.1 c) (stp T p.2 c))) [yq (wk T (k+1))] else .nx (τL T p (some (.str (S [tgA T c]))) (some (au (stp T p.1 c))) (some (au (stp T p.2 c))) (some (prD (min (stp T p.1 c) (stp T p.2 c),max (stp T p.1 c) (stp T p.2 c))))) [yq (wk T (k+1))]:=by
 have sx:=vz h p.1 c;have sy:=vz h p.2 c;have lo:∀j,Lv T j (stp T p.1 c) (stp T p.2 c)->k<=j:=λj l=>by
  rcases Nat.lt_or_ge j k with z|z
  .have:Bq T (j+1) p.1 p.2=true:=by
    unfold Bq;rw[Bool.or_eq_true];exact .inr (List.any_eq_true.mpr ⟨c,List.mem_range.mpr hc,l.1⟩)
   rw[a5d (by lia) this]at nb
   cases nb
  .exact z
 unfold lz;refine Eq.trans (jl (sr (sr (bc (i:=9) rfl) (bc (i:=10) rfl) (ags _ _ _)) (sr (bc (i:=9) rfl) (bc (i:=10) rfl) (agt _ _ _)) a8v)) ?_;have din:a3r false (prD (min (stp T p.1 c) (stp T p.2 c),max (stp T p.1 c) (stp T p.2 c))) (.ref 0) [yq (wk T (k+1))]=.ok (.bl (fnd (wk T (k+1)) (min (stp T p.1 c) (stp T p.2 c),max (stp T p.1 c) (stp T p.2 c))).isSome) [yq (wk T (k+1))]:=by
  unfold a3r;rw[a5a sD (i:=0) rfl];show R.ok (D.bl ((fnd (wk T (k+1)) _).map sD).isSome) _=_;rw[Option.isSome_map]
 cases q:fnd (wk T (k+1)) (min (stp T p.1 c) (stp T p.2 c),max (stp T p.1 c) (stp T p.2 c)) with
 |none =>
  rw[q]at din;have:lvB T k (stp T p.1 c) (stp T p.2 c)=false:=by
   cases z:lvB T k (stp T p.1 c) (stp T p.2 c) with
   |false=>rfl
   |true=>rw[(abk sx sy).mpr ⟨k,by lia,uw.mp z,rfl⟩]at q;cases q
  rw[this,if_neg (by simp)]
  exact(ifF (t2s (bc (i:=11) rfl) (bc (i:=1) rfl) din)).trans rfl
 |some w =>
  rw[q]at din;obtain⟨j,hj,l,rfl⟩:=(abk sx sy).mp q;have:j=k:=by have:=lo j l;lia
  subst this;rw[uw.mpr l,if_pos rfl];have dg:a0y (.ref 0) (prD (min (stp T p.1 c) (stp T p.2 c),max (stp T p.1 c) (stp T p.2 c))) [yq (wk T (j+1))]=.ok (sD (wdP T j (stp T p.1 c) (stp T p.2 c))) [yq (wk T (j+1))]:=by
   unfold a0y;rw[a5a sD (i:=0) rfl,q];rfl
  have wl:=fw _ _ l;refine Eq.trans (ifT (t2s (bc (i:=11) rfl) (bc (i:=1) rfl) din)) ?_;exact vq (n8 (bc (i:=8) rfl) (n8 (bc (i:=1) rfl) (bc (i:=11) rfl) dg) (aa0 (dz (by rw[List.length_singleton];lia))))
theorem ad1(h:T.Ok){k:Nat}{p:Nat×Nat}(hx:p.1<T.go.length)(hy:p.2<T.go.length)(nb:Bq T k p.1 p.2=false)(k5:k<=500):ak [T.d,.ref 0,prD p] [yq (wk T (k+1))]=.ok (lwD T k p) [yq (wk T (k+1))]:=by
 have t6:=h.tong.hi;have fw:∀a b,Lv T k a b->(wdP T k a b).length<=500:=λa b l=>by rw[(am0 l).1];exact k5
 unfold ak;rw[fu];show toR (uo [some T.d,some (.ref 0),some (prD p),none,none,none,none,none,none,none,none,none] [yq (wk T (k+1))])=_;unfold uo;refine etr (xg (aa4 (bc rfl) rfl)) ?_;refine etr (xg (aa4 (bc (i:=2) rfl) rfl)) ?_;have it:=ah1 h hx hy (f:=sV 3) (g:=s2 gIx (sV 4) (sV 6)) (k:=s2 gIx (sV 4) (sV 7)) (τ:=τL T p none none none none) (hh:=[yq (wk T (k+1))]) (bc rfl) (n8 (bc rfl) (bc rfl) (xj h hx _)) (n8 (bc rfl) (bc rfl) (xj h hy _));refine etr (a3f it) ?_;have lp:=a3u (g:=a2a 3 (g8 (kN 8) (g8 (kN 9) (g8 (kN 10) a2j)))) (b:=lz) (tpD T p.1 p.2)
  (λpre τ hh=>∃a b c d:Option D,τ=τL T p a b c d/\hh=[yq (wk T (k+1))]/\∀c∈pre,lvB T k (stp T p.1 c) (stp T p.2 c)=false)
  (λd hh=>hh=[yq (wk T (k+1))]/\∃c pre post,List.range T.tg.length=pre++c::post/\(∀c∈pre,lvB T k (stp T p.1 c) (stp T p.2 c)=false)/\lvB T k (stp T p.1 c) (stp T p.2 c)=true/\d=sD (tgA T c::wdP T k (stp T p.1 c) (stp T p.2 c))) (List.range T.tg.length) [] (τL T p none none none none) [yq (wk T (k+1))] ?_ ⟨none,none,none,none,rfl,rfl,by simp⟩
 .rcases lp with⟨τ',h',e,a,b,c,d,rfl,rfl,no⟩|⟨d,h',e,rfl,c,pre,post,er,no,yes,rfl⟩
  .refine Eq.trans (congrArg (λz=>toR (MI.thn z _)) e) ?_;have:lvB T (k+1) p.1 p.2=false:=by
    cases z:lvB T (k+1) p.1 p.2 with
    |false=>rfl
    |true =>
     obtain⟨c,hc,l⟩:=aa6 (uw.mp z);have:=no c (by simpa using hc)
     rw[uw.mpr l]at this;cases this
   unfold lwD;rw[this,if_neg (by simp)]
   exact congrArg toR (vq ckk)
  .refine Eq.trans (congrArg (λz=>toR (MI.thn z _)) e) ?_;have hc:c<T.tg.length:=List.mem_range.mp (by rw[er];simp)
   have l:Lv T (k+1) p.1 p.2:=by
    have b1:Bq T (k+1) p.1 p.2=true:=by
     unfold Bq;rw[Bool.or_eq_true];exact .inr (List.any_eq_true.mpr ⟨c,List.mem_range.mpr hc,(uw.mp yes).1⟩)
    refine⟨b1,λj hj=>?_⟩
    cases z:Bq T j p.1 p.2 with
    |false=>rfl
    |true=>rw[a5d (by lia) z]at nb;cases nb
   have ew:wdP T (k+1) p.1 p.2=tgA T c::wdP T k (stp T p.1 c) (stp T p.2 c):=by
    have fi:(List.range T.tg.length).find? (λc=>lvB T k (stp T p.1 c) (stp T p.2 c))=some c:=List.find?_eq_some_iff_append.mpr ⟨yes,pre,post,er,λa ha=>by simpa using no a ha⟩
    show(match (List.range T.tg.length).find? (λc=>lvB T k (stp T p.1 c) (stp T p.2 c)) with|some c=>tgA T c::wdP T k (stp T p.1 c) (stp T p.2 c)|none=>[])=_
    rw[fi]
   unfold lwD;rw[uw.mpr l,if_pos rfl,ew];rfl
 .rintro pre c post τ hh all ⟨a,b,e,d,rfl,rfl,no⟩
  rw[List.nil_append]at all;have hc:c<T.tg.length:=List.mem_range.mp (by rw[all];simp)
  refine⟨_,_,rfl,?_⟩;have t:=aqc (d:=d) h hx hy nb hc fw
  cases q:lvB T k (stp T p.1 c) (stp T p.2 c) with
  |true =>
   rw[q,if_pos rfl]at t;exact .inr ⟨_,_,t,rfl,c,pre,post,all,no,q,rfl⟩
  |false =>
   rw[q,if_neg (by simp)]at t
   refine .inl ⟨_,_,t,_,_,_,_,rfl,rfl,λx hx=>?_⟩
   rcases List.mem_append.mp hx with z|z
   .exact no x z
   .rw[List.mem_singleton.mp z];exact q
theorem aw1{k:Nat}{p:Nat×Nat}:MI.clo 0 (lwD T k p):=by unfold lwD;split;exact ud _;exact a9w
theorem ah2(h:T.Ok){k:Nat}{p:Nat×Nat}(hx:p.1<T.go.length)(hy:p.2<T.go.length)(nb:Bq T k p.1 p.2=false)(k5:k<=500){i:Nat}{hh:Hd}(hi:hh[i]? = some (yq (wk T (k+1)))):gq false 3 ak [T.d,.ref i,prD p] hh=.ok (lwD T k p) hh :=
 akj Table.clo (a2m 0 [p]).1 (a3j _ _) (ad1 h hx hy nb k5) aw1 i hh hi
end
end K28
namespace K28
open MI PRS
noncomputable def hP(p:Nat×Nat):Int:=hN [(p.1:Int),(p.2:Int)]
theorem az5:((prs 32).map hP).Nodup:=by decide +kernel
end K28
namespace K28
open L2 MI AT HND K22 K23 PRS K30
open STP (zj zpD zg)
open K40 (rw' a0q xj go1 a5g)
open RCH (xm)
section
variable{T:Table}
theorem am3{α β:Type}{f:α->β}:∀{l:List α},(l.map f).Nodup->∀{a b:α},a∈l->b∈l->f a=f b->a=b
 |x::l,h,a,b,ha,hb,e=>by
  obtain⟨h1,h2⟩:=List.nodup_cons.mp h
  rcases List.mem_cons.mp ha with ea|ia
  .rcases List.mem_cons.mp hb with eb|ib
   .rw[ea,eb]
   .exact(h1 (List.mem_map.mpr ⟨b,ib,by rw[<-e,ea]⟩)).elim
  .rcases List.mem_cons.mp hb with eb|ib
   .exact(h1 (List.mem_map.mpr ⟨a,ia,by rw[e,eb]⟩)).elim
   .exact am3 h2 ia ib e
theorem am4{α β:Type}{f:α->β}:∀{l:List α},l.Nodup->(∀a∈l,∀b∈l,f a=f b->a=b)->(l.map f).Nodup
 |[],_,_=>List.nodup_nil
 |x::l,h,i=>by
  obtain⟨h1,h2⟩:=List.nodup_cons.mp h;refine List.nodup_cons.mpr ⟨λm=>?_,am4 h2 λa ha b hb=>i a (List.mem_cons_of_mem _ ha) b (List.mem_cons_of_mem _ hb)⟩;obtain⟨y,hy,e⟩:=List.mem_map.mp m;have:=i y (List.mem_cons_of_mem _ hy) x List.mem_cons_self e;exact h1 (this ▸ hy)
theorem b02(h:T.Ok){p:Nat×Nat}(hp:p∈prs T.go.length):p∈prs 32:=by
 obtain⟨a,b⟩:=p;have n32:=h.n32;obtain⟨h1,h2⟩:=qx.mp hp;have h3:b<32:=by lia
 exact qx.mpr ⟨h1,h3⟩
theorem aw2{p q:Nat×Nat}(hp:p∈prs 32)(hq:q∈prs 32)(e:hP p=hP q):p=q:=am3 (f:=hP) (l:=prs 32) az5 hp hq e
theorem aw3(h:T.Ok){l:List (Nat×Nat)}(nd:l.Nodup)(up:∀p∈l,p∈prs T.go.length):(l.map hP).Nodup :=
 am4 (f:=hP) nd λp hp q hq e=>aw2 (b02 h (up p hp)) (b02 h (up q hq)) e
noncomputable def pI(p:Nat×Nat):List Int:=[(p.1:Int),(p.2:Int)]
theorem az6(p:Nat×Nat):hN (pI p)=hP p:=by rw[pI.eq_1,hP.eq_1]
theorem aw4:∀l:List (Nat×Nat),(l.map pI).map hN=l.map hP
 |[]=>by rw[List.map_nil,List.map_nil,List.map_nil]
 |p::l=>by rw[List.map_cons,List.map_cons,List.map_cons,aw4 l,az6]
theorem b1g(h:T.Ok){es:Es (List Nat)}(nd:(es.map (·.1)).Nodup)(up:∀p∈es.map (·.1),p∈prs T.go.length):HA (es.map (kvP sD)):=by
 refine⟨(es.map (·.1)).map pI,?_,?_⟩
 .rw[List.map_map,List.map_map,List.map_map];rfl
 .rw[aw4];exact aw3 h nd up
theorem aw5:∀{more es:Es (List Nat)},((es++more).map (·.1)).Nodup->a3v putD (es.map (kvP sD)) (more.map (kvP sD))=(es++more).map (kvP sD)
 |[],es,_=>by rw[List.append_nil];rfl
 |(p,w)::m,es,nd=>by
  have no:fnd es p=none:=by
   rw[yp]
   intro z
   rw[List.map_append,List.map_cons,List.nodup_append]at nd;exact nd.2.2 p z p List.mem_cons_self rfl
  show a3v putD (putD (es.map (kvP sD)) (kk p) (sD w)) (m.map (kvP sD))=_;rw[avu sD w no,aw5 (by simpa using nd)]
  simp
noncomputable abbrev τP(T:Table)(i:Nat)(a b:Option D):Sd:=[some T.d,some (ksD T),some (.ref 0),some (.ref i),a,b]
theorem ah3{k:Nat}{pre:List (Nat×Nat)}{p:Nat×Nat}:mk T k (pre++[p])=mk T k pre++if lvB T k p.1 p.2=true then [(p,wdP T k p.1 p.2)] else []:=by
 unfold mk;rw[List.filter_append,List.map_append]
 congr 1
 cases h:lvB T k p.1 p.2<;>simp[h]
theorem aw6{k:Nat}{pre:List (Nat×Nat)}{p:Nat×Nat}(h:p∉pre):fnd (mk T k pre) p=none:=by
 rw[yp,abj];exact λm=>h (List.mem_filter.mp m).1
theorem ah4{k:Nat}{pre:List (Nat×Nat)}:(mk T k pre).length<=pre.length:=by
 unfold mk;rw[List.length_map];exact List.length_filter_le _ _
theorem ah5(h:T.Ok){τ:Sd}(h0:τ[0]? = some (some T.d))(hh:Hd):sIt (sA (gq false 1 aq) (aj (sV 0) bj)) τ hh=.ok ⟨(prs T.go.length).map prD,λ_=>True⟩ hh:=ag9 (xx (bc h0) (avv h _)) rfl
theorem abm(h:T.Ok):∀(post pre:List (Nat×Nat)),prs T.go.length=pre++post->
  dcL (λ_=>True) 1 (tN 2) (je ak aq) (jc ak aq) (jd ak aq) [some (ksD T)] (post.map prD) [.dT [],yq (mk T 0 pre)]=.ok (.ref 1) [.dT [],yq (mk T 0 (prs T.go.length))]
 |[],pre,e=>by rw[List.append_nil]at e;rw[List.map_nil,dcL,if_pos True.intro,e]
 |p::post,pre,e=>by
  have nd:=a4y T.go.length;rw[e]at nd;have pn:p∉pre:=λm=>(List.nodup_append.mp nd).2.2 p m p List.mem_cons_self rfl;have hp:(p.1,p.2)∈prs T.go.length:=by rw[e];simp
  obtain⟨ab,bn⟩:=qx.mp hp;have pl:pre.length<=496:=by
   have:=a0r h.n32
   rw[e,List.length_append]at this;lia
  have l0:=ah4 (T:=T) (k:=0) (pre:=pre);have tt:je ak aq [some (au p.1),some (au p.2),some (ksD T)] [.dT [],yq (mk T 0 pre)]=.ok (lvB T 0 p.1 p.2) [.dT [],yq (mk T 0 pre)]:=by
   refine(t2s (n8 (bc (i:=2) rfl) (bc (i:=0) rfl) (K21.aba h (by lia) _)) (n8 (bc (i:=2) rfl) (bc (i:=1) rfl) (K21.aba h bn _)) (K40.alq _ _)).trans ?_
   congr 1
   rw[Bool.eq_iff_iff,uw];exact⟨λz=>⟨z,λj hj=>absurd hj (Nat.not_lt_zero j)⟩,λz=>z.1⟩
  rw[List.map_cons,dcL,if_pos True.intro];show((je ak aq [some (au p.1),some (au p.2),some (ksD T)] [.dT [],yq (mk T 0 pre)]).bind _)=_;rw[tt,az];have nx:=abm h post (pre++[p]) (by rw[e];simp)
  rw[ah3]at nx
  cases q:lvB T 0 p.1 p.2 with
  |true =>
   rw[q,if_pos rfl]at nx;rw[if_pos rfl];have ek:jc ak aq [some (au p.1),some (au p.2),some (ksD T)] [.dT [],yq (mk T 0 pre)]=.ok (prD p) [.dT [],yq (mk T 0 pre)]:=sr (bc rfl) (bc rfl) a8v;have ev:jd ak aq [some (au p.1),some (au p.2),some (ksD T)] [.dT [],yq (mk T 0 pre)]=.ok (sD []) [.dT [],yq (mk T 0 pre)]:=awx _ _ _;show((jc ak aq [some (au p.1),some (au p.2),some (ksD T)] [.dT [],yq (mk T 0 pre)]).bind _)=_;rw[ek,az];show((jd ak aq [some (au p.1),some (au p.2),some (ksD T)] [.dT [],yq (mk T 0 pre)]).bind _)=_
   rw[ev,az,a7k sD (i:=1) (es:=mk T 0 pre) (v:=[]) rfl (aw6 pn) (zf (by lia))]
   exact nx
  |false =>
   rw[q,if_neg (by simp),List.append_nil]at nx
   rw[if_neg (by simp)]
   exact nx
end
end K28
namespace K28
open L2 MI AT HND K22 K23 PRS K30
open STP (zj zpD zg)
open K40 (rw' a0q xj go1 a5g)
section
variable{T:Table}
noncomputable def no(T:Table)(k:Nat):List (Nat×Nat):=(prs T.go.length).filter λp=>(fnd (wk T (k+1)) p).isNone
theorem aqd{k:Nat}:mk T (k+1) (no T k)=mk T (k+1) (prs T.go.length):=by
 unfold mk no;rw[List.filter_filter]
 congr 1
 refine List.filter_congr λp hp=>?_;rw[avz hp]
 cases z:lvB T (k+1) p.1 p.2 with
 |false=>rfl
 |true=>rw[(uw.mp z).2 k (by lia)];rfl
theorem ah6(h:T.Ok){k i:Nat}{pre:List (Nat×Nat)}{p:Nat×Nat}{hh:Hd}{b:Option D}(hp:p∈no T k)(pn:p∉pre)(pl:pre.length<=496)(k5:k<=500)(i1:1<=i)(h0:hh[0]? = some (yq (wk T (k+1))))(hi:hh[i]? = some (yq (mk T (k+1) pre))) :
  ∃b',jg ak aq (τP T i (some (prD p)) b) hh=.nx (τP T i (some (prD p)) b') (hh.set i (yq (mk T (k+1) (pre++[p])))):=by
 obtain⟨hp1,hp2⟩:=List.mem_filter.mp hp;rw[avz hp1]at hp2;obtain⟨ab,bn⟩:=qx.mp (show(p.1,p.2)∈prs T.go.length from hp1)
 have nb:Bq T k p.1 p.2=false:=by cases z:Bq T k p.1 p.2 with|false=>rfl|true=>rw[z]at hp2;cases hp2
 have l0:=ah4 (T:=T) (k:=k+1) (pre:=pre);have lo:=ah2 h (p:=p) (by lia) bn nb k5 h0
 unfold jg;rw[ah3];refine⟨some (lwD T k p),Eq.trans (jl (PAP.aof (cns (bc (i:=0) rfl) (cns (bc (i:=2) rfl) (cns (bc (i:=4) rfl) rfl))) lo)) ?_⟩;show sIf _ _ _ (τP T i (some (prD p)) (some (lwD T k p))) hh=_;have iw:a5z (lwD T k p) .non hh=.ok (.bl (lvB T (k+1) p.1 p.2)) hh:=by
  unfold lwD
  cases lvB T (k+1) p.1 p.2<;>rfl
 have tt:sT (s2 a5z (sV 5) (sC .non)) (τP T i (some (prD p)) (some (lwD T k p))) hh=.ok (lvB T (k+1) p.1 p.2) hh:=t2s (bc (i:=5) rfl) ckk iw
 cases q:lvB T (k+1) p.1 p.2 with
 |true =>
  rw[q]at tt;rw[if_pos rfl];have ew:lwD T k p=sD (wdP T (k+1) p.1 p.2):=by unfold lwD;rw[q,if_pos rfl]
  exact(ifT tt).trans (a8t (bc (i:=5) rfl) (bc (i:=3) rfl) (bc (i:=4) rfl) (by rw[ew];exact a7k sD hi (aw6 pn) (zf (by lia))))
 |false =>
  rw[q]at tt;rw[if_neg (by simp),List.append_nil]
  have e:hh.set i (yq (mk T (k+1) pre))=hh:=by
   refine List.ext_getElem? λj=>?_;rw[List.getElem?_set]
   split
   .rename_i z;subst z;rw[if_pos (List.getElem?_eq_some_iff.mp hi).1,hi]
   .rfl
  rw[e];exact(ifF tt).trans rfl
end
section
variable{T:Table}
theorem az7{k:Nat}:(no T k).Nodup:=(a4y _).filter _
theorem aw7(h:T.Ok){k:Nat}:(no T k).length<=496:=Nat.le_trans (List.length_filter_le _ _) (a0r h.n32)
theorem aw8{α:Type}{l:List α}{i:Nat}{x:α}(e:l[i]? = some x):l.set i x=l:=by
 refine List.ext_getElem? λj=>?_;rw[List.getElem?_set]
 split
 .rename_i z;subst z;rw[if_pos (List.getElem?_eq_some_iff.mp e).1,e]
 .rfl
theorem round(h:T.Ok){k i:Nat}{hh:Hd}{a b:Option D}(k5:k<=496)(ne:mk T k (prs T.go.length)≠[])(i1:1<=i)(h0:hh[0]? = some (yq (wk T k)))(hi:hh[i]? = some (yq (mk T k (prs T.go.length))))(ch:∀o∈hh,a00 0 o) :
  ∃(i':Nat) (hh':Hd) (a' b':Option D),jj ak aq (τP T i a b) hh=.nx (τP T i' a' b') hh'/\1<=i'/\hh'[0]? = some (yq (wk T (k+1)))/\hh'[i']? = some (yq (mk T (k+1) (prs T.go.length)))/\∀o∈hh',a00 0 o:=by
 have l0:=(List.getElem?_eq_some_iff.mp h0).1;have pf:=a0r h.n32;have wf:=am2 h (k:=k);have ml:=ah4 (T:=T) (k:=k) (pre:=prs T.go.length);have nf:=aw7 h (k:=k);have up:aqp (sV 2) (sV 3) (τP T i a b) hh=.ok .non (hh.set 0 (yq (wk T (k+1)))):=by
  have e:=apa (f:=sV 2) (g:=sV 3) (τ:=τP T i a b) (h:=hh) (h1:=hh) (h2:=hh) (i:=0) (j:=i) (bc (i:=2) rfl) h0 (bc (i:=3) rfl) h0 hi (by lia) (dz (by rw[List.length_map,List.length_map];lia)) λ_=>b1g h (by rw[abj];exact(a4y _).filter _) λp hp=>by rw[abj]at hp;exact(List.mem_filter.mp hp).1
  rw[e]
  congr 2
  show O.dT _=O.dT _;rw[aw5 (ad0 (T:=T) (k+1))];rfl
 let h1:Hd:=hh.set 0 (yq (wk T (k+1)))
 let h2:Hd:=h1++[.dT []]
 have h1l:h1.length=hh.length:=List.length_set;have h10:h1[0]? = some (yq (wk T (k+1))):=List.getElem?_set_self l0;have h20:h2[0]? = some (yq (wk T (k+1))):=by show(h1++_)[0]? = _;rw[List.getElem?_append_left (by lia)];exact h10
 have h2n:h2[hh.length]? = some (yq (mk T (k+1) [])):=by show(h1++_)[hh.length]? = _;rw[List.getElem?_append_right (by lia),h1l,Nat.sub_self];rfl
 have ch2:∀o∈h2,a00 0 o:=λo ho=>by
  rcases List.mem_append.mp ho with z|z
  .rcases List.mem_or_eq_of_mem_set z with z|z
   .exact ch o z
   .rw[z];exact a3j _ _
  .rw[List.mem_singleton.mp z];exact a3j 0 []
 have din:∀p:Nat×Nat,a3r true (prD p) (.ref 0) h2=.ok (.bl (fnd (wk T (k+1)) p).isNone) h2:=λp=>by
  unfold a3r;rw[a5a sD h20 p];show R.ok (D.bl (!((fnd (wk T (k+1)) p).map sD).isSome)) _=_;rw[Option.isSome_map]
  cases fnd (wk T (k+1)) p<;>rfl
 have cm:∀{a b:Option D},sZ (zu (sIt (sA (gq false 1 aq) (aj (sV 0) bj))) t1 (jf ak aq) (um ak aq) [2]) (τP T hh.length a b) h2=.ok (.rol ((no T k).map prD)) h2:=λ{a b}=>by
  unfold no;rw[<-a1o];refine a0z (abd (ck:=λ_=>True) prD (λp=>if (fnd (wk T (k+1)) p).isNone=true then some (prD p) else none) (prs T.go.length) True.intro (ah5 h rfl h2) (dz (by lia)) λp hp=>?_) (by rw[a1o];exact a2m _ _) λo ho=>qu (Nat.zero_le _) (ch2 o ho)
  rw[aa3];have q:jf ak aq [some (prD p),some (.ref 0)] h2=.ok (fnd (wk T (k+1)) p).isNone h2:=t2s (bc rfl) (bc rfl) (din p);show(jf ak aq [some (prD p),some (.ref 0)] h2).bind _=_;rw[q,az]
  cases (fnd (wk T (k+1)) p).isNone<;>rfl
 have lp:=kj (g:=kN 4) (b:=jg ak aq) prD
  (λpre τ hx=>∃a b:Option D,τ=τP T hh.length a b/\hx=h2.set hh.length (yq (mk T (k+1) pre))) (no T k) (τP T hh.length a b) h2 ?_ ⟨a,b,rfl,(aw8 h2n).symm⟩
 .obtain⟨τ',h',el,a',b',rfl,rfl⟩:=lp;rw[aqd]at el;refine⟨hh.length,h2.set hh.length (yq (mk T (k+1) (prs T.go.length))),a',b',?_,by lia,?_,?_,λo ho=>?_⟩
  .unfold jj;refine Eq.trans (xg (show vg (aqp (sV 2) (sV 3)) (τP T i a b) hh=.nx (τP T i a b) h1 by unfold vg;rw[up];rfl)) ?_
   refine Eq.trans (jl (d:=.ref h1.length) (h1:=h2) rfl) ?_;rw[h1l];exact Eq.trans (a5g (ag9 cm rfl)) el
  .rw[List.getElem?_set_ne (by lia)];exact h20
  .exact List.getElem?_set_self (List.getElem?_eq_some_iff.mp h2n).1
  .rcases List.mem_or_eq_of_mem_set ho with z|z
   .exact ch2 o z
   .rw[z];exact a3j _ _
 .rintro pre p post τ hx all ⟨a,b,rfl,rfl⟩
  have nd:=az7 (T:=T) (k:=k);rw[all]at nd;have pn:p∉pre:=λm=>(List.nodup_append.mp nd).2.2 p m p List.mem_cons_self rfl;have pl:pre.length<=496:=by
   rw[all,List.length_append]at nf;lia
  obtain⟨b',e⟩:=ah6 h (k:=k) (i:=hh.length) (pre:=pre) (p:=p) (hh:=h2.set hh.length (yq (mk T (k+1) pre))) (b:=b) (by rw[all];simp) pn pl (by lia) (by lia) (by rw[List.getElem?_set_ne (by lia)];exact h20) (List.getElem?_set_self (List.getElem?_eq_some_iff.mp h2n).1)
  rw[List.set_set]at e;exact⟨_,_,rfl,_,_,e,_,_,rfl,rfl⟩
end
end K28
namespace K28
open L2 MI AT HND K22 K23 PRS K30
open K40 (rw' a0q xj go1 a5g)
section
variable{T:Table}
noncomputable def dh:SF:=ou (my ak aq) 6
theorem aw9{es:Es (List Nat)}:MI.clo 0 (tbD sD es):=by
 show clos 0 ((es.map (kvP sD)).map (·.2));exact a3j 0 es
theorem a92(h:T.Ok):∃k,mk T k (prs T.go.length)=[]/\Pu dh 1 [T.d] (tbD sD (wk T k)):=by
 have w:=acf (c:=ji ak aq) (f:=jj ak aq)
  (λm τ hh=>∃(k i:Nat) (a b:Option D),τ=τP T i a b/\1<=i/\hh[0]? = some (yq (wk T k))/\hh[i]? = some (yq (mk T k (prs T.go.length)))/\(∀o∈hh,a00 0 o)/\k<=(wk T k).length/\m=500-k)
  (λτ hh=>∃(k i:Nat) (a b:Option D),τ=τP T i a b/\hh[0]? = some (yq (wk T k))/\mk T k (prs T.go.length)=[])
  (λ_ _=>False) ?_ 500 100000 (τP T 1 none none) [.dT [],yq (mk T 0 (prs T.go.length))] (by lia)
  ⟨0,1,none,none,rfl,by lia,rfl,rfl,λo ho=>by
   simp only[List.mem_cons,List.not_mem_nil,or_false]at ho
   rcases ho with rfl|rfl
   .exact a3j 0 []
   .exact a3j _ _,Nat.zero_le _,rfl⟩
 .rcases w with⟨τ',h',ew,k,i,a,b,rfl,h0,e⟩|⟨_,_,_,z⟩
  .refine⟨k,e,Pu.of rfl (by intro x hx;rw[List.mem_singleton]at hx;subst hx;exact Table.clo) (r:=.ok (.ref 0) h') ?_ (a2l (ago (k:=18) (Nat.le_refl _) h0 (a3j 0 _)) (by simp)) aw9⟩
   unfold dh;rw[fu];show toR (my ak aq [some T.d,none,none,none,none,none] [])=_;unfold my;refine ets (ahn rfl (a6b (j:=2) rfl)) ?_;refine etr (jl (d:=.ref 0) (h1:=[.dT []]) rfl) ?_;refine etr (jl (d:=.ref 1) (h1:=[.dT [],yq (mk T 0 (prs T.go.length))]) ?_) ?_
   .unfold a8o;rw[ah5 h rfl,az];exact abm h (prs T.go.length) [] rfl
   refine etr (xg ew) ?_;exact congrArg toR (vq (bc (i:=2) rfl))
  .exact z.elim
 .rintro m τ hh ⟨k,i,a,b,rfl,i1,h0,hi,ch,kl,rfl⟩
  have wf:=am2 h (k:=k);have tc:ji ak aq (τP T i a b) hh=.ok (!(mk T k (prs T.go.length)).isEmpty) hh:=by
   unfold ji ap8;rw[bc (d:=.ref i) rfl,az];unfold ayh;simp only[hi];rw[List.isEmpty_map]
  cases q:mk T k (prs T.go.length) with
  |nil =>
   rw[q]at tc;exact .inl ⟨hh,tc,k,i,a,b,rfl,h0,q⟩
  |cons e l =>
   rw[q]at tc;refine .inr ⟨hh,tc,.inl ?_⟩;obtain⟨i',hh',a',b',er,i1',h0',hi',ch'⟩:=round h (a:=a) (b:=b) (by lia) (by rw[q];simp) i1 h0 hi ch
   refine⟨_,_,500-(k+1),er,by lia,k+1,i',a',b',rfl,i1',h0',hi',ch',?_,rfl⟩
   show k+1<=(wk T k++mk T k (prs T.go.length)).length;rw[List.length_append,q,List.length_cons];lia
theorem ah7(h:T.Ok){k:Nat}(e:mk T k (prs T.go.length)=[]){es:Es Nat}(Z:SzA T es){a b:Nat}(ha:a<T.go.length)(hb:b<T.go.length):((fnd (wk T k) (min a b,max a b)).map sD).getD .non=pwD T es a b:=by
 unfold pwD
 cases q:fnd es (min a b,max a b) with
 |none =>
  cases r:fnd (wk T k) (min a b,max a b) with
  |none=>rfl
  |some w =>
   obtain⟨j,hj,l,_⟩:=(abk ha hb).mp r;rw[(Z.get ha hb).mpr l]at q;cases q
 |some v =>
  have l:=(Z.get ha hb).mp q;rw[(abk ha hb).mpr ⟨v,aw0 h e ha hb l,l,rfl⟩];rfl
noncomputable def qi:SF:=ou (a1i dh) 3
theorem ad2(h:T.Ok){es:Es Nat}(Z:SzA T es){a b:Nat}(ha:a<T.go.length)(hb:b<T.go.length):Pu qi 3 [T.d,au a,au b] (pwD T es a b):=by
 obtain⟨k,e,pw⟩:=a92 h;refine Pu.of rfl (apu (bw _) (bw _)) (r:=.ok (pwD T es a b) []) ?_ (jb a90 (by simp)) a90
 unfold qi;rw[fu];show toR (a1i dh [some T.d,some (au a),some (au b)] [])=_;unfold a1i;refine congrArg toR (vq ?_);unfold a5m;rw[xx (bc (i:=0) rfl) (pw _),az];show((sA MI.vf _) _ _).bind _=_;rw[sr (sr (bc (i:=1) rfl) (bc (i:=2) rfl) (ags _ _ _)) (sr (bc (i:=1) rfl) (bc (i:=2) rfl) (agt _ _ _)) a8v,az];unfold a9z;rw[show(D.tup [au (min a b),au (max a b)])=prD (min a b,max a b) from rfl,a4z sD]
 show R.ok _ _=_;rw[ah7 h e Z ha hb]
end
section
variable{T:Table}
noncomputable def j4:SF:=ou (a0i dh aq) 2
noncomputable def ptD(T:Table)(es:Es Nat)(p:Nat×Nat):D:=.tup [au p.1,au p.2,pwD T es p.1 p.2]
theorem ah8(n:Nat)(es:Es Nat)(ps:List (Nat×Nat)):clos n (ps.map (ptD T es)):=bz λp _=>a4n (Nat.zero_le n) (j7 ⟨bw _,bw _,a90,True.intro⟩)
theorem aa7(h:T.Ok){es:Es Nat}(Z:SzA T es):Pu j4 1 [T.d] (.tup ((prs T.go.length).map (ptD T es))):=by
 obtain⟨k,e,pw⟩:=a92 h;have pf:=a0r h.n32;refine Pu.of rfl (by intro x hx;rw[List.mem_singleton]at hx;subst hx;exact Table.clo) (r:=.ok (.tup ((prs T.go.length).map (ptD T es))) []) ?_ (jb (j7 (ah8 _ _ _)) (by simp)) (j7 (ah8 _ _ _))
 unfold j4;rw[fu];show toR (a0i dh aq [some T.d,none] [])=_;unfold a0i;refine ets (xx (bc (i:=0) rfl) (pw _)) ?_;refine congrArg toR (vq (xx (a:=.rol ((prs T.go.length).map (ptD T es))) (a0z (uq prD (ptD T es) (prs T.go.length) (ah5 h rfl []) (dz (by lia)) λp hp=>?_) (ah8 _ _ _) (by simp)) rfl))
 obtain⟨ab,bn⟩:=qx.mp (show(p.1,p.2)∈prs T.go.length from hp)
 show a0o dh aq [some (au p.1),some (au p.2),some (tbD sD (wk T k))] []=_;have gt:a5m (sV 2) (sA MI.vf (aj (sV 0) (aj (sV 1) bj))) [some (au p.1),some (au p.2),some (tbD sD (wk T k))] []=.ok (pwD T es p.1 p.2) []:=by
  unfold a5m;rw[bc (d:=tbD sD (wk T k)) rfl,az];show((sA MI.vf _) _ _).bind _=_;rw[sr (bc (i:=0) rfl) (bc (i:=1) rfl) a8v,az];unfold a9z;rw[show(D.tup [au p.1,au p.2])=prD p from rfl,a4z sD]
  show R.ok _ _=_;have:=ah7 h e Z (a:=p.1) (b:=p.2) (by lia) bn
  rw[Nat.min_eq_left (by lia),Nat.max_eq_right (by lia)]at this
  rw[<-this]
 exact acv (bc (i:=0) rfl) (bc (i:=1) rfl) gt azv
noncomputable def bu:SF:=ou zb 2
theorem ah9:Pu bu 2 [.non,.non] (.bl true):=by
 refine Pu.of rfl (by intro x hx;simp only[List.mem_cons,List.not_mem_nil,or_false]at hx;rcases hx with rfl|rfl<;>exact a9w) (r:=.ok (.bl true) []) ?_ (jb (xu _) (by simp)) (xu _)
 unfold bu;rw[fu];rfl
theorem awa(w:List Nat){h:Hd}:hEq (sD w) (sD w) h=.ok (.bl true) h:=by
 unfold hEq;rw[if_pos ⟨rfl,rfl⟩];show R.ok (D.bl (S w == S w)) _=_;rw[ayq,decide_eq_true rfl]
theorem a93(w:List Nat):Pu bu 2 [sD w,sD w] (.bl true):=by
 refine Pu.of rfl (by intro x hx;simp only[List.mem_cons,List.not_mem_nil,or_false]at hx;rcases hx with rfl|rfl<;>exact ud _) (r:=.ok (.bl true) []) ?_ (jb (xu _) (by simp)) (xu _)
 unfold bu;rw[fu];show toR (zb [some (sD w),some (sD w)] [])=_;unfold zb;refine eti (orF (t2s (bc (i:=1) rfl) ckk rfl) (t2s (bc (i:=0) rfl) ckk rfl)) ?_;exact congrArg toR (vq (ag8 (sr (bc (i:=0) rfl) ckk rfl) (n8 (bc (i:=0) rfl) (bc (i:=1) rfl) (awa w))))
theorem abn{es:Es Nat}{a b:Nat}:Pu bu 2 [pwD T es a b,pwD T es a b] (.bl true):=by
 unfold pwD
 cases fnd es (min a b,max a b) with
 |none=>exact ah9
 |some v=>exact a93 _
end
end K28
namespace K30
open L2 MI AT HND K22 K23 PRS
open STP (zj zpD zg)
open K21 (ab9)
open K40 (rw' a0q xj go1 a5g isI isB aka abb Th agk alq ax0 ax1 ak9)
open RCH (xm)
section
variable{T:Table}
noncomputable def nmB(a:Nat):D->Bool|.int i=>decide (i=(a:Nat))|_=>false
noncomputable def du:SF:=ou vo 3
theorem a94{d:D}(p:Pln d)(a:Nat):Pu du 3 [d,au a,au a] (.bl (nmB a d)):=by
 refine Pu.of rfl (ab9 p.clo (bw _) (bw _)) (r:=.ok (.bl (nmB a d)) []) ?_ (jb (xu _) (by simp)) (xu _)
 unfold du;rw[fu];show toR (vo [some d,some (au a),some (au a)] [])=_;unfold vo;have nb:a8b (sA a0e (aj (sV 0) (aj (sC (.ty "bool")) bj))) [some d,some (au a),some (au a)] []=.ok (.bl (!isB d)) []:=by
  unfold a8b;rw[sr (bc rfl) ckk (abb p),az]
 have ii:=sr (G:=a0e) (bc (i:=0) (τ:=[some d,some (au a),some (au a)]) (h:=[]) rfl) (awx (.ty "int") _ _) (aka p)
 by_cases e:∃i,d=.int i
 .obtain⟨i,rfl⟩:=e;refine congrArg toR (vq ((agk ii λ_=>agk nb λ_=>ax1 (bc (i:=1) rfl) (bc (i:=0) rfl) (bc (i:=2) rfl)).trans ?_));show R.ok (D.bl (decide _)) _=R.ok (D.bl (decide _)) _
  congr 2
  exact decide_eq_decide.mpr (by lia)
 .have ni:isI d=false:=by cases d<;>first|rfl|exact absurd ⟨_,rfl⟩ e
  have nn:nmB a d=false:=by cases d<;>first|rfl|exact absurd ⟨_,rfl⟩ e
  rw[nn]
  cases hb:isB d with
  |true =>
   rw[ni,hb]at ii;rw[hb]at nb;exact congrArg toR (vq (ag8 ii (avm nb)))
  |false =>
   rw[ni,hb]at ii;exact congrArg toR (vq (avm ii))
end
end K30
namespace K28
open L2 MI AT HND K22 K23 PRS K30
open K40 (rw' a0q xj go1 a5g)
section
variable{T:Table}
theorem awb{n a j:Nat}{pre post:List Nat}(e:List.range n=pre++a::post)(hj:j<n-(a+1)):(prs n)[(pre.flatMap (a5h n)).length+j]? = some (a,a+1+j):=by
 rw[agv,e,List.flatMap_append,List.flatMap_cons,List.getElem?_append_right (by lia),Nat.add_sub_cancel_left,List.getElem?_append_left (by unfold a5h;rw[List.length_map,List.length_range];exact hj)]
 unfold a5h;rw[List.getElem?_map,List.getElem?_range hj];rfl
noncomputable abbrev τQ(T:Table)(es:Es Nat)(i:Nat)(a b c:Option D):Sd:=[some T.d,some (tbD au es),some (.tup ((prs T.go.length).map (ptD T es))),some (au T.go.length),some (au i),a,b,c]
noncomputable abbrev qL0:=ik bu du bx j4
theorem awc(h:T.Ok){es:Es Nat}(Z:SzA T es){a b i:Nat}{r:Option D}(ab:a<b)(bn:b<T.go.length)(e:(prs T.go.length)[i]? = some (a,b)) :
  qL0 (τQ T es i (some (au a)) (some (au b)) r) []=.nx (τQ T es (i+1) (some (au a)) (some (au b)) (some (ptD T es (a,b)))) []:=by
 unfold qL0 ik;refine Eq.trans (jl (n8 (bc (i:=2) rfl) (bc (i:=4) rfl) (a6b (y:=ptD T es (a,b)) (by rw[List.getElem?_map,e];rfl)))) ?_
 refine Eq.trans (xg (ak5 (a:=au i) (d:=au (i+1)) rfl ckk rfl)) ?_;show(dw (sIf _ aiw sNx) _) (τQ T es (i+1) (some (au a)) (some (au b)) (some (ptD T es (a,b)))) []=_;have it:a0e [ptD T es (a,b),.ty "tuple"] []=.ok (.bl true) []:=by unfold ptD;simp[a0e,al6,tyD,ahj]
 have n3:hNe (au 3) (.int 3) []=.ok (.bl false) []:=K40.alq 3 3;refine Eq.trans (ifN (orF (ak4 (a4w (sr (bc (i:=7) rfl) ckk it) (vp _))) (t2s (xx (bc (i:=7) rfl) (qw (xs:=[au a,au b,pwD T es a b]))) ckk n3))) ?_;have na:Pu du 3 [au a,au a,au a] (.bl true):=by have:=a94 (d:=au a) True.intro a;rwa[show nmB a (au a)=true from decide_eq_true rfl]at this
 have nb:Pu du 3 [au b,au b,au b] (.bl true):=by have:=a94 (d:=au b) True.intro b;rwa[show nmB b (au b)=true from decide_eq_true rfl]at this
 refine Eq.trans (ifN (orF (ak4 (a4w (acv (n8 (bc (i:=7) rfl) ckk (a6b (j:=0) rfl)) (bc (i:=5) rfl) (bc (i:=5) rfl) (na _)) (vp _))) (ak4 (a4w (acv (n8 (bc (i:=7) rfl) ckk (a6b (j:=1) rfl)) (bc (i:=6) rfl) (bc (i:=6) rfl) (nb _)) (vp _))))) ?_;have pp:=a6e h Z (x:=a) (y:=b) (by lia) bn
 exact(ifF (ak4 (a4w (sr (n8 (bc (i:=7) rfl) ckk (a6b (j:=2) rfl)) (PAP.aof (cns (bc (i:=0) rfl) (cns (bc (i:=1) rfl) (cns (bc (i:=5) rfl) (cns (bc (i:=6) rfl) rfl)))) (pp _)) (abn _)) (vp _)))).trans rfl
end
section
variable{T:Table}
noncomputable def cj:SF:=ou (ig bu du bx j4) 8
theorem aqe:∀n:Nat,n<=32->((n:Int)*((n:Int)-1)) / 2=((n*(n-1) / 2:Nat):Int):=by decide
theorem a3g(h:T.Ok){es:Es Nat}(Z:SzA T es):Pu cj 2 [T.d,tbD au es] (.bl true):=by
 have n32:=h.n32;have pf:=a0r h.n32;have pl:=aq0 T.go.length n32;have pi:=aa7 h Z;refine Pu.of rfl (by intro x hx;simp only[List.mem_cons,List.not_mem_nil,or_false]at hx;rcases hx with rfl|rfl;exact Table.clo;exact a5e 0 es) (r:=.ok (.bl true) []) ?_ (jb (xu _) (by simp)) (xu _)
 unfold cj;rw[fu];show toR (ig bu du bx j4 [some T.d,some (tbD au es),none,none,none,none,none,none] [])=_;unfold ig;refine ets (xx (bc (i:=0) rfl) (pi _)) ?_;refine ets (xx (n8 (bc (i:=0) rfl) ckk (a6b (j:=1) rfl)) (qw.trans (by rw[List.length_map]))) ?_
 have it:a0e [.tup ((prs T.go.length).map (ptD T es)),.ty "tuple"] []=.ok (.bl true) []:=by simp[a0e,al6,tyD,ahj]
 have mu:zp (au T.go.length) (.int ((T.go.length:Int)-1)) []=.ok (.int ((T.go.length:Int)*((T.go.length:Int)-1))) []:=a8q.trans (if_pos (.inl (by constructor<;>lia)))
 have ln:hNe (au (prs T.go.length).length) (.int ((T.go.length:Int)*((T.go.length:Int)-1) / 2)) []=.ok (.bl false) []:=by
  rw[aqe _ n32,<-pl];refine(K40.alq _ _).trans ?_;rw[decide_eq_false (λz=>z rfl)]
 refine eti (orF (ak4 (a4w (sr (bc (i:=2) rfl) ckk it) (vp _))) (t2s (xx (bc (i:=2) rfl) (qw.trans (by rw[List.length_map]))) (n8 (n8 (bc (i:=3) rfl) (n8 (bc (i:=3) rfl) ckk (a6c _ _)) mu) ckk (div_ii ⟨by decide,by decide⟩)) ln)) ?_
 refine etr (jl ckk) ?_;have lp:=kj (g:=kN 5) (b:=il bu du bx j4) au
  (λpre τ hh=>∃a b c:Option D,τ=τQ T es (pre.flatMap (a5h T.go.length)).length a b c/\hh=[]) (List.range T.go.length) (τQ T es 0 none none none) [] ?_ ⟨none,none,none,rfl,rfl⟩
 .obtain⟨τ',h',el,a,b,c,rfl,rfl⟩:=lp;refine etr (a3f (a3c (n:=T.go.length) (bc (i:=3) rfl) (dz (by lia)))) ?_
  refine Eq.trans (congrArg (λz=>toR (MI.thn z _)) el) ?_;exact congrArg toR (vq ckk)
 .rintro pre x post τ hh all ⟨a,b,c,rfl,rfl⟩
  have hx:x<T.go.length:=List.mem_range.mp (by rw[all];simp)
  refine⟨_,_,rfl,?_⟩;have lp2:=kj (g:=kN 6) (b:=qL0) (λj:Nat=>D.int ((x+1+j:Nat)))
   (λpr τ hh=>∃b c:Option D,τ=τQ T es ((pre.flatMap (a5h T.go.length)).length+pr.length) (some (au x)) b c/\hh=[]) (List.range (T.go.length-(x+1))) (τQ T es (pre.flatMap (a5h T.go.length)).length (some (au x)) b c) [] ?_ ⟨b,c,rfl,rfl⟩
  .obtain⟨τ',h',el,b',c',rfl,rfl⟩:=lp2;refine⟨_,_,?_,some (au x),b',c',rfl,rfl⟩;have ee:((pre++[x]).flatMap (a5h T.go.length)).length=(pre.flatMap (a5h T.go.length)).length+(List.range (T.go.length-(x+1))).length:=by
    rw[List.flatMap_append,List.flatMap_cons,List.flatMap_nil,List.append_nil,List.length_append,List.length_range];unfold a5h;rw[List.length_map,List.length_range]
   rw[ee];unfold il;exact Eq.trans (a5g (a3d (a:=x+1) (n:=T.go.length) ((n8 (bc (i:=5) rfl) ckk a1k).trans rfl) (bc (i:=3) rfl) (dz (by lia)) (dz (by lia)))) el
  .rintro pr j po τ hh al2 ⟨b,c,rfl,rfl⟩
   obtain⟨hj,hj2⟩:=a1l al2;refine⟨_,_,rfl,?_⟩;have q:=awc h Z (a:=x) (b:=x+1+j) (r:=c) (i:=(pre.flatMap (a5h T.go.length)).length+j) (by lia) (by lia) (awb all (by lia))
   rw[hj]at q ⊢;exact⟨_,_,q,_,_,by rw[List.length_append,List.length_singleton,Nat.add_assoc],rfl⟩
end
end K28
namespace K28
open L2 MI AT HND K22 K23 PRS K30
open K40 (rw' a0q xj go1 a5g)
open STP (jx)
section
variable{T:Table}
noncomputable def dj:SF:=ou (m5 bu j8 jx) 3
noncomputable def km:SF:=ou (zc bu bx cj jo dj qi) 6
noncomputable abbrev τG(T:Table)(es:Es Nat)(a b:Nat)(c d:Option D):Sd:=[some T.d,some (au a),some (au b),some (tbD au es),c,d]
theorem abo(h:T.Ok)(wr:Pu dj 1 [T.d] (.bl true)){a b:Nat}(ha:a<T.go.length)(hb:b<T.go.length):Pu km 3 [T.d,au a,au b] (.bl true):=by
 obtain⟨es,Z,sz⟩:=aki h;have pr:=a3g h Z;refine Pu.of rfl (apu (bw _) (bw _)) (r:=.ok (.bl true) []) ?_ (jb (xu _) (by simp)) (xu _)
 unfold km;rw[fu];show toR (zc bu bx cj jo dj qi [some T.d,some (au a),some (au b),none,none,none] [])=_;unfold zc;refine ets (sr (n8 (bc (i:=0) rfl) ckk (a6b (j:=1) rfl)) (n8 (bc (i:=0) rfl) ckk (a6b (j:=2) rfl)) (sz _)) ?_;refine eti (orF (ak4 (a4w (xx (bc (i:=0) rfl) (wr _)) (vp _))) (ak4 (a4w (sr (bc (i:=0) rfl) (bc (i:=3) rfl) (pr _)) (vp _)))) ?_;have it:sIt (sZ (sA a2h (aj (sA MI.vf (aj (sV 1) (aj (sV 2) bj))) (aj (sA MI.vf (aj (sV 2) (aj (sV 1) bj))) (aj (sA MI.vf (aj (sV 1) (aj (sV 1) bj))) bj))))) (τG T es a b none none) []=.ok ⟨([(a,b),(b,a),(a,a)]:List (Nat×Nat)).map prD,λ_=>True⟩ [] :=
  ag9 (a0z (xs:=[prD (a,b),prD (b,a),prD (a,a)]) (acv (sr (bc (i:=1) rfl) (bc (i:=2) rfl) a8v) (sr (bc (i:=2) rfl) (bc (i:=1) rfl) a8v) (sr (bc (i:=1) rfl) (bc (i:=1) rfl) a8v) rfl) (a2m 0 [(a,b),(b,a),(a,a)]) (by simp)) rfl
 have lp:=kj (g:=a2a 2 (g8 (kN 4) (g8 (kN 5) a2j))) (b:=v7 bu bx cj jo dj qi) prD
  (λ_ τ hh=>∃c d:Option D,τ=τG T es a b c d/\hh=[]) [(a,b),(b,a),(a,a)] (τG T es a b none none) [] ?_ ⟨none,none,rfl,rfl⟩
 .obtain⟨τ',h',el,c,d,rfl,rfl⟩:=lp;refine etr (a3f it) ?_;refine Eq.trans (congrArg (λz=>toR (MI.thn z _)) el) ?_;exact congrArg toR (vq ckk)
 .rintro pre p post τ hh all ⟨c,d,rfl,rfl⟩
  have hp:p∈([(a,b),(b,a),(a,a)]:List (Nat×Nat)):=by rw[all];simp
  have lt:p.1<T.go.length/\p.2<T.go.length:=by
   simp only[List.mem_cons,List.not_mem_nil,or_false]at hp
   rcases hp with rfl|rfl|rfl
   .exact⟨ha,hb⟩
   .exact⟨hb,ha⟩
   .exact⟨ha,ha⟩
  refine⟨_,_,rfl,τG T es a b (some (au p.1)) (some (au p.2)),[],?_,_,_,rfl,rfl⟩;have p1:=ad2 h Z lt.1 lt.2;have p2:=a6e h Z lt.1 lt.2;unfold v7;exact(ifF (ak4 (a4w (sr (acv (bc (i:=0) rfl) (bc (i:=4) rfl) (bc (i:=5) rfl) (p1 _)) (PAP.aof (cns (bc (i:=0) rfl) (cns (bc (i:=3) rfl) (cns (bc (i:=4) rfl) (cns (bc (i:=5) rfl) rfl)))) (p2 _)) (abn _)) (vp _)))).trans rfl
end
end K28
namespace K30
open L2 MI AT HND K22 K23 PRS
open STP (zj zpD zg)
open K21 (ab9)
open K40 (rw' a0q xj go1 a5g isI isB aka abb Th agk alq ax0 ax1 ak9)
open RCH (xm)
section
variable{T:Table}
structure Th2 (d:D):Prop where
 p:Pln d
 el:∀xs,d=.tup xs->xs.length<=1000/\∀x∈xs,Th x
end
section
variable{T:Table}
theorem awd{hp:Hd}{fi:SI}{t:D->Option Sd}{fe:SE}{ix:List Nat}{τ:Sd}{α:Type}(g:α->D)(ws:List α)(f:α->Bool)(wl:ws.length<=1000)(e:fi τ hp=.ok ⟨ws.map g,λ_=>True⟩ hp)(st:∀w∈ws,a6y t fe (frs' ix τ) (g w) hp=.ok (.bl (f w)) hp)(c:∀o∈hp,a00 hp.length o) :
  sA aqk (aj (sZ (wj fi t fe ix)) bj) τ hp=.ok (.bl (ws.all f)) hp:=by
 have z:sZ (wj fi t fe ix) τ hp=.ok (.rol ((ws.map f).map D.bl)) hp:=by
  rw[List.map_map];exact a0z (uq g (D.bl ∘ f) ws e (dz (by lia)) st) (bz λy _=>xu _) c
 refine xx z ((K23.avl _ _).trans ?_);rw[List.all_map];rfl
end
end K30
namespace K28
open L2 MI AT HND K22 K23 PRS K30
section
noncomputable def aha:SF:=ou (ag2 iy qz km aa) 7
theorem awe(wr:∀T:Table,T.Ok->(∀r,r<T.go.length->PN.Rch T.go r)->Pu dj 1 [T.d] (.bl true))(ns:List Int):∃h',aha [.scr (ns.map D.int)] []=.ok (.bl true) h':=by
 obtain⟨o,P,e0⟩:=apg ns [];obtain⟨T1,o1,h1,r1,e1,P1⟩:=a8y P (by lia)
 have n1:=h1.n1;have m1:=h1.n32;obtain⟨a,o2,e2,a0,a1,P2⟩:=m8 (m:=(T1.go.length:Nat)) P1 (by lia) (by lia) (by lia)
 obtain⟨b,o3,e3,b0,b1,P3⟩:=m8 (m:=(T1.go.length:Nat)) P2 (by lia) (by lia) (by lia)
 obtain⟨T2,o4,h2,r2,e4,P4⟩:=a8y P3 (by lia)
 have n2:=h2.n1;have m2:=h2.n32;obtain⟨c,o5,e5,c0,c1,P5⟩:=m8 (m:=(T2.go.length:Nat)) P4 (by lia) (by lia) (by lia)
 obtain⟨a,rfl⟩:=Int.eq_ofNat_of_zero_le a0;obtain⟨b,rfl⟩:=Int.eq_ofNat_of_zero_le b0;obtain⟨c,rfl⟩:=Int.eq_ofNat_of_zero_le c0;have k1:gq false 1 iy [.ref 0] [o]=.ok T1.d [o1]:=e1 0 _ rfl;have k2:gq false 2 aa [.ref 0,au T1.go.length] [o1]=.ok (au a) [o2]:=e2 0 _ rfl;have k3:gq false 2 aa [.ref 0,au T1.go.length] [o2]=.ok (au b) [o3]:=e3 0 _ rfl;have k4:gq false 1 iy [.ref 0] [o3]=.ok T2.d [o4]:=e4 0 _ rfl;have k5:gq false 2 aa [.ref 0,au T2.go.length] [o4]=.ok (au c) [o5]:=e5 0 _ rfl
 have q1:=abo h1 (wr T1 h1 r1) (a:=a) (b:=b) (by lia) (by lia)
 have q2:=abo h2 (wr T2 h2 r2) (a:=c) (b:=0) (by lia) (by lia)
 refine⟨[o5],?_⟩;unfold aha;rw[fu];show toR (ag2 iy qz km aa [some (.scr (ns.map D.int)),none,none,none,none,none,none] [])=_;unfold ag2;refine ets (xx (bc (i:=0) rfl) e0) ?_;refine ets (xx (bc (i:=1) rfl) k1) ?_;refine ets (sr (bc (i:=1) rfl) (xx (n8 (bc (i:=2) rfl) ckk (a6b (j:=1) rfl)) (qw.trans (by rw[List.length_map]))) k2) ?_
 refine ets (sr (bc (i:=1) rfl) (xx (n8 (bc (i:=2) rfl) ckk (a6b (j:=1) rfl)) (qw.trans (by rw[List.length_map]))) k3) ?_
 refine ets (xx (bc (i:=1) rfl) k4) ?_;refine ets (sr (bc (i:=1) rfl) (xx (n8 (bc (i:=5) rfl) ckk (a6b (j:=1) rfl)) (qw.trans (by rw[List.length_map]))) k5) ?_
 exact congrArg toR (vq (ag8 (acv (bc (i:=2) rfl) (bc (i:=3) rfl) (bc (i:=4) rfl) (q1 _)) (ag8 (acv (bc (i:=5) rfl) (bc (i:=6) rfl) ckk (q2 _)) (acv (bc (i:=2) rfl) (bc (i:=3) rfl) (bc (i:=4) rfl) (q1 _)))))
end
end K28
namespace K28
open L2 MI AT HND K22 K23 K30 STP
section
variable{T:Table}
noncomputable def fz(es:List Ent):List Ent:=es.filter λe=>decide (e.1≠0)
theorem ahb{es:List Ent}{x:Nat}(hx:x≠0):x∈(fz es).map (·.1)↔x∈es.map (·.1):=by
 unfold fz
 constructor
 .intro h
  obtain⟨e,he,rfl⟩:=List.mem_map.mp h;exact List.mem_map.mpr ⟨e,(List.mem_filter.mp he).1,rfl⟩
 .intro h
  obtain⟨e,he,rfl⟩:=List.mem_map.mp h;exact List.mem_map.mpr ⟨e,List.mem_filter.mpr ⟨he,decide_eq_true hx⟩,rfl⟩
def RR(L P:List Ent):Prop:=L=(0,[])::fz P
theorem aqf{L P:List Ent}{e:Ent}{c:Nat}(r:RR L P):RR (rm T e L c) (rm T e P c):=by
 unfold RR at r ⊢;subst r;unfold rm
 by_cases z:stp T e.1 c=0
 .rw[if_pos (show stp T e.1 c∈((0,[])::fz P:List Ent).map (·.1) by rw[z];simp)]
  split
  .rfl
  .unfold fz;rw[List.filter_append,List.filter_cons,if_neg (by simp[z])]
   simp
 .by_cases m:stp T e.1 c∈P.map (·.1)
  .rw[if_pos m,if_pos (show stp T e.1 c∈((0,[])::fz P:List Ent).map (·.1) from List.mem_cons_of_mem _ ((ahb z).mpr m))]
  .rw[if_neg m,if_neg (λq=>by
    rcases List.mem_cons.mp q with q|q
    .exact z q
    .exact m ((ahb z).mp q))]
   unfold fz;rw[List.filter_append,List.filter_cons (xs:=[]),if_pos (by simp[z])]
   rfl
theorem ahc{e:Ent}:∀{cs:List Nat} {L P:List Ent},RR L P->RR (a1a T L e cs) (a1a T P e cs)
 |[],_,_,r=>r
 |c::cs,L,P,r=>ahc (cs:=cs) (L:=rm T e L c) (P:=rm T e P c) (aqf r)
theorem abp{e:Ent}:∀{cs:List Nat} {P:List Ent},(∀c∈cs,stp T e.1 c∈P.map (·.1))->a1a T P e cs=P
 |[],_,_=>rfl
 |c::cs,P,h=>by
  have s:rm T e P c=P:=by unfold rm;rw[if_pos (h c List.mem_cons_self)]
  show a1a T (rm T e P c) e cs=P;rw[s];exact abp λc hc=>h c (List.mem_cons_of_mem _ hc)
noncomputable def itP(T:Table):Nat->List Ent
 |0=>[]
 |l+1=>match ((0,[])::itP T l:List Ent)[l]? with
  |some e=>a1a T (itP T l) e (List.range T.tg.length)
  |none=>itP T l
theorem akl(l:Nat):∃m,itP T (l+1)=itP T l++m:=by
 rw[itP]
 split
 .exact a0s
 .exact⟨[],(List.append_nil _).symm⟩
theorem am5{e:Ent}:∀{cs:List Nat} {es:List Ent} {c:Nat},c∈cs->stp T e.1 c∈(a1a T es e cs).map (·.1)
 |d::cs,es,c,h=>by
  show stp T e.1 c∈(a1a T (rm T e es d) e cs).map (·.1)
  rcases List.mem_cons.mp h with rfl|h
  .obtain⟨m,hm⟩:=a0s (T:=T) (e:=e) (cs:=cs) (es:=rm T e es c);rw[hm,List.map_append];exact List.mem_append_left _ abh
  .exact am5 h
theorem abq{c:Nat}(hc:c<T.tg.length):∀l,stp T 0 c∈(itP T (l+1)).map (·.1)
 |0=>am5 (e:=(0,[])) (List.mem_range.mpr hc)
 |l+1=>by
  obtain⟨m,hm⟩:=akl (T:=T) (l+1);rw[hm,List.map_append];exact List.mem_append_left _ (abq hc l)
theorem ahd:∀l,RR (itW T (1+(fz ((itP T (l+1)).take l)).length)) (itP T (l+1))
 |0=>by
  show RR (itW T 1) (itP T 1);exact ahc (T:=T) (e:=(0,[])) (cs:=List.range T.tg.length) (L:=[(0,[])]) (P:=[]) rfl
 |l+1=>by
  have ih:=ahd l;obtain⟨Q,hQ⟩:∃Q,Q=itP T (l+1):=⟨_,rfl⟩;rw[<-hQ]at ih;have e2:itP T (l+2)=match Q[l]? with|some e=>a1a T Q e (List.range T.tg.length)|none=>Q:=by
   rw[itP,<-hQ,List.getElem?_cons_succ]
  cases q:Q[l]? with
  |none =>
   rw[q]at e2;have ll:Q.length<=l:=List.getElem?_eq_none_iff.mp q;rw[show itP T (l+1+1)=Q from e2,List.take_of_length_le (by lia)]
   rw[List.take_of_length_le ll]at ih;exact ih
  |some e =>
   rw[q]at e2;have hl:=(List.getElem?_eq_some_iff.mp q).1;obtain⟨m,hm⟩:=a0s (T:=T) (e:=e) (cs:=List.range T.tg.length) (es:=Q);have tk:(itP T (l+1+1)).take (l+1)=Q.take l++[e]:=by
    rw[show itP T (l+1+1)=a1a T Q e (List.range T.tg.length) from e2,hm,List.take_append_of_le_length (by lia),List.take_add_one,q]
    rfl
   by_cases z:e.1=0
   .have same:a1a T Q e (List.range T.tg.length)=Q:=abp λc hc=>by rw[z,hQ];exact abq (List.mem_range.mp hc) l
    rw[tk,show itP T (l+1+1)=Q from e2.trans same]
    rw[show fz (Q.take l++[e])=fz (Q.take l) by unfold fz;rw[List.filter_append,List.filter_cons (xs:=[]),if_neg (by simp[z])];simp]
    exact ih
   .rw[tk,show itP T (l+1+1)=a1a T Q e (List.range T.tg.length) from e2]
    have fe:fz (Q.take l++[e])=fz (Q.take l)++[e]:=by unfold fz;rw[List.filter_append,List.filter_cons (xs:=[]),if_pos (by simp[z])];rfl
    rw[fe,List.length_append,List.length_singleton,<-Nat.add_assoc];have at':(itW T (1+(fz (Q.take l)).length))[1+(fz (Q.take l)).length]? = some e:=by
     have r:itW T (1+(fz (Q.take l)).length)=(0,[])::fz Q:=ih;rw[r,Nat.add_comm 1,List.getElem?_cons_succ];have sp:fz Q=fz (Q.take l)++(e::fz (Q.drop (l+1))):=by
      have d:Q=Q.take l++(e::Q.drop (l+1)):=by
       obtain⟨h1,h2⟩:=List.getElem?_eq_some_iff.mp q;rw[<-h2,List.getElem_cons_drop,List.take_append_drop]
      conv=>lhs;rw[d]
      unfold fz;rw[List.filter_append,List.filter_cons,if_pos (by simp[z])]
     rw[sp,List.getElem?_append_right (Nat.le_refl _),Nat.sub_self];rfl
    rw[itW,at'];exact ahc ih
end
end K28
namespace K28
open L2 MI AT HND K23 K21 RCH
open K22
open K40
open K30 (rm)
open STP
section
variable{T:Table}
variable{ps:Nat->Bool}{s:Nat}{es:List Ent}
theorem ad3(h:T.Ok)(hs:s<T.go.length){P:D}(hP:∀x,x<T.go.length->∀hh,gIx P (au x) hh=.ok (.bl (ps x)) hh)(W:WSt T ps s es){l c:Nat}{e:Ent}(he:((s,[])::es)[l]? = some e)(hc:c<T.tg.length)(τ:Sd)
  (hτ:τ=τW T s P l (some (au e.1)) (some (.str (S e.2))) (some (.str (S [tgA T c]))) (some (au (stp T e.1 c))))  :
  ug τ (hW s es)=.nx τ (hW s (if ps (stp T e.1 c)=true then rm T e es c else es))/\WSt T ps s (if ps (stp T e.1 c)=true then rm T e es c else es):=by
 have n32:=h.n32;have fw:=W.few h hs;have sl:=vz h e.1 c;have em:=List.mem_of_getElem? he;have ll:=(List.getElem?_eq_some_iff.mp he).1;rw[List.length_cons]at ll;have we:=W.len l e he;have eW:=W.way e em;subst hτ;have t1:a5j (s2 gIx (sV 2) (sV 12)) (τW T s P l (some (au e.1)) (some (.str (S e.2))) (some (.str (S [tgA T c]))) (some (au (stp T e.1 c)))) (hW s es)=.ok (ps (stp T e.1 c)) (hW s es):=a4w (n8 (bc rfl) (bc rfl) (hP _ sl _)) (vp _);have din:a3r true (au (stp T e.1 c)) (.ref 0) (hW s es)=.ok (.bl (!(a4m (es.map kvD) (.inl ((stp T e.1 c:Nat):Int))).isSome)) (hW s es):=rfl
 unfold ug
 cases hp:ps (stp T e.1 c) with
 |false =>
  rw[hp]at t1;rw[if_neg (by simp)]
  exact⟨ifF (awz t1),W⟩
 |true =>
  rw[hp]at t1
  by_cases sn:stp T e.1 c∈es.map (·.1)
  .obtain⟨e2,he2,q⟩:=List.mem_map.mp sn;rw[if_pos rfl,show rm T e es c=es from if_pos sn]
   refine⟨?_,W⟩;refine ifF (aqq t1 (t2s (bc rfl) (bc rfl) (din.trans ?_)));rw[<-q,a1n he2 W.nd];rfl
  .have wo:Way T ps s (stp T e.1 c,e.2++[tgA T c]):=by
    have lw:ldw T s (e.2++[tgA T c])=stp T e.1 c:=by rw[a7j,zg h hc,eW.to]
    refine⟨lw,λd hd=>?_,λi hi=>?_⟩
    .rcases List.mem_append.mp hd with z|z
     .exact eW.sg d z
     .rw[List.mem_singleton]at z;subst z;exact List.mem_of_getElem? (a8x hc)
    .rw[List.length_append,List.length_singleton]at hi
     by_cases q:i<e.2.length
     .show ps (ldw T s ((e.2++[tgA T c]).take (i+1)))=true;rw[List.take_append_of_le_length (by lia)];exact eW.ps i q
     .show ps (ldw T s ((e.2++[tgA T c]).take (i+1)))=true;rw[List.take_of_length_le (by rw[List.length_append,List.length_singleton];lia),lw];exact hp
   obtain⟨v1,v2⟩:=agm sn;have add:∀hh,j9 (.str (S e.2)) (.str (S [tgA T c])) hh=.ok (.str (S (e.2++[tgA T c]))) hh:=λhh=>aa0 (dz (by rw[List.length_singleton];lia))
   have p:af8 (.ref 0) (au (stp T e.1 c)) (.str (S (e.2++[tgA T c]))) (hW s es)=some [.dK ((es++[(stp T e.1 c,e.2++[tgA T c])]).map kvD),.lst (((s,[])::es).map wtD)]:=by
    have lt:(es.map kvD).length<LINE:=zf (by rw[List.length_map];lia)
    show(if (es.map kvD).length<LINE then some [O.dK (putD (es.map kvD) (.inl ((stp T e.1 c:Nat):Int)) (.str (S (e.2++[tgA T c])))),O.lst (((s,[])::es).map wtD)] else none)=_
    rw[if_pos lt,v2,List.map_append];rfl
   rw[if_pos rfl,show rm T e es c=es++[(stp T e.1 c,e.2++[tgA T c])] from if_neg sn]
   refine⟨?_,W.add wo (by simp) sn (by rw[List.length_append,List.length_singleton];lia)⟩
   refine Eq.trans (ifT (aqq t1 (t2s (bc rfl) (bc rfl) (din.trans (by rw[v1];rfl))))) ?_
   refine Eq.trans (xg (a8t (n8 (bc rfl) (bc rfl) (add _)) (bc rfl) (bc rfl) p)) ?_;refine Eq.trans (a1m (bc rfl) rfl (arg1 (sr (bc rfl) (n8 (bc rfl) (bc rfl) (add _)) a8v)) (a2u (xs:=((s,[])::es).map wtD) rfl (zf (by rw[List.length_map,List.length_cons];lia)))) ?_
   unfold hW;rw[show(s,[])::(es++[(stp T e.1 c,e.2++[tgA T c])])=((s,[])::es)++[(stp T e.1 c,e.2++[tgA T c])] from rfl,List.map_append (l₁:=(s,[])::es)]
   rfl
end
end K28
namespace K28
open L2 MI AT HND K23 K21 RCH
open K22
open K40
open K30 (rm a1a a0s)
open STP
section
variable{T:Table}
theorem akm(h:T.Ok){P:D}(cP:MI.clo 0 P)(hP:∀x,x<T.go.length->∀hh,gIx P (au x) hh=.ok (.bl true) hh):∃l es,es=itP T l/\es.length<l/\WSt T (λ_=>true) 0 es/\Pu jw 3 [T.d,au 0,P] (wrD es):=by
 have n32:=h.n32;have hs:=h.n1;have w:=acf (c:=a0n) (f:=yh)
  (λm τ hh=>∃(es:List Ent) (l:Nat) (t9 t10 t11 t12:Option D),τ=τW T 0 P l t9 t10 t11 t12/\hh=hW 0 es/\m=T.go.length+1-l/\l<=es.length+1/\WSt T (λ_=>true) 0 es/\es=itP T l)
  (λτ hh=>∃(es:List Ent) (l:Nat) (t9 t10 t11 t12:Option D),τ=τW T 0 P l t9 t10 t11 t12/\hh=hW 0 es/\WSt T (λ_=>true) 0 es/\es=itP T l/\es.length<l)
  (λ_ _=>False) ?_ (T.go.length+1) 100000 (τW T 0 P 0 none none none none) (hW 0 []) (by lia)
  ⟨[],0,none,none,none,none,rfl,rfl,rfl,by simp,WSt.start,rfl⟩
 .rcases w with⟨τ',h',e,es,l,t9,t10,t11,t12,rfl,rfl,W,ei,el⟩|⟨_,_,_,z⟩
  .refine⟨l,es,ei,el,W,Pu.of rfl (apu (bw _) cP) (r:=.ok (.ref 0) (hW 0 es)) ?_ (a2l (apx (Nat.le_refl _) rfl (alw _ _)) (by simp)) (apy _)⟩
   unfold jw;rw[fu];show toR (a0f [some T.d,some (au 0),some P,none,none,none,none,none,none,none,none,none,none] [])=_;unfold a0f;refine etr (xg (aa4 (bc rfl) rfl)) ?_;refine etr (jl (d:=.ref 0) (h1:=[.dK []]) rfl) ?_;refine ets (xx (sr (bc rfl) ckk a8v) rfl) ?_;refine etr (jl ckk) ?_;refine etr (xg e) ?_;exact congrArg toR (vq (bc rfl))
  .exact z.elim
 .rintro m τ hh ⟨es,l,t9,t10,t11,t12,rfl,rfl,rfl,le,W,ei⟩
  have fw:=W.few h hs;have ln:oh [.ref 1] (hW 0 es)=.ok (au (es.length+1)) (hW 0 es):=by
   have:=a7h (h:=hW 0 es) (i:=1) (xs:=((0,[])::es).map wtD) rfl
   rwa[List.length_map,List.length_cons]at this
  by_cases lt:l<es.length+1
  .refine .inr ⟨_,t2s (bc rfl) (xx (bc rfl) ln) (b1d (by lia)),.inl ?_⟩
   have he:((0,[])::es)[l]? = some ((0,[])::es)[l]:=List.getElem?_eq_getElem (by simpa using lt)
   generalize ((0,[])::es)[l]=e at he
   have el:=W.lt h hs (List.mem_of_getElem? he);obtain⟨row,er,lr,lx,at'⟩:=agi h el;have lo:=kj (g:=a2a 2 (g8 (kN 11) (g8 (kN 12) a2j))) (b:=ug) (λc:Nat=>D.tup [.str (S [tgA T c]),au (stp T e.1 c)])
    (λpre τ hh=>∃(t11 t12:Option D),τ=τW T 0 P l (some (au e.1)) (some (.str (S e.2))) t11 t12/\hh=hW 0 (a1a T es e pre)/\WSt T (λ_=>true) 0 (a1a T es e pre))
    (List.range T.tg.length) (τW T 0 P l (some (au e.1)) (some (.str (S e.2))) t11 t12) (hW 0 es) ?_ ⟨t11,t12,rfl,rfl,W⟩
   .obtain⟨τ',h',e2,t11',t12',rfl,rfl,W'⟩:=lo;have fx:gIx (.ref 1) (au l) (hW 0 es)=.ok (wtD e) (hW 0 es):=a6a (xs:=((0,[])::es).map wtD) rfl (by rw[List.getElem?_map,he];rfl)
    have zi:a9r (sV 3) (s2 gIx (sV 4) (sV 9)) (τW T 0 P l (some (au e.1)) (some (.str (S e.2))) t11 t12) (hW 0 es)=.ok ⟨(List.range T.tg.length).map λc=>.tup [.str (S [tgA T c]),au (stp T e.1 c)],λ_=>True⟩ (hW 0 es):=by
     unfold a9r;rw[bc rfl,az,n8 (bc rfl) (bc rfl) (a6b (by rw[List.getElem?_map,er];rfl)),az,<-agj lr at']
     unfold ala;simp only[srcOf,and_self]
    obtain⟨mm,hm⟩:=a0s (T:=T) (e:=e) (cs:=List.range T.tg.length) (es:=es);refine⟨τW T 0 P (l+1) (some (au e.1)) (some (.str (S e.2))) t11' t12',hW 0 (a1a T es e (List.range T.tg.length)),T.go.length+1-(l+1),?_,by lia,_,l+1,_,_,_,_,rfl,rfl,rfl,by rw[hm,List.length_append];lia,W',?_⟩
    .unfold yh;refine Eq.trans (xg (aa4 (n8 (bc rfl) (bc rfl) fx) rfl)) ?_;refine Eq.trans (a3f zi) ?_;refine Eq.trans (congrArg (λz=>MI.thn z _) e2) ?_;rw[ut];exact ak5 rfl ckk a4u
    .rw[itP,<-ei,he]
   .rintro pre c post τ hh all ⟨t11,t12,rfl,rfl,W'⟩
    obtain⟨hi,hc⟩:=a1l all;obtain⟨mm,hm⟩:=a0s (T:=T) (e:=e) (cs:=pre) (es:=es);have he':((0,[])::a1a T es e pre)[l]? = some e:=by
     rw[hm,show(0,[])::(es++mm)=((0,[])::es)++mm from rfl,List.getElem?_append_left (by simpa using lt)];exact he
    obtain⟨e3,W2⟩:=ad3 h hs hP W' he' hc _ rfl;rw[if_pos rfl]at e3 W2;refine⟨_,_,rfl,_,_,e3,_,_,rfl,?_,?_⟩
    .rw[show a1a T es e (pre++[c])=rm T e (a1a T es e pre) c by unfold a1a;rw[List.foldl_append];rfl]
    .rw[show a1a T es e (pre++[c])=rm T e (a1a T es e pre) c by unfold a1a;rw[List.foldl_append];rfl]
     exact W2
  .exact .inl ⟨_,t2s (bc rfl) (xx (bc rfl) ln) (b1e (by lia)),es,l,_,_,_,_,rfl,rfl,W,ei,by lia⟩
end
end K28
namespace K28
open L2 MI AT HND K22 K23 K30 STP
section
variable{T:Table}
theorem a5f{k:Nat}(h:(itW T k).length<=k):∀j,itW T (k+j)=itW T k
 |0=>rfl
 |j+1=>by
  have ih:=a5f h j;show itW T (k+j+1)=_;rw[itW,ih,List.getElem?_eq_none (by lia)]
theorem aqg{k k':Nat}(h:(itW T k).length<=k)(h':(itW T k').length<=k'):itW T k=itW T k':=by
 rcases Nat.le_total k k' with q|q
 .have:=a5f h (k'-k)
  rw[show k+(k'-k)=k' by lia]at this
  exact this.symm
 .have:=a5f h' (k-k')
  rw[show k'+(k-k')=k by lia]at this
  exact this
theorem aqh{l:Nat}{es L:List Ent}(ei:es=itP T l)(el:es.length<l)(eL:L=itW T L.length):L=(0,[])::fz es:=by
 obtain⟨k,rfl⟩:∃k,l=k+1:=⟨l-1,by lia⟩
 have r:=ahd (T:=T) k;rw[<-ei,List.take_of_length_le (by lia)]at r
 have r:itW T (1+(fz es).length)=(0,[])::fz es:=r;have h1:(itW T (1+(fz es).length)).length<=1+(fz es).length:=by rw[r,List.length_cons];lia
 have h2:(itW T L.length).length<=L.length:=by rw[<-eL];exact Nat.le_refl _
 rw[eL,aqg h2 h1,r]
end
end K28
namespace K28
open L2 MI AT HND K23 K21 RCH
open K22
open K40
open K30 (WyA wyO agr)
open STP
section
variable{T:Table}
theorem awf{es:List Ent}{r:Nat}(hr:r≠0):((fz es).find? λe=>decide (e.1=r))=es.find? λe=>decide (e.1=r):=by
 induction es with
 |nil=>rfl
 |cons e es ih =>
  unfold fz;rw[List.filter_cons]
  by_cases z:e.1=0
  .rw[if_neg (by simp[z]),List.find?_cons,decide_eq_false (λq=>hr (q.symm.trans z))]
   exact ih
  .rw[if_pos (by simp[z]),List.find?_cons,List.find?_cons]
   split
   .rfl
   .exact ih
theorem aqi(h:T.Ok){L:List Ent}(A:WyA T L):Pu jx 1 [T.d] (.tup ((List.range T.go.length).map λr=>.str (S (wyO L r)))):=by
 have n32:=h.n32;have n1:=h.n1;have cl:clos 0 (List.replicate T.go.length (D.bl true)):=uc.mpr λx hx=>by rw[(List.mem_replicate.mp hx).2];exact xu _
 obtain⟨l,es,ei,el,W,e⟩:=akm (P:=.rol (List.replicate T.go.length (.bl true))) h (mj cl) λx hx hh=>avh (by rw[List.getElem?_replicate,if_pos hx])
 have eL:=aqh ei el A.it;have w0:wyO L 0=[]:=agr A.nd (List.mem_of_getElem? A.h0);have wn:∀r,r≠0->wyO L r=wdO es r:=λr hr=>by
  unfold wyO wdO;rw[eL,List.find?_cons,decide_eq_false (λq=>hr q.symm)];exact congrArg (λz=>(Option.map (·.2) z).getD []) (awf hr)
 have all:∀r,r<T.go.length->r=0\/r∈es.map (·.1):=λr hr=>by
  have:=A.all r hr
  rw[eL]at this
  by_cases z:r=0
  .exact .inl z
  .rcases List.mem_cons.mp this with q|q
   .exact absurd q z
   .exact .inr ((ahb z).mp q)
 have cw:clos 0 ((List.range T.go.length).map λr=>D.str (S (wyO L r))):=bz λr _=>ud _;refine Pu.of rfl (az2 Table.clo) (r:=.ok (.tup ((List.range T.go.length).map λr=>.str (S (wyO L r)))) []) ?_ (jb (j7 cw) (by simp)) (j7 cw)
 unfold jx;rw[fu];show toR (a1h jw [some T.d,none,none] [])=_;unfold a1h;refine ets (xx (ahn rfl (a6b (j:=1) rfl)) (qw.trans (by rw[List.length_map]))) ?_
 have z1:∀τ:Sd,sZ (sA a2h (aj (sC (.bl true)) bj)) τ []=.ok (.rol [.bl true]) []:=λτ=>a0z (xs:=[D.bl true]) (xx ckk rfl) (dm (xu _) m9) (by simp)
 have z2:sZ (s2 zp (sZ (sA a2h (aj (sC (.bl true)) bj))) (sV 1)) [some T.d,some (au T.go.length),none] []=.ok (.rol (List.replicate T.go.length (.bl true))) []:=a0z (n8 (z1 _) (bc rfl) (akd (dz (by lia)))) cl (by simp)
 refine ets (acv (bc rfl) ckk z2 (e _)) ?_;have z3:∀τ:Sd,sZ (sA a2h (aj (sC (.str "")) bj)) τ []=.ok (.rol [.str (S [])]) []:=λτ=>a0z (xs:=[D.str ""]) (xx ckk rfl) (dm (ud _) m9) (by simp)
 have z4:sZ (wj (sRg a07 (aj (sI 1) (aj (sV 1) bj))) t1 (vh jw) [2]) [some T.d,some (au T.go.length),some (wrD es)] []=.ok (.rol ((List.range (T.go.length-1)).map λi=>.str (S (wyO L (1+i))))) []:=by
  refine a0z (uq (λi:Nat=>au (1+i)) (λi=>.str (S (wyO L (1+i)))) (List.range (T.go.length-1)) (a3d (a:=1) ckk (bc rfl) (dz (by lia)) (dz (by lia))) (dz (by rw[List.length_range];lia)) λi hi=>?_) (bz λi _=>ud _) (by simp)
  have hi:=List.mem_range.mp hi;rw[a3e];unfold vh;have hm:=avs ((all (1+i) (by lia)).resolve_left (by lia))
  rw[wn (1+i) (by lia)]
  exact n8 (bc rfl) (bc rfl) (apz (e:=(1+i,wdO es (1+i))) hm W.nd _)
 have eq:(List.range T.go.length).map (λr=>D.str (S (wyO L r)))=[.str (S [])]++(List.range (T.go.length-1)).map λi=>.str (S (wyO L (1+i))):=by
  obtain⟨m,hm⟩:∃m,T.go.length=m+1:=⟨T.go.length-1,by lia⟩
  rw[hm,List.range_succ_eq_map,List.map_cons,List.map_map,Nat.add_sub_cancel,w0];refine congrArg (List.cons _) ?_;refine List.map_congr_left λi _=>?_;show D.str (S (wyO L (i+1)))=_;rw[Nat.add_comm]
 have z5:sZ (s2 j9 (sZ (sA a2h (aj (sC (.str "")) bj))) (sZ (wj (sRg a07 (aj (sI 1) (aj (sV 1) bj))) t1 (vh jw) [2]))) [some T.d,some (au T.go.length),some (wrD es)] []=.ok (.rol ((List.range T.go.length).map λr=>.str (S (wyO L r)))) []:=by
  refine a0z (n8 (z3 _) z4 ?_) cw (by simp)
  rw[eq];exact(af2 (xs:=[.str (S [])]) (ys:=(List.range (T.go.length-1)).map λi=>.str (S (wyO L (1+i)))) rfl rfl).trans (if_pos (dz (by simp only[List.length_map,List.length_range,List.length_singleton];lia)))
 exact congrArg toR (vq (xx z5 rfl))
end
end K28
namespace K28
open L2 MI AT HND K22 K23 PRS K30
open STP (Ent jx)
section
variable{T:Table}
theorem az8(h:T.Ok)(rc:∀r,r<T.go.length->PN.Rch T.go r):Pu dj 1 [T.d] (.bl true):=by
 have n32:=h.n32;obtain⟨L,A,e⟩:=ake h rc;have cw:clos 0 (wsD L T.go.length):=bz λr _=>ud _;have p1:=aqi h A;have p2:Pu j8 1 [T.d] (.rol (wsD L T.go.length)):=Pu.of rfl (by intro x hx;rw[List.mem_singleton]at hx;subst hx;exact Table.clo) e (a3s (i:=2) (h1:=hY L++[.lst (wsD L T.go.length)]) (Nat.zero_le _) rfl cw (by simp)) (mj cw)
 refine Pu.of rfl (by intro x hx;rw[List.mem_singleton]at hx;subst hx;exact Table.clo) (r:=.ok (.bl true) []) ?_ (jb (xu _) (by simp)) (xu _)
 unfold dj;rw[fu];show toR (m5 bu j8 jx [some T.d,none,none] [])=_;unfold m5;refine ets (xx (bc (i:=0) rfl) (p1 _)) ?_;refine ets (xx (bc (i:=0) rfl) (p2 _)) ?_;have it:a0e [.tup ((List.range T.go.length).map λr=>D.str (S (wyO L r))),.ty "tuple"] []=.ok (.bl true) []:=by simp[a0e,al6,tyD,ahj]
 have ln:hNe (au T.go.length) (au T.go.length) []=.ok (.bl false) []:=by
  refine(K40.alq _ _).trans ?_;rw[decide_eq_false (λz=>z rfl)]
 have l1:oh [.tup ((List.range T.go.length).map λr=>D.str (S (wyO L r)))] []=.ok (au T.go.length) []:=qw.trans (by rw[List.length_map,List.length_range])
 have l2:oh [.rol (wsD L T.go.length)] []=.ok (au T.go.length) []:=a1j.trans (by rw[List.length_map,List.length_range])
 refine eti (orF (ak4 (a4w (sr (bc (i:=1) rfl) ckk it) (vp _))) (t2s (xx (bc (i:=1) rfl) l1) (xx (bc (i:=2) rfl) l2) ln)) ?_;have zi:a9r (sV 1) (sV 2) [some T.d,some (.tup ((List.range T.go.length).map λr=>D.str (S (wyO L r)))),some (.rol (wsD L T.go.length))] []=.ok ⟨(List.range T.go.length).map λr=>.tup [sD (wyO L r),sD (wyO L r)],λ_=>True⟩ []:=by
  unfold a9r;rw[bc rfl,az,bc rfl,az];unfold ala;simp only[srcOf,and_self];rw[List.zip_map',List.map_map];rfl
 have al:=K30.awd (hp:=[]) (t:=tN 2) (fe:=j6 bu j8 jx) (ix:=[]) (λr:Nat=>D.tup [sD (wyO L r),sD (wyO L r)]) (List.range T.go.length) (λ_=>true) (by rw[List.length_range];lia) zi (λr _=>by
  show j6 bu j8 jx [some (sD (wyO L r)),some (sD (wyO L r))] []=_;unfold j6;exact sr (bc (i:=0) rfl) (bc (i:=1) rfl) (a93 _ _)) (by simp)
 rw[show(List.range T.go.length).all (λ_=>true)=true by rw[List.all_eq_true];intros;rfl]at al
 exact congrArg toR (vq al)
theorem awg(ns:List Int):∃h',aha [.scr (ns.map D.int)] []=.ok (.bl true) h':=awe (λ_ h rc=>az8 h rc) ns
end
end K28
namespace K28
open L2 MI
noncomputable def akn(K:Fg):Sp:=λvs H Q _=>∃(a:Addr) (ns:List Int),vs=[.ref a]/\SqF K H a (ns.map V.int)/\ns.length<=63/\∀H',Q (.bl true) H'
theorem a95{K:Fg}{U:List Addr}{H:Hp}:∀ns:List Int,Reps K U H (ns.map V.int) (ns.map D.int)
 |[]=>.nil
 |n::ns=>.cons (.int n) (a95 ns)
theorem awh{K:Fg}(vs:List V)(H:Hp)(Q:VK)(E:XK)(h:akn K vs H Q E):aan K 1 K28.aha vs H Q E:=by
 obtain⟨a,ns,rfl,hS,hl,q⟩:=h;obtain⟨h',e⟩:=K28.awg ns;refine⟨rfl,[],[.scr (ns.map D.int)],[],.cons (.scr hS (a95 ns)) .nil,⟨List.nodup_nil,rfl,λi a o z=>by simp at z⟩,?_⟩
 rw[e]
 intro U' H' b g r hr
 cases r
 exact q H'
theorem awi{K:Fg}{H:Hp}{a:Addr}{vs:List V}(hO:Only H)(hS:SqL K H a vs):SqF K H a vs:=by
 rcases hS with r|r
 .rcases r with r|⟨o,r⟩
  .rcases hO a with z|⟨o,xs,z⟩<;>rw[z]at r<;>cases r
  .exact .inl ⟨o,r⟩
 .exact .inr (.inr r)
abbrev fo(x:Str)(t:Stmt)(kV dc pm:Value)(an:Option Addr)(cd ct:Value):=PySem.W.fnOf x x (a2d t) (wg t) (gj t) .none kV dc pm an cd ct
def Df(K:Fg)(f:Addr)(nm:Str)(i:Nat):Prop:=∃oc od kV dc pm an cd ct sl,PySem.W.nsIn K mainGlobals nm=some (some (.ref f))/\K.lookup f=some ⟨oc,od,.func (fo nm (top i) kV dc pm an cd ct),sl⟩/\PySem.W.codeIn K cd nm=true/\PySem.W.keepIn K (.ref f)=true
theorem df{K:Fg}{f:Addr}{nm:Str}{i:Nat}(d:Df K f nm i):∃e,PySem.W.nsIn K mainGlobals nm=some (some (.ref f))/\Fun K nm nm (top i) f e:=by
 obtain⟨_,_,_,_,_,_,_,_,_,a,l,c,k⟩:=d;exact⟨_,a,as8 l c k⟩
theorem am6{P:Program}{w:World}{K:Fg}{mg:Str->Option Value}{base:Heap}{f:Addr}{k:Nat}{N ps:List Str}{x:Str}{t:Stmt}{b:SS}{fd:FuncData}(Fu:Fun K x x t f fd)(m:MD P w K mg base f k N ps x t b):FnOk P w K mg base CX0 (k+1) f fd ps (aan K ps.length (ou b N.length)):=aue Fu m.1 m.2
theorem xn{P:Program}{w:World}{K:Fg}{mg:Str->Option Value}{base h:Heap}{f:Addr}{nm:Str}{i k:Nat}{F:SF}{N ps:List Str}{b:SS}(d:Df K f nm i)(X:K.In h)(G:h.Ns mainGlobals mg)(m:MD P w K mg base f k N ps nm (top i) b)
  (h:∀(kV doc pm:Value) (an:Option Addr) (cdv ct:Value) (us:List Value),us.length=ps.length->bindArgs (PySem.W.fnOf nm nm (a2d (top i)) (wg (top i)) (gj (top i)) .none kV doc pm an cdv ct) ⟨us,[]⟩=pure (ps.zip us)) (e:F=ou b N.length:=by rfl) :
  ∃fd,Dn P w K mg base (k+1) nm ps (aan K ps.length F) f fd:=by
 obtain⟨_,a,Fu⟩:=df d;rw[e];exact⟨_,am6 Fu m,PySem.W.mg_of X G a,Fu.kp,Fu.binds h⟩
local macro_rules|`(tactic|walk_at "b") => `(tactic|(intro _ _ _ _ _ _ us hl;first|(apply azp hl;intro _;exact rfl)|(apply azq hl;intro _ _;exact rfl)|(apply av7 hl;intro _ _ _;exact rfl)|(apply azr hl;intro _ _ _ _;exact rfl)|(apply azs hl;intro _ _ _ _ _;exact rfl)|(apply b0t hl;intro _ _ _ _ _ _;exact rfl)|(apply len0 hl;exact rfl)))
theorem awj{l:PySem.W.OpenLaw}{w:World}{K:Fg}{h:Heap}{mg:Str->Option Value}{fa f1 f2 f3 f4 f5 f6 f7 f8 f9 f10 f11 f12 f13 f14 f15 f16 f17 f18 f19 f20 f21 f22 f23 f24 f25 f26:Addr}(X:K.In h)(G:h.Ns mainGlobals mg)(hfa:mg "law" = some (.ref fa))
  (d1:Df K f1 "words_to" 1)
  (d2:Df K f2 "ways_to" 3)
  (d3:Df K f3 "two_rooms" 4)
  (d4:Df K f4 "parting_words" 5)
  (d5:Df K f5 "longer_word" 6)
  (d6:Df K f6 "parting" 7)
  (d7:Df K f7 "partings" 8)
  (d8:Df K f8 "_law_hand" 10)
  (d9:Df K f9 "_law_take" 11)
  (d10:Df K f10 "_law_signs" 12)
  (d11:Df K f11 "_law_tongue" 13)
  (d12:Df K f12 "_law_goes" 14)
  (d13:Df K f13 "_law_kinds" 15)
  (d14:Df K f14 "_law_shuffled" 16)
  (d15:Df K f15 "_law_split" 17)
  (d16:Df K f16 "_law_copied" 18)
  (d17:Df K f17 "_law_ways" 19)
  (d18:Df K f18 "_law_near" 20)
  (d19:Df K f19 "_law_sizes" 21)
  (d20:Df K f20 "_law_parting" 22)
  (d21:Df K f21 "_law_number" 23)
  (d22:Df K f22 "_law_alike" 24)
  (d23:Df K f23 "_law_ways_right" 25)
  (d24:Df K f24 "_law_partings_right" 26)
  (d25:Df K f25 "_law_right" 27)
  (d26:Df K f26 "law" 28)
  (z1:PySem.W.nsIn K mainGlobals "abs" = some none) (z2:PySem.W.nsIn K mainGlobals "all" = some none) (z3:PySem.W.nsIn K mainGlobals "bool" = some none) (z4:PySem.W.nsIn K mainGlobals "enumerate" = some none) (z5:PySem.W.nsIn K mainGlobals "int" = some none) (z6:PySem.W.nsIn K mainGlobals "isinstance" = some none) (z7:PySem.W.nsIn K mainGlobals "len" = some none) (z8:PySem.W.nsIn K mainGlobals "list" = some none) (z9:PySem.W.nsIn K mainGlobals "max" = some none) (z10:PySem.W.nsIn K mainGlobals "min" = some none) (z11:PySem.W.nsIn K mainGlobals "range" = some none) (z12:PySem.W.nsIn K mainGlobals "str" = some none) (z13:PySem.W.nsIn K mainGlobals "tuple" = some none) (z14:PySem.W.nsIn K mainGlobals "zip" = some none)  :
  ∃fd:FuncData,(∀(s:Shared) (v:Value),BindsTo s fd ⟨[v],[]⟩ [("_law_script",v)])/\∀base:Heap,K.In base->base.Ns mainGlobals mg->FnOk l.prog w K mg base CX0 6 fa fd ["_law_script"] (akn K):=by
 obtain⟨_,a26,F26⟩:=df d26;have e:=hfa.symm.trans (PySem.W.mg_of X G a26);cases e
 obtain⟨oc,od,kV26,dc26,pm26,an26,cd26,ct26,sl,rfl,lk,hc⟩:=id F26.ex;have b26:=F26.binds (ps:=["_law_script"]) (by walk_at "b")
 have M:Nm mg:=⟨PySem.W.mg_none_of X G z1,PySem.W.mg_none_of X G z2,PySem.W.mg_none_of X G z3,PySem.W.mg_none_of X G z4,PySem.W.mg_none_of X G z5,PySem.W.mg_none_of X G z6,PySem.W.mg_none_of X G z7,PySem.W.mg_none_of X G z8,PySem.W.mg_none_of X G z9,PySem.W.mg_none_of X G z10,PySem.W.mg_none_of X G z11,PySem.W.mg_none_of X G z12,PySem.W.mg_none_of X G z13,PySem.W.mg_none_of X G z14⟩;refine⟨PySem.W.fnOf "law" "law" (a2d (top 28)) (wg (top 28)) (gj (top 28)) .none kV26 dc26 pm26 an26 cd26 ct26,λs v=>.of_eq rfl,λbase _ _=>?_⟩
 obtain⟨_,D_0⟩:=xn (F:=STP.jw) (k:=0) d1 X G (m_0 M) (by walk_at "b")
 obtain⟨_,D_1⟩:=xn (F:=STP.jx) (k:=1) d2 X G (m_1 M (dk D_0)) (by walk_at "b")
 obtain⟨_,D_2⟩:=xn (F:=K30.aq) (k:=0) d3 X G (m_2 M) (by walk_at "b")
 obtain⟨_,D_4⟩:=xn (F:=K28.ak) (k:=0) d5 X G (m_4 M) (by walk_at "b")
 obtain⟨_,D_3⟩:=xn (F:=K28.dh) (k:=1) d4 X G (m_3 (dk D_4) (dk D_2)) (by walk_at "b")
 obtain⟨_,D_5⟩:=xn (F:=K28.qi) (k:=2) d6 X G (m_5 M (dk D_3)) (by walk_at "b")
 obtain⟨_,D_6⟩:=xn (F:=K28.j4) (k:=2) d7 X G (m_6 M (dk D_3) (dk D_2)) (by walk_at "b")
 obtain⟨_,D_7⟩:=xn (F:=HND.qz) (k:=0) d8 X G (m_7 M) (by walk_at "b")
 obtain⟨_,D_8⟩:=xn (F:=HND.aa) (k:=0) d9 X G (m_8 M) (by walk_at "b")
 obtain⟨_,D_9⟩:=xn (F:=HND.jm) (k:=0) d10 X G (m_9 ) (by walk_at "b")
 obtain⟨_,D_10⟩:=xn (F:=HND.jy) (k:=1) d11 X G (b0u M D_9 (by decide) (dk D_8)) (by walk_at "b")
 obtain⟨_,D_11⟩:=xn (F:=HND.nu) (k:=1) d12 X G (b0v M (dk D_8)) (by walk_at "b")
 obtain⟨_,D_12⟩:=xn (F:=HND.mz) (k:=1) d13 X G (b0w M (dk D_8)) (by walk_at "b")
 obtain⟨_,D_13⟩:=xn (F:=HND.iu) (k:=1) d14 X G (b0x M (dk D_8)) (by walk_at "b")
 obtain⟨_,D_14⟩:=xn (F:=K30.n6) (k:=1) d15 X G (b0y M (dk D_8)) (by walk_at "b")
 obtain⟨_,D_15⟩:=xn (F:=K30.iy) (k:=2) d16 X G (b0z M (dk D_11) (dk D_12) (dk D_13) (dk D_14) (dk D_8) (dk D_10)) (by walk_at "b")
 obtain⟨_,D_16⟩:=xn (F:=K30.j8) (k:=0) d17 X G (b11 M) (by walk_at "b")
 obtain⟨_,D_17⟩:=xn (F:=K30.bf) (k:=0) d18 X G (b12 M) (by walk_at "b")
 obtain⟨_,D_18⟩:=xn (F:=K30.jo) (k:=1) d19 X G (b13 M (dk D_17)) (by walk_at "b")
 obtain⟨_,D_19⟩:=xn (F:=K30.bx) (k:=0) d20 X G (b14 M) (by walk_at "b")
 obtain⟨_,D_20⟩:=xn (F:=K30.du) (k:=0) d21 X G (b15 M) (by walk_at "b")
 obtain⟨_,D_21⟩:=xn (F:=K28.bu) (k:=0) d22 X G (b16 M) (by walk_at "b")
 obtain⟨_,D_22⟩:=xn (F:=K28.dj) (k:=2) d23 X G (b17 M (dk D_21) (dk D_16) (dk D_1)) (by walk_at "b")
 obtain⟨_,D_23⟩:=xn (F:=K28.cj) (k:=3) d24 X G (b18 M (dk D_21) (dk D_20) (dk D_19) (dk D_6)) (by walk_at "b")
 obtain⟨_,D_24⟩:=xn (F:=K28.km) (k:=4) d25 X G (b19 (dk D_21) (dk D_19) (dk D_23) (dk D_18) (dk D_22) (dk D_5)) (by walk_at "b")
 have D_25:Dn l.prog w K mg base 6 "law" ["_law_script"] (aan K 1 (K28.aha)) _ _:=⟨am6 F26 (b1a M (dk D_15) D_7 (by decide) (dk D_24) (dk D_8)),PySem.W.mg_of X G a26,F26.kp,b26⟩
 exact D_25.ok.imp awh
theorem walk{l:PySem.W.OpenLaw}{q:Program}{loose:List Str}{XP:(Str->Option Value)->Heap->Prop}{YP:World->Heap->Prop}{d:DefRec}{K:Params->Fg}(hn:l.most=some 63)(hdf:d.params.defaults=[])
  (hY:∀(w:World) (h:Heap),YP w h->(K w.params).In h)
  (F:∀(w:World) (mg:Str->Option Value) (fa:Addr) (h:Heap),(K w.params).In h->h.Ns mainGlobals mg->mg d.name=some (.ref fa)->
   ∃fd:FuncData,(∀(s:Shared) (u:Value),BindsTo s fd ⟨[u],[]⟩ [("_law_script",u)])/\∀base:Heap,(K w.params).In base->base.Ns mainGlobals mg->FnOk l.prog w (K w.params) mg base CX0 6 fa fd ["_law_script"] (akn (K w.params))) :
  PySem.W.WalkO q loose XP YP l.row.toRowW d [] (λf vs=>PySem.call f vs) :=
 L2.amv (n:=63) (k:=6) (x := "_law_script") (CX:=λ_=>CX0) (sp:=λw=>akn (K w.params)) hn (by decide) hdf ⟨rfl,by decide,by decide,rfl⟩ hY F (λ_ _ a ns hl hO hS=>⟨a,ns,rfl,awi hO hS,hl,λ_=>rfl⟩) λ_ _ _ _ _ z=>z
end K28
open PySem.W PyProof.Rows
local macro_rules|`(tactic|o_head $H) => `(tactic|refine PySem.W.holds_open (q:=K28.hq) (loose:=K28.hl) (Xt:=fun _=>true) (XP:=fun _ _=>True) (Yf:=Hook.obs $H) (Ya:=Hook.val $H) (YP:=Hook.says $H) (N:=20000) ?hl (Hook.of $H) (Hook.keeps $H) (fun _ _=>trivial) (fun _ _ _ _ _=>trivial) (by rfl) (by rfl) (by rfl) (fun _ _=>recFacts_nil rfl) (by rfl) (by assumption) (by decide +kernel) ⟨rfl,rfl,rfl,rfl,rfl,by decide +kernel⟩ ?hw ?hc)
set_option maxRecDepth 100000 in
set_option maxHeartbeats 0 in
theorem PySem.Challenge.cw_nearreach_k28_ways_and_partings_holds : PySem.Challenge.rw_nearreach_k28_ways_and_partings.Holds := by
 w_on;refine holds_law K28.said fun said=>?_;o_head (kHook K28.A.heap_1 [2,3,15,17,18,20,21,22,25,26,27,30,31,32,35,36,37,39,40,42,43,44,46,47,49,50,51,54,55,56,58,59,61,62,63,65,66,68,69,70,72,73,75,76,77,79,80,82,83,84,87,88,89,91,92,94,95,96,99,100,101,104,105,106,108,109,111,112,113,116,117,118,120,121,123,124,125,128,129,130,132,133,135,136,137,139,140,142,143,144,146,147,149,150,151,154,155,156,158,159,161,162,163,165,166,168,169,170,172,173,175,176] (fun _=>by kernel_rfl))
 (case hw=>w_witness2)
 (case hl=>exact K28.hlok)
 k_fill
 refine K28.walk (l:=PySem.Challenge.rw_nearreach_k28_ways_and_partings) rfl rfl (fun w h Y=>PySem.W.kIn_of Y) ?F
 case F =>
  intro w mg fa h KX G hmg
  refine' K28.awj KX G hmg ?_ ?_ ?_ ?_ ?_ ?_ ?_ ?_ ?_ ?_ ?_ ?_ ?_ ?_ ?_ ?_ ?_ ?_ ?_ ?_ ?_ ?_ ?_ ?_ ?_ ?_ ?_ ?_ ?_ ?_ ?_ ?_ ?_ ?_ ?_ ?_ ?_ ?_ ?_ ?_
  all_goals first | k_is | exact ⟨_,_,_,_,_,_,_,_,_,by k_is,by k_is,by k_is,by k_is⟩ | skip
