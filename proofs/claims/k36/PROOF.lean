import PyProof.Rows.All
import Wide.All
import OpenK.AllK
import Wide.FinOn
import Lean
import PyProof.EqAt
import PyProof.EqKinds
import PyProof.TupleCall
import PyProof.ListStr
import PyProof.TupleOfStr
import PyProof.ConsumeWalk
import PyProof.SliceStr2
import PyProof.CompUse
import PyProof.Rows.SetFrom
import PyProof.SetRoads
import PyProof.StrLawsIn
import PyProof.Rows.StrIndexOr
import PyProof.Rows.StrJoin2
import PyProof.Rows.SumAny
import PyProof.WalkInts
import PyProof.SeqI3
import PyProof.Draws
import PyProof.ZipIter
import PyProof.EnumMake
import Wide.Txt2
import PyProof.Rows.SortWalk
import PyProof.ListRange
import PyProof.Rows.Range3
import KE.KStateDown
import PyProof.ReprRoads
import PyProof.CallFns
import KE.KTryDeep
import PyProof.ExcBaseAll.ValueError
import KE.KTryMore
import KE.KIsNot
import PyProof.ExcAttrAll.ValueError
import PyProof.NsDelKeeps
import PySem.SetOps
import PyProof.SetScanFacts
import PyProof.Walks
import PyProof.CollectWalk
import KE.KRevIter
import PyProof.CollectIter
import PyProof.WalksS
import KE.IntBitsLaws
import PyProof.AutoSeq1
import KE.KEqDict
import PyProof.WalksMore
import PySem.Challenge.RW_nearreach_k36_cuts_looked_at
set_option Elab.async false
set_option linter.all false
set_option maxRecDepth 100000
set_option maxHeartbeats 4000000
section
open PySem PySem.W PyProof.Rows
theorem K36.said:PySem.Challenge.rw_nearreach_k36_cuts_looked_at.wellSaid=true:=by kernel_rfl
noncomputable def K36.hq:Program:=view PySem.Challenge.pw_nearreach_k36_cuts_looked_at [PySem.Challenge.pw_nearreach_k36_cuts_looked_at.main.body.length - 1]
noncomputable def K36.hl:List Str:=PySem.Challenge.pw_nearreach_k36_cuts_looked_at.boundNames
local macro_rules | `(tactic| o_head $H) => `(tactic| refine PySem.W.holds_open (q:=K36.hq) (loose:=K36.hl) (Xt:=fun _=>true) (XP:=fun _ _=>True) (Yf:=Hook.obs $H) (Ya:=Hook.val $H) (YP:=Hook.says $H) (N:=20000) ?hl (Hook.of $H) (Hook.keeps $H) (fun _ _=>trivial) (fun _ _ _ _ _=>trivial) (by rfl) (by rfl) (by rfl) (fun _ _=>recFacts_nil rfl) (by rfl) (by assumption) (by decide +kernel) ⟨rfl,rfl,rfl,rfl,rfl,by decide +kernel⟩ ?hw ?hc)
set_option maxRecDepth 100000 in
set_option maxHeartbeats 0 in
theorem K36.A (hyp:∀ p:Prop,p):PySem.Challenge.rw_nearreach_k36_cuts_looked_at.Holds:=by
 w_on;refine holds_law K36.said fun said=>?_;k_head
 all_goals exact hyp _
set_option maxRecDepth 100000 in
set_option maxHeartbeats 0 in
theorem K36.hlok:LeftO PySem.Challenge.rw_nearreach_k36_cuts_looked_at.row.prog K36.hq K36.hl (fun _=>true) (Hook.obs (kHook K36.A.heap_1 [2,3,15,17,18,20,21,22,24,25,27,28,29,32,33,34,41,42,43,44,47,54,55,56,59,62,63,64,66,67,69,70,71,73,74,76,77,78,80,81,83,84,85,87,88,90,91,92,94,95,97,98,99,101,102,104,105,106,109,110,111,113,114,116,117,118,120,121,123,124,125,127,128,130,131,132,135,136,137,140,141,142,145,146,147,149,150,152,153,154,156,157,159,160,161,163,164,166,167,168,171,172,173,175,176,178,179,180,182,183,185,186,187,189,190,192,193] (fun _=>by kernel_rfl))) (Hook.val (kHook K36.A.heap_1 [2,3,15,17,18,20,21,22,24,25,27,28,29,32,33,34,41,42,43,44,47,54,55,56,59,62,63,64,66,67,69,70,71,73,74,76,77,78,80,81,83,84,85,87,88,90,91,92,94,95,97,98,99,101,102,104,105,106,109,110,111,113,114,116,117,118,120,121,123,124,125,127,128,130,131,132,135,136,137,140,141,142,145,146,147,149,150,152,153,154,156,157,159,160,161,163,164,166,167,168,171,172,173,175,176,178,179,180,182,183,185,186,187,189,190,192,193] (fun _=>by kernel_rfl))) 20000:=by
 intro w
 kernel_rfl
end
abbrev Fg:=PySem.W.Frag
def a6:=@List.getElem?_eq_getElem
def a7:=@List.getElem?_eq_some_iff
def a8:=@PySem.Heap.get?_push_of_some
def a9:=@PySem.wpAny_bind
def ae:=@List.size_toArray
def af:=@Eq.trans
def ag:=@Nat.le_refl
def ah:=@List.length_append
def ai:=@List.length_map
def ar:=@List.mem_cons
def av:=@List.getElem?_append_right
def aw:=@List.mem_singleton
def ax:=@Option.map_eq_some_iff
def ay:=@List.length_singleton
def aE:=@List.getElem?_append_left
def aI:=@if_pos
def aJ:=@PySem.wpAny_pure
def aK:=@congrArg
def aL:=@PySem.Heap.lt_size
def aM:=@List.not_mem_nil
def aN:=@PySem.Heap.get?_push_size
def aO:=@List.all_eq_true
def aP:=@List.mem_cons_of_mem
def aQ:=@List.mem_of_getElem?
def aR:=@List.getElem?_map
def aS:=@Nat.lt_of_lt_of_le
def aT:=@List.mem_cons_self
def aU:=@List.getElem_mem
def aV:=@Bool.false_ne_true
def aW:=@List.mem_append
def aX:=@Int.eq_ofNat_of_zero_le
def aY:=@PySem.W.mg_none_of
def aZ:=@List.take_of_length_le
def b6:=@decide_eq_false
def b9:=@if_neg
def ba:=@Option.some.inj
def bb:=@List.mem_map
def bg:=@List.map_cons
def bo:=@PyProof.Rows.slot_tuple_getitem
def bp:=@Nat.zero_le
def bq:=@Nat.ne_of_lt
def br:=@List.mem_append_right
def bt:=@beq_eq_false_iff_ne
def bA:=@decide_eq_true
def bB:=@List.getElem?_of_mem
def bC:=@or_false
def bD:=@Nat.le_trans
def bE:=@PySem.W.kia_one
def bF:=@PySem.mem_of_lookup
def bG:=@List.map_append
def bH:=@PySem.PassesOwn.never
def bI:=@Bool.and_eq_true
def bJ:=@PySem.wpAny_callSpecial?_slot
def bK:=@List.length_range
def bL:=@List.nodup_append
def bM:=@PySem.F.slot_list_append
def bN:=@PySem.F.type_list_append
def bO:=@PySem.Heap.size_push
def bP:=@List.length_take
def bQ:=@List.length_cons
def bR:=@List.getElem?_set_self
def bS:=@PySem.wpAny_field
def bT:=@List.replicate_succ
def bU:=@List.getElem?_zip_eq_some
def bV:=@List.pairwise_iff_getElem
def bW:=@List.length_drop
def bX:=@beq_self_eq_true
def bY:=@List.mem_append_left
def bZ:=@Nat.lt_irrefl
def cb:=@List.map_map
def cc:=@PySem.wpAny_newObj_type
def cf:=@PyProof.Rows.callWith_type1
def cn:=@List.drop_eq_nil_of_le
def cp:=@PySem.F.slot_tuple_iterator_next
def cq:=@PySem.wpAny_call_entry
def cv:=@PySem.Around.in1_units
def cw:=@PySem.wpAny_holding
def cy:=@PySem.wpAny_Call_Name_kw
def cA:=@List.all_cons
def cB:=@Bool.false_eq_true
def cC:=@Int.emod_lt_of_pos
def cD:=@List.mem_range
def cE:=@PySem.wpAny_seqItems
def cF:=@List.getElem?_set_ne
def cG:=@PySem.wpAny_mono
def cH:=@PySem.wpAny_truthy_bool
def cI:=@PySem.wpAny_passesOwn
def cJ:=@List.append_nil
def cK:=@List.flatten_cons
def cL:=@not_true_eq_false
def cM:=@List.getElem?_replicate
def cN:=@Nat.add_sub_cancel_left
def cO:=@PySem.IsL.isList
def cP:=@Option.getD_some
def cQ:=@if_true
def cR:=@PySem.wpAny_setField_rec
def cS:=@List.nodup_cons
def cT:=@List.length_replicate
def cU:=@List.length_nil
def cV:=@Int.emod_nonneg
def cW:=@Int.toNat_natCast
def cX:=@List.mem_of_mem_take
def cY:=@List.map_congr_left
def cZ:=@PySem.call_meets
def da:=@List.getElem?_take
def de:=@PySem.Heap.get?_update_other
def dk:=@PySem.sizeLine_eq
def dn:=@List.map_nil
def dv:=@Nat.succ_pos
def dA:=@List.filter_cons
def dB:=@List.mem_of_mem_drop
def dC:=@PySem.wpAny_standAt
def dD:=@if_false
def dE:=@PySem.F.args_tuple_iterator_next_1
def dF:=@Bool.true_and
def dG:=@List.filterMap_cons
def dH:=@Array.length_toList
def dI:=@PySem.wpAny_execs_nil
def dJ:=@List.of_mem_zip
def dM:=@PySem.F.entry_tuple_iterator_next
def dN:=@PySem.F.slot_zip_next
def dO:=@List.getElem?_range
def dP:=@List.nil_append
def dQ:=@Int.toNat_of_nonneg
def dR:=@Int.fdiv_eq_ediv_of_nonneg
def dS:=@PySem.codeAny_mono
def dU:=@PySem.wpAny_typeOf
def dW:=@PySem.W.KFB.if_not
def dX:=@List.getElem?_drop
def dY:=@PySem.F.called_enumerate
def dZ:=@List.map_singleton
def e7:=@List.zip_cons_cons
def e8:=@Bool.false_and
def e9:=@List.drop_eq_getElem_cons
def eh:=@Array.getElem?_eq_getElem
def ei:=@List.nodup_nil
def eD:=@PySem.wpAny_pyIter_list
def eE:=@PySem.W.kitx_dict
def eF:=@Option.isSome_iff_exists
def eG:=@PySem.F.args_tuple_add_2
def eH:=@PySem.wpAny_sequenceKey
def eI:=@List.append_assoc
def eJ:=@PySem.StrLaws.found_one
def eK:=@Ne.symm
def eL:=@PySem.F.entry_tuple_add
def eM:=@List.any_cons
def eN:=@Nat.le_succ
def eO:=@List.getElem?_cons_zero
def eP:=@List.length_eq_zero_iff
def eQ:=@PySem.W.mg_of
def eR:=@PySem.noFill_tuple_add
def eS:=@Option.getD_none
def eT:=@List.mem_filter
def eU:=@PySem.seqIndex_neg
def eV:=@List.length_set
def eW:=@List.range_succ
def eX:=@List.all_map
def eY:=@Nat.min_eq_left
def eZ:=@Nat.succ.inj
def ff:=@List.length_zip
def fg:=@PySem.typeIs_str
def fh:=@List.drop_zero
def fk:=@Bool.and_false
def fm:=@PySem.seqIndex_of
def fq:=@Nat.mod_mul
def ft:=@Nat.add_assoc
open PySem PySem.Spec
namespace L2
open PyProof.Rows
abbrev Key:=Sum Int Str
def ali:Key->Value->Bool
 |.inl k,v=>Value.isInt k v
 |.inr x,v=>Value.isStrOf x v
def ath(w:World):Key->Int
 |.inl k=>hashInt k
 |.inr x=>hashStr w x
theorem jw:∀{k:Key} {v:Value},ali k v=true->(∃i t,k=Sum.inl i/\v=Value.int i t)\/(∃x t,k=Sum.inr x/\v=Value.str x t)
 |.inl i,v,h=>by
  obtain⟨t,e⟩:=Value.isInt_shape (k:=i) (v:=v) h;exact .inl ⟨i,t,rfl,e⟩
 |.inr x,v,h=>by
  obtain⟨t,e⟩:=Value.isStrOf_shape (x:=x) (v:=v) h;exact .inr ⟨x,t,rfl,e⟩
theorem alj(a b:Int):decide ((Sum.inl a:Key)=Sum.inl b)=(a == b):=by
 by_cases e:a=b
 ·subst e;simp
 ·have h:¬ (Sum.inl a:Key)=Sum.inl b:=λq=>e (Sum.inl.inj q);rw[b6 h];exact(bt.mpr e).symm
theorem alk(a b:Str):decide ((Sum.inr a:Key)=Sum.inr b)=decide (a=b):=by
 by_cases e:a=b
 ·subst e;simp
 ·have h:¬ (Sum.inr a:Key)=Sum.inr b:=λq=>e (Sum.inr.inj q);rw[b6 h,b6 e]
theorem alm(a:Int)(b:Str):decide ((Sum.inl a:Key)=Sum.inr b)=false:=b6 (λq=>nomatch q)
theorem aln(a:Str)(b:Int):decide ((Sum.inr a:Key)=Sum.inl b)=false:=b6 (λq=>nomatch q)
def a0f(prog:Program)(w:World):PySem.KeyKind prog w Key where
 is:=ali
 hash:=ath w
 inj:=λv a b ha hb=>by
  rcases jw ha with⟨i,t,rfl,rfl⟩|⟨x,t,rfl,rfl⟩
  ·rcases jw hb with⟨j,u,rfl,e⟩|⟨y,u,rfl,e⟩
   ·injection e with e1 _;rw[e1]
   ·exact nomatch e
  ·rcases jw hb with⟨j,u,rfl,e⟩|⟨y,u,rfl,e⟩
   ·exact nomatch e
   ·injection e with e1 _;rw[e1]
 byValue:=λk v h=>by
  rcases jw h with⟨i,t,rfl,rfl⟩|⟨x,t,rfl,rfl⟩<;>rfl
 pyHash:=λhv h=>by
  rcases jw hv with⟨i,t,rfl,rfl⟩|⟨x,t,rfl,rfl⟩
  ·exact wpAny_pyHash_int h
  ·exact wpAny_pyHash_str h
 eqBool:=λhu hv h=>by
  rcases jw hu with⟨i,t,rfl,rfl⟩|⟨x,t,rfl,rfl⟩
  ·rcases jw hv with⟨j,u,rfl,rfl⟩|⟨y,u,rfl,rfl⟩
   ·rw[alj]at h;exact wpAny_eqBool_int h
   ·rw[alm]at h;exact SeqAt.EqAt.int_str i t y u _ _ _ _ h
  ·rcases jw hv with⟨j,u,rfl,rfl⟩|⟨y,u,rfl,rfl⟩
   ·rw[aln]at h;exact SeqAt.EqAt.str_int x t j u _ _ _ _ h
   ·rw[alk]at h;exact wpAny_eqBool_str h
 «strs»:=λk x t v h=>by
  rcases jw h with⟨i,u,rfl,e⟩|⟨y,u,rfl,e⟩
  ·exact nomatch e
  ·injection e with e1 _
   subst e1
   cases v<;>rfl
inductive V where
 |non|bl (b:Bool)|int (i:Int)|str (x:Str)|byt (b:Array UInt8)|flt (b:UInt64)|ref (a:Addr)|ty (n:String)
 deriving DecidableEq
def RelV:V->Value->Prop
 |.non,u=>u=Value.none
 |.bl b,u=>u=Value.bool b
 |.int i,u=>∃t,u=Value.int i t
 |.str x,u=>∃t,u=Value.str x t
 |.byt b,u=>∃t,u=Value.bytes b t
 |.flt b,u=>∃t,u=Value.float b t
 |.ref a,u=>u=Value.ref a
 |.ty n,u=>u=Value.type n
abbrev Vals:List V->List Value->Prop:=Paired RelV
theorem Vals.length(r:Vals xs us):xs.length=us.length:=Paired.length r
theorem Vals.get:∀{xs:List V} {us:List Value} {i:Nat} {x:V},Vals xs us->xs[i]? = some x->∃u,us[i]? = some u/\RelV x u
 |_,_,_,_,.nil,e=>by simp at e
 |_,_,0,_,.cons r _,e=>by simp at e;subst e;exact⟨_,rfl,r⟩
 |_,_,i+1,x,.cons _ t,e=>by
  obtain⟨u,h1,h2⟩:=Vals.get (i:=i) (x:=x) t (by simpa using e)
  exact⟨u,by simpa using h1,h2⟩
theorem Vals.set(r:RelV x u):∀{xs:List V} {us:List Value} (i:Nat),Vals xs us->Vals (xs.set i x) (us.set i u)
 |_,_,_,.nil=>.nil
 |_,_,0,.cons _ t=>.cons r t
 |_,_,i+1,.cons q t=>.cons q (Vals.set r i t)
theorem Vals.append:∀{xs ys:List V} {us ws:List Value},Vals xs us->Vals ys ws->Vals (xs++ys) (us++ws)
 |_,_,_,_,.nil,s=>s
 |_,_,_,_,.cons r t,s=>.cons r (Vals.append t s)
theorem Vals.take:∀{xs:List V} {us:List Value} (n:Nat),Vals xs us->Vals (xs.take n) (us.take n)
 |_,_,0,_=>.nil
 |_,_,_+1,.nil=>.nil
 |_,_,n+1,.cons r t=>.cons r (Vals.take n t)
theorem Vals.drop:∀{xs:List V} {us:List Value} (n:Nat),Vals xs us->Vals (xs.drop n) (us.drop n)
 |_,_,0,r=>r
 |_,_,_+1,.nil=>.nil
 |_,_,n+1,.cons _ t=>Vals.drop n t
def RelO:Option V->Option Value->Prop
 |some v,some u=>RelV v u
 |none,none=>True
 |_,_=>False
def KV{κ:Type}:List (κ×V)->List (κ×Value)->Prop:=Paired λ(p:κ×V) (q:κ×Value)=>p.1=q.1/\RelV p.2 q.2
def kV:Key->V
 |.inl i=>.int i
 |.inr x=>.str x
inductive HO where
 |lst (xs:List V)
 |tup (xs:List V)
 |dK (kvs:List (Key×V))|dT (kvs:List (List Key×V))
 |set (S:Int->Bool) (n:Nat)
 |ins (C dx:Addr) (fs:List (Str×V))
 |own (x:Addr)
 |xd (fs:List (Str×V))
 |met (f x:Addr)
 |rng (lo hi:Int)
 |frz (o:Obj) (u:HO)
 |tbl (ps:Array Value)
 |ext (φ:Heap->Prop)
abbrev Hp:=Addr->Option HO
def upd(H:Hp)(a:Addr)(o:HO):Hp:=λb=>if b=a then some o else H b
theorem p6:upd H a o a=some o:=by unfold upd;rw[aI rfl]
theorem j4(h:b≠a):upd H a o b=H b:=by unfold upd;rw[b9 h]
theorem gk{H:Hp}{a b:Addr}{o:HO}(h:H a=some o)(h':H b=none):a≠b:=by
 intro e;subst e;rw[h]at h';cases h'
section
variable(P:Program)(w:World)
def ObjOk(H:Hp)(h:Heap)(a:Addr):HO->Prop
 |.lst xs=>xs.length<=sizeLine/\∃(its:List Value) (n:Nat),Vals xs its/\h.get? a=some {cls:=.type "list",data:=.seq its.toArray n}
 |.tup xs=>xs.length<=sizeLine/\∃its:List Value,Vals xs its/\IsTup h a its.toArray
 |.dK kvs=>kvs.length<=sizeLine/\(a == sysModules)=false/\∃vs,KV kvs vs/\h.DictOf (a0f P w) a vs
 | .dT kvs=>kvs.length<=sizeLine/\(a == sysModules)=false/\∃xs:List (List Key×Addr×Value),
   Paired (λ(p:List Key×V) (q:List Key×Addr×Value)=>p.1=q.1/\H q.2.1=some (.tup (p.1.map kV))/\RelV p.2 q.2.2) kvs xs /\
   ∃o es ep,h.get? a=some o/\o.ExactDict/\o.data=.dict es ep/\es.toList=xs.map (entryOfKey (tupleKind (a0f P w)))/\(xs.map (·.1)).Nodup
 |.set S n=>h.SetOf (intKind P w) a S n
 | .ins C dx fs=>H dx=some (.own a)/\fs.length<=1000/\dx≠a/\h.get? a=some (PySem.W.instObj C dx) /\
   ∃mA,h.Ns1 dx mA/\(∀f,RelO (fs.lookup f) (mA f))/\PySem.Within mA (fs.map (·.1))
 |.own _=>∃o,h.get? a=some o
 |.xd fs=>∃mA,h.Ns1 a mA/\∀f,RelO (fs.lookup f) (mA f)
 |.rng lo hi=>∃t u v,h.get? a=some {cls:=.type "range",data:=.fields #[.int lo t,.int hi u,.int 1 v]}
 |.frz o u=>h.get? a=some o/\ObjOk H h a u
 |.tbl ps=>h.get? a=some {cls:=.none,data:=.fields ps}
 |.met f x=>h.get? a=some (PySem.W.methodObj (.ref f) (.ref x))
 |.ext φ=>φ h/\(∃o,h.get? a=some o)/\∀h1 h2:Heap,φ h1->(∀o,h1.get? a=some o->h2.get? a=some o)->φ h2
def HOk(H:Hp)(h:Heap):Prop:=∀a o,H a=some o->ObjOk P w H h a o
end
section
variable{P:Program}{w:World}{H H':Hp}{h h':Heap}{a:Addr}{o:HO}
theorem ObjOk.lt(x:ObjOk P w H h a o):a<h.objs.size:=by
 cases o with
 |lst xs=>obtain⟨_,_,_,_,e⟩:=x;exact aL e
 |tup xs=>obtain⟨_,_,_,p⟩:=x;exact p.lt
 |dK kvs=>obtain⟨_,_,_,_,o,_,_,e,_⟩:=x;exact aL e
 |dT kvs=>obtain⟨_,_,_,_,o,_,_,e,_⟩:=x;exact aL e
 |set S n=>obtain⟨o,_,_,_,e,_⟩:=x;exact aL e
 |ins C dx fs=>obtain⟨_,_,_,e,_⟩:=x;exact aL e
 |own y=>obtain⟨_,e⟩:=x;exact aL e
 |xd fs=>obtain⟨_,⟨_,_,_,e,_⟩,_⟩:=x;exact aL e
 |rng lo hi=>obtain⟨_,_,_,e⟩:=x;exact aL e
 |frz ob u=>obtain⟨e,_⟩:=x;exact aL e
 |tbl ps=>exact aL (show h.get? a=some _ from x)
 |met f y=>exact aL (show h.get? a=some _ from x)
 |ext φ=>obtain⟨_,⟨_,e⟩,_⟩:=x;exact aL e
theorem Paired.mapP{α β:Type}{F G:α->β->Prop}:∀{l₁:List α} {l₂:List β},Paired F l₁ l₂->(∀a b,F a b->G a b)->Paired G l₁ l₂
 |_,_,.nil,_=>.nil
 |_,_,.cons r t,f=>.cons (f _ _ r) (Paired.mapP t f)
theorem ObjOk.stay(x:ObjOk P w H h a o)(k:∀b u,(b=a\/H b=some (.own a))->h.get? b=some u->h'.get? b=some u)
  (ho:∀b,H b=some (.own a)->H' b=some (.own a)) (ht:∀b xs,H b=some (.tup xs)->H' b=some (.tup xs)):ObjOk P w H' h' a o:=by
 induction o with
 |lst xs=>obtain⟨z,its,n,r,e⟩:=x;exact⟨z,its,n,r,k _ _ (.inl rfl) e⟩
 |tup xs=>obtain⟨z,its,r,ob,e,c⟩:=x;exact⟨z,its,r,ob,k _ _ (.inl rfl) e,c⟩
 |dK kvs=>obtain⟨z,y,vs,r,ob,es,ep,e,c⟩:=x;exact⟨z,y,vs,r,ob,es,ep,k _ _ (.inl rfl) e,c⟩
 |dT kvs =>
  obtain⟨z,y,xs,r,ob,es,ep,e,c⟩:=x;exact⟨z,y,xs,Paired.mapP r λp q z=>⟨z.1,ht _ _ z.2.1,z.2.2⟩,ob,es,ep,k _ _ (.inl rfl) e,c⟩
 |set S n=>obtain⟨ob,es,ep,t,e,c⟩:=x;exact⟨ob,es,ep,t,k _ _ (.inl rfl) e,c⟩
 |ins C dx fs =>
  obtain⟨d,z,ne,e,mA,⟨od,es,ep,e2,c⟩,r⟩:=x;exact⟨ho _ d,z,ne,k _ _ (.inl rfl) e,mA,⟨od,es,ep,k _ _ (.inr d) e2,c⟩,r⟩
 |own y=>obtain⟨ob,e⟩:=x;exact⟨ob,k _ _ (.inl rfl) e⟩
 |xd fs=>obtain⟨mA,⟨od,es,ep,e,c⟩,r⟩:=x;exact⟨mA,⟨od,es,ep,k _ _ (.inl rfl) e,c⟩,r⟩
 |rng lo hi=>obtain⟨t,u,v,e⟩:=x;exact⟨t,u,v,k _ _ (.inl rfl) e⟩
 |frz ob u ih=>obtain⟨e,q⟩:=x;exact⟨k _ _ (.inl rfl) e,ih q⟩
 |tbl ps =>
  have e:h.get? a=some {cls:=.none,data:=.fields ps}:=x;show h'.get? a=some {cls:=.none,data:=.fields ps};exact k a _ (.inl rfl) e
 |met f y =>
  have e:h.get? a=some (PySem.W.methodObj (.ref f) (.ref y)):=x;show h'.get? a=some (PySem.W.methodObj (.ref f) (.ref y));exact k a _ (.inl rfl) e
 |ext φ=>obtain⟨p,⟨o,e⟩,st⟩:=x;exact⟨st _ _ p λo q=>k _ _ (.inl rfl) q,⟨o,k _ _ (.inl rfl) e⟩,st⟩
theorem HOk.lt(x:HOk P w H h)(e:H a=some o):a<h.objs.size:=(x a o e).lt
theorem HOk.fresh(x:HOk P w H h)(e:h.objs.size<=a):H a=none:=by
 cases q:H a with
 |none=>rfl
 |some u=>exact absurd (aS (x.lt q) e) (bZ _)
theorem HOk.kept(x:HOk P w H h)(k:∀b u,h.get? b=some u->h'.get? b=some u):HOk P w H h':=λa o e =>
 (x a o e).stay (λb u _ q=>k b u q) (λ_ q=>q) λ_ _ q=>q
theorem HOk.laid(x:HOk P w H h)(k:∀b u,h.get? b=some u->h'.get? b=some u)(hp:h.objs.size<=a)(new:ObjOk P w (upd H a o) h' a o):HOk P w (upd H a o) h':=λb u e=>by
 have hn:=x.fresh hp
 by_cases hb:b=a
 ·subst hb;rw[p6]at e;cases e;exact new
 ·rw[j4 hb]at e;exact(x b u e).stay (λc v _ q=>k c v q) (λc q=>by rw[j4 (gk q hn)];exact q) λc xs q=>by rw[j4 (gk q hn)];exact q
end
def Rd(H:Hp)(a:Addr)(u:HO):Prop:=H a=some u\/∃o,H a=some (.frz o u)
theorem Rd.of(h:H a=some u):Rd H a u:=.inl h
theorem Rd.ok(r:Rd H a u)(x:HOk P w H h):ObjOk P w H h a u:=by
 rcases r with r|⟨o,r⟩
 ·exact x a u r
 ·obtain⟨_,q⟩:=x a _ r;exact q
def Mut:Option HO->Prop
 |some (.lst _)=>True
 |some (.dK _)=>True
 |some (.dT _)=>True
 |some (.set _ _)=>True
 |some (.ins _ _ _)=>True
 |some (.ext _)=>True
 |_=>False
section
variable{P:Program}{w:World}{H:Hp}{h h':Heap}{x e:Addr}{o':HO}
theorem HOk.write(ok:HOk P w H h)(mu:Mut (H x))(he:e=x\/H e=some (.own x))(k:∀b u,b≠e->h.get? b=some u->h'.get? b=some u)(heo:∃u,h'.get? e=some u)
  (new:ObjOk P w (upd H x o') h' x o'):HOk P w (upd H x o') h':=λb u q=>by
 have nown:∀c y,H c=some (.own y)->c≠x:=λc y r z=>by subst z;rw[r]at mu;exact mu
 have ntup:∀c xs,H c=some (.tup xs)->c≠x:=λc xs r z=>by subst z;rw[r]at mu;exact mu
 by_cases hb:b=x
 ·subst hb;rw[p6]at q;cases q;exact new
 ·rw[j4 hb]at q
  by_cases hbe:b=e
  ·have q':H b=some (.own x):=by
    rcases he with z|z
    ·exact absurd (hbe.trans z) hb
    ·rw[hbe];exact z
   rw[q]at q';cases q'
   obtain⟨v,hv⟩:=heo;exact⟨v,by rw[hbe];exact hv⟩
  ·refine(ok b u q).stay (λc v hc r=>k c v ?_ r) (λc r=>by rw[j4 (nown c b r)];exact r) λc xs r=>by rw[j4 (ntup c xs r)];exact r
   rcases hc with rfl|hc
   ·exact hbe
   ·rintro rfl
    rcases he with z|z
    ·exact nown c b hc z
    ·rw[hc]at z;cases z;exact hb rfl
end
structure Un (fs ex:List Addr) (H H':Hp) (h h':Heap):Prop where
 keep:∀b o,h.get? b=some o->H b=none->b∉fs->b∉ex->h'.get? b=some o
 slot:∀b o,h.get? b=some o->H b=none->b∈fs->b∉ex->∃sl,h'.get? b=some {o with slots:=sl}
 free:∀b o,h.get? b=some o->H b=none->b∉ex->H' b=none
 there:∀b o,h.get? b=some o->b∉ex->∃o',h'.get? b=some o'
 tups:∀b xs,H b=some (.tup xs)->H' b=some (.tup xs)
 frzs:∀b o u,H b=some (.frz o u)->H' b=some (.frz o u)
 tbls:∀b ps,H b=some (.tbl ps)->∃more,H' b=some (.tbl (ps++more))
section
variable{fs fs' ex ex':List Addr}{H H1 H2:Hp}{h h1 h2 h':Heap}{a x e:Addr}{o:HO}
theorem Un.any(u:Un fs ex H H1 h h1)(q:h.get? b=some ob)(n:H b=none)(hx:b∉ex):∃sl,h1.get? b=some {ob with slots:=sl}:=by
 by_cases hb:b∈fs
 ·exact u.slot b ob q n hb hx
 ·exact⟨ob.slots,u.keep b ob q n hb hx⟩
theorem Un.kept(k:∀b u,h.get? b=some u->h'.get? b=some u):Un fs ex H H h h' :=
 ⟨λb ob q _ _ _=>k b ob q,λb ob q _ _ _=>⟨ob.slots,k b ob q⟩,λ_ _ _ n _=>n,λb ob q _=>⟨ob,k b ob q⟩,λ_ _ q=>q,λ_ _ _ q=>q,λ_ ps q=>⟨#[],by rw[q];simp⟩⟩
theorem Un.refl:Un fs ex H H h h:=Un.kept λ_ _ q=>q
theorem Un.laid(k:∀b u,h.get? b=some u->h'.get? b=some u)(hp:h.objs.size<=a)(hn:H a=none):Un fs ex H (upd H a o) h h' where
 keep:=λb u q _ _ _=>k b u q
 slot:=λb u q _ _ _=>⟨u.slots,k b u q⟩
 free:=λb u q n _=>by rw[j4 (bq (aS (aL q) hp))];exact n
 there:=λb u q _=>⟨u,k b u q⟩
 tups:=λb xs q=>by rw[j4 (gk q hn)];exact q
 frzs:=λb u xs q=>by rw[j4 (gk q hn)];exact q
 tbls:=λb ps q=>⟨#[],by rw[j4 (gk q hn),q];simp⟩
theorem Un.write(mu:Mut (H x))(he:e=x\/H e=some (.own x))(k:∀b u,b≠e->h.get? b=some u->h'.get? b=some u)(heo:∃u,h'.get? e=some u):Un fs ex H (upd H x o) h h':=by
 have hx:∀b,H b=none->b≠x:=λb n z=>by subst z;rw[n]at mu;exact mu
 have hb:∀b,H b=none->b≠e:=λb n z=>by
  subst z
  rcases he with r|r
  ·exact hx b n r
  ·rw[n]at r;cases r
 have hm:∀b u,H b=some u->¬ Mut (some u)->b≠x:=λb u q nm z=>by subst z;rw[q]at mu;exact nm mu
 refine⟨λb u q n _ _=>k b u (hb b n) q,λb u q n _ _=>⟨u.slots,k b u (hb b n) q⟩,λb u q n _=>by rw[j4 (hx b n)];exact n,λb u q _=>?_,
  λb xs q=>by rw[j4 (hm b _ q λz=>z)];exact q,λb u xs q=>by rw[j4 (hm b _ q λz=>z)];exact q,λb ps q=>⟨#[],by rw[j4 (hm b _ q λz=>z),q];simp⟩⟩
 by_cases hbe:b=e
 ·subst hbe;exact heo
 ·exact⟨u,k b u hbe q⟩
end
def trk(h:Heap)(H:Hp):List Addr:=(List.range h.objs.size).filter λa=>(H a).isSome
def aeq(h:Heap)(H:Hp):Heap:=PySem.W.hideAll h (trk h H)
theorem aay(h:Heap)(H:Hp):(aeq h H).objs.size=h.objs.size:=PySem.W.hideAll_size _ _
theorem aer{h:Heap}(e:h.get? b=some o)(n:H b=none):(aeq h H).get? b=some o :=
 PySem.W.hideAll_get _ e λhm=>by
  have q:(H b).isSome=true:=(eT.mp hm).2;rw[n]at q;simp at q
theorem aie(e:(aeq h H).get? b=some o):h.get? b=some o/\H b=none:=by
 have e':h.get? b=some o:=PySem.W.of_hideAll (trk h H) e;refine⟨e',?_⟩
 cases q:H b with
 |none=>rfl
 |some x =>
  have hm:b∈trk h H:=eT.mpr ⟨cD.mpr (aL e'),by simp[q]⟩
  have z:(aeq h H).get? b=none:=PySem.W.hideAll_none (trk h H) hm;rw[z]at e;cases e
def aif(g h:Heap)(L:Addr):List (Addr×Obj):=(List.range h.objs.size).filterMap λa=>if a=L\/(g.get? a).isSome=true then none else (h.get? a).map λo=>(a,o)
def aG(g h:Heap)(L d:Addr):List (Addr×Obj):=(aif g h L).filter λp=>decide (p.1≠d)
structure Mod (K:Fg) (mg:Str->Option Value) (base:Heap):Prop where
 kin:K.In base
 glob:base.Ns mainGlobals mg
 blt:∃mb,base.Ns builtinsNs mb/\∀x:Str,x ≠ "__name__"->mb x=bootBuiltins x
 nolimit:base.NoLimit
structure Cx where
 prog:Program
 w:World
 K:Fg
 mg:Str->Option Value
 base:Heap
 A:Around
 N:List Str
 s₀:Shared
 H₀:Hp
 env:Env
 outer:List Env
 stack:List Env
 ex:List Addr
 fn:Str->Bool
 calm:Bool
 pn:List (Addr×Obj)
 xe:Value->Shared->Prop
def frs(l:List Env):List Addr:=l.filterMap (·.frame)
abbrev Cx.fs(X:Cx):List Addr:=frs X.outer
def Vis(sc:Scope)(x:Str):Prop:=sc.names.lookup x=some .local\/sc.names.lookup x=some .cell\/sc.names.lookup x=some .free
def Loc(sc:Scope)(x:Str):Prop:=sc.names.lookup x=some .local\/sc.names.lookup x=some .cell
def Look(env:Env)(h:Heap)(m:Str->Option Value)(x:Str)(u:Value):Prop :=
 (env.kindOf x=some .local/\m x=some u)\/((env.kindOf x=some .cell\/env.kindOf x=some .free)/\∃c,env.cells.lookup x=some c/\h.IsCell c (some u))
structure Cx.Ok (X:Cx):Prop where
 mod:Mod X.K X.mg X.base
 kind:X.env.scope.kind=.function
 glob:X.env.globals=mainGlobals
 blt:X.env.builtins=builtinsNs
 above:X.s₀.heap.objs.size<=X.env.locals
 inj:∀x y c,X.env.cells.lookup x=some c->X.env.cells.lookup y=some c->x=y
 has:∀x,(X.env.kindOf x=some .cell\/X.env.kindOf x=some .free)->∃c,X.env.cells.lookup x=some c
 cab:∀x c,X.fn x=true->X.env.cells.lookup x=some c->X.s₀.heap.objs.size<=c
 hd:X.calm=true->X.A.handled=none
 frames:X.A.frames=some X.stack
 stk:X.stack=X.outer\/(X.stack=X.env::X.outer/\X.env.frame=some X.env.locals)
 exf:∀b∈X.ex,b≠X.env.locals/\∀x c,X.env.cells.lookup x=some c->c≠b
 bs:∀b o,X.base.get? b=some o->X.s₀.heap.get? b=some o/\X.H₀ b=none
 bsz:X.base.objs.size<=X.s₀.heap.objs.size
 noex:∀b o,X.base.get? b=some o->b∉X.ex
 exfs:∀b∈X.ex,b∉X.fs
 funs:X.s₀.heap.FunFrames X.base X.outer
 frf:∀b∈X.fs,X.H₀ b=none
structure Inv (X:Cx) (aA:List (Addr×Obj)) (σ:List (Option V)) (H:Hp) (s:Shared):Prop where
 ok:X.Ok
 os:s.os=X.s₀.os
 bare:AllBare s.gens
 base:Un X.fs X.ex X.H₀ H X.s₀.heap s.heap
 loc:∃m,s.heap.Ns X.env.locals m/\∀(i:Nat) (x:Str) (v:V),X.N[i]? = some x->σ[i]? = some (some v)->Vis X.env.scope x->∃u,RelV v u/\Look X.env s.heap m x u
 cell:∀x c,X.env.cells.lookup x=some c->∃v,s.heap.IsCell c v
 free:H X.env.locals=none
 freeC:∀x c,X.env.cells.lookup x=some c->H c=none
 pin:∀p∈X.pn++aA,s.heap.get? p.1=some p.2/\H p.1=none/\p.1≠X.env.locals/\p.1∉X.fs/\∀v,p.2.data≠.cell v
 hok:HOk X.prog X.w H s.heap
 len:σ.length=X.N.length
section
variable{X:Cx}{aA:List (Addr×Obj)}{σ:List (Option V)}{H H':Hp}{s:Shared}{h':Heap}
theorem Cx.Ok.nofr(ok:X.Ok)(e:X.base.get? b=some o):b∉X.fs:=λhb=>by
 have:=(ok.funs.mem hb).1
 rw[e]at this;cases this
theorem Inv.bs(I:Inv X aA σ H s):∀b o,X.base.get? b=some o->s.heap.get? b=some o/\H b=none:=λb o e =>
 ⟨I.base.keep b o (I.ok.bs b o e).1 (I.ok.bs b o e).2 (I.ok.nofr e) (I.ok.noex b o e),I.base.free b o (I.ok.bs b o e).1 (I.ok.bs b o e).2 (I.ok.noex b o e)⟩
theorem Inv.bk(I:Inv X aA σ H s):∀b o,X.base.get? b=some o->s.heap.get? b=some o:=λb o e=>(I.bs b o e).1
theorem Inv.mod(I:Inv X aA σ H s):Mod X.K X.mg X.base:=I.ok.mod
theorem Inv.kIn(I:Inv X aA σ H s):X.K.In s.heap:=I.ok.mod.kin.keeps I.bk
theorem Inv.fr(I:Inv X aA σ H s):∃m,Fr X.base X.env.locals s.heap m :=
 let ⟨m,hn,_⟩:=I.loc
 ⟨m,hn,I.bk,bD I.ok.bsz I.ok.above⟩
theorem Inv.lt(I:Inv X aA σ H s):X.env.locals<s.heap.objs.size:=let ⟨_,hn,_⟩:=I.loc;hn.lt
theorem Inv.sz(I:Inv X aA σ H s):X.s₀.heap.objs.size<=s.heap.objs.size:=bD I.ok.above (Nat.le_of_lt I.lt)
theorem Inv.nofs(I:Inv X aA σ H s)(h:s.heap.objs.size<=a):a∉X.fs:=λhb=>by
 obtain⟨_,o,ho,_⟩:=I.ok.funs.mem hb;exact absurd (aS (aL ho) (bD I.sz h)) (bZ _)
theorem Inv.cne(I:Inv X aA σ H s):∀x c,X.env.cells.lookup x=some c->c≠X.env.locals:=λx c e z=>by
 obtain⟨v,o,ho,hd⟩:=I.cell x c e;obtain⟨m,⟨o',es,ep,ho',hd',_⟩,_⟩:=I.loc;rw[z,ho']at ho;cases ho;rw[hd']at hd;cases hd
theorem Inv.funs(I:Inv X aA σ H s):s.heap.FunFrames X.base X.outer:=by
 have all:∀(l:List Env),(∀b∈frs l,b∈X.fs)->X.s₀.heap.FunFrames X.base l->s.heap.FunFrames X.base l:=by
  intro l
  induction l with
  |nil=>intro _ _;trivial
  |cons env r ih =>
   intro hs hl
   obtain⟨hk,⟨L,o,hf,hn,ho,hd⟩,hr⟩:=hl;have hL:L∈X.fs:=hs L (by unfold frs;rw[dG,hf];exact aT)
   obtain⟨sl,e⟩:=I.base.slot L o ho (I.ok.frf L hL) hL λz=>I.ok.exfs L z hL;exact⟨hk,⟨L,_,hf,hn,e,hd⟩,ih (λb hb=>hs b (by unfold frs;rw[dG,hf];exact aP _ hb)) hr⟩
 exact all X.outer (λ_ hb=>hb) I.ok.funs
theorem Inv.stack(I:Inv X aA σ H s):s.heap.FunFrames X.base X.stack:=by
 rcases I.ok.stk with e|⟨e,hf⟩
 ·rw[e];exact I.funs
 ·rw[e];obtain⟨m,hn,_⟩:=I.loc;refine .cons (by rw[I.ok.kind];decide) hf hn ?_ I.funs
  exact Heap.get?_none_of_le (bD I.ok.bsz I.ok.above)
theorem Inv.stkSub(I:Inv X aA σ H s):∀b∈frs X.stack,b∈X.env.locals::X.fs:=λb hb=>by
 rcases I.ok.stk with e|⟨e,hf⟩
 ·rw[e]at hb;exact aP _ hb
 ·rw[e]at hb;unfold frs at hb;rw[dG,hf]at hb;exact hb
theorem Inv.stkFree(I:Inv X aA σ H s):∀b∈frs X.stack,H b=none:=λb hb=>by
 rcases ar.mp (I.stkSub b hb) with e|hb
 ·rw[e];exact I.free
 ·obtain⟨_,o,ho,_⟩:=I.ok.funs.mem hb;exact I.base.free b o ho (I.ok.frf b hb) λz=>I.ok.exfs b z hb
theorem Inv.step{g':Array GenState}{t':Nat}{d':Drawn}{ch:List Addr}(I:Inv X aA σ H s)
  (hch:∀b∈ch,(b∈X.ex\/X.s₀.heap.objs.size<=b)/\b≠X.env.locals/\(∀x c,X.env.cells.lookup x=some c->c≠b)/\∀p∈X.pn++aA,p.1≠b)
  (keep:∀b o,b≠X.env.locals->b∉X.fs->b∉ch->s.heap.get? b=some o->H b=none->h'.get? b=some o)
  (slot:∀b o,b≠X.env.locals->b∈X.fs->b∉ch->s.heap.get? b=some o->H b=none->∃sl,h'.get? b=some {o with slots:=sl}) (free:∀b o,b∉ch->s.heap.get? b=some o->H b=none->H' b=none)
  (there:∀b o,b∉ch->s.heap.get? b=some o->∃o',h'.get? b=some o')
  (tups:∀b xs,H b=some (.tup xs)->H' b=some (.tup xs)) (frzs:∀b o u,H b=some (.frz o u)->H' b=some (.frz o u)) (tbls:∀b ps,H b=some (.tbl ps)->∃more,H' b=some (.tbl (ps++more)))
  (ns:∀m,s.heap.Ns X.env.locals m->h'.Ns X.env.locals m) (hok:HOk X.prog X.w H' h') (hg:AllBare g') :
  Inv X aA σ H' {s with heap:=h',gens:=g',drawn:=d',toks:=t' }:=by
 have neL:∀b o,X.s₀.heap.get? b=some o->b≠X.env.locals:=λb o e=>bq (aS (aL e) I.ok.above);have neC:∀b o,X.s₀.heap.get? b=some o->b∉X.ex->b∉ch:=λb o e hx hb=>by
  rcases(hch b hb).1 with z|z
  ·exact hx z
  ·exact absurd (aS (aL e) z) (bZ _)
 have cellK:∀x c,X.env.cells.lookup x=some c->∀v,s.heap.IsCell c v->h'.IsCell c v:=λx c e v ⟨o,ho,hd⟩=>by
  have nch:c∉ch:=λz=>(hch c z).2.2.1 x c e rfl
  by_cases hc:c∈X.fs
  ·obtain⟨sl,q⟩:=slot c o (I.cne x c e) hc nch ho (I.freeC x c e);exact⟨_,q,hd⟩
  ·exact⟨o,keep c o (I.cne x c e) hc nch ho (I.freeC x c e),hd⟩
 refine⟨I.ok,I.os,hg,⟨λb o e n hb hx=>?_,λb o e n hb hx=>?_,λb o e n hx=>?_,λb o e hx=>?_,λb xs e=>tups b xs (I.base.tups b xs e),λb o xs e=>frzs b o xs (I.base.frzs b o xs e),λb ps e=>?_⟩,?_,λx c e=>?_,?_,λx c e=>?_,λp hp=>?_,hok,I.len⟩
 ·exact keep b o (neL b o e) hb (neC b o e hx) (I.base.keep b o e n hb hx) (I.base.free b o e n hx)
 ·obtain⟨sl,e1⟩:=I.base.slot b o e n hb hx;obtain⟨sl',e2⟩:=slot b _ (neL b o e) hb (neC b o e hx) e1 (I.base.free b o e n hx);exact⟨sl',e2⟩
 ·obtain⟨o',e1⟩:=I.base.there b o e hx;exact free b o' (neC b o e hx) e1 (I.base.free b o e n hx)
 ·obtain⟨o',e1⟩:=I.base.there b o e hx;exact there b o' (neC b o e hx) e1
 ·obtain⟨m1,e1⟩:=I.base.tbls b ps e;obtain⟨m2,e2⟩:=tbls b _ e1;exact⟨m1++m2,by rw[e2,Array.append_assoc]⟩
 ·obtain⟨m,hn,hl⟩:=I.loc;refine⟨m,ns m hn,λi x v e1 e2 e3=>?_⟩;obtain⟨u,r,l⟩:=hl i x v e1 e2 e3;refine⟨u,r,?_⟩
  rcases l with l|⟨k,c,e,z⟩
  ·exact .inl l
  ·exact .inr ⟨k,c,e,cellK x c e _ z⟩
 ·obtain⟨v,z⟩:=I.cell x c e;exact⟨v,cellK x c e v z⟩
 ·obtain⟨m,⟨o,_,_,ho,_⟩,_⟩:=I.loc;exact free _ o (λz=>(hch _ z).2.1 rfl) ho I.free
 ·obtain⟨v,o,ho,hd⟩:=I.cell x c e;exact free c o (λz=>(hch c z).2.2.1 x c e rfl) ho (I.freeC x c e)
 ·obtain⟨e,n,ne,nf,d⟩:=I.pin p hp;have nch:p.1∉ch:=λz=>(hch p.1 z).2.2.2 p hp rfl;exact⟨keep p.1 p.2 ne nf nch e n,free p.1 p.2 nch e n,ne,nf,d⟩
theorem Inv.un{t':Nat}(I:Inv X aA σ H s)(u:Un X.fs [] H H' s.heap h')(hok:HOk X.prog X.w H' h'):Inv X aA σ H' {s with heap:=h',toks:=t' }:=by
 obtain⟨m,⟨o,es,ep,ho,r⟩,_⟩:=id I.loc;obtain⟨sl,hL⟩:=u.any ho I.free (by simp)
 exact I.step (g':=s.gens) (d':=s.drawn) (ch:=[]) (λ_ z=>nomatch z) (λb o _ hb _ e n=>u.keep b o e n hb (by simp)) (λb o _ hb _ e n=>u.slot b o e n hb (by simp)) (λb o _ e n=>u.free b o e n (by simp)) (λb o _ e=>u.there b o e (by simp)) u.tups u.frzs u.tbls (λm' hm=>by
  obtain⟨o',es',ep',ho',r'⟩:=hm;rw[ho]at ho';cases ho'
  exact⟨_,es',ep',hL,r'⟩) hok I.bare
theorem Inv.call{g':Array GenState}{t':Nat}{d':Drawn}{ch:List Addr}(I:Inv X aA σ H s)(u:Un (frs X.stack) ch H H' s.heap h')(hok:HOk X.prog X.w H' h')(hg:AllBare g')
  (hch:∀b∈ch,(b∈X.ex\/X.s₀.heap.objs.size<=b)/\b≠X.env.locals/\(∀x c,X.env.cells.lookup x=some c->c≠b)/\∀p∈X.pn++aA,p.1≠b) :
  Inv X aA σ H' {s with heap:=h',gens:=g',drawn:=d',toks:=t' }:=by
 obtain⟨m,⟨o,es,ep,ho,r⟩,_⟩:=id I.loc;obtain⟨sl,hL⟩:=u.any ho I.free λz=>(hch _ z).2.1 rfl;exact I.step (ch:=ch) hch (λb o hL hb hc e n=>u.keep b o e n (λz=>(ar.mp (I.stkSub b z)).elim hL hb) hc) (λb o _ _ hc e n=>u.any e n hc) (λb o hc e n=>u.free b o e n hc) (λb o hc e=>u.there b o e hc) u.tups u.frzs u.tbls (λm' hm=>by
  obtain⟨o',es',ep',ho',r'⟩:=hm;rw[ho]at ho';cases ho'
  exact⟨_,es',ep',hL,r'⟩) hok hg
theorem Inv.turned{t':Nat}{it:Addr}(I:Inv X aA σ H s)(k:∀b o,b≠it->s.heap.get? b=some o->h'.get? b=some o)(hn:H it=none)(hL:it≠X.env.locals)
  (h1:it∈X.ex\/X.s₀.heap.objs.size<=it) (h2:∀x c,X.env.cells.lookup x=some c->c≠it) (h3:∀p∈X.pn++aA,p.1≠it):Inv X aA σ H {s with heap:=h',toks:=t' }:=by
 have nit:∀b u,H b=some u->b≠it:=λb u e z=>by rw[z,hn]at e;cases e
 refine I.step (g':=s.gens) (d':=s.drawn) (ch:=[it]) (λb hb=>?_) (λb o _ _ hc e _=>k b o (λz=>hc (by simp[z])) e) (λb o _ _ hc e _=>⟨o.slots,k b o (λz=>hc (by simp[z])) e⟩) (λ_ _ _ _ n=>n)
  (λb o hc e=>⟨o,k b o (λz=>hc (by simp[z])) e⟩) (λ_ _ e=>e) (λ_ _ _ e=>e) (λb ps e=>⟨#[],by rw[e];simp⟩) (λm hm=>?_) (λb u e=>?_) I.bare
 ·have e:b=it:=by simpa using hb
  subst e;exact⟨h1,hL,h2,h3⟩
 ·obtain⟨o,es,ep,ho,r⟩:=hm;exact⟨o,es,ep,k _ o (eK hL) ho,r⟩
 ·refine(I.hok b u e).stay (λc v hc q=>k c v ?_ q) (λ_ q=>q) λ_ _ q=>q
  rcases hc with z|z
  ·rw[z];exact nit b u e
  ·exact nit c _ z
theorem Inv.tok(I:Inv X aA σ H s)(t:Nat):Inv X aA σ H {s with toks:=t}:=I.un (h':=s.heap) (t':=t) Un.refl I.hok
theorem Inv.kept(I:Inv X aA σ H s)(k:∀b u,s.heap.get? b=some u->h'.get? b=some u):Inv X aA σ H {s with heap:=h',toks:=t' }:=I.un (Un.kept k) (I.hok.kept k)
theorem Inv.laid(I:Inv X aA σ H s)(k:∀b u,s.heap.get? b=some u->h'.get? b=some u)(hp:s.heap.objs.size<=a)(new:ObjOk X.prog X.w (upd H a o) h' a o) :
  Inv X aA σ (upd H a o) {s with heap:=h',toks:=t' }:=I.un (Un.laid k hp (I.hok.fresh hp)) (I.hok.laid k hp new)
theorem Inv.write(I:Inv X aA σ H s)(mu:Mut (H x))(he:e=x\/H e=some (.own x))(k:∀b u,b≠e->s.heap.get? b=some u->h'.get? b=some u)(heo:∃u,h'.get? e=some u)
  (new:ObjOk X.prog X.w (upd H x o) h' x o):Inv X aA σ (upd H x o) {s with heap:=h',toks:=t' }:=I.un (Un.write mu he k heo) (I.hok.write mu he k heo new)
theorem Inv.weak{σ':List (Option V)}(I:Inv X aA σ H s)(hl:σ'.length=σ.length)(w:∀(i:Nat) v,σ'[i]? = some (some v)->σ[i]? = some (some v)):Inv X aA σ' H s :=
 ⟨I.ok,I.os,I.bare,I.base,let ⟨m,hn,hl'⟩:=I.loc; ⟨m,hn,λi x v e1 e2 e3=>hl' i x v e1 (w i v e2) e3⟩,I.cell,I.free,I.freeC,I.pin,I.hok,hl.trans I.len⟩
theorem Inv.pins_of(I:Inv X aA σ H s)(h:∀p∈pins',s.heap.get? p.1=some p.2/\H p.1=none/\p.1≠X.env.locals/\p.1∉X.fs/\∀v,p.2.data≠.cell v):Inv X pins' σ H s :=
 ⟨I.ok,I.os,I.bare,I.base,I.loc,I.cell,I.free,I.freeC,λp hp=>(aW.mp hp).elim (λz=>I.pin p (bY _ z)) (h p),I.hok,I.len⟩
theorem a8s{N:List Str}(hN:N.Nodup){i j:Nat}(a:N[i]? = some x)(b:N[j]? = some x):i=j:=by
 obtain⟨h1,e1⟩:=a7.mp a;obtain⟨h2,e2⟩:=a7.mp b;exact(List.getElem_inj hN).mp (e1.trans e2.symm)
abbrev Hf(X:Cx)(x:Str):Prop:=X.fn x=true\/X.env.scope.names.lookup x=some .local
theorem a6t{i:Nat}(I:Inv X aA σ H s)(hN:X.N.Nodup)(hi:X.N[i]? = some x)(hx:Loc X.env.scope x)(r:RelV v u)
  (h:∀s',Inv X aA (σ.set i (some v)) H s'->(∃a,Heap.SameBut a s.heap s'.heap/\(a=X.env.locals\/X.env.cells.lookup x=some a))->Q () s') (hf:Hf X x:=by first|exact .inl rfl|exact .inr rfl|assumption):wpAny M A (storeName X.env x u) Q E s:=by
 obtain⟨m,hn,hl⟩:=id I.loc;have hcls:(X.env.scope.kind == .class || (X.env.scope.kind == .module && X.env.locals != X.env.globals))=false:=by rw[I.ok.kind];rfl
 have hiσ:i<σ.length:=by rw[I.len];exact(a7.mp hi).1
 have cne:=I.cne;have tracked:∀{a:Addr} {h':Heap},(∃o,s.heap.get? a=some o/\H a=none)->Heap.SameBut a s.heap h'->HOk X.prog X.w H h':=λ{a h'} ha hs b ob e=>by
  obtain⟨_,_,hfree⟩:=ha;refine(I.hok b ob e).stay (λc w' hc q=>(hs.2 c ?_).trans q) (λ_ q=>q) λ_ _ q=>q
  rintro rfl
  rcases hc with rfl|hc
  ·rw[hfree]at e;cases e
  ·rw[hfree]at hc;cases hc
 rcases hx with hk|hk
 ·refine wpAny_storeName_local hk hn (λh' hn' hs=>?_) hcls;obtain⟨oL,_,_,hoL,_⟩:=id hn;refine h _ ⟨I.ok,I.os,I.bare,⟨λb o e n hb hx=>?_,λb o e n hb hx=>?_,I.base.free,λb o e hx=>?_,I.base.tups,I.base.frzs,I.base.tbls⟩,⟨_,hn',λj y v' e1 e2 e3=>?_⟩,λy c e=>?_,I.free,I.freeC,λp hp=>?_,tracked ⟨oL,hoL,I.free⟩ hs,by simpa using I.len⟩ ⟨_,hs,.inl rfl⟩
  ·exact(hs.2 b (bq (aS (aL e) I.ok.above))).trans (I.base.keep b o e n hb hx)
  ·obtain⟨sl,e1⟩:=I.base.slot b o e n hb hx;exact⟨sl,(hs.2 b (bq (aS (aL e) I.ok.above))).trans e1⟩
  ·obtain⟨o',e1⟩:=I.base.there b o e hx;exact⟨o',(hs.2 b (bq (aS (aL e) I.ok.above))).trans e1⟩
  ·by_cases hj:j=i
   ·subst hj;rw[hi]at e1;cases e1
    rw[bR hiσ]at e2;cases e2
    exact⟨u,r,.inl ⟨hk,by simp⟩⟩
   ·rw[cF (eK hj)]at e2;obtain⟨u',r',q⟩:=hl j y v' e1 e2 e3;refine⟨u',r',?_⟩
    rcases q with⟨k,e⟩|⟨k,c,e,z⟩
    ·refine .inl ⟨k,?_⟩;have:y≠x:=λe=>hj (a8s hN e1 (e ▸ hi));simp[this,e]
    ·exact .inr ⟨k,c,e,z.sameBut hs (cne y c e)⟩
  ·obtain⟨w',z⟩:=I.cell y c e;exact⟨w',z.sameBut hs (cne y c e)⟩
  ·obtain⟨e,n,ne,nf,d⟩:=I.pin p hp;exact⟨(hs.2 p.1 ne).trans e,n,ne,nf,d⟩
 ·have hfn:X.fn x=true:=by
   rcases hf with z|z
   ·exact z
   ·rw[z]at hk;cases hk
  obtain⟨c,hc⟩:=I.ok.has x (.inl hk);obtain⟨w',z⟩:=I.cell x c hc;refine wpAny_storeName_cell I.ok.kind hk hc z (λh' hc' hs=>?_);obtain⟨oc,hoc,hocd⟩:=id z;refine h {s with heap:=h' } ⟨I.ok,I.os,I.bare,⟨λb o e n hb hx=>?_,λb o e n hb hx=>?_,I.base.free,λb o e hx=>?_,I.base.tups,I.base.frzs,I.base.tbls⟩,⟨m,hn.sameBut hs (eK (cne x c hc)),λj y v' e1 e2 e3=>?_⟩,λy c' e=>?_,I.free,I.freeC,λp hp=>?_,tracked ⟨oc,hoc,I.freeC x c hc⟩ hs,by simpa using I.len⟩ ⟨c,hs,.inr hc⟩
  ·exact(hs.2 b (bq (aS (aL e) (I.ok.cab x c hfn hc)))).trans (I.base.keep b o e n hb hx)
  ·obtain⟨sl,e1⟩:=I.base.slot b o e n hb hx;exact⟨sl,(hs.2 b (bq (aS (aL e) (I.ok.cab x c hfn hc)))).trans e1⟩
  ·obtain⟨o',e1⟩:=I.base.there b o e hx;exact⟨o',(hs.2 b (bq (aS (aL e) (I.ok.cab x c hfn hc)))).trans e1⟩
  ·by_cases hj:j=i
   ·subst hj;rw[hi]at e1;cases e1
    rw[bR hiσ]at e2;cases e2
    exact⟨u,r,.inr ⟨.inl hk,c,hc,hc'⟩⟩
   ·rw[cF (eK hj)]at e2;obtain⟨u',r',q⟩:=hl j y v' e1 e2 e3;refine⟨u',r',?_⟩
    rcases q with q|⟨k,c',e,z'⟩
    ·exact .inl q
    ·refine .inr ⟨k,c',e,z'.sameBut hs ?_⟩
     rintro rfl
     exact hj (a8s hN e1 (I.ok.inj _ _ _ e hc ▸ hi))
  ·by_cases hcc:c'=c
   ·subst hcc;exact⟨_,hc'⟩
   ·obtain⟨w2,z2⟩:=I.cell y c' e;exact⟨w2,z2.sameBut hs hcc⟩
  ·obtain⟨e,n,ne,nf,d⟩:=I.pin p hp;refine⟨(hs.2 p.1 ?_).trans e,n,ne,nf,d⟩
   intro q
   rw[q,hoc]at e;have q':oc=p.2:=ba e;exact d w' (by rw[<-q'];exact hocd)
theorem a5a(I:Inv X aA σ H s)(hN:X.N.Nodup)(hi:X.N[i]? = some x)(hx:Loc X.env.scope x)(r:RelV v u)
  (h:∀s',Inv X aA (σ.set i (some v)) H s'->Q () s') (hf:Hf X x:=by first|exact .inl rfl|exact .inr rfl|assumption):wpAny M A (storeName X.env x u) Q E s :=
 a6t I hN hi hx r (λs' I' _=>h s' I') hf
end
abbrev XK:=Value->Option Addr->Hp->Prop
abbrev St:=List (Option V)
abbrev VK:=V->Hp->Prop
abbrev TE:=St->Hp->VK->Prop
abbrev TT:=St->Hp->(Bool->Hp->Prop)->Prop
abbrev TA:=St->Hp->(List V->Hp->Prop)->Prop
structure Ends where
 nx:St->Hp->Prop
 rt:VK
 bk:St->Hp->Prop:=λ_ _=>False
 ct:St->Hp->Prop:=λ_ _=>False
abbrev TS:=Ends->St->Hp->Prop
def EP(X:Cx)(aA:List (Addr×Obj))(σ:St)(Q:VK)(u:Value)(s':Shared):Prop:=∃v H',Inv X aA σ H' s'/\RelV v u/\Q v H'
def TP(X:Cx)(aA:List (Addr×Obj))(σ:St)(Q:Bool->Hp->Prop)(b:Bool)(s':Shared):Prop:=∃H',Inv X aA σ H' s'/\Q b H'
def AP(X:Cx)(aA:List (Addr×Obj))(σ:St)(Q:List V->Hp->Prop)(us:List Value)(s':Shared):Prop:=∃vs H',Inv X aA σ H' s'/\Vals vs us/\Q vs H'
def SP(X:Cx)(aA:List (Addr×Obj))(D:Ends)(f:Flow)(s':Shared):Prop :=
 match f with
 |.next=>∃σ' H',Inv X aA σ' H' s'/\D.nx σ' H'
 |.brk=>∃σ' H',Inv X aA σ' H' s'/\D.bk σ' H'
 |.cont=>∃σ' H',Inv X aA σ' H' s'/\D.ct σ' H'
 |.ret u=>∃v σ' H',Inv X aA σ' H' s'/\RelV v u/\D.rt v H'
def PE(X:Cx)(e:Expr)(t:TE):Prop :=
 ∀(aA:List (Addr×Obj)) (s:Shared) (σ:St) (H:Hp) (Q:VK),Inv X aA σ H s->t σ H Q->wpAny (model X.prog X.w) X.A (eval e X.env) (EP X aA σ Q) X.xe s
def PT(X:Cx)(e:Expr)(t:TT):Prop :=
 ∀(aA:List (Addr×Obj)) (s:Shared) (σ:St) (H:Hp) (Q:Bool->Hp->Prop),Inv X aA σ H s->t σ H Q->wpAny (model X.prog X.w) X.A (isTrue e X.env (eval e X.env)) (TP X aA σ Q) X.xe s
def PW(X:Cx)(e:Expr)(t:TT):Prop :=
 ∀(whole:Sem Value) (aA:List (Addr×Obj)) (s:Shared) (σ:St) (H:Hp) (Q:Bool->Hp->Prop),Inv X aA σ H s->t σ H Q->wpAny (model X.prog X.w) X.A (isTrue e X.env whole) (TP X aA σ Q) X.xe s
theorem PW.pt(h:PW X e t):PT X e t:=h _
def PA(X:Cx)(es:List Expr)(t:TA):Prop :=
 ∀(pos:Pos) (aA:List (Addr×Obj)) (s:Shared) (σ:St) (H:Hp) (Q:List V->Hp->Prop),Inv X aA σ H s->t σ H Q->wpAny (model X.prog X.w) X.A (spliced (backTo pos (starEach es X.env))) (AP X aA σ Q) X.xe s
def PS(X:Cx)(st:Stmt)(t:TS):Prop :=
 ∀(aA:List (Addr×Obj)) (s:Shared) (σ:St) (H:Hp) (D:Ends),Inv X aA σ H s->t D σ H->wpAny (model X.prog X.w) X.A (exec st X.env) (SP X aA D) X.xe s
def PSs(X:Cx)(st:List Stmt)(t:TS):Prop :=
 ∀(aA:List (Addr×Obj)) (s:Shared) (σ:St) (H:Hp) (D:Ends),Inv X aA σ H s->t D σ H->wpAny (model X.prog X.w) X.A (execs st X.env) (SP X aA D) X.xe s
theorem thn{α:Type}{t:Sem α}{Q Q':α->Shared->Prop}{M:Model}{A:Around}{E:Value->Shared->Prop}{s:Shared}(h:wpAny M A t Q E s)(hQ:∀a s,Q a s->Q' a s):wpAny M A t Q' E s:=cG h hQ λ_ _ x=>x
section
variable{X:Cx}
def ati(i:Nat):TE:=λσ H Q=>∃v,σ[i]? = some (some v)/\Q v H
def tC(v:V):TE:=λ_ H Q=>Q v H
theorem alo(hN:X.N[i]? = some x)(hv:Vis X.env.scope x)(hd:(x == ("__debug__" : Str))=false:=by decide)(hcd:(x == ("__classdict__" : Str))=false:=by decide):PE X (.Name x pos) (ati i):=by
 intro aA s σ H Q I h
 obtain⟨v,e,h⟩:=h;obtain⟨m,hn,hl⟩:=I.loc;obtain⟨u,r,l⟩:=hl i x v hN e hv;have fin:EP X aA σ Q u s:=⟨v,H,I,r,h⟩
 rcases l with⟨hk,hm⟩|⟨hk,c,hc,hcell⟩
 ·exact wpAny_Name (wpAny_loadName_local I.ok.kind hk hn hm fin) hd
 ·rcases hk with hk|hk
  ·exact wpAny_Name (wpAny_loadName_cell I.ok.kind hk hc hcell fin) hd
  ·exact wpAny_Name (wpAny_loadName_free I.ok.kind hk hc hcell fin hcd) hd
theorem alp{i j pos}:PE X (.Constant (.int i) j pos) (tC (.int i)):=λ_ _ _ H _ I h=>wpAny_Constant_int ⟨.int i,H,I.tok _,⟨_,rfl⟩,h⟩
theorem aqe{b j pos}:PE X (.Constant (.bool b) j pos) (tC (.bl b)):=λ_ _ _ H _ I h=>Constant_bool ⟨.bl b,H,I,rfl,h⟩
theorem alq{j pos}:PE X (.Constant .none j pos) (tC .non):=λ_ _ _ H _ I h=>Constant_none ⟨.non,H,I,rfl,h⟩
theorem alr{x j pos}:PE X (.Constant (.str x) j pos) (tC (.str x)):=λ_ _ _ H _ I h=>Calls.Constant_str ⟨.str x,H,I.tok _,⟨_,rfl⟩,h⟩
def Gl(X:Cx)(x:Str):Prop:=X.env.kindOf x=some .globalImplicit
theorem aaz(I:Inv X aA σ H s)(hg:Gl X x)(hm:X.mg x=some u)(h:Q u s)
  (hd:(x == ("__debug__" : Str))=false:=by decide):wpAny (model X.prog X.w) X.A (eval (.Name x pos) X.env) Q E s :=
 Calls.Name_function_global I.ok.kind hg (Calls.loadGlobal_global (by rw[I.ok.glob];exact I.mod.glob.keeps I.bk) hm h) hd
theorem a2s(I:Inv X aA σ H s)(hg:Gl X x)(hm:X.mg x=none)(hv:bootBuiltins x=some u)(h:Q u s)
  (hn:x ≠ "__name__":=by decide) (hd:(x == ("__debug__" : Str))=false:=by decide):wpAny (model X.prog X.w) X.A (eval (.Name x pos) X.env) Q E s:=by
 obtain⟨mb,h1,h2⟩:=I.mod.blt;exact Calls.Name_function_global I.ok.kind hg (Calls.loadGlobal_builtin (by rw[I.ok.glob];exact I.mod.glob.keeps I.bk) hm (by rw[I.ok.blt];exact h1.keeps I.bk) ((h2 x hn).trans hv) h) hd
theorem aig(hg:Gl X x)(hm:X.mg x=none)(hv:bootBuiltins x=some u)(r:RelV v u)(hn:x ≠ "__name__":=by decide)(hd:(x == ("__debug__" : Str))=false:=by decide):PE X (.Name x pos) (tC v) :=
 λ_ _ _ H _ I h=>a2s I hg hm hv ⟨v,H,I,r,h⟩ hn hd
variable{a b:Expr}{ta tb:TE}{pos:Pos}
variable{tA tB':TT}{aG:List Expr}
def atj(t u:TT):TT:=λσ H Q=>t σ H λc H1=>if c=true then u σ H1 Q else Q false H1
def tOr(t u:TT):TT:=λσ H Q=>t σ H λc H1=>if c=true then Q true H1 else u σ H1 Q
def atk(t:TT):TT:=λσ H Q=>t σ H λc H1=>Q (!c) H1
theorem aih(ha:PT X a tA):PW X (.BoolOp .And [a] pos) tA:=by
 intro wh aA s σ H Q I h
 refine isTrue_and (thn (ha aA s σ H Q I h) λc s1 e=>?_)
 cases c with
 |true=>exact isTrue_and_nil e
 |false=>exact e
theorem als(ha:PT X a tA):PW X (.BoolOp .Or [a] pos) tA:=by
 intro wh aA s σ H Q I h
 refine isTrue_or (thn (ha aA s σ H Q I h) λc s1 e=>?_)
 cases c with
 |false=>exact isTrue_or_nil e
 |true=>exact e
theorem alu(ha:PT X a tA)(hb:PW X (.BoolOp .And (b::aG) pos) tB'):PW X (.BoolOp .And (a::b::aG) pos) (atj tA tB'):=by
 intro wh aA s σ H Q I h
 refine isTrue_and (thn (ha aA s σ H _ I h) λc s1 ⟨H1,I1,q1⟩=>?_)
 cases c with
 |true=>exact hb wh aA s1 σ H1 Q I1 q1
 |false=>exact⟨H1,I1,q1⟩
theorem aqf(ha:PT X a tA)(hb:PW X (.BoolOp .Or (b::aG) pos) tB'):PW X (.BoolOp .Or (a::b::aG) pos) (tOr tA tB'):=by
 intro wh aA s σ H Q I h
 refine isTrue_or (thn (ha aA s σ H _ I h) λc s1 ⟨H1,I1,q1⟩=>?_)
 cases c with
 |true=>exact⟨H1,I1,q1⟩
 |false=>exact hb wh aA s1 σ H1 Q I1 q1
theorem alv(ha:PT X a tA):PT X (.UnaryOp .Not a pos) (atk tA):=by
 intro aA s σ H Q I h
 exact isTrue_not (ha aA s σ H (λc H1=>Q (!c) H1) I h)
def aqg(ta tb:TE):TE:=λσ H Q=>ta σ H λx H1=>∃c,x=.bl c/\if c=true then tb σ H1 Q else Q (.bl false) H1
def aqh(ta:TE):TE:=λσ H Q=>ta σ H λx H1=>∃c,x=.bl c/\Q (.bl (!c)) H1
theorem alw{op}(h:PE X a t):PE X (.BoolOp op [a] pos) t:=λaA s σ H Q I hw=>BoolOp_one (h aA s σ H Q I hw)
theorem alx(ha:PE X a ta)(hb:PE X (.BoolOp .And (b::aG) pos) tb):PE X (.BoolOp .And (a::b::aG) pos) (aqg ta tb):=by
 intro aA s σ H Q I h
 refine BoolOp_and (thn (ha aA s σ H _ I h) λv s1 ⟨x,H1,I1,r1,q1⟩=>?_);obtain⟨c,rfl,q1⟩:=q1;cases r1
 refine cH ?_
 cases c with
 |true=>exact hb aA s1 σ H1 Q I1 q1
 |false=>exact⟨.bl false,H1,I1,rfl,q1⟩
theorem aly(ha:PE X a ta):PE X (.UnaryOp .Not a pos) (aqh ta):=by
 intro aA s σ H Q I h
 refine UnaryOp_ (thn (ha aA s σ H _ I h) λv s1 ⟨x,H1,I1,r1,q1⟩=>?_);obtain⟨c,rfl,q1⟩:=q1;cases r1
 exact not_of (cH ⟨.bl (!c),H1,I1,rfl,q1⟩)
def tIf(t:TT)(ta tb:TE):TE:=λσ H Q=>t σ H λc H1=>if c=true then ta σ H1 Q else tb σ H1 Q
theorem aes{c:Expr}(hc:PT X c tA)(ha:PE X a ta)(hb:PE X b tb):PE X (.IfExp c a b pos) (tIf tA ta tb):=by
 intro aA s σ H Q I h
 refine wpAny_IfExp (thn (hc aA s σ H _ I h) λd s1 ⟨H1,I1,q1⟩=>?_)
 cases d with
 |true=>exact ha aA s1 σ H1 Q I1 q1
 |false=>exact hb aA s1 σ H1 Q I1 q1
end
def SqL(K:Fg)(H:Hp)(a:Addr)(xs:List V):Prop :=
 Rd H a (.lst xs) \/
  ∃(o:Obj) (its:Array Value) (n:Nat),K.lookup a=some o/\o.cls=.type "list"/\o.dict=none/\o.data=.seq its n/\its.size<=sizeLine/\Vals xs its.toList
def SqT(K:Fg)(H:Hp)(a:Addr)(xs:List V):Prop :=
 Rd H a (.tup xs) \/
  ∃(o:Obj) (its:Array Value) (n:Nat),K.lookup a=some o/\o.cls=.type "tuple"/\o.data=.seq its n/\its.size<=sizeLine/\Vals xs its.toList
def atl:Value->Option V
 |.none=>some .non
 |.bool b=>some (.bl b)
 |.int i _=>some (.int i)
 |.str x _=>some (.str x)
 |.bytes b _=>some (.byt b)
 |.float b _=>some (.flt b)
 |.ref a=>some (.ref a)
 |.type n=>some (.ty n)
 |_=>none
theorem RelV.abs(r:RelV x u):atl u=some x:=by
 cases x with
 |non=>cases r;rfl
 |bl _=>cases r;rfl
 |int _=>obtain⟨t,rfl⟩:=r;rfl
 |str _=>obtain⟨t,rfl⟩:=r;rfl
 |byt _=>obtain⟨t,rfl⟩:=r;rfl
 |flt _=>obtain⟨t,rfl⟩:=r;rfl
 |ref _=>cases r;rfl
 |ty _=>cases r;rfl
theorem RelV.inj(r:RelV x u)(q:RelV y u):x=y:=ba (r.abs.symm.trans q.abs)
theorem Vals.inj:∀{xs ys:List V} {us:List Value},Vals xs us->Vals ys us->xs=ys
 |_,_,_,.nil,.nil=>rfl
 |_,_,_,.cons r t,.cons r' t'=>by rw[r.inj r',Vals.inj t t']
section
variable{X:Cx}{aA:List (Addr×Obj)}{σ:St}{H:Hp}{s:Shared}{a:Addr}{xs ys:List V}
theorem SqL.of{K:Fg}(h:H a=some (.lst xs)):SqL K H a xs:=.inl (.inl h)
theorem SqT.of{K:Fg}(h:H a=some (.tup xs)):SqT K H a xs:=.inl (.inl h)
theorem Inv.list(I:Inv X aA σ H s)(h:SqL X.K H a xs):∃its:List Value,Vals xs its/\PlainL s.heap a its.toArray/\xs.length<=sizeLine:=by
 rcases h with h|⟨o,its,n,hk,hc,hd,hs,hz,r⟩
 ·obtain⟨z,its,n,r,e⟩:=h.ok I.hok;exact⟨its,r,⟨_,n,e,rfl,rfl,rfl⟩,z⟩
 ·refine⟨its.toList,r,⟨o,n,I.kIn a o hk,hc,hd,by simpa using hs⟩,?_⟩
  have e:=r.length;simp only[dH]at e;omega
theorem Inv.tuple(I:Inv X aA σ H s)(h:SqT X.K H a xs):∃its:List Value,Vals xs its/\IsTup s.heap a its.toArray/\xs.length<=sizeLine:=by
 rcases h with h|⟨o,its,n,hk,hc,hs,hz,r⟩
 ·obtain⟨z,its,r,p⟩:=h.ok I.hok;exact⟨its,r,p,z⟩
 ·refine⟨its.toList,r,⟨o,I.kIn a o hk,hc,n,by simpa using hs⟩,?_⟩
  have e:=r.length;simp only[dH]at e;omega
theorem Inv.list_inj(I:Inv X aA σ H s)(h:SqL X.K H a xs)(h':SqL X.K H a ys):xs=ys:=by
 obtain⟨its,r,⟨o,n,e,_,_,d⟩,_⟩:=I.list h;obtain⟨its',r',⟨o',n',e',_,_,d'⟩,_⟩:=I.list h';rw[e]at e';cases e'
 rw[d]at d'
 injection d' with d1 _
 have:its=its':=by simpa using aK Array.toList d1
 subst this;exact r.inj r'
theorem Inv.tuple_inj(I:Inv X aA σ H s)(h:SqT X.K H a xs)(h':SqT X.K H a ys):xs=ys:=by
 obtain⟨its,r,⟨o,e,_,n,d⟩,_⟩:=I.tuple h;obtain⟨its',r',⟨o',e',_,n',d'⟩,_⟩:=I.tuple h';rw[e]at e';cases e'
 rw[d]at d'
 injection d' with d1 _
 have:its=its':=by simpa using aK Array.toList d1
 subst this;exact r.inj r'
end
abbrev Cx.wish(X:Cx)(E:Value->Shared->Prop):Cx:={X with xe:=E}
abbrev Cx.nox(X:Cx):Cx:=X.wish λ_ _=>False
theorem Cx.Ok.wish{X:Cx}(ok:X.Ok)(E:Value->Shared->Prop):(X.wish E).Ok :=
 ⟨ok.mod,ok.kind,ok.glob,ok.blt,ok.above,ok.inj,ok.has,ok.cab,ok.hd,ok.frames,ok.stk,ok.exf,ok.bs,ok.bsz,ok.noex,ok.exfs,ok.funs,ok.frf⟩
theorem Cx.Ok.unwish{X:Cx}(ok:(X.wish E).Ok):X.Ok :=
 ⟨ok.mod,ok.kind,ok.glob,ok.blt,ok.above,ok.inj,ok.has,ok.cab,ok.hd,ok.frames,ok.stk,ok.exf,ok.bs,ok.bsz,ok.noex,ok.exfs,ok.funs,ok.frf⟩
section
variable{X:Cx}{aA:List (Addr×Obj)}{σ:St}{H:Hp}{s:Shared}{E:Value->Shared->Prop}
theorem Inv.wish(I:Inv X aA σ H s)(E:Value->Shared->Prop):Inv (X.wish E) aA σ H s:=⟨I.ok.wish E,I.os,I.bare,I.base,I.loc,I.cell,I.free,I.freeC,I.pin,I.hok,I.len⟩
theorem Inv.unwish(I:Inv (X.wish E) aA σ H s):Inv X aA σ H s:=⟨I.ok.unwish,I.os,I.bare,I.base,I.loc,I.cell,I.free,I.freeC,I.pin,I.hok,I.len⟩
theorem SP.unwish(h:SP (X.wish E) aA D f s'):SP X aA D f s':=by
 cases f with
 |next=>obtain⟨σ',H',I,q⟩:=h;exact⟨σ',H',I.unwish,q⟩
 |brk=>obtain⟨σ',H',I,q⟩:=h;exact⟨σ',H',I.unwish,q⟩
 |cont=>obtain⟨σ',H',I,q⟩:=h;exact⟨σ',H',I.unwish,q⟩
 |ret u=>obtain⟨v,σ',H',I,r,q⟩:=h;exact⟨v,σ',H',I.unwish,r,q⟩
theorem PSs.nox{st:List Stmt}{t:TS}(h:PSs X.nox st t):PSs X st t:=λaA s σ H D I hw =>
 cG (h aA s σ H D (I.wish _) hw) (λ_ _ q=>q.unwish) λ_ _ z=>False.elim z
end
section
variable{X:Cx}{st:Stmt}{aG:List Stmt}{t u:TS}{e:Expr}{te:TE}{pos:Pos}
def aqi:TS:=λD σ H=>D.nx σ H
def atm(t u:TS):TS:=λD σ H=>t {D with nx:=u D} σ H
theorem aii:PSs X [] aqi:=λ_ _ σ H _ I h=>dI ⟨σ,H,I,h⟩
theorem aet(h1:PS X st t)(h2:PSs X aG u):PSs X (st::aG) (atm t u):=by
 intro aA s σ H D I h
 refine wpAny_execs_cons (thn (h1 aA s σ H {D with nx:=u D} I h) λf s1 q=>?_)
 cases f with
 |next =>
  obtain⟨σ',H',I',q⟩:=q;exact h2 aA s1 σ' H' D I' q
 |ret v=>exact q
 |brk=>exact q
 |cont=>exact q
theorem aij(h1:PS X st t):PSs X [st] t:=by
 intro aA s σ H D I h
 refine wpAny_execs_cons (thn (h1 aA s σ H D I h) λf s1 q=>?_)
 cases f with
 |next=>exact dI q
 |ret v=>exact q
 |brk=>exact q
 |cont=>exact q
theorem Inv.quiet(I:Inv X aA σ H s):interactive X.env=false:=by simp[interactive,I.ok.kind]
def aqj(te:TE):TS:=λD σ H=>te σ H λ_ H1=>D.nx σ H1
theorem aik(he:PE X e te)(hs:swapsWith e none pos.line X.env=pure false:=by rfl):PS X (.Expr e pos) (aqj te):=by
 intro aA s σ H D I h
 exact wpAny_Expr_any (thn (he aA s σ H _ I h) λv s1 ⟨x,H1,I1,r1,q1⟩=>⟨σ,H1,I1,q1⟩) I.quiet hs
def atn(te:TE):TS:=λD σ H=>te σ H D.rt
theorem alz(he:PE X e te):PS X (.Return (some e) pos) (atn te):=by
 intro aA s σ H D I h
 exact wpAny_Return_some (thn (he aA s σ H _ I h) λv s1 ⟨x,H1,I1,r1,q1⟩=>⟨x,σ,H1,I1,r1,q1⟩)
def ato(c:TT)(t u:TS):TS:=λD σ H=>c σ H λb H1=>if b=true then t D σ H1 else u D σ H1
theorem aqk{c:Expr}{a b:List Stmt}{tc:TT}(hc:PT X c tc)(ha:PSs X a t)(hb:PSs X b u):PS X (.If c a b pos) (ato tc t u):=by
 intro aA s σ H D I h
 refine wpAny_If (thn (hc aA s σ H _ I h) λd s1 ⟨H1,I1,q1⟩=>?_)
 cases d with
 |true=>exact ha aA s1 σ H1 D I1 q1
 |false=>exact hb aA s1 σ H1 D I1 q1
end
abbrev TG:=V->St->Hp->(St->Hp->Prop)->Prop
abbrev TGs:=List V->St->Hp->(St->Hp->Prop)->Prop
def PG(X:Cx)(target:Expr)(t:TG):Prop :=
 ∀(aA:List (Addr×Obj)) (s:Shared) (σ:St) (H:Hp) (v:V) (u:Value) (Q:St->Hp->Prop),Inv X aA σ H s->RelV v u->t v σ H Q->
  wpAny (model X.prog X.w) X.A (assign target X.env u) (λ_ s'=>∃σ' H',Inv X aA σ' H' s'/\Q σ' H') X.xe s
def PGs(X:Cx)(ts:List Expr)(t:TGs):Prop :=
 ∀(aA:List (Addr×Obj)) (s:Shared) (σ:St) (H:Hp) (vs:List V) (us:List Value) (Q:St->Hp->Prop),Inv X aA σ H s->Vals vs us->t vs σ H Q->
  wpAny (model X.prog X.w) X.A (assignInOrder ((assignEach ts X.env).map (·.2)) us) (λ_ s'=>∃σ' H',Inv X aA σ' H' s'/\Q σ' H') X.xe s
abbrev am0:=V->V->V->Hp->(Hp->Prop)->Prop
def aql(X:Cx)(t:am0):Prop :=
 ∀(aA:List (Addr×Obj)) (s:Shared) (σ:St) (H:Hp) (o i v:V) (ov iv u:Value) (Q:Hp->Prop),Inv X aA σ H s->RelV o ov->RelV i iv->RelV v u->t o i v H Q->
  wpAny (model X.prog X.w) X.A (setItem ov iv u) (λ_ s'=>∃H',Inv X aA σ H' s'/\Q H') X.xe s
abbrev TIp:=V->V->Hp->VK->Prop
def PIp(X:Cx)(op:Operator)(t:TIp):Prop :=
 ∀(aA:List (Addr×Obj)) (s:Shared) (σ:St) (H:Hp) (x y:V) (v u:Value) (Q:VK),Inv X aA σ H s->RelV x v->RelV y u->t x y H Q->
  wpAny (model X.prog X.w) X.A (inplaceOp op v u) (EP X aA σ Q) X.xe s
section
variable{X:Cx}{pos:Pos}
def a5b(i:Nat):TG:=λv σ H Q=>Q (σ.set i (some v)) H
theorem a7z(hN:X.N.Nodup)(hi:X.N[i]? = some x)(hx:Loc X.env.scope x)(hf:Hf X x:=by first|exact .inl rfl|exact .inr rfl|assumption):PG X (.Name x pos) (a5b i):=by
 intro aA s σ H v u Q I r h
 exact wpAny_assign_Name (a5a I hN hi hx r (λs' I'=>⟨_,H,I',h⟩) hf)
def as5:TGs:=λvs σ H Q=>vs=[]/\Q σ H
def aeu(t:TG)(u:TGs):TGs:=λvs σ H Q=>∃v r,vs=v::r/\t v σ H λσ' H'=>u r σ' H' Q
theorem ab0:PGs X [] as5:=by
 intro aA s σ H vs us Q I r h
 obtain⟨e,h⟩:=h;subst e;cases r
 exact assignInOrder_nil ⟨σ,H,I,h⟩
theorem a5c{e:Expr}{es:List Expr}{t:TG}{u:TGs}(h1:PG X e t)(h2:PGs X es u)
  (hs:(assignEach (e::es) X.env).map (·.2)=assign e X.env::(assignEach es X.env).map (·.2):=by rfl):PGs X (e::es) (aeu t u):=by
 intro aA s σ H vs us Q I r h
 obtain⟨v,vr,e1,h⟩:=h;subst e1
 cases r with
 |cons r rr =>
  rw[hs];refine assignInOrder_cons (thn (h1 aA s σ H _ _ _ I r h) λ_ s1 ⟨σ1,H1,I1,q1⟩=>?_);exact h2 aA s1 σ1 H1 _ _ Q I1 rr q1
def uy(K:Fg)(n:Nat)(t:TGs):TG:=λv σ H Q=>∃a xs,v=.ref a/\SqT K H a xs/\xs.length=n/\t xs σ H Q
theorem ah3(hc:X.calm=true)(h:PGs X es t)
  (hn:(assignEach es X.env).length=n:=by rfl) (hst:(assignEach es X.env).findIdx? (·.1)=none:=by rfl):PG X (.Tuple es k pos) (uy X.K n t):=by
 intro aA s σ H v u Q I r hw
 obtain⟨a,xs,e1,hq,hl,hw⟩:=hw;subst e1;cases r
 obtain⟨its,rv,ht,hz⟩:=I.tuple hq;refine assign_Tuple_tuple (I.ok.hd hc) ht (by simp[hn,<-hl,rv.length]) hst λh' hx=>?_
 have I1:Inv X aA σ H {s with heap:=h' }:=I.kept (t':=s.toks) λb o e=>hx b o (bq (aL e)) e
 exact h aA _ σ H xs _ Q I1 (by simpa using rv) hw
def a3y(to ti:TE)(t:am0):TG:=λv σ H Q=>to σ H λo H1=>ti σ H1 λi H2=>t o i v H2 λH3=>Q σ H3
theorem am1{o i:Expr}{to ti:TE}{t:am0}(ho:PE X o to)(hi:PE X i ti)(hs:aql X t)
  (ha:∀v,assign (.Subscript o i pos) X.env v=(do
   let ov <-holding [v] (eval o X.env)
   let iv <-holding [v,ov] (eval i X.env)
   standAt pos
   holding [v,ov,iv] (setItem ov iv v)
   release [v,ov,iv] []):=by intro _;rfl):PG X (.Subscript o i pos) (a3y to ti t):=by
 intro aA s σ H v u Q I r h
 rw[ha];refine a9 (cw (thn (ho aA s σ H _ I h) λov s1 ⟨x,H1,I1,r1,q1⟩=>?_));refine a9 (cw (thn (hi aA s1 σ H1 _ I1 q1) λiv s2 ⟨y,H2,I2,r2,q2⟩=>?_));refine a9 (dC (a9 (cw (thn (hs aA s2 σ H2 x y v ov iv u _ I2 r1 r2 r q2) λ_ s3 ⟨H3,I3,q3⟩=>?_))));exact wpAny_release ⟨σ,H3,I3,q3⟩
def aqm(te:TE)(g:TG):TS:=λD σ H=>te σ H λx H1=>g x σ H1 D.nx
theorem ab1{tg e:Expr}{te:TE}{g:TG}(he:PE X e te)(hg:PG X tg g)(hs:swapsWithSole [tg] e pos.line X.env=pure false:=by rfl)(hw:swappedStores [tg] e X.env=pure none:=by rfl)
  (h1:(assignEach [tg] X.env).map (·.2)=[assign tg X.env]:=by rfl):PS X (.Assign [tg] e pos) (aqm te g):=by
 intro aA s σ H D I h
 refine wpAny_Assign_stores (thn (he aA s σ H _ I h) λv s1 ⟨x,H1,I1,r1,q1⟩=>?_) hs hw;rw[h1];exact thn (hg aA s1 σ H1 x v _ I1 r1 q1) λ_ s2 q=>q
theorem am2{i:Nat}{x:Str}{e:Expr}{te:TE}{pos':Pos}(hN:X.N.Nodup)(hi:X.N[i]? = some x)(hx:Loc X.env.scope x)(he:PE X e te)(hs:swapsWith e (some (.Name x pos')) pos.line X.env=pure false:=by rfl)(hf:Hf X x:=by first|exact .inl rfl|exact .inr rfl|assumption) :
  PS X (.Assign [.Name x pos'] e pos) (aqm te (a5b i)):=by
 intro aA s σ H D I h
 refine wpAny_Assign_Name (thn (he aA s σ H _ I h) λv s1 ⟨y,H1,I1,r1,q1⟩=>?_) hs;exact a5a I1 hN hi hx r1 (λs2 I2=>⟨_,H1,I2,q1⟩) hf
def atp(i:Nat)(te:TE)(ti:TIp):TS:=λD σ H=>∃x,σ[i]? = some (some x)/\te σ H λy H1=>ti x y H1 λz H2=>D.nx (σ.set i (some z)) H2
theorem am3{i:Nat}{x:Str}{e:Expr}{te:TE}{op:Operator}{ti:TIp}{pos':Pos}(hN:X.N.Nodup)(hi:X.N[i]? = some x)(hx:Loc X.env.scope x)(he:PE X e te)(ho:PIp X op ti)(hf:Hf X x:=by first|exact .inl rfl|exact .inr rfl|assumption) :
  PS X (.AugAssign (.Name x pos') op e pos) (atp i te ti):=by
 intro aA s σ H D I h
 obtain⟨v,e1,h⟩:=h;obtain⟨m,hn,hl⟩:=I.loc;have vis:Vis X.env.scope x:=by rcases hx with k|k;exact .inl k;exact .inr (.inl k)
 obtain⟨u,r,l⟩:=hl i x v hi e1 vis;refine wpAny_AugAssign_Name ?_;have go:wpAny (model X.prog X.w) X.A (eval e X.env) (λw s₂=>wpAny (model X.prog X.w) X.A (inplaceOp op u w) (λr s₃=>wpAny (model X.prog X.w) X.A (storeName X.env x r) (λ_=>SP X aA D .next) X.xe s₃) X.xe s₂) X.xe s:=by
  refine thn (he aA s σ H _ I h) ?_
  rintro w s1 ⟨y,H1,I1,r1,q1⟩
  refine thn (ho aA s1 σ H1 v y u w _ I1 r r1 q1) ?_
  rintro z s2 ⟨zv,H2,I2,r2,q2⟩
  exact a5a I2 hN hi hx r2 (λs3 I3=>⟨_,H2,I3,q2⟩) hf
 rcases l with⟨hk,hm⟩|⟨hk,c,hc,hcell⟩
 ·exact wpAny_loadName_local I.ok.kind hk hn hm go
 ·rcases hk with hk|hk
  ·exact wpAny_loadName_cell I.ok.kind hk hc hcell go
  ·rcases hx with k|k
   ·have:X.env.scope.names.lookup x=some .free:=hk
    rw[k]at this;cases this
   ·have:X.env.scope.names.lookup x=some .free:=hk
    rw[k]at this;cases this
def aqn(to ti te:TE)(tget:V->V->Hp->VK->Prop)(tip:TIp)(tset:am0):TS:=λD σ H=>to σ H λo H1=>ti σ H1 λi H2=>tget o i H2 λx H3=>te σ H3 λy H4=>tip x y H4 λz H5=>tset o i z H5 λH6=>D.nx σ H6
def as6(X:Cx)(t:V->V->Hp->VK->Prop):Prop :=
 ∀(aA:List (Addr×Obj)) (s:Shared) (σ:St) (H:Hp) (o i:V) (ov iv:Value) (Q:VK),Inv X aA σ H s->RelV o ov->RelV i iv->t o i H Q->
  wpAny (model X.prog X.w) X.A (getItem ov iv) (EP X aA σ Q) X.xe s
theorem ail{o i e:Expr}{to ti te:TE}{tget:V->V->Hp->VK->Prop}{tip:TIp}{tset:am0}{op:Operator}{tpos:Pos}(ho:PE X o to)(hi:PE X i ti)(hg:as6 X tget)(he:PE X e te)(hp:PIp X op tip)(hs:aql X tset)
  (ha:∀ov iv new,augStore i ov iv new=(do holding [new,ov,iv] (setItem ov iv new);release [new,ov,iv] [];pure .next):=by intros;rfl):PS X (.AugAssign (.Subscript o i tpos) op e pos) (aqn to ti te tget tip tset):=by
 intro aA s σ H D I h
 refine wpAny_AugAssign_SubscriptAny (thn (ho aA s σ H _ I h) λov s1 ⟨x1,H1,I1,r1,q1⟩=>?_) ha;refine thn (hi aA s1 σ H1 _ I1 q1) ?_
 rintro iv s2 ⟨x2,H2,I2,r2,q2⟩
 refine thn (hg aA s2 σ H2 x1 x2 ov iv _ I2 r1 r2 q2) ?_
 rintro old s3 ⟨x3,H3,I3,r3,q3⟩
 refine thn (he aA s3 σ H3 _ I3 q3) ?_
 rintro v s4 ⟨x4,H4,I4,r4,q4⟩
 refine thn (hp aA s4 σ H4 x3 x4 old v _ I4 r3 r4 q4) ?_
 rintro new s5 ⟨x5,H5,I5,r5,q5⟩
 exact thn (hs aA s5 σ H5 x1 x2 x5 ov iv new _ I5 r1 r2 r5 q5) λ_ s6 ⟨H6,I6,q6⟩=>⟨σ,H6,I6,q6⟩
end
section
variable{X:Cx}{pos:Pos}
def am4(c:TT)(tb:TS):TS:=λD σ H=>∃W:Nat->St->Hp->Prop,(∃m,W m σ H)/\∀m σ H,W m σ H->
 c σ H λb H1=>if b=true then ∃N:St->Hp->Prop,(∀σ' H',N σ' H'->∃m',m'<m/\W m' σ' H')/\tb {D with nx:=N,ct:=N,bk:=D.nx} σ H1 else D.nx σ H1
theorem aev{c:Expr}{body:List Stmt}{tc:TT}{tb:TS}(hp:PassesOwn (model X.prog X.w) X.A X.env X.xe)(hc:PT X c tc)(hb:PSs X body tb):PS X (.While c body [] pos) (am4 tc tb):=by
 intro aA s σ H D I h
 obtain⟨W,⟨m0,w0⟩,turn⟩:=h;refine wpAny_While (codeAny_whileLoop (λn s'=>∃σ' H',Inv X aA σ' H' s'/\W n σ' H') ?_ m0 ⟨σ,H,I,w0⟩)
 rintro n s1 ⟨σ1,H1,I1,w1⟩
 refine cI hp (thn (hc aA s1 σ1 H1 _ I1 (turn n σ1 H1 w1)) λb s2 ⟨H2,I2,q2⟩=>?_)
 cases b with
 |true =>
  obtain⟨N,hN,q2⟩:=q2;rw[aI rfl];refine cI hp (thn (hb aA s2 σ1 H2 _ I2 q2) λf s3 q3=>?_)
  cases f with
  |next =>
   obtain⟨σ3,H3,I3,n3⟩:=q3;obtain⟨m',hm,w3⟩:=hN σ3 H3 n3;exact⟨m',hm,σ3,H3,I3,w3⟩
  |cont =>
   obtain⟨σ3,H3,I3,n3⟩:=q3;obtain⟨m',hm,w3⟩:=hN σ3 H3 n3;exact⟨m',hm,σ3,H3,I3,w3⟩
  |brk=>exact q3
  |ret v=>exact q3
 |false =>
  rw[b9 aV];exact dI ⟨σ1,H2,I2,q2⟩
end
structure It where
 go:Nat->Hp->Prop
 yld:Nat->Hp->V->Hp->Prop
 stop:Nat->Hp->Prop
def a6u(X:Cx)(aA:List (Addr×Obj))(H:Hp)(b:Addr):Prop :=
 H b=none/\b≠X.env.locals/\b∉X.fs/\(b∈X.ex\/X.s₀.heap.objs.size<=b)/\(∀x c,X.env.cells.lookup x=some c->c≠b)/\∀p∈X.pn++aA,p.1≠b
theorem Inv.fpOk(I:Inv X aA σ H s)(hb:s.heap.objs.size<=b)(hn:H' b=none):a6u X aA H' b:=by
 refine⟨hn,Nat.ne_of_gt (aS I.lt hb),I.nofs hb,.inr (bD I.sz hb),λx c e z=>?_,λp hp z=>?_⟩
 ·obtain⟨v,q⟩:=I.cell x c e;exact absurd (aS q.lt (by rw[z];exact hb)) (bZ _)
 ·exact absurd (aS (aL (I.pin p hp).1) (by rw[z];exact hb)) (bZ _)
structure Turn (P:Program) (w:World) (K:Fg) (tg:Expr) (J:It) (fp:List Addr) (it:Addr) (tn:Nat->Heap->Prop):Prop where
 mem:it∈fp
 obj:∀i h,tn i h->∀b∈fp,∃o,h.get? b=some o/\∀v,o.data≠.cell v
 keep:∀i h h',tn i h->(∀b∈fp,∀o,h.get? b=some o->h'.get? b=some o)->tn i h'
 item:∀(X:Cx),X.prog=P->X.w=w->X.K=K->X.calm=true->∀(i:Nat) (aA:List (Addr×Obj)) (s:Shared) (σ:St) (H:Hp) (E:Value->Shared->Prop),Inv X aA σ H s->(∀b∈fp,a6u X aA H b)->tn i s.heap->J.go i H->
  wpAny (model P w) X.A (pyNext (.ref it)) (λr s1=>∃u,r=some u /\
   wpAny (model P w) X.A (letOwnedTupleGo tg (.ref it) u) (λ_ s2=>∃x H',Inv X aA σ H' s2/\RelV x u/\J.yld i H x H'/\tn (i+1) s2.heap/\∀b∈fp,H' b=none) E s1) E s
 done:∀(X:Cx),X.prog=P->X.w=w->X.K=K->X.calm=true->∀(i:Nat) (aA:List (Addr×Obj)) (s:Shared) (σ:St) (H:Hp) (E:Value->Shared->Prop),Inv X aA σ H s->(∀b∈fp,a6u X aA H b)->tn i s.heap->J.stop i H->
  wpAny (model P w) X.A (pyNext (.ref it)) (λr s1=>r=none/\Inv X aA σ H s1) E s
 self:∀(A:Around) (i:Nat) (s:Shared) (Q:Value->Shared->Prop) (E:Value->Shared->Prop),tn i s.heap->Q (.ref it) s->wpAny (model P w) A (pyIter (.ref it)) Q E s
abbrev TI:=St->Hp->(It->Hp->Prop)->Prop
def PIE(X:Cx)(aA:List (Addr×Obj))(σ:St)(tg:Expr)(R:It->Hp->Prop)(itv:Value)(s2:Shared):Prop :=
 ∃(it:Addr) (fp:List Addr) (tn:Nat->Heap->Prop) (J:It) (H':Hp),itv=.ref it/\Inv X aA σ H' s2/\Turn X.prog X.w X.K tg J fp it tn/\tn 0 s2.heap/\(∀b∈fp,a6u X aA H' b)/\R J H'
def PI(X:Cx)(tg aF:Expr)(wi:TI):Prop :=
 ∀(aA:List (Addr×Obj)) (s:Shared) (σ:St) (H:Hp) (R:It->Hp->Prop),Inv X aA σ H s->wi σ H R->
  wpAny (model X.prog X.w) X.A (eval aF X.env) (λv s1=>wpAny (model X.prog X.w) X.A (pyIter v) (PIE X aA σ tg R) X.xe s1) X.xe s
theorem aew{s:Shared}(ho:s.heap.get? it=some o)(hc:o.cls=.type n)(hd:o.data=.fields vs)
  (hn:["enumerate","zip","dict_itemiterator","dict_reverseitemiterator","odict_iterator","itertools.zip_longest","itertools.pairwise"].contains n=false) (hQ:Q () s):wpAny M A (letOwnedTupleGo tg (.ref it) u) Q E s:=by
 unfold letOwnedTupleGo
 cases tg<;>first
  |exact aJ hQ
  | (cases u<;>first
    |exact aJ hQ
    | (refine a9 (wpAny_load ho ?_)
       rw[hc,hd];show wpAny M A (if (["enumerate","zip","dict_itemiterator","dict_reverseitemiterator","odict_iterator","itertools.zip_longest","itertools.pairwise"].contains n && vs[0]? == some (rawInt _))=true then _ else _) Q E s
       rw[b9 (by intro h;rw[hn,e8]at h;cases h)]
       exact aJ hQ))
def Itl(K:Fg)(a:Addr):It :=
 ⟨λi H=>∃xs x,SqL K H a xs/\xs[i]? = some x,λi H x H'=>H'=H/\∀xs,SqL K H a xs->xs[i]? = some x,λi H=>∃xs,SqL K H a xs/\xs.length<=i⟩
def Itt(K:Fg)(a:Addr):It :=
 ⟨λi H=>∃xs x,SqT K H a xs/\xs[i]? = some x,λi H x H'=>H'=H/\∀xs,SqT K H a xs->xs[i]? = some x,λi H=>∃xs,SqT K H a xs/\xs.length<=i⟩
def Itr(lo:Int)(n:Nat):It:=⟨λi _=>i<n,λi H x H'=>H'=H/\x=.int (lo+i),λi _=>n<=i⟩
theorem ab2{P:Program}{w:World}{K:Fg}{tg:Expr}(a it:Addr):Turn P w K tg (Itl K a) [it] it (λi h=>h.IsListIter it a i) where
 mem:=by simp
 obj:=λi h st b hb=>by
  have e:b=it:=by simpa using hb
  subst e;obtain⟨o,e,c,d⟩:=st;exact⟨o,e,λv z=>by rw[d]at z;cases z⟩
 keep:=λi h h' st k=>st.at λo e=>k it (by simp) o e
 item:=by
  intro X hP hw hK hc i aA s σ H E I hf st hg
  subst hP hw hK;obtain⟨xs,x,hq,hx⟩:=hg;obtain⟨its,rv,p,hz⟩:=I.list hq;obtain⟨u,hu,ru⟩:=rv.get hx;obtain⟨f0,f1,f2,f3,f4,f5⟩:=hf it (by simp)
  refine wpAny_pyNext_list_item st p.isList (x:=u) (by simpa using hu) λh' st' sb=>?_
  have I1:Inv X aA σ H {s with heap:=h' }:=I.turned (t':=s.toks) (λb o hb e=>(sb.2 b hb).trans e) f0 f1 f3 f4 f5
  obtain⟨o,e,c,d⟩:=id st';exact⟨u,rfl,aew (s:={s with heap:=h' }) e c d (by decide) ⟨x,H,I1,ru,⟨rfl,λys hy=>by rw[I.list_inj hy hq];exact hx⟩,st',λb hb=>(hf b hb).1⟩⟩
 done:=by
  intro X hP hw hK hc i aA s σ H E I hf st hg
  subst hP hw hK;obtain⟨xs,hq,hx⟩:=hg;obtain⟨its,rv,p,hz⟩:=I.list hq;obtain⟨f0,f1,f2,f3,f4,f5⟩:=hf it (by simp)
  have hl:=rv.length;exact wpAny_pyNext_list_end (I.ok.hd hc) st p.isList (by simp;omega) λh' eb=>⟨rfl,I.turned (t':=s.toks) (λb o hb e=>eb b o hb e) f0 f1 f3 f4 f5⟩
 self:=λ_ _ _ _ _ st h=>wpAny_pyIter_listiter st h
theorem aa0{P:Program}{w:World}{K:Fg}{tg:Expr}(a it:Addr):Turn P w K tg (Itt K a) [it] it (λi h=>h.IsTupleIter it a i) where
 mem:=by simp
 obj:=λi h st b hb=>by
  have e:b=it:=by simpa using hb
  subst e;obtain⟨o,e,c,d⟩:=st;exact⟨o,e,λv z=>by rw[d]at z;cases z⟩
 keep:=λi h h' st k=>st.at λo e=>k it (by simp) o e
 item:=by
  intro X hP hw hK hc i aA s σ H E I hf st hg
  subst hP hw hK;obtain⟨xs,x,hq,hx⟩:=hg;obtain⟨its,rv,p,hz⟩:=I.tuple hq;obtain⟨u,hu,ru⟩:=rv.get hx;obtain⟨f0,f1,f2,f3,f4,f5⟩:=hf it (by simp)
  refine wpAny_pyNext_tuple_item st (show s.heap.IsTuple a its.toArray from p) (x:=u) (by simpa using hu) λh' st' sb=>?_
  have I1:Inv X aA σ H {s with heap:=h' }:=I.turned (t':=s.toks) (λb o hb e=>(sb.2 b hb).trans e) f0 f1 f3 f4 f5
  obtain⟨o,e,c,d⟩:=id st';exact⟨u,rfl,aew (s:={s with heap:=h' }) e c d (by decide) ⟨x,H,I1,ru,⟨rfl,λys hy=>by rw[I.tuple_inj hy hq];exact hx⟩,st',λb hb=>(hf b hb).1⟩⟩
 done:=by
  intro X hP hw hK hc i aA s σ H E I hf st hg
  subst hP hw hK;obtain⟨xs,hq,hx⟩:=hg;obtain⟨its,rv,p,hz⟩:=I.tuple hq;obtain⟨f0,f1,f2,f3,f4,f5⟩:=hf it (by simp)
  have hl:=rv.length;exact wpAny_pyNext_tuple_end (I.ok.hd hc) st (show s.heap.IsTuple a its.toArray from p) (by simp;omega) λh' eb=>⟨rfl,I.turned (t':=s.toks) (λb o hb e=>eb b o hb e) f0 f1 f3 f4 f5⟩
 self:=λ_ _ _ _ _ st h=>wpAny_pyIter_tupleiter st h
theorem aa1{P:Program}{w:World}{K:Fg}{tg:Expr}(it:Addr)(lo:Int)(n:Nat):Turn P w K tg (Itr lo n) [it] it (λi h=>IsRangeIter h it (lo+(i:Nat)*1) ((n:Int)-(i:Nat)) 1) where
 mem:=by simp
 obj:=λi h st b hb=>by
  have e:b=it:=by simpa using hb
  subst e;exact⟨_,st,λv z=>by
   have z':Data.fields _=Data.cell v:=z
   cases z'⟩
 keep:=λi h h' st k=>k it (by simp) _ st
 item:=by
  intro X hP hw hK hc i aA s σ H E I hf st hg
  subst hP hw hK;obtain⟨f0,f1,f2,f3,f4,f5⟩:=hf it (by simp)
  have W:=Walks.range (prog:=X.prog) (w:=X.w) (I.ok.hd hc) it lo 1 n;refine W.item i s _ _ hg st λv h' tk hv st' kk=>?_;obtain⟨t,rfl⟩:=hv;have I1:Inv X aA σ H {s with heap:=h',toks:=tk}:=I.turned (λb o hb e=>kk b o (by simpa using hb) e) f0 f1 f3 f4 f5
  refine⟨_,rfl,aew (s:={s with heap:=h',toks:=tk}) (n := "range_iterator") st' rfl rfl (by decide) ⟨.int (lo+i),H,I1,⟨t,?_⟩,⟨rfl,rfl⟩,st',λb hb=>(hf b hb).1⟩⟩
  rw[Int.mul_one]
 done:=by
  intro X hP hw hK hc i aA s σ H E I hf st hg
  subst hP hw hK;obtain⟨f0,f1,f2,f3,f4,f5⟩:=hf it (by simp)
  exact wpAny_pyNext_range_end (I.ok.hd hc) st (by have:n<=i:=hg;omega) λh' eb=>⟨rfl,I.turned (t':=s.toks) (λb o hb e=>eb b o hb e) f0 f1 f3 f4 f5⟩
 self:=λ_ _ _ _ _ st h=>wpAny_pyIter_rangeiter st h
section
variable{X:Cx}{tg:Expr}
def aqo(K:Fg)(tl:TE):TI:=λσ H R=>tl σ H λx H1=>∃a,x=.ref a/\(∃xs,SqL K H1 a xs)/\R (Itl K a) H1
def atq(K:Fg)(tl:TE):TI:=λσ H R=>tl σ H λx H1=>∃a,x=.ref a/\(∃xs,SqT K H1 a xs)/\R (Itt K a) H1
theorem ab3{l:Expr}{tl:TE}(hl:PE X l tl):PI X tg l (aqo X.K tl):=by
 intro aA s σ H R I h
 refine thn (hl aA s σ H _ I h) ?_
 rintro v s1 ⟨x,H1,I1,r1,q1⟩
 obtain⟨a,e,⟨xs,hq⟩,q⟩:=q1;subst e;cases r1
 obtain⟨its,rv,p,hz⟩:=I1.list hq;refine eD p.isList ?_;refine⟨s1.heap.objs.size,[s1.heap.objs.size],_,_,H1,rfl,I1.kept (t':=s1.toks) λb o e=>a8 _ e,ab2 a _,⟨_,aN _ rfl,rfl,rfl⟩,λb hb=>?_,q⟩;have e:b=s1.heap.objs.size:=by simpa using hb
 subst e;exact I1.fpOk (ag _) (I1.hok.fresh (ag _))
theorem am5{l:Expr}{tl:TE}(hl:PE X l tl):PI X tg l (atq X.K tl):=by
 intro aA s σ H R I h
 refine thn (hl aA s σ H _ I h) ?_
 rintro v s1 ⟨x,H1,I1,r1,q1⟩
 obtain⟨a,e,⟨xs,hq⟩,q⟩:=q1;subst e;cases r1
 obtain⟨its,rv,p,hz⟩:=I1.tuple hq;refine wpAny_pyIter_tuple (show s1.heap.IsTuple a its.toArray from p) ?_
 refine⟨s1.heap.objs.size,[s1.heap.objs.size],_,_,H1,rfl,I1.kept (t':=s1.toks) λb o e=>a8 _ e,aa0 a _,⟨_,aN _ rfl,rfl,rfl⟩,λb hb=>?_,q⟩;have e:b=s1.heap.objs.size:=by simpa using hb
 subst e;exact I1.fpOk (ag _) (I1.hok.fresh (ag _))
theorem a8t{s:Shared}{lo hi:Int}{tk:Nat}(I:Inv X aA σ H s)(h1 : -(2^62)<=lo)(h2:lo<2^62)(h3 : -(2^62)<=hi)(h4:hi<2^62)
  (q:R (Itr lo (hi-lo).toNat) H):wpAny (model X.prog X.w) X.A (pyIter (.ref s.heap.objs.size)) (PIE X aA σ tg R) E {s with heap:=s.heap.push {cls:=.type "range",data:=.fields #[.int lo t,.int hi u,.int 1 v]},toks:=tk}:=by
 refine wpAny_pyIter_range (IsRange.new ..) (small_one h1 h2 h3 h4) ?_;have I1:Inv X aA σ H {s with heap:=s.heap.push {cls:=.type "range",data:=.fields #[.int lo t,.int hi u,.int 1 v]},toks:=tk}:=I.kept λb o e=>a8 _ e
 refine⟨(s.heap.push {cls:=.type "range",data:=.fields #[.int lo t,.int hi u,.int 1 v]}).objs.size,[(s.heap.push {cls:=.type "range",data:=.fields #[.int lo t,.int hi u,.int 1 v]}).objs.size],_,_,H,rfl,
  I1.kept (t':=tk) λb o e=>a8 _ e,aa1 _ lo (hi-lo).toNat,?_,λb hb=>?_,q⟩
 ·have e1:lo+((0:Nat):Int)*1=lo:=by simp
  have e2:(((hi-lo).toNat:Nat):Int)-((0:Nat):Int)=Builtin.Range.rangeSize lo hi 1:=by rw[rangeSize_one];split<;>omega
  show IsRangeIter _ _ (lo+((0:Nat):Int)*1) ((((hi-lo).toNat:Nat):Int)-((0:Nat):Int)) 1;rw[e1,e2];exact aN _ rfl
 ·have e:b=(s.heap.push {cls:=.type "range",data:=.fields #[.int lo t,.int hi u,.int 1 v]}).objs.size:=by simpa using hb
  subst e;exact I1.fpOk (ag _) (I1.hok.fresh (ag _))
def aqp(ta:TA):TI:=λσ H R=>ta σ H λvs H1=>∃j:Int,vs=[.int j] /\ -(2^62)<=j/\j<2^62/\R (Itr 0 j.toNat) H1
def aqq(ta:TA):TI:=λσ H R=>ta σ H λvs H1=>∃i j:Int,vs=[.int i,.int j]/\(-(2^62)<=i/\i<2^62 /\ -(2^62)<=j/\j<2^62)/\R (Itr i (j-i).toNat) H1
theorem ab4{a:Expr}{ta:TA}{p pos:Pos}(hg:Gl X "range")(hm:X.mg "range" = none)(ha:PA X [a] ta)(hs:starEach [a] X.env=[(false,eval a X.env)]:=by rfl):PI X tg (.Call (.Name "range" p) [a] [] pos) (aqp ta):=by
 intro aA s σ H R I h
 refine Call_ (a2s I hg hm boot_range (cf (thn (ha pos aA s σ H _ I h) λus s1 ⟨vs,H1,I1,r1,q1⟩=>?_) hs rfl));obtain⟨j,e,q1,q2,q⟩:=q1;subst e
 cases r1 with
 |cons r rr =>
  cases rr
  obtain⟨t,rfl⟩:=r;exact call_range_1 (a8t I1 (by omega) (by omega) q1 q2 (by simpa using q))
theorem ab5{a b:Expr}{ta:TA}{p pos:Pos}(hg:Gl X "range")(hm:X.mg "range" = none)(ha:PA X [a,b] ta)(hs:starEach [a,b] X.env=[(false,eval a X.env),(false,eval b X.env)]:=by rfl)(hs2:starEach [b] X.env=[(false,eval b X.env)]:=by rfl) :
  PI X tg (.Call (.Name "range" p) [a,b] [] pos) (aqq ta):=by
 intro aA s σ H R I h
 refine Call_ (a2s I hg hm boot_range (cf (thn (ha pos aA s σ H _ I h) λus s1 ⟨vs,H1,I1,r1,q1⟩=>?_) (by rw[hs,hs2]) (by rw[hs2];rfl)))
 obtain⟨i,j,e,⟨q1,q2,q3,q4⟩,q⟩:=q1;subst e
 cases r1 with
 |cons r rr =>
  cases rr with
  |cons r' rr =>
   cases rr
   obtain⟨t,rfl⟩:=r;obtain⟨t',rfl⟩:=r';exact call_range_2 (a8t I1 q1 q2 q3 q4 q)
def atr(wi:TI)(g:TG)(tb:TS):TS:=λD σ H=>wi σ H λJ H1=>∃W:Nat->Nat->St->Hp->Prop,(∃m,W 0 m σ H1)/\∀i m σ H,W i m σ H->
 (J.stop i H/\D.nx σ H)\/(J.go i H/\∃N:St->Hp->Prop,(∀σ' H',N σ' H'->∃m',m'<m/\W (i+1) m' σ' H')/\∀x H',J.yld i H x H'->g x σ H' λσ2 H2=>tb {D with nx:=N,ct:=N,bk:=D.nx} σ2 H2)
def a2t(fp:List Addr)(h:Heap):List (Addr×Obj):=fp.filterMap λb=>(h.get? b).map λo=>(b,o)
theorem zx{h:Heap}(hb:b∈fp)(e:h.get? b=some o):(b,o)∈a2t fp h:=List.mem_filterMap.mpr ⟨b,hb,by rw[e];rfl⟩
theorem ab6(hp:p∈a2t fp h):p.1∈fp/\h.get? p.1=some p.2:=by
 obtain⟨b,hb,e⟩:=List.mem_filterMap.mp hp
 cases q:h.get? b with
 |none=>rw[q]at e;cases e
 |some o =>
  rw[q]at e;have e':(b,o)=p:=ba e;subst e';exact⟨hb,q⟩
theorem Inv.pinned(I:Inv X aA σ H s)(hf:∀b∈fp,a6u X aA H b)(ho:∀b∈fp,∃o,s.heap.get? b=some o/\∀v,o.data≠.cell v):Inv X (aA++a2t fp s.heap) σ H s :=
 I.pins_of λp hp=>(aW.mp hp).elim (λz=>I.pin p (br _ z)) λz=>by
  obtain⟨hb,e⟩:=ab6 z;obtain⟨f0,f1,f2,_⟩:=hf p.1 hb;obtain⟨o,e',d⟩:=ho p.1 hb;rw[e]at e';cases e'
  exact⟨e,f0,f1,f2,d⟩
theorem Inv.unpinned(I:Inv X (aA++pl) σ H s):Inv X aA σ H s:=I.pins_of λp hp=>I.pin p (br _ (bY _ hp))
theorem am6{aF:Expr}{body:List Stmt}{wi:TI}{g:TG}{tb:TS}{pos:Pos}(hp:PassesOwn (model X.prog X.w) X.A X.env X.xe)(hc:X.calm=true)(hi:PI X tg aF wi)(hg:PG X tg g)(hb:PSs X body tb)
  (hs:∀x,foldedSetIterable aF X.env x=pure x:=by intro _;rfl):PS X (.For tg aF body [] pos) (atr wi g tb):=by
 intro aA s σ H D I h
 refine wpAny_For (thn (hi aA s σ H _ I h) λv s1 h1=>thn h1 λitv s2 h2=>?_) hs;obtain⟨it,fp,tn,J,H2,e,I2,T,st2,f2,W,⟨m0,w0⟩,turn⟩:=h2;subst e;have stat:∀{H':Hp},(∀b∈fp,H' b=none)->∀b∈fp,a6u X aA H' b:=λhn b hb=>⟨hn b hb,(f2 b hb).2⟩;refine codeAny_forLoop_any (λn s'=>∃i σ' H',Inv X aA σ' H' s'/\tn i s'.heap/\(∀b∈fp,H' b=none)/\W i n σ' H') ?_ m0 ⟨0,σ,H2,I2,st2,λb hb=>(f2 b hb).1,w0⟩
 rintro n s3 ⟨i,σ3,H3,I3,st3,fr3,w3⟩
 rcases turn i n σ3 H3 w3 with⟨stop,qn⟩|⟨go,N,hN,step⟩
 ·refine cI hp (thn (T.done X rfl rfl rfl hc i aA s3 σ3 H3 X.xe I3 (stat fr3) st3 stop) λr s4 ⟨hr,I4⟩=>?_);subst hr;exact dI ⟨σ3,H3,I4,qn⟩
 ·refine cI hp (thn (T.item X rfl rfl rfl hc i aA s3 σ3 H3 X.xe I3 (stat fr3) st3 go) λr s4 ⟨u,hr,h4⟩=>?_);subst hr;refine cI hp (thn h4 λ_ s5 ⟨x,H5,I5,r5,y5,st5,fr5⟩=>?_);have I5':=I5.pinned (stat fr5) (T.obj _ _ st5);refine cI hp (thn (hg _ s5 σ3 H5 x u _ I5' r5 (step x H5 y5)) λ_ s6 ⟨σ6,H6,I6,q6⟩=>?_);refine cI hp (thn (hb _ s6 σ6 H6 _ I6 q6) λf s7 q7=>?_);have again:∀{σ7:St} {H7:Hp},Inv X (aA++a2t fp s5.heap) σ7 H7 s7->N σ7 H7->∃m,m<n/\∃i σ' H',Inv X aA σ' H' s7/\tn i s7.heap/\(∀b∈fp,H' b=none)/\W i m σ' H':=λ{σ7 H7} I7 n7=>by
   obtain⟨m',hm,w7⟩:=hN σ7 H7 n7;refine⟨m',hm,i+1,σ7,H7,I7.unpinned,T.keep _ _ _ st5 λb hb o e=>(I7.pin (b,o) (br _ (br _ (zx hb e)))).1,λb hb=>?_,w7⟩;obtain⟨o,e,d⟩:=T.obj _ _ st5 b hb;exact(I7.pin (b,o) (br _ (br _ (zx hb e)))).2.1
  cases f with
  |next=>obtain⟨σ7,H7,I7,n7⟩:=q7;exact again I7 n7
  |cont=>obtain⟨σ7,H7,I7,n7⟩:=q7;exact again I7 n7
  |brk=>obtain⟨σ7,H7,I7,q7⟩:=q7;exact⟨σ7,H7,I7.unpinned,q7⟩
  |ret v=>obtain⟨x7,σ7,H7,I7,r7,q7⟩:=q7;exact⟨x7,σ7,H7,I7.unpinned,r7,q7⟩
end
abbrev R2:=V->V->Hp->VK->Prop
def OpR(X:Cx)(f:Value->Value->Sem Value)(r:R2):Prop :=
 ∀(aA:List (Addr×Obj)) (s:Shared) (σ:St) (H:Hp) (x y:V) (v u:Value) (Q:VK),Inv X aA σ H s->RelV x v->RelV y u->r x y H Q->
  wpAny (model X.prog X.w) X.A (f v u) (EP X aA σ Q) X.xe s
def UnR(X:Cx)(f:Value->Sem Value)(r:V->Hp->VK->Prop):Prop :=
 ∀(aA:List (Addr×Obj)) (s:Shared) (σ:St) (H:Hp) (x:V) (v:Value) (Q:VK),Inv X aA σ H s->RelV x v->r x H Q->
  wpAny (model X.prog X.w) X.A (f v) (EP X aA σ Q) X.xe s
def CallR(X:Cx)(f:Value)(r:List V->Hp->VK->Prop):Prop :=
 ∀(aA:List (Addr×Obj)) (s:Shared) (σ:St) (H:Hp) (xs:List V) (us:List Value) (Q:VK),Inv X aA σ H s->Vals xs us->r xs H Q->
  wpAny (model X.prog X.w) X.A (call f us) (EP X aA σ Q) X.xe s
def atu(X:Cx)(r:V->Hp->(Bool->Hp->Prop)->Prop):Prop :=
 ∀(aA:List (Addr×Obj)) (s:Shared) (σ:St) (H:Hp) (x:V) (v:Value) (Q:Bool->Hp->Prop),Inv X aA σ H s->RelV x v->r x H Q->
  wpAny (model X.prog X.w) X.A (truthy v) (TP X aA σ Q) X.xe s
def tOp(r:R2)(ta tb:TE):TE:=λσ H Q=>ta σ H λx H1=>tb σ H1 λy H2=>r x y H2 Q
def tUn(r:V->Hp->VK->Prop)(ta:TE):TE:=λσ H Q=>ta σ H λx H1=>r x H1 Q
def rI(C:Int->Int->Prop)(g:Int->Int->V):R2:=λx y H Q=>∃i j,x=.int i/\y=.int j/\C i j/\Q (g i j) H
def rI0(g:Int->Int->V):R2:=λx y H Q=>∃i j,x=.int i/\y=.int j/\Q (g i j) H
def rU(g:Int->V):V->Hp->VK->Prop:=λx H Q=>∃i,x=.int i/\Q (g i) H
section
variable{X:Cx}{a b c:Expr}{ta tb tc:TE}{pos:Pos}
theorem aqr(ha:PE X a ta)(hb:PE X b tb){aA:List (Addr×Obj)}{s:Shared}{σ:St}{H:Hp}{R:V->V->Hp->Prop}(I:Inv X aA σ H s)
  (h:ta σ H λx H1=>tb σ H1 λy H2=>R x y H2) {Q:Value->Shared->Prop} {f:Value->Value->Sem Value}
  (hf:∀v u s2 x y H2,Inv X aA σ H2 s2->RelV x v->RelV y u->R x y H2->wpAny (model X.prog X.w) X.A (f v u) Q X.xe s2) :
  wpAny (model X.prog X.w) X.A (eval a X.env) (λv s₁=>wpAny (model X.prog X.w) X.A (eval b X.env) (λu s₂=>wpAny (model X.prog X.w) X.A (f v u) Q X.xe s₂) X.xe s₁) X.xe s:=by
 refine thn (ha aA s σ H _ I h) ?_
 rintro v s1 ⟨x,H1,I1,r1,q1⟩
 refine thn (hb aA s1 σ H1 _ I1 q1) ?_
 rintro u s2 ⟨y,H2,I2,r2,q2⟩
 exact hf v u s2 x y H2 I2 r1 r2 q2
theorem aqs{op:Operator}{r:R2}(ho:OpR X (binaryOp op) r)(ha:PE X a ta)(hb:PE X b tb):PE X (.BinOp a op b pos) (tOp r ta tb):=by
 intro aA s σ H Q I h
 exact wpAny_BinOp (aqr ha hb I h λv u s2 x y H2 I2 rx ry q=>ho aA s2 σ H2 x y v u Q I2 rx ry q)
theorem aqt{op:UnaryOp}{r:V->Hp->VK->Prop}(ho:UnR X (unaryOp op) r)(ha:PE X a ta):PE X (.UnaryOp op a pos) (tUn r ta):=by
 intro aA s σ H Q I h
 exact UnaryOp_ (thn (ha aA s σ H _ I h) λv s1 ⟨x,H1,I1,r1,q1⟩=>ho aA s1 σ H1 x v Q I1 r1 q1)
theorem opI{f:Value->Value->Sem Value}{C:Int->Int->Prop}{g:Int->Int->Int}
  (rule:∀(i j:Int) (t u:Tok) (s:Shared) (Q:Value->Shared->Prop) (E:Value->Shared->Prop),C i j->Q (.int (g i j) s.toks) {s with toks:=s.toks+1}->wpAny (model X.prog X.w) X.A (f (.int i t) (.int j u)) Q E s) :
  OpR X f (rI C λi j=>.int (g i j)):=by
 intro aA s σ H x y v u Q I rx ry h
 obtain⟨i,j,rfl,rfl,hc,q⟩:=h;obtain⟨t,rfl⟩:=rx;obtain⟨t',rfl⟩:=ry;exact rule i j t t' s _ _ hc ⟨.int (g i j),H,I.tok _,⟨_,rfl⟩,q⟩
theorem aqu{f:Value->Value->Sem Value}{g:Int->Int->Int}
  (rule:∀(i j:Int) (t u:Tok) (s:Shared) (Q:Value->Shared->Prop) (E:Value->Shared->Prop),Q (.int (g i j) s.toks) {s with toks:=s.toks+1}->wpAny (model X.prog X.w) X.A (f (.int i t) (.int j u)) Q E s) :
  OpR X f (rI0 λi j=>.int (g i j)):=by
 intro aA s σ H x y v u Q I rx ry h
 obtain⟨i,j,rfl,rfl,q⟩:=h;obtain⟨t,rfl⟩:=rx;obtain⟨t',rfl⟩:=ry;exact rule i j t t' s _ _ ⟨.int (g i j),H,I.tok _,⟨_,rfl⟩,q⟩
theorem apw{f:Value->Value->Sem Value}{g:Int->Int->Bool}
  (rule:∀(i j:Int) (t u:Tok) (s:Shared) (Q:Value->Shared->Prop) (E:Value->Shared->Prop),Q (.bool (g i j)) s->wpAny (model X.prog X.w) X.A (f (.int i t) (.int j u)) Q E s) :
  OpR X f (rI0 λi j=>.bl (g i j)):=by
 intro aA s σ H x y v u Q I rx ry h
 obtain⟨i,j,rfl,rfl,q⟩:=h;obtain⟨t,rfl⟩:=rx;obtain⟨t',rfl⟩:=ry;exact rule i j t t' s _ _ ⟨.bl (g i j),H,I,rfl,q⟩
def aqv(i j:Int):Prop:=0<j/\j<1073741824
def as7(i j:Int):Prop:=0<=j/\j<=1000000/\i.natAbs<2^64
def CMul(i j:Int):Prop:=(-(2^64)<i/\i<2^64)\/(-(2^64)<j/\j<2^64)
theorem CMul.ok(h:CMul i j):IntMulOk i j:=by
 rcases h with⟨h1,h2⟩|⟨h1,h2⟩
 ·exact .of_left (intBits_le_64 h1 h2)
 ·exact .of_right (intBits_le_64 h1 h2)
theorem am7:OpR X (binaryOp .Add) (rI0 λi j=>.int (i+j)):=aqu λ_ _ _ _ _ _ _ q=>add_int q
theorem am8:OpR X (binaryOp .Sub) (rI0 λi j=>.int (i-j)):=aqu λ_ _ _ _ _ _ _ q=>sub_int q
theorem am9:OpR X (binaryOp .Mult) (rI CMul λi j=>.int (i*j)):=opI λ_ _ _ _ _ _ _ hc q=>mul_int q hc.ok
theorem aim:OpR X (binaryOp .FloorDiv) (rI aqv λi j=>.int (i / j)):=opI λi j _ _ _ _ _ hc q=>by
 have h1:(0:Int)<j:=hc.1;have h2:j<1073741824:=hc.2;exact floordiv_int (by omega) (by rw[dR i (by omega)];exact q) (.inl (PyProof.noPylong_small (by omega)))
theorem ama:OpR X (binaryOp .Mod) (rI (λ_ j=>0<j) λi j=>.int (i%j)):=opI λi j _ _ _ _ _ hc q=>by
 have h1:(0:Int)<j:=hc;exact mod_int' (by omega) (by rw[Int.fmod_eq_emod_of_nonneg i (by omega)];exact q)
theorem amb:OpR X (binaryOp .Pow) (rI as7 λi j=>.int (i^j.toNat)):=opI λ_ _ _ _ _ _ _ hc q=>pow_int_small hc.1 hc.2.1 hc.2.2 q
theorem a5d:OpR X (inplaceOp .Add) (rI0 λi j=>.int (i+j)):=aqu λ_ _ _ _ _ _ _ q=>iadd_int q
theorem aex:OpR X (inplaceOp .FloorDiv) (rI aqv λi j=>.int (i / j)):=opI λi j _ _ _ _ _ hc q=>by
 have h1:(0:Int)<j:=hc.1;have h2:j<1073741824:=hc.2;exact ifloordiv_int (by omega) (by rw[dR i (by omega)];exact q) (.inl (PyProof.noPylong_small (by omega)))
theorem unI{f:Value->Sem Value}{g:Int->Int}
  (rule:∀(i:Int) (t:Tok) (s:Shared) (Q:Value->Shared->Prop) (E:Value->Shared->Prop),Q (.int (g i) s.toks) {s with toks:=s.toks+1}->wpAny (model X.prog X.w) X.A (f (.int i t)) Q E s) :
  UnR X f (rU λi=>.int (g i)):=by
 intro aA s σ H x v Q I rx h
 obtain⟨i,rfl,q⟩:=h;obtain⟨t,rfl⟩:=rx;exact rule i t s _ _ ⟨.int (g i),H,I.tok _,⟨_,rfl⟩,q⟩
theorem amc:UnR X (unaryOp .USub) (rU λi=>.int (-i)):=unI λ_ _ _ _ _ q=>neg_int q
end
section
variable{X:Cx}{a b c:Expr}{ta tb tc:TE}{pos:Pos}
theorem a1t(I:Inv X aA σ H s)(q:Q (.bl k) H)(e:k=k'):EP X aA σ Q (.bool k') s:=by
 subst e;exact⟨.bl k,H,I,rfl,q⟩
theorem a5e:OpR X (compareOp .Lt) (rI0 λi j=>.bl (decide (i<j))):=apw λ_ _ _ _ _ _ _ q=>lt_int q
theorem ain:OpR X (compareOp .LtE) (rI0 λi j=>.bl (decide (i<=j))):=apw λ_ _ _ _ _ _ _ q=>le_int q
theorem amd:OpR X (compareOp .Gt) (rI0 λi j=>.bl (decide (j<i))):=apw λ_ _ _ _ _ _ _ q=>gt_int q
theorem ame:OpR X (compareOp .GtE) (rI0 λi j=>.bl (decide (j<=i))):=apw λ_ _ _ _ _ _ _ q=>ge_int q
theorem ql:OpR X (compareOp .Lt) (λx y H Q=>∃i j,x=.str i/\y=.str j/\Q (.bl (decide (i.cps.toList<j.cps.toList))) H):=by
 intro aA s σ H x y v u Q I rx ry h
 obtain⟨i,j,rfl,rfl,q⟩:=h;obtain⟨t,rfl⟩:=rx;obtain⟨t',rfl⟩:=ry;exact lt_str (a1t I q rfl)
theorem ab7:OpR X (compareOp .In) (λx y H Q=>∃i j,x=.str i/\y=.str j/\Q (.bl (!(Builtin.Str.occurrences j i 0 j.length 1).isEmpty)) H):=by
 intro aA s σ H x y v u Q I rx ry h
 obtain⟨i,j,rfl,rfl,q⟩:=h;obtain⟨t,rfl⟩:=rx;obtain⟨t',rfl⟩:=ry;exact in_str (a1t I q rfl)
theorem ab8:OpR X (compareOp .Is) (λx y H Q=>y=.non/\Q (.bl (decide (x=.non))) H):=by
 intro aA s σ H x y v u Q I rx ry h
 obtain⟨rfl,q⟩:=h;cases ry
 refine is_none_gen (a1t I q ?_)
 cases x<;>first
  |(cases rx;rfl)
  |(obtain⟨t,rfl⟩:=rx;rfl)
theorem a80:OpR X (compareOp .IsNot) (λx y H Q=>y=.non/\Q (.bl (!decide (x=.non))) H):=by
 intro aA s σ H x y v u Q I rx ry h
 obtain⟨rfl,q⟩:=h;cases ry
 refine isnot_none_gen (a1t I q ?_)
 cases x<;>first
  |(cases rx;rfl)
  |(obtain⟨t,rfl⟩:=rx;rfl)
theorem a6v:OpR X (compareOp .NotIn) (λx y H Q=>∃i j,x=.str i/\y=.str j/\Q (.bl (!(!(Builtin.Str.occurrences j i 0 j.length 1).isEmpty))) H):=by
 intro aA s σ H x y v u Q I rx ry h
 obtain⟨i,j,rfl,rfl,q⟩:=h;obtain⟨t,rfl⟩:=rx;obtain⟨t',rfl⟩:=ry;exact notIn_str (a1t I q rfl)
theorem OpR.or(h:OpR X f r)(h':OpR X f r'):OpR X f (λx y H Q=>r x y H Q\/r' x y H Q):=by
 intro aA s σ H x y v u Q I rx ry q
 rcases q with q|q
 ·exact h aA s σ H x y v u Q I rx ry q
 ·exact h' aA s σ H x y v u Q I rx ry q
theorem a0q(b:Expr)(h:op≠.In:=by decide)(h2:op≠.NotIn:=by decide):behindInMarks op b=false:=by
 have e1:(op == CmpOp.In)=false:=by cases op<;>first|rfl|exact absurd rfl h
 have e2:(op == CmpOp.NotIn)=false:=by cases op<;>first|rfl|exact absurd rfl h2
 cases b<;>simp[behindInMarks,e1,e2]
theorem aio(ho:OpR X (compareOp op) r)(ha:PE X a ta)(hb:PE X b tb)(hm:behindInMarks op b=false):PE X (.Compare a [op] [b] pos) (tOp r ta tb):=by
 intro aA s σ H Q I h
 exact wpAny_Compare1 (aqr ha hb I h λv u s2 x y H2 I2 rx ry q=>ho aA s2 σ H2 x y v u Q I2 rx ry q) hm
def amf(t:TE):TT:=λσ H Q=>t σ H λx H'=>∃k,x=.bl k/\Q k H'
theorem aip{op:CmpOp}{r:R2}(ho:OpR X (compareOp op) r)(ha:PE X a ta)(hb:PE X b tb)(hm:behindInMarks op b=false):PT X (.Compare a [op] [b] pos) (amf (tOp r ta tb)):=by
 intro aA s σ H Q I h
 refine wpAny_isTrue_Compare1 (thn (ha aA s σ H _ I h) λv s1 ⟨x,H1,I1,r1,q1⟩=>thn (hb aA s1 σ H1 _ I1 q1) λu s2 ⟨y,H2,I2,r2,q2⟩ =>
  thn (ho aA s2 σ H2 x y v u _ I2 r1 r2 q2) λc s3 ⟨z,H3,I3,r3,k,e,q3⟩=>?_) hm
 subst e;cases r3
 exact cH ⟨H3,I3,q3⟩
def ah4(r r':R2)(ta tb tc:TE):TE:=λσ H Q=>ta σ H λx H1=>tb σ H1 λy H2=>r x y H2 λz H3=>∃k,z=.bl k /\
 (if k=true then tc σ H3 λw' H4=>r' y w' H4 Q else Q (.bl false) H3)
theorem aey{op op':CmpOp}{r r':R2}(ho:OpR X (compareOp op) r)(ho':OpR X (compareOp op') r')(ha:PE X a ta)(hb:PE X b tb)(hc:PE X c tc)
  (hm:lastMarks [op,op'] [b,c]=false:=by with_unfolding_all rfl):PE X (.Compare a [op,op'] [b,c] pos) (ah4 r r' ta tb tc):=by
 intro aA s σ H Q I h
 refine Compare_chain (thn (ha aA s σ H _ I h) λv s1 ⟨x,H1,I1,r1,q1⟩=>chain_link (thn (hb aA s1 σ H1 _ I1 q1) λu s2 ⟨y,H2,I2,r2,q2⟩ =>
  thn (ho aA s2 σ H2 x y v u _ I2 r1 r2 q2) λd s3 ⟨z,H3,I3,r3,k,e,q3⟩=>?_)) hm
 subst e;cases r3
 refine cH ?_
 cases k with
 |false=>exact ite_ff ⟨.bl false,H3,I3,rfl,q3⟩
 |true=>exact ite_tt (chain_last (thn (hc aA s3 σ H3 _ I3 q3) λw' s4 ⟨z',H4,I4,r4,q4⟩=>ho' aA s4 σ H4 y z' u w' Q I4 r2 r4 q4))
def aqw(K:Fg)(x:V)(H:Hp)(k:Bool):Prop :=
 match x with
 |.non=>k=false
 |.bl b=>k=b
 |.int i=>k=(i != 0)
 |.str y=>y.length<=sizeLine/\k=((y.length:Int) != 0)
 |.byt y=>y.size<=sizeLine/\k=((y.size:Int) != 0)
 |.ref p=>(∃xs,SqL K H p xs/\k = !xs.isEmpty)\/(∃xs,SqT K H p xs/\k = !xs.isEmpty)\/∃kvs,H p=some (.dK kvs)/\k = !kvs.isEmpty
 |_=>False
theorem aa2{κ:Type}{kvs:List (κ×V)}{vs:List (κ×Value)}(r:KV kvs vs):(!vs.isEmpty) = !kvs.isEmpty:=by
 cases r<;>rfl
theorem a4g(r:Vals xs its):(!its.toArray.isEmpty) = !xs.isEmpty:=by
 cases r<;>simp
theorem a1u:(sizeLine:Nat)<2^63:=by rw[dk];decide
theorem amg:atu X (λx H Q=>∃k,aqw X.K x H k/\Q k H):=by
 intro aA s σ H x v Q I rx h
 obtain⟨k,e,q⟩:=h;have hl:=a1u;have hs:sizeLine=16777216:=dk
 cases x with
 |non =>
  cases rx
  have e':k=false:=e;subst e';exact truthy_none ⟨H,I,q⟩
 |bl b =>
  cases rx
  have e':k=b:=e;subst e';exact cH ⟨H,I,q⟩
 |int i =>
  obtain⟨t,rfl⟩:=rx;have e':k=(i != 0):=e;subst e';exact PySem.P.truthy_int ⟨H,I,q⟩
 |str y =>
  obtain⟨t,rfl⟩:=rx;obtain⟨hy,e'⟩:y.length<=sizeLine/\k=((y.length:Int) != 0):=e;subst e';exact PySem.P.truthy_str (by omega) ⟨H,I.tok _,q⟩
 |byt y =>
  obtain⟨t,rfl⟩:=rx;obtain⟨hy,e'⟩:y.size<=sizeLine/\k=((y.size:Int) != 0):=e;subst e';exact PySem.W.truthy_bytes (by omega) ⟨H,I.tok _,q⟩
 |ref p =>
  cases rx
  have e':(∃xs,SqL X.K H p xs/\k = !xs.isEmpty)\/(∃xs,SqT X.K H p xs/\k = !xs.isEmpty)\/∃kvs,H p=some (.dK kvs)/\k = !kvs.isEmpty:=e
  rcases e' with⟨xs,hx,e'⟩|⟨xs,hx,e'⟩|⟨kvs,hx,e'⟩
  ·subst e';obtain⟨its,r,pl,hz⟩:=I.list hx;have aH:=r.length;exact wpAny_truthy_list pl.isList (by simp only[ae];omega) ⟨H,I.tok _,by rw[a4g r];exact q⟩
  ·subst e';obtain⟨its,r,pl,hz⟩:=I.tuple hx;have aH:=r.length;exact truthy_tuple pl (by simp only[ae];omega) ⟨H,I.tok _,by rw[a4g r];exact q⟩
  ·subst e';obtain⟨hz,hS,vs,r,m⟩:kvs.length<=sizeLine/\(p == sysModules)=false/\∃vs,KV kvs vs/\s.heap.DictOf (a0f X.prog X.w) p vs:=I.hok p _ hx;have aH:kvs.length=vs.length:=Paired.length r;exact wpAny_truthy_dict hS m (by omega) ⟨H,I.tok _,by rw[aa2 r];exact q⟩
 |_=>exact(show False from e).elim
theorem aez(ha:PE X a ta)(he:∀whole,isTrue a X.env whole=(do let v <-whole;standAt a.pos;holding [v] (truthy v))) :
  PT X a (λσ H Q=>ta σ H λx H'=>∃k,aqw X.K x H' k/\Q k H'):=by
 intro aA s σ H Q I h
 exact isTrue_plain (thn (ha aA s σ H _ I h) λv s1 ⟨x,H1,I1,r1,q1⟩=>amg aA s1 σ H1 x v Q I1 r1 q1) (he _)
theorem aa3:OpR X (binaryOp .Add) (λx y H Q=>∃i j,x=.str i/\y=.str j/\i.length+j.length<=sizeLine/\Q (.str (i++j)) H):=by
 intro aA s σ H x y v u Q I rx ry h
 obtain⟨i,j,rfl,rfl,hz,q⟩:=h;obtain⟨t,rfl⟩:=rx;obtain⟨t',rfl⟩:=ry;exact add_str (λt' tk=>⟨.str (i++j),H,I.tok _,⟨_,rfl⟩,q⟩) hz
theorem xx:OpR X (inplaceOp .Add) (λx y H Q=>∃i j,x=.str i/\y=.str j/\i.length+j.length<=sizeLine/\Q (.str (i++j)) H):=by
 intro aA s σ H x y v u Q I rx ry h
 obtain⟨i,j,rfl,rfl,hz,q⟩:=h;obtain⟨t,rfl⟩:=rx;obtain⟨t',rfl⟩:=ry;exact iadd_str (λt' tk=>⟨.str (i++j),H,I.tok _,⟨_,rfl⟩,q⟩) hz
theorem vals1(r:Vals [x] us):∃u,us=[u]/\RelV x u:=by
 cases r with
 |cons r1 r2=>cases r2;exact⟨_,rfl,r1⟩
theorem vals2(r:Vals [x,y] us):∃u w',us=[u,w']/\RelV x u/\RelV y w':=by
 cases r with
 |cons r1 r2 =>
  cases r2 with
  |cons r3 r4=>cases r4;exact⟨_,_,rfl,r1,r3⟩
theorem af0:CallR X (.builtin "abs") (λxs H Q=>∃i,xs=[.int i]/\Q (.int (if i<0 then -i else i)) H):=by
 intro aA s σ H xs us Q I r h
 obtain⟨i,rfl,q⟩:=h;obtain⟨u,rfl,t,rfl⟩:=vals1 r;exact call_abs_int λu tk=>⟨.int (if i<0 then -i else i),H,I.tok _,⟨_,rfl⟩,q⟩
theorem ab9(hc:X.calm=true):CallR X (.builtin "max") (λxs H Q=>∃i j,xs=[.int i,.int j]/\Q (.int (if j > i then j else i)) H):=by
 intro aA s σ H xs us Q I r h
 obtain⟨i,j,rfl,q⟩:=h;obtain⟨u,w',rfl,⟨t,rfl⟩,⟨t',rfl⟩⟩:=vals2 r;refine max_two_ints (I.ok.hd hc) λh' tk k=>⟨_,H,I.kept k,?_,q⟩
 by_cases hj:j > i
 ·rw[aI hj,aI hj];exact⟨_,rfl⟩
 ·rw[b9 hj,b9 hj];exact⟨_,rfl⟩
theorem aba(hc:X.calm=true):CallR X (.builtin "min") (λxs H Q=>∃i j,xs=[.int i,.int j]/\Q (.int (if j<i then j else i)) H):=by
 intro aA s σ H xs us Q I r h
 obtain⟨i,j,rfl,q⟩:=h;obtain⟨u,w',rfl,⟨t,rfl⟩,⟨t',rfl⟩⟩:=vals2 r;refine min_two_ints (I.ok.hd hc) λh' tk k=>⟨_,H,I.kept k,?_,q⟩
 by_cases hj:j<i
 ·rw[aI hj,aI hj];exact⟨_,rfl⟩
 ·rw[b9 hj,b9 hj];exact⟨_,rfl⟩
theorem abb:CallR X (.type "int") (λxs H Q=>(∃i,xs=[.int i]/\Q (.int i) H)\/∃k,xs=[.bl k]/\Q (.int (if k then 1 else 0)) H):=by
 intro aA s σ H xs us Q I r h
 rcases h with⟨i,rfl,q⟩|⟨k,rfl,q⟩
 ·obtain⟨u,rfl,t,rfl⟩:=vals1 r;exact call_int_int ⟨.int i,H,I,⟨_,rfl⟩,q⟩
 ·obtain⟨u,rfl,r1⟩:=vals1 r;cases r1
  exact call_int_bool ⟨.int (if k then 1 else 0),H,I.tok _,⟨_,rfl⟩,q⟩
end
structure ObjM (h:Heap) (x dx C:Addr) (mA:Str->Option Value):Prop where
 obj:h.get? x=some (PySem.W.instObj C dx)
 ns:h.Ns1 dx mA
 ne:dx≠x
theorem abd{h:Heap}(n:h.Ns1 dx mA):∃od,h.get? dx=some od/\∀name,PySem.W.lookIn name od=some (mA name):=by
 obtain⟨o,es,ep,ho,hd,hk,_,hm⟩:=n;refine⟨o,ho,λname=>?_⟩;have e:=hm name;unfold nsFind findBy at e;rw[<-Array.find?_toList]at e;unfold PySem.W.lookIn;rw[hd];dsimp only
 split
 ·rename_i y q;rw[q]at e;exact aK some e
 ·rename_i q;rw[q]at e;have a:es.toList.any (·.refKey)=false:=by
   rw[List.any_eq_false]
   intro y hy
   obtain⟨z,t,hkey⟩:=hk y (Array.mem_toList_iff.mp hy);simp[DictEntry.refKey,hkey]
  have a':¬ es.toList.any (·.refKey)=true:=by rw[a];exact aV
  rw[b9 a'];exact aK some e
theorem ObjM.look(I:ObjM h x dx C mA):∃od,PySem.W.InstAt h x (PySem.W.instObj C dx) C (some od)/\∀name,PySem.W.lookIn name od=some (mA name) :=
 let ⟨od,ho,hl⟩:=abd I.ns
 ⟨od,⟨I.obj,rfl,rfl,ho⟩,hl⟩
theorem RelO.some_of(r:RelO (some v) o):∃u,o=some u/\RelV v u:=by
 cases o with
 |none=>exact(show False from r).elim
 |some u=>exact⟨u,rfl,r⟩
section
variable{P:Program}{w:World}{H H':Hp}{h h':Heap}{a C dx:Addr}{fs fs':List (Str×V)}
theorem aiq(hok:HOk P w H h)(e:H a=some (.ins C dx fs)):∃mA,ObjM h a dx C mA/\(∀f,RelO (fs.lookup f) (mA f))/\PySem.Within mA (fs.map (·.1))/\fs.length<=1000/\H dx=some (.own a):=by
 obtain⟨d,z,ne,ob,mA,n,r,q⟩:=(show ObjOk P w H h a (.ins C dx fs) from hok a _ e)
 exact⟨mA,⟨ob,n,ne⟩,r,q,z,d⟩
end
structure Cls (K:Fg) (C:Addr):Prop where
 pg:PySem.W.plainGet K C Str.empty=true
 hd:PySem.W.hasDictIn K C=true
 po:PySem.W.plainOver K C=true
 sa:PySem.W.findIn K (.ref C) "__setattr__" = some (some (.builtin "object.__setattr__"))
theorem Cls.get{K:Fg}{C:Addr}(c:Cls K C)(f:Str):PySem.W.plainGet K C f=true:=c.pg
section
variable{X:Cx}{aA:List (Addr×Obj)}{σ:St}{H:Hp}{s:Shared}{A:Around}{E:Value->Shared->Prop}{Q:Value->Shared->Prop}{c:Value}{b:Bool}
inductive TyOf (K:Fg) (H:Hp):V->Value->Prop where
 |non:TyOf K H .non (.type "NoneType")
 |bl (x:Bool):TyOf K H (.bl x) (.type "bool")
 |int (i:Int):TyOf K H (.int i) (.type "int")
 |str (x:Str):TyOf K H (.str x) (.type "str")
 |flt (x:UInt64):TyOf K H (.flt x) (.type "float")
 |lst {a:Addr} {xs:List V} (e:H a=some (.lst xs)):TyOf K H (.ref a) (.type "list")
 |frz {a:Addr} {o:Obj} {xs:List V} (e:H a=some (.frz o (.lst xs))):TyOf K H (.ref a) (.type "list")
 |tup {a:Addr} {xs:List V} (e:H a=some (.tup xs)):TyOf K H (.ref a) (.type "tuple")
 |dK {a:Addr} {kvs:List (Key×V)} (e:H a=some (.dK kvs)):TyOf K H (.ref a) (.type "dict")
 |dT {a:Addr} {kvs:List (List Key×V)} (e:H a=some (.dT kvs)):TyOf K H (.ref a) (.type "dict")
 | ins {a C dx:Addr} {fs:List (Str×V)} (e:H a=some (.ins C dx fs)) (cl:Cls K C) (ha:PySem.W.findIn K (.ref C) "__class__" = some (some (.builtin "object.__class__")))
   (hn:PySem.W.specialIn K (.builtin "object.__class__") "__get__" = some (some (.builtin "getset_descriptor.__get__"))) (htk:PySem.W.takesIn K (.builtin "object.__class__")=some true)
   (hm:PySem.W.mroIn K C (.type "object")=some true):TyOf K H (.ref a) (.ref C)
theorem abe(I:Inv X aA σ H s)(rx:RelV x u)(ty:TyOf X.K H x t)(e:PySem.W.kitOne X.K t c=some b)(h:∀tk,Q (.bool b) {s with toks:=tk}) :
  wpAny (model X.prog X.w) A (call (.builtin "isinstance") [u,c]) Q E s:=by
 cases ty with
 |non=>cases (show u=Value.none from rx);exact bE PySem.W.kitx_none I.kIn True.intro e (λz=>nomatch z) h
 |bl y=>cases (show u=Value.bool y from rx);exact bE PySem.W.kitx_bool I.kIn True.intro e (λz=>nomatch z) h
 |int i=>obtain⟨t,q⟩:=(show ∃t,u=Value.int i t from rx);cases q;exact bE PySem.W.kitx_int I.kIn True.intro e (λz=>nomatch z) h
 |str y=>obtain⟨t,q⟩:=(show ∃t,u=Value.str y t from rx);cases q;exact bE PySem.W.kitx_str I.kIn True.intro e (λz=>nomatch z) h
 |flt y=>obtain⟨t,q⟩:=(show ∃t,u=Value.float y t from rx);cases q;exact bE PySem.W.kitx_float I.kIn True.intro e (λz=>nomatch z) h
 |@lst a xs ea =>
  cases (show u=Value.ref a from rx)
  obtain⟨_,_,n,_,h1⟩:=(show ObjOk X.prog X.w H s.heap a (.lst xs) from I.hok a _ ea)
  exact bE PySem.W.kitx_list I.kIn ⟨_,h1,rfl⟩ e (λz=>nomatch z) h
 |@frz a ob xs ea =>
  cases (show u=Value.ref a from rx)
  obtain⟨_,_,_,n,_,h1⟩:=(show ObjOk X.prog X.w H s.heap a (.frz ob (.lst xs)) from I.hok a _ ea)
  exact bE PySem.W.kitx_list I.kIn ⟨_,h1,rfl⟩ e (λz=>nomatch z) h
 |@tup a xs ea =>
  cases (show u=Value.ref a from rx)
  obtain⟨_,_,_,p⟩:=(show ObjOk X.prog X.w H s.heap a (.tup xs) from I.hok a _ ea)
  obtain⟨o,h1,h2,_⟩:=p;exact bE PySem.W.kitx_tuple I.kIn ⟨o,h1,h2⟩ e (λz=>nomatch z) h
 |@dK a kvs ea =>
  cases (show u=Value.ref a from rx)
  obtain⟨_,_,vs,_,p⟩:=(show ObjOk X.prog X.w H s.heap a (.dK kvs) from I.hok a _ ea)
  obtain⟨o,es,ep,h1,h2,_⟩:=p;exact bE eE I.kIn ⟨o,h1,h2.1⟩ e (λz=>nomatch z) h
 |@dT a kvs ea =>
  cases (show u=Value.ref a from rx)
  obtain⟨_,_,xs,_,o,es,ep,h1,h2,_⟩:=(show ObjOk X.prog X.w H s.heap a (.dT kvs) from I.hok a _ ea)
  exact bE eE I.kIn ⟨o,h1,h2.1⟩ e (λz=>nomatch z) h
 |@ins a C dx fs ea cl ha hn htk hm =>
  cases (show u=Value.ref a from rx)
  obtain⟨mA,O,_⟩:=aiq I.hok ea;obtain⟨od,J,_⟩:=O.look;exact bE (PySem.W.kitx_own (cl.get _) cl.hd ha hn htk hm) I.kIn J e (λz=>nomatch z) h
end
structure Room (k:Nat) (A:Around):Prop where
 hd:A.handled=none
 dp:A.depth+3*k+5<recursionLimit
 un:A.units+16*k+200<cLine
 gd:A.guards=some []
theorem Room.mono(r:Room k A)(h:j<=k):Room j A:=⟨r.hd,by have:=r.dp;omega,by have:=r.un;omega,r.gd⟩
theorem Room.deeper(r:Room (k+1) A)(env:Env):Room k (A.deeper env) :=
 ⟨r.hd,by have:=r.dp;show A.depth+1+3*k+5<_;omega,by have:=r.un;show A.units+3+16*k+200<_;omega,r.gd⟩
theorem Room.depth(r:Room k A):A.depth<recursionLimit:=by have:=r.dp;omega
theorem Room.units(r:Room k A):A.units+64<cLine:=by have:=r.un;omega
def aqx:TA:=λ_ H Q=>Q [] H
def amh(ta:TE)(tr:TA):TA:=λσ H Q=>ta σ H λx H1=>tr σ H1 λxs H2=>Q (x::xs) H2
section
variable{X:Cx}{e:Expr}{es:List Expr}{te:TE}{t:TA}{pos:Pos}
theorem abf:PA X [] aqx:=λ_ _ _ _ H Q I h=>Calls.spliced_nil ⟨[],H,I,.nil,h⟩
theorem a5f(ha:PE X e te)(hr:PA X es t)(hs:starEach (e::es) X.env=(false,eval e X.env)::starEach es X.env:=by rfl):PA X (e::es) (amh te t):=by
 intro pos aA s σ H Q I h
 rw[hs];show wpAny _ _ (spliced ((false,eval e X.env)::backTo pos (starEach es X.env))) _ _ s;refine Calls.spliced_cons (thn (ha aA s σ H _ I h) λu s1 ⟨x,H1,I1,r1,q1⟩=>?_);exact thn (hr pos aA s1 σ H1 _ I1 q1) λus s2 ⟨xs,H2,I2,r2,q2⟩=>⟨x::xs,H2,I2,.cons r1 r2,q2⟩
def atv(t:TA):TE:=λσ H Q=>t σ H λxs H1=>xs.length<=sizeLine/\∀p,H1 p=none->Q (.ref p) (upd H1 p (.tup xs))
def atw(t:TA):TE:=λσ H Q=>t σ H λxs H1=>xs.length<=sizeLine/\∀p,H1 p=none->Q (.ref p) (upd H1 p (.lst xs))
theorem ami{x1}(h:PA X es t):PE X (.Tuple es x1 pos) (atv t):=by
 intro aA s σ H Q I hq
 refine wpAny_Tuple_spliced (thn (h pos aA s σ H _ I hq) λus s1 ⟨xs,H1,I1,r,z,q⟩=>⟨by rw[<-r.length];exact z,?_⟩)
 have hf:H1 s1.heap.objs.size=none:=I1.hok.fresh (ag _);refine⟨.ref s1.heap.objs.size,upd H1 s1.heap.objs.size (.tup xs),I1.laid (t':=s1.toks) (λb u e=>a8 _ e) (ag _) ?_,rfl,q _ hf⟩;exact⟨z,us,r,⟨_,aN _ rfl,rfl,_,rfl⟩⟩
theorem amj(h:PA X es t):PE X (.List es pos) (atw t):=by
 intro aA s σ H Q I hq
 refine wpAny_List_spliced (thn (h pos aA s σ H _ I hq) λus s1 ⟨xs,H1,I1,r,z,q⟩=>⟨by rw[<-r.length];exact z,?_⟩)
 have hf:H1 s1.heap.objs.size=none:=I1.hok.fresh (ag _);refine⟨.ref s1.heap.objs.size,upd H1 s1.heap.objs.size (.lst xs),I1.laid (t':=s1.toks) (λb u e=>a8 _ e) (ag _) ?_,rfl,q _ hf⟩;exact⟨z,us,0,r,aN _ rfl⟩
end
abbrev Sp:=List V->Hp->VK->XK->Prop
abbrev CXT:=List Env->Hp->Shared->XK->Value->Shared->Prop
structure Env0 (P:Program) (w:World) (K:Fg) (mg:Str->Option Value) (base:Heap) (A:Around) (outer:List Env) (s:Shared) (H:Hp):Prop where
 frames:A.frames=some outer
 mod:Mod K mg base
 bs:∀b o,base.get? b=some o->s.heap.get? b=some o/\H b=none
 bsz:base.objs.size<=s.heap.objs.size
 funs:s.heap.FunFrames base outer
 frf:∀b∈frs outer,H b=none
 hok:HOk P w H s.heap
 bare:AllBare s.gens
def CE(outer:List Env)(P:Program)(w:World)(H:Hp)(s:Shared)(Q:VK)(u:Value)(s':Shared):Prop :=
 ∃v H',s'.os=s.os/\AllBare s'.gens/\Un (frs outer) [] H H' s.heap s'.heap/\HOk P w H' s'.heap/\RelV v u/\Q v H'
def CR(CX:CXT)(outer:List Env)(P:Program)(w:World)(H:Hp)(s:Shared)(Q:VK)(E:XK)(r:Result)(s':Shared):Prop :=
 match r with
 |.ok (.ret u)=>CE outer P w H s Q u s'
 |.ok _=>False
 |.error e=>CX outer H s E e s'
structure FnOk (P:Program) (w:World) (K:Fg) (mg:Str->Option Value) (base:Heap) (CX:CXT) (k:Nat) (f:Addr) (fd:FuncData) (ps:List Str) (sp:Sp):Prop where
 len:∀vs H Q E,sp vs H Q E->vs.length=ps.length
 run:∀(A:Around) (outer:List Env) (s:Shared) (H:Hp) (args:Args) (us:List Value) (vs:List V) (Q:VK) (E:XK),Room k A->Env0 P w K mg base A outer s H->BindsTo s fd args (ps.zip us)->Vals vs us->sp vs H Q E->
  codeAny (model P w) A (.call (.ref f) args) (CR CX outer P w H s Q E) s
theorem FnOk.imp{P:Program}{w:World}{K:Fg}{mg:Str->Option Value}{base:Heap}{CX:CXT}{k:Nat}{f:Addr}{fd:FuncData}{ps:List Str}{sp sp':Sp}(F:FnOk P w K mg base CX k f fd ps sp)
  (h:∀vs H Q E,sp' vs H Q E->sp vs H Q E):FnOk P w K mg base CX k f fd ps sp' :=
 ⟨λvs H Q E q=>F.len vs H Q E (h _ _ _ _ q),λA outer s H args us vs Q E hr he hb hv hs=>F.run A outer s H args us vs Q E hr he hb hv (h _ _ _ _ hs)⟩
section
variable{X:Cx}{aA:List (Addr×Obj)}{σ:St}{H:Hp}{s s':Shared}
theorem Inv.env0(I:Inv X aA σ H s):Env0 X.prog X.w X.K X.mg X.base X.A X.stack s H :=
 ⟨I.ok.frames,I.ok.mod,I.bs,bD I.ok.bsz I.sz,I.stack,I.stkFree,I.hok,I.bare⟩
theorem Inv.after(I:Inv X aA σ H s)(h:CE X.stack X.prog X.w H s Q u s'):EP X aA σ Q u s':=by
 obtain⟨v,H',os,bare,un,hok,r,q⟩:=h;obtain⟨hh,g,d,t,os'⟩:=s';obtain rfl:os'=s.os:=os;exact⟨v,H',I.call (h':=hh) (g':=g) (d':=d) (t':=t) (ch:=[]) un hok bare (λb z=>absurd z (by simp)),r,q⟩
end
def amk(sp:Sp)(dvs:List V)(E:XK)(t:TA):TE:=λσ H Q=>t σ H λvs H1=>sp (vs++dvs) H1 Q E
def Binds(K:Fg)(fd:FuncData)(ps:List Str)(ds:List Value):Prop :=
 ∀(s:Shared) (us:List Value),K.In s.heap->(us++ds).length=ps.length->BindsTo s fd ⟨us,[]⟩ (ps.zip (us++ds))
theorem Binds.all{K:Fg}{fd:FuncData}{ps:List Str}(h:∀us:List Value,us.length=ps.length->bindArgs fd ⟨us,[]⟩=pure (ps.zip us)):Binds K fd ps []:=λs us _ hl=>by
 rw[cJ]at hl ⊢;exact .of_eq (h us hl)
def a8u(CX:CXT)(X:Cx)(E:XK):Prop:=∀(aA:List (Addr×Obj)) (σ:St) (H:Hp) (s:Shared) (e:Value) (s':Shared),Inv X aA σ H s->CX X.stack H s E e s'->X.xe e s'
section
variable{X:Cx}{CX:CXT}{k:Nat}{f C:Addr}{fd:FuncData}{ps:List Str}{sp:Sp}{dvs:List V}{ds:List Value}{E:XK}{x m:Str}{p pos apos:Pos}{e o:Expr}{es:List Expr}{ta:TE}{t:TA}
theorem ah5(F:FnOk X.prog X.w X.K X.mg X.base CX k f fd ps sp)(hr:Room k X.A)(hb:Binds X.K fd ps ds)(hd:Vals dvs ds)(hx:a8u CX X E)
  (I:Inv X aA σ H s) (r:Vals vs us) (h:sp (vs++dvs) H Q E):wpAny (model X.prog X.w) X.A (call (.ref f) us) (EP X aA σ Q) X.xe s:=by
 have r2:Vals (vs++dvs) (us++ds):=r.append hd;have hl:(us++ds).length=ps.length:=by rw[<-r2.length];exact F.len _ _ _ _ h
 refine wpAny_call (dS (F.run X.A X.stack s H ⟨us,[]⟩ (us++ds) (vs++dvs) Q E hr I.env0 (hb s us I.kIn hl) r2 h) λr s' hq=>?_)
 cases r with
 |error e=>exact hx aA σ H s e s' I hq
 |ok fl =>
  cases fl with
  |ret u=>exact I.after hq
  |next=>exact False.elim hq
  |brk=>exact False.elim hq
  |cont=>exact False.elim hq
theorem air(F:FnOk X.prog X.w X.K X.mg X.base CX k f fd ps sp)(hr:Room k X.A)(hg:Gl X x)(hm:X.mg x=some (.ref f))(hk:PySem.W.keepIn X.K (.ref f)=true)(hb:Binds X.K fd ps ds)(hd:Vals dvs ds)(hx:a8u CX X E)
  (ha:PA X (e::es) t) (hdb:(x == ("__debug__" : Str))=false:=by decide) (he:starEach (e::es) X.env=(false,eval e X.env)::starEach es X.env:=by rfl) (hpl:(backTo pos (starEach es X.env)).any (·.1)=false:=by rfl) :
  PE X (.Call (.Name x p) (e::es) [] pos) (amk sp dvs E t):=by
 intro aA s σ H Q I h
 refine cy (aaz I hg hm ?_ hdb);refine PySem.W.callWith_K (h₀:=X.base) I.ok.mod.kin hk (thn (ha pos aA s σ H _ I h) λus s1 ⟨vs,H1,I1,r,q⟩=>⟨I1.kIn,?_⟩) he hpl;exact ah5 F hr hb hd hx I1 r q
theorem af1(F:FnOk X.prog X.w X.K X.mg X.base CX k f fd ps sp)(hr:Room k X.A)(hg:Gl X x)(hm:X.mg x=some (.ref f))(hk:PySem.W.keepIn X.K (.ref f)=true)(hb:Binds X.K fd ps ds)(hd:Vals dvs ds)(hx:a8u CX X E)
  (hdb:(x == ("__debug__" : Str))=false:=by decide):PE X (.Call (.Name x p) [] [] pos) (amk sp dvs E aqx):=by
 intro aA s σ H Q I h
 refine cy (aaz I hg hm ?_ hdb);exact PySem.W.callWith_K0 I.kIn hk (ah5 (us:=[]) F hr hb hd hx I .nil h)
end
def PK(X:Cx)(kws:List Keyword)(t:TA):Prop :=
 ∀(pos:Pos) (aA:List (Addr×Obj)) (s:Shared) (σ:St) (H:Hp) (Q:List V->Hp->Prop),Inv X aA σ H s->t σ H Q->wpAny (model X.prog X.w) X.A (evalAll ((backToKw pos (keywordEach kws X.env)).map (·.2))) (AP X aA σ Q) X.xe s
section
variable{X:Cx}{CX:CXT}{k:Nat}{f C:Addr}{fd:FuncData}{ps ks:List Str}{sp:Sp}{E:XK}{x m:Str}{p pos apos kpos:Pos}{e o:Expr}{es:List Expr}{kws:List Keyword}{te ta:TE}{t tk:TA}{nm:Option Str}
theorem aml:PK X [] aqx:=λ_ _ _ _ H Q I h=>wpAny_evalAll_nil ⟨[],H,I,.nil,h⟩
theorem ais(ha:PE X e te)(hr:PK X kws t):PK X (⟨nm,e,kpos⟩::kws) (amh te t):=by
 intro pos aA s σ H Q I h
 show wpAny _ _ (evalAll ((do let v <-eval e X.env;standAt pos;pure v)::(backToKw pos (keywordEach kws X.env)).map (·.2))) _ _ s
 refine wpAny_evalAll_cons (a9 (thn (ha aA s σ H _ I h) λu s1 ⟨x,H1,I1,r1,q1⟩=>a9 (dC (aJ ?_))));exact thn (hr pos aA s1 σ H1 _ I1 q1) λus s2 ⟨xs,H2,I2,r2,q2⟩=>⟨x::xs,H2,I2,.cons r1 r2,q2⟩
variable{g:List Value->List Value->List Value}{gV:List V->List V->List V}
end
structure FnScope (N P:List Str) (sc:Scope):Prop where
 kind:sc.kind=.function
 co:sc.isCoroutine=false
 gen:sc.isGenerator=false
 nd:N.Nodup
 pre:N.take P.length=P
 par:∀x∈P,sc.names.lookup x=some .local\/sc.names.lookup x=some .cell
 nofree:∀y∈sc.names,y.2≠.free
theorem a6w{kindOf:Str->Option NameKind}{x:Str}:∀{binds:List (Str×Value)} {m:Str->Option Value},(∀v,(x,v)∉binds)->bindL kindOf binds m x=m x
 |[],_,_=>rfl
 |(n,v)::r,m,h=>by
  unfold bindL;rw[a6w λw hw=>h w (aP _ hw)]
  split
  ·have:x≠n:=by rintro rfl;exact h v aT
   simp[this]
  ·rfl
theorem a6x{kindOf:Str->Option NameKind}{x:Str}:∀{binds:List (Str×Value)} {m:Str->Option Value},(∀v,(x,v)∉binds)->bindC kindOf binds m x=m x
 |[],_,_=>rfl
 |(n,v)::r,m,h=>by
  unfold bindC;rw[a6x λw hw=>h w (aP _ hw)]
  split
  ·rfl
  ·have:x≠n:=by rintro rfl;exact h v aT
   simp[this]
theorem a6y{kindOf:Str->Option NameKind}{x:Str}{v:Value}:∀{P:List Str} {vs:List Value} {i:Nat} {m:Str->Option Value},P.Nodup->P[i]? = some x->vs[i]? = some v->kindOf x=some .local->
  bindL kindOf (P.zip vs) m x=some v
 |[],_,_,_,_,h,_,_=>by simp at h
 |_::_,[],_,_,_,_,h,_=>by simp at h
 |p::P,w::vs,0,m,nd,h1,h2,hk=>by
  simp at h1 h2;subst h1;subst h2
  show bindL kindOf ((p,w)::P.zip vs) m p=_;unfold bindL;rw[a6w λv hv=>(cS.mp nd).1 (dJ hv).1,aI hk];simp
 |p::P,w::vs,i+1,m,nd,h1,h2,hk=>by
  show bindL kindOf ((p,w)::P.zip vs) m x=_;unfold bindL;exact a6y (i:=i) (cS.mp nd).2 (by simpa using h1) (by simpa using h2) hk
theorem a6z{kindOf:Str->Option NameKind}{x:Str}{v:Value}:∀{P:List Str} {vs:List Value} {i:Nat} {m:Str->Option Value},P.Nodup->P[i]? = some x->vs[i]? = some v->kindOf x≠some .local->
  bindC kindOf (P.zip vs) m x=some v
 |[],_,_,_,_,h,_,_=>by simp at h
 |_::_,[],_,_,_,_,h,_=>by simp at h
 |p::P,w::vs,0,m,nd,h1,h2,hk=>by
  simp at h1 h2;subst h1;subst h2
  show bindC kindOf ((p,w)::P.zip vs) m p=_;unfold bindC;rw[a6x λv hv=>(cS.mp nd).1 (dJ hv).1,b9 hk];simp
 |p::P,w::vs,i+1,m,nd,h1,h2,hk=>by
  show bindC kindOf ((p,w)::P.zip vs) m x=_;unfold bindC;exact a6z (i:=i) (cS.mp nd).2 (by simpa using h1) (by simpa using h2) hk
def start(N:List Str)(vs:List V):St:=vs.map some++List.replicate (N.length-vs.length) none
def ael(CX:CXT)(P:Program)(w:World)(K:Fg)(mg:Str->Option Value)(base:Heap)(N:List Str)(qual:Str)(aB:Scope)(f:Addr)(cd:Value)(A:Around)(outer:List Env)(s:Shared)(H:Hp)(E:XK):Cx where
 prog:=P
 w:=w
 K:=K
 mg:=mg
 base:=base
 A:=A.deeper (envOfC qual aB s.heap.objs.size f cd)
 N:=N
 s₀:=s
 H₀:=H
 env:=envOfC qual aB s.heap.objs.size f cd
 outer:=outer
 stack:=envOfC qual aB s.heap.objs.size f cd::outer
 ex:=[]
 calm:=true
 fn:=λ_=>true
 pn:=[]
 xe:=λe s'=>wpAny (model P w) (A.deeper (envOfC qual aB s.heap.objs.size f cd)) (leaving (envOfC qual aB s.heap.objs.size f cd) e) (λ_ s''=>CX outer H s E e s'') (λe' s''=>CX outer H s E e' s'') s'
theorem a8v{sc:Scope}(h:sc.names.lookup x=some .cell):∃c,(cellsFrom n sc.names []).lookup x=some c:=by
 have q:=PySem.W.cellsFrom_some sc.names n [] (.inl h);exact eF.mp q
theorem abg{CX:CXT}{P:Program}{w:World}{K:Fg}{mg:Str->Option Value}{base:Heap}{N ps:List Str}{qual:Str}{aB:Scope}{f:Addr}{cd:Value}{A:Around}{outer:List Env}{s s1:Shared}{H:Hp}{E:XK}{us:List Value}{vs:List V}
  (S:FnScope N ps aB) (hd:A.handled=none) (e0:Env0 P w K mg base A outer s H) (hl:vs.length=ps.length) (r:Vals vs us)
  (x:InCallC s s.heap.objs.size (bindL (envOfC qual aB s.heap.objs.size f cd).kindOf (ps.zip us) λ_=>none) (cellsFrom (s.heap.objs.size+1) aB.names []) (bindC (envOfC qual aB s.heap.objs.size f cd).kindOf (ps.zip us) λ_=>none) s1) :
  Inv (ael CX P w K mg base N qual aB f cd A outer s H E) [] (start N vs) H s1:=by
 have hpl:ps.length<=N.length:=by have:=aK List.length S.pre;rw[bP]at this;omega
 obtain⟨h1,tk,rfl,hk⟩:=x.done;have noA:∀b:Addr,b∉(ael CX P w K mg base N qual aB f cd A outer s H E).ex:=λb z=>absurd (show b∈([]:List Addr) from z) (by simp)
 refine⟨⟨e0.mod,S.kind,rfl,rfl,ag _,λy z c h1 h2=>?_,λy hy=>?_,λy c _ h=>?_,λ_=>hd,Around.frames_deeper e0.frames,.inr ⟨rfl,rfl⟩,λb z=>absurd z (noA b),e0.bs,e0.bsz,λb _ _=>noA b,λb z=>absurd z (noA b),e0.funs,e0.frf⟩,
  rfl,e0.bare,Un.kept hk,⟨_,x.toInCall.ns,λi y v h1 h2 h3=>?_⟩,λy c h=>⟨_,x.cell y c h⟩,e0.hok.fresh (ag _),λy c h=>?_,λp hp=>absurd (show p∈([]:List (Addr×Obj)) from hp) (by simp),e0.hok.kept hk,?_⟩
 ·exact name_of_addr x.apart (bF h1) (bF h2)
 ·have hy:aB.names.lookup y=some .cell\/aB.names.lookup y=some .free:=hy
  rcases hy with hy|hy
  ·exact a8v hy
  ·exact absurd rfl (S.nofree _ (bF hy))
 ·exact Nat.le_of_lt (x.above y c (bF h))
 ·have hi:i<vs.length:=by
   unfold start at h2
   by_cases hi:i<vs.length
   ·exact hi
   ·rw[av (by simpa using hi)]at h2
    rw[cM]at h2
    split at h2<;>cases h2
  have ha:vs[i]? = some v:=by
   unfold start at h2;rw[aE (by simpa using hi),aR]at h2
   cases e:vs[i]? with
   |none=>rw[e]at h2;cases h2
   |some a=>rw[e]at h2;cases h2;rfl
  obtain⟨u,hu,rv⟩:=r.get ha;have hp:ps[i]? = some y:=by
   rw[<-S.pre,List.getElem?_take_of_lt (by omega)];exact h1
  have ndP:ps.Nodup:=by rw[<-S.pre];exact S.nd.sublist (List.take_sublist _ _)
  refine⟨u,rv,?_⟩
  rcases S.par y (aQ hp) with k|k
  ·exact .inl ⟨k,a6y ndP hp hu k⟩
  ·obtain⟨c,e⟩:=a8v (n:=s.heap.objs.size+1) k;refine .inr ⟨.inl k,c,e,?_⟩;have q:=x.cell y c e;rw[a6z ndP hp hu (by show aB.names.lookup y≠_;rw[k];decide)]at q
   exact q
 ·exact e0.hok.fresh (Nat.le_of_lt (x.above y c (bF h)))
 ·unfold start;show _=N.length;rw[ah,ai,cT];omega
theorem aqy{CX:CXT}{P:Program}{w:World}{K:Fg}{mg:Str->Option Value}{base:Heap}{k:Nat}{f:Addr}{name qual:Str}{params:Arguments}{body:List Stmt}{aB:Scope}{dV kV doc pm cdv ct oc:Value}{an od:Option Addr}
  {osl:Array (Option Value)} {N ps:List Str} {sp:Sp} (lk:K.lookup f=some ⟨oc,od,.func (PySem.W.fnOf name qual params body aB dV kV doc pm an cdv ct),osl⟩) (hcd:PySem.W.codeIn K cdv qual=true) (S:FnScope N ps aB)
  (len:∀vs H Q E,sp vs H Q E->vs.length=ps.length)
  (hbody:∀(A:Around) (outer:List Env) (s:Shared) (H:Hp) (vs:List V) (Q:VK) (E:XK),Room k (A.deeper (envOfC qual aB s.heap.objs.size f cdv))->sp vs H Q E->
   ∃t,PSs (ael CX P w K mg base N qual aB f cdv A outer s H E) body t/\t {nx:=λ_ H'=>Q .non H',rt:=Q} (start N vs) H) :
  FnOk P w K mg base CX (k+1) f (PySem.W.fnOf name qual params body aB dV kV doc pm an cdv ct) ps sp:=by
 refine⟨len,λA outer s H args us vs Q E hr e0 hb r hsp=>?_⟩;have hl:=len _ _ _ _ hsp;have KX:K.In s.heap:=e0.mod.kin.keeps λb o e=>(e0.bs b o e).1;have lim:s.heap.NoLimit:=e0.mod.nolimit.keeps λb o e=>(e0.bs b o e).1;have hkind:∀y∈ps.zip us,aB.names.lookup y.1=some .local\/(aB.names.lookup y.1=some .cell/\((cellsFrom (s.heap.objs.size+1) aB.names []).lookup y.1).isSome=true):=λ⟨n,v⟩ hy=>by
  rcases S.par n (dJ hy).1 with q|q
  ·exact .inl q
  ·exact .inr ⟨q,PySem.W.cellsFrom_some _ _ _ (.inl q)⟩
 refine codeAny_call_function hr.depth (KX _ _ lk) rfl S.co S.gen rfl (PySem.W.codeRec_of KX hcd) (hb _ _ _ _ ?_);refine wpAny_newFunctionEnv_cells S.kind hkind λenv he s1 x=>?_;subst he;refine⟨lim.keeps x.toInCall.keep,codeAny_func ?_⟩;obtain⟨t,ht,hq⟩:=hbody A outer s H vs Q E (hr.deeper _) hsp;have I:Inv (ael CX P w K mg base N qual aB f cdv A outer s H E) [] (start N vs) H s1:=abg S hr.hd e0 hl r x;refine cG (ht [] s1 (start N vs) H _ I hq) (λfl s' hs=>?_) λe s' hs=>hs;have fin:∀{σ':St} {H':Hp} {v:V} {u:Value},Inv (ael CX P w K mg base N qual aB f cdv A outer s H E) [] σ' H' s'->RelV v u->Q v H'->CE outer P w H s Q u s' :=
  λ{σ' H' v u} J rv q=>⟨v,H',J.os,J.bare,J.base,J.hok,rv,q⟩
 cases fl with
 |ret u =>
  obtain⟨v,σ',H',J,rv,q⟩:=hs;exact fin J rv q
 |next =>
  obtain⟨σ',H',J,q⟩:=hs;exact fin (v:=V.non) (u:=Value.none) J rfl q
 |brk =>
  obtain⟨_,_,_,q⟩:=hs;exact False.elim q
 |cont =>
  obtain⟨_,_,_,q⟩:=hs;exact False.elim q
section
variable{X:Cx}{x:Str}{p pos:Pos}{e:Expr}{es:List Expr}{t:TA}{id T:String}{r:List V->Hp->VK->Prop}
def tCB(r:List V->Hp->VK->Prop)(t:TA):TE:=λσ H Q=>t σ H λvs H1=>r vs H1 Q
theorem af2(hc:CallR X (.builtin id) r)(hg:Gl X x)(hm:X.mg x=none)(hv:bootBuiltins x=some (.builtin id))(ha:PA X (e::es) t)(hn:x ≠ "__name__":=by decide)(hdb:(x == ("__debug__" : Str))=false:=by decide)
  (he:starEach (e::es) X.env=(false,eval e X.env)::starEach es X.env:=by rfl) (hpl:(backTo pos (starEach es X.env)).any (·.1)=false:=by rfl):PE X (.Call (.Name x p) (e::es) [] pos) (tCB r t):=by
 intro aA s σ H Q I h
 refine cy (a2s I hg hm hv ?_ hn hdb);exact PyProof.Rows.callWith_builtin1 (thn (ha pos aA s σ H _ I h) λus s1 ⟨vs,H1,I1,r1,q1⟩=>hc aA s1 σ H1 vs us Q I1 r1 q1) he hpl
theorem abh(hc:CallR X (.type T) r)(hg:Gl X x)(hm:X.mg x=none)(hv:bootBuiltins x=some (.type T))(ha:PA X (e::es) t)(hn:x ≠ "__name__":=by decide)(hdb:(x == ("__debug__" : Str))=false:=by decide)
  (he:starEach (e::es) X.env=(false,eval e X.env)::starEach es X.env:=by rfl) (hpl:(backTo pos (starEach es X.env)).any (·.1)=false:=by rfl):PE X (.Call (.Name x p) (e::es) [] pos) (tCB r t):=by
 intro aA s σ H Q I h
 refine cy (a2s I hg hm hv ?_ hn hdb);exact cf (thn (ha pos aA s σ H _ I h) λus s1 ⟨vs,H1,I1,r1,q1⟩=>hc aA s1 σ H1 vs us Q I1 r1 q1) he hpl
end
end L2
namespace HT
open PyProof.Rows
section
variable{prog:Program}{w:World}{A:Around}{E:Value->Shared->Prop}{s:Shared}
theorem ait{vs ws:List Value}(ht:IsTup s.heap t vs.toArray)(hb:IsTup s.heap b ws.toArray)(hv:vs≠[])
  (h1:ws=[]->Q (.ref t) s) (h2:ws≠[]->Q (.ref s.heap.objs.size) {s with heap:=s.heap.push {cls:=.type "tuple",data:=.seq (vs++ws).toArray} })
  (hsz:vs.length+ws.length<=sizeLine):wpAny (model prog w) A (binaryOp .Add (.ref t) (.ref b)) Q E s:=by
 obtain⟨⟨cls,dd,data,sl⟩,ho,hc,n,hd⟩:=id ht;obtain⟨⟨cls2,dd2,data2,sl2⟩,ho2,hc2,n2,hd2⟩:=id hb;simp only at hc hd hc2 hd2;subst hc hd hc2 hd2;have e:vs.toArray++ws.toArray=(vs++ws).toArray:=by simp
 by_cases hw:ws=[]
 ·exact concat_meets ⟨_,ho,rfl⟩ ⟨_,ho2,rfl⟩ eR seq_tuple_add PySem.F.slot_tuple_add eL (eG _ _)
   (tuple_addW1 t b vs.toArray ws.toArray n n2 dd dd2 sl sl2 (by simpa using hv) (by simp[hw])) ⟨ho,ho2,h1 hw⟩
 ·refine concat_meets ⟨_,ho,rfl⟩ ⟨_,ho2,rfl⟩ eR seq_tuple_add PySem.F.slot_tuple_add eL (eG _ _)
   (tuple_addW2 t b vs.toArray ws.toArray n n2 dd dd2 sl sl2 (by simpa using hv) (by simpa using hw) (by rw[ae,ae];exact hsz)) ⟨ho,ho2,?_⟩
  rw[e];exact h2 hw
def sIx(n d:Nat):Option Int->Nat
 |none=>d
 |some v=>if v<0 then (v+(n:Int)).toNat else min v.toNat n
theorem a8w(n d:Nat):sIx n d none=d:=rfl
theorem abi(n d k:Nat):sIx n d (some (k:Int))=min k n:=by
 show(if (k:Int)<0 then ((k:Int)+(n:Int)).toNat else min (k:Int).toNat n)=min k n
 rw[b9 (by omega),cW]
theorem abj(n d:Nat)(hd:d<=n)(o:Option Int):sIx n d o<=n:=by
 cases o with
 |none=>exact hd
 |some v =>
  show(if v<0 then (v+(n:Int)).toNat else min v.toNat n)<=n
  by_cases hv:v<0
  ·rw[aI hv];omega
  ·rw[b9 hv];exact Nat.min_le_right _ _
theorem abk(v:Int)(n d:Nat):(if v<0 then max (v+(n:Int)) 0 else min v (n:Int))=((sIx n d (some v):Nat):Int):=by
 show(if v<0 then max (v+(n:Int)) 0 else min v (n:Int))=(((if v<0 then (v+(n:Int)).toNat else min v.toNat n):Nat):Int)
 by_cases hv:v<0
 ·simp only[aI hv];omega
 ·simp only[b9 hv];omega
theorem aa4(lo hi:Option Int)(n:Nat):Builtin.Slice.sliceAdjust lo hi 1 (n:Int)=(((sIx n 0 lo:Nat):Int),((sIx n n hi:Nat):Int)):=by
 have h1:¬ ((1:Int)<0):=by omega
 unfold Builtin.Slice.sliceAdjust;simp only[h1,dD];refine Prod.ext ?_ ?_
 ·cases lo with
  |none=>rfl
  |some v=>exact abk v n 0
 ·cases hi with
  |none=>rfl
  |some v=>exact abk v n n
theorem aa5(i j:Nat):Builtin.Slice.slicePlaces (i:Int) (j:Int) 1=j-i:=by
 unfold Builtin.Slice.slicePlaces;have h1:(1:Int) > 0:=by omega
 simp only[h1,cQ,Int.ediv_one]
 split<;>omega
theorem a4h(p:IsPart v o)(h:Q o s):wpAny (model prog w) A (Builtin.Slice.slicePartIndex v) Q E s:=by
 cases p with
 |none=>exact slicePart_none h
 |int i t=>exact slicePart_int h
theorem yr{sl:Addr}{vl vu:Value}{lo hi:Option Int}{n:Nat}{Q:Int×Int×Nat->Shared->Prop}(hs:s.heap.IsSliceOf sl vl vu .none)(pl:IsPart vl lo)(pu:IsPart vu hi)
  (h:Q (((sIx n 0 lo:Nat):Int),1,sIx n n hi-sIx n 0 lo) s):wpAny (model prog w) A (Builtin.Slice.sliceApplied (.ref sl) (pure (n:Int))) Q E s:=by
 obtain⟨os,hos,hcs,hds⟩:=id hs;unfold Builtin.Slice.sliceApplied Builtin.Slice.sliceFields;refine a9 (a9 (bS hos hds (x:=vl) rfl (a9 (bS hos hds (x:=vu) rfl (a9 (bS hos hds (x:=.none) rfl (aJ ?_)))))));refine a9 (slicePart_none ?_);show wpAny _ _ (if ((1:Int) == 0)=true then _ else _) _ _ s
 rw[b9 (by decide)]
 refine a9 (a4h pl (a9 (a4h pu (a9 (aJ ?_)))));show wpAny _ _ (match Builtin.Slice.sliceAdjust lo hi 1 (n:Int) with|(lo,hi)=>pure (lo,(1:Int),Builtin.Slice.slicePlaces lo hi 1)) _ _ s
 rw[aa4 lo hi n];show wpAny _ _ (pure (((sIx n 0 lo:Nat):Int),(1:Int),Builtin.Slice.slicePlaces ((sIx n 0 lo:Nat):Int) ((sIx n n hi:Nat):Int) 1)) _ _ s;rw[aa5];exact aJ h
theorem af3(xs:Array Value)(i k:Nat):((List.range k).filterMap λ(m:Nat)=>xs[((i:Int)+(m:Int)*1).toNat]?).toArray=((xs.toList.drop i).take k).toArray:=by
 have e:(λ(m:Nat)=>xs[((i:Int)+(m:Int)*1).toNat]?)=λm=>xs[i+m]?:=by
  funext m
  have:((i:Int)+(m:Int)*1).toNat=i+m:=by omega
  rw[this]
 rw[e];have:=pick_run xs i k;rw[List.filterMap_map]at this;have e2:((λx=>xs[x]?) ∘ λx=>i+x)=λm=>xs[i+m]?:=rfl;rw[e2]at this;rw[this]
theorem a1i{t sl:Addr}{aC:Array Value}{vl vu:Value}{lo hi:Option Int}{Q:Value->Shared->Prop}(ht:IsTup s.heap t aC)(hs:s.heap.IsSliceOf sl vl vu .none)(pl:IsPart vl lo)(pu:IsPart vu hi)
  (hw:¬ (sIx aC.size 0 lo=0/\sIx aC.size aC.size hi=aC.size))
  (h:Q (.ref s.heap.objs.size) {s with heap:=s.heap.push {cls:=.type "tuple",data:=.seq ((aC.toList.drop (sIx aC.size 0 lo)).take (sIx aC.size aC.size hi-sIx aC.size 0 lo)).toArray} })
  (hsz:aC.size<=sizeLine):wpAny (model prog w) A (getItem (.ref t) (.ref sl)) Q E s:=by
 have htake:sizeOk (.seq ((aC.toList.drop (sIx aC.size 0 lo)).take (sIx aC.size aC.size hi-sIx aC.size 0 lo)).toArray):=by
  show((aC.toList.drop (sIx aC.size 0 lo)).take (sIx aC.size aC.size hi-sIx aC.size 0 lo)).toArray.size<=sizeLine;rw[ae,bP,bW,dH];omega
 have hj:sIx aC.size aC.size hi<=aC.size:=abj _ _ (ag _) hi;obtain⟨os,hos,hcs,hds⟩:=id hs;have hTs:s.TypeIs (.ref sl) "slice":=⟨os,hos,hcs⟩;unfold getItem
 try with_reducible refine cw ?_
 first|refine a9 (aJ ?_)|skip
 refine a9 (eH ht.typeIs (by decide) ?_)
 refine a9 (bJ (name:=Str.ofString "__getitem__") ht.typeIs bo
  (cq bo ht.typeIs entry_tuple_getitem ?_ (args_tuple_getitem _ _)))
 show wpAny _ _ (Builtin.Tuple.tupleItemsOf (.ref t)>>=_) _ _ s;refine a9 (tupleItemsOf_ ht ?_);refine a9 (dU hTs ?_);rw[aI (by decide)]
 refine a9 (yr hs pl pu ?_);have hno:¬ ((((sIx aC.size 0 lo:Nat):Int) == 0 && (1:Int) == 1 && (sIx aC.size aC.size hi-sIx aC.size 0 lo) == aC.size)=true):=by
  intro q
  rw[bI,bI]at q;have q1:((sIx aC.size 0 lo:Nat):Int)=0:=eq_of_beq q.1.1;have q2:sIx aC.size aC.size hi-sIx aC.size 0 lo=aC.size:=eq_of_beq q.2;exact hw ⟨by omega,by omega⟩
 show wpAny _ _ (if (((sIx aC.size 0 lo:Nat):Int) == 0 && (1:Int) == 1 && (sIx aC.size aC.size hi-sIx aC.size 0 lo) == aC.size)=true then _ else _) _ _ s
 rw[b9 hno,af3]
 first
  |exact a9 (m:=Builtin.Tuple.tupleExact _) (cc (aJ ⟨_,rfl,aJ h⟩) htake)
  |exact a9 (m:=Builtin.Tuple.tupleExact _) (cc (a9 (aJ (aJ ⟨_,rfl,aJ h⟩))) htake)
  |exact a9 (a9 (m:=Builtin.Tuple.tupleExact _) (cc (aJ (aJ ⟨_,rfl,aJ h⟩)) htake))
  |exact a9 (a9 (m:=Builtin.Tuple.tupleExact _) (cc (aJ ⟨_,rfl,aJ h⟩) htake))
end
end HT
namespace L2
open PyProof.Rows
abbrev TO:=St->Hp->(Option Int->Hp->Prop)->Prop
def PO(X:Cx)(e:Option Expr)(t:TO):Prop :=
 ∀(aA:List (Addr×Obj)) (s:Shared) (σ:St) (H:Hp) (Q:Option Int->Hp->Prop),Inv X aA σ H s->t σ H Q->
  wpAny (model X.prog X.w) X.A (evalPart e X.env) (λu s'=>∃o H',Inv X aA σ H' s'/\IsPart u o/\Q o H') X.xe s
def aiu:TO:=λ_ H Q=>Q none H
def aqz(t:TE):TO:=λσ H Q=>t σ H λx H1=>∃i,x=.int i/\Q (some i) H1
theorem intsAre_of{ns:List Int}:∀{us:List Value},Vals (ns.map V.int) us->IntsAre us ns:=by
 induction ns with
 |nil=>intro us r;rw[dn]at r;cases r;exact .nil
 |cons n ns ih =>
  intro us r
  rw[bg]at r
  cases r with
  |cons r1 r2 =>
   obtain⟨t,e⟩:=r1;subst e;exact .cons n t (ih r2)
section
variable{X:Cx}{e:Expr}{te:TE}{lo hi:Option Expr}{tl th:TO}{pos p2:Pos}
theorem aiv:PO X none aiu:=by
 intro aA s σ H Q I h
 rw[evalPart_none];exact aJ ⟨none,H,I,.none,h⟩
theorem aiw(h:PE X e te):PO X (some e) (aqz te):=by
 intro aA s σ H Q I hw
 rw[evalPart_some];refine thn (h aA s σ H _ I hw) ?_
 rintro u s1 ⟨x,H1,I1,r1,q1⟩
 obtain⟨i,rfl,q⟩:=q1;obtain⟨t,rfl⟩:=r1;exact⟨some i,H1,I1,.int i t,q⟩
def SlR(X:Cx)(r:V->Option Int->Option Int->Hp->VK->Prop):Prop :=
 ∀(aA:List (Addr×Obj)) (s:Shared) (σ:St) (H:Hp) (x:V) (v vl vu:Value) (lo hi:Option Int) (sl:Addr) (Q:VK),Inv X aA σ H s->RelV x v->s.heap.IsSliceOf sl vl vu .none->IsPart vl lo->IsPart vu hi->r x lo hi H Q->
  ∃T id,typeLookup (.type T) "__getitem__" = pure (some (.builtin id))/\s.TypeIs v T/\wpAny (model X.prog X.w) X.A (getItem v (.ref sl)) (EP X aA σ Q) X.xe s
theorem SlR.or(h:SlR X r)(h':SlR X r'):SlR X (λx lo hi H Q=>r x lo hi H Q\/r' x lo hi H Q):=by
 intro aA s σ H x v vl vu lo hi sl Q I rx hs pl pu q
 rcases q with q|q
 ·exact h aA s σ H x v vl vu lo hi sl Q I rx hs pl pu q
 ·exact h' aA s σ H x v vl vu lo hi sl Q I rx hs pl pu q
def tSl(r:V->Option Int->Option Int->Hp->VK->Prop)(te:TE)(tl th:TO):TE:=λσ H Q=>te σ H λx H1=>tl σ H1 λl H2=>th σ H2 λu H3=>r x l u H3 Q
theorem af4(hr:SlR X r)(he:PE X e te)(hl:PO X lo tl)(hu:PO X hi th):PE X (.Subscript e (.Slice lo hi none p2) pos) (tSl r te tl th):=by
 intro aA s σ H Q I h
 refine Subscript_ (thn (he aA s σ H _ I h) λv s1 ⟨x,H1,I1,r1,q1⟩=>?_);refine wpAny_Slice (thn (hl aA s1 σ H1 _ I1 q1) λvl s2 ⟨l,H2,I2,pl,q2⟩=>thn (hu aA s2 σ H2 _ I2 q2) λvu s3 ⟨u,H3,I3,pu,q3⟩=>?_);rw[evalPart_none];refine aJ ?_;have I4:Inv X aA σ H3 {s3 with heap:=s3.heap.push {cls:=.type "slice",data:=.fields #[vl,vu,.none]} }:=I3.kept (t':=s3.toks) λb ob q=>a8 _ q
 obtain⟨T,id,hT,ht,hg⟩:=hr aA {s3 with heap:=s3.heap.push {cls:=.type "slice",data:=.fields #[vl,vu,.none]} } σ H3 x v vl vu l u s3.heap.objs.size Q I4 r1 (Heap.IsSliceOf.new ..) pl pu q3
 show wpAny (model X.prog X.w) X.A (subscriptTail e (.Slice lo hi none p2) v (.ref s3.heap.objs.size)) (EP X aA σ Q) X.xe {s3 with heap:=s3.heap.push {cls:=.type "slice",data:=.fields #[vl,vu,.none]} }
 exact tail_any (ops:=[.ref s3.heap.objs.size,v]) ht hT hg (by with_unfolding_all rfl)
def ah6(xs:List V)(lo hi:Option Int):List V:=(xs.drop (HT.sIx xs.length 0 lo)).take (HT.sIx xs.length xs.length hi-HT.sIx xs.length 0 lo)
theorem a2u(xs:List V)(lo hi:Option Int):(ah6 xs lo hi).length<=xs.length:=by
 unfold ah6;rw[bP,bW];omega
def ar0(K:Fg):V->Option Int->Option Int->Hp->VK->Prop:=λx lo hi H Q=>∃a xs,x=.ref a/\SqT K H a xs /\
 ¬ (HT.sIx xs.length 0 lo=0/\HT.sIx xs.length xs.length hi=xs.length)/\∀p,H p=none->Q (.ref p) (upd H p (.tup (ah6 xs lo hi)))
theorem amm:SlR X (ar0 X.K):=by
 intro aA s σ H x v vl vu lo hi sl Q I rx hs pl pu h
 obtain⟨a,xs,rfl,hx,hw,q⟩:=h;cases rx
 obtain⟨its,r,ht,hz⟩:=I.tuple hx;have aH:its.toArray.size=xs.length:=by rw[ae];exact r.length.symm
 refine⟨"tuple",_,bo.lookup,ht.typeIs,?_⟩;refine HT.a1i ht hs pl pu (by rw[aH];exact hw) ?_ (by rw[aH];exact hz)
 rw[aH];refine⟨.ref s.heap.objs.size,_,I.laid (t':=s.toks) (o:=.tup (ah6 xs lo hi)) (λb ob q=>a8 _ q) (ag _) ?_,rfl,q _ (I.hok.fresh (ag _))⟩;exact⟨bD (a2u xs lo hi) hz,_,(r.drop (HT.sIx xs.length 0 lo)).take (HT.sIx xs.length xs.length hi-HT.sIx xs.length 0 lo),IsTup.new _ _⟩
def amn(K:Fg):R2:=λx y H Q=>∃a b xs ys,x=.ref a/\y=.ref b/\SqT K H a xs/\SqT K H b ys/\xs≠[]/\xs.length+ys.length<=sizeLine /\
 (ys=[]->Q (.ref a) H)/\(ys≠[]->∀p,H p=none->Q (.ref p) (upd H p (.tup (xs++ys))))
theorem Vals.nil_iff(r:Vals xs us):us=[]↔xs=[]:=by
 cases r with
 |nil=>simp
 |cons _ _=>simp
theorem aix:OpR X (binaryOp .Add) (amn X.K):=by
 intro aA s σ H x y v u Q I rx ry h
 obtain⟨a,b,xs,ys,rfl,rfl,ha,hb,hx,hz,q1,q2⟩:=h;cases rx
 cases ry
 obtain⟨its,r1,p1,_⟩:=I.tuple ha;obtain⟨its2,r2,p2,_⟩:=I.tuple hb;refine HT.ait p1 p2 (λz=>hx (r1.nil_iff.mp z)) (λz=>⟨.ref a,H,I,rfl,q1 (r2.nil_iff.mp z)⟩) (λz=>?_) (by rw[<-r1.length,<-r2.length];exact hz)
 refine⟨.ref s.heap.objs.size,_,I.laid (t':=s.toks) (o:=.tup (xs++ys)) (λb ob q=>a8 _ q) (ag _) ?_,rfl,q2 (λw=>z (r2.nil_iff.mpr w)) _ (I.hok.fresh (ag _))⟩;exact⟨by rw[ah];exact hz,_,r1.append r2,IsTup.new _ _⟩
end
def ixN(n:Nat)(i:Int):Option Nat:=if 0<=i then (if i<n then some i.toNat else none) else if -(n:Int)<=i then some (i+n).toNat else none
def atI{α:Type}(xs:List α)(i:Int):Option α:=(ixN xs.length i).bind λj=>xs[j]?
theorem a81(h:ixN n i=some j):seqIndex? i n=some j/\j<n /\ -(n:Int)<=i/\i<n:=by
 unfold ixN at h
 by_cases h0:0<=i
 ·rw[aI h0]at h
  by_cases h1:i<n
  ·rw[aI h1]at h;have e:i.toNat=j:=ba h;exact⟨by rw[fm h0 h1,e],by omega,by omega,h1⟩
  ·rw[b9 h1]at h;cases h
 ·rw[b9 h0]at h
  by_cases h1 : -(n:Int)<=i
  ·rw[aI h1]at h;have e:(i+n).toNat=j:=ba h;exact⟨by rw[eU (by omega) h1,e],by omega,h1,by omega⟩
  ·rw[b9 h1]at h;cases h
theorem a5g{α:Type}{xs:List α}{i:Int}{v:α}(h:atI xs i=some v):∃j,seqIndex? i xs.length=some j/\xs[j]? = some v/\j<xs.length /\ -(xs.length:Int)<=i/\i<xs.length:=by
 unfold atI at h
 cases e:ixN xs.length i with
 |none=>rw[e]at h;cases h
 |some j =>
  rw[e]at h;obtain⟨h1,h2,h3,h4⟩:=a81 e;exact⟨j,h1,h,h2,h3,h4⟩
theorem qw{α:Type}{xs:List α}{j:Nat}{v:α}(h:xs[j]? = some v):atI xs (j:Int)=some v:=by
 have hj:j<xs.length:=(a7.mp h).1;have e:ixN xs.length (j:Int)=some j:=by
  unfold ixN;rw[aI (by omega),aI (by omega)];simp
 unfold atI;rw[e];exact h
def a5h(b:Expr):Prop:=∀o i,subscripted b false o i=operate [o,i] (getItem o i)
def IxR(X:Cx)(r:R2):Prop :=
 ∀(value slice:Expr) (aA:List (Addr×Obj)) (s:Shared) (σ:St) (H:Hp) (x y:V) (v u:Value) (Q:VK),Inv X aA σ H s->RelV x v->RelV y u->r x y H Q->
  subscripted slice false v u=operate [v,u] (getItem v u)->wpAny (model X.prog X.w) X.A (subscriptTail value slice v u) (EP X aA σ Q) X.xe s
def MtR(X:Cx)(id:String)(r:V->List V->Hp->VK->Prop):Prop :=
 ∀(aA:List (Addr×Obj)) (s:Shared) (σ:St) (H:Hp) (x:V) (xs:List V) (v:Value) (us:List Value) (Q:VK),Inv X aA σ H s->RelV x v->Vals xs us->r x xs H Q->
  wpAny (model X.prog X.w) X.A (call (.builtin id) (v::us)) (EP X aA σ Q) X.xe s
section
variable{X:Cx}{a b:Expr}{ta tb:TE}{pos:Pos}
theorem IxR.or(h:IxR X r)(h':IxR X r'):IxR X (λx y H Q=>r x y H Q\/r' x y H Q):=by
 intro value slice aA s σ H x y v u Q I rx ry q hs
 rcases q with q|q
 ·exact h value slice aA s σ H x y v u Q I rx ry q hs
 ·exact h' value slice aA s σ H x y v u Q I rx ry q hs
theorem ar3(hr:IxR X r)(ha:PE X a ta)(hb:PE X b tb)(hs:a5h b):PE X (.Subscript a b pos) (tOp r ta tb):=by
 intro aA s σ H Q I h
 exact Subscript_ (aqr ha hb I h λv u s2 x y H2 I2 rx ry q=>hr a b aA s2 σ H2 x y v u Q I2 rx ry q (hs _ _))
def apx(K:Fg):R2:=λx y H Q=>∃p xs i v,x=.ref p/\y=.int i/\SqL K H p xs/\atI xs i=some v/\Q v H
def as8(K:Fg):R2:=λx y H Q=>∃p xs i v,x=.ref p/\y=.int i/\SqT K H p xs/\atI xs i=some v/\Q v H
def as9:R2:=λx y H Q=>∃z i c,x=.str z/\y=.int i/\z.length<=sizeLine/\atI z.cps.toList i=some c/\Q (.str ⟨#[c]⟩) H
theorem aiy:IxR X (apx X.K):=by
 intro value slice aA s σ H x y v u Q I rx ry h hs
 obtain⟨p,xs,i,z,rfl,rfl,hq,he,q⟩:=h;cases rx
 obtain⟨t,rfl⟩:=ry;obtain⟨its,r,pl,hz⟩:=I.list hq;obtain⟨j,h1,h2,h3,h4,h5⟩:=a5g he;obtain⟨w,ew,rw'⟩:=r.get h2;have hl:=r.length;have hn:=a1u;have fin:EP X aA σ Q w s:=⟨z,H,I,rw',q⟩
 by_cases h0:0<=i
 ·have hj:i.toNat=j:=by
   rw[fm h0 h5]at h1;exact ba h1
  exact item_listR pl.isList h0 (by omega) (by rw[hj];simpa using ew) fin hs
 ·have hj:(i+(its.toArray.size:Int)).toNat=j:=by
   rw[eU (by omega) h4]at h1
   rw[ae,<-hl];exact ba h1
  exact subscriptTail_builtinR (x:=w) pl.isList.typeIs slot_list_getitem.lookup
   (wpAny_getItem_list_neg (Q:=λr s'=>r=w/\EP X aA σ Q r s') pl.isList (by omega) (by rw[ae]<;>omega) (by omega) (by rw[hj];simpa using ew) ⟨rfl,fin⟩) hs
theorem a2v:IxR X (as8 X.K):=by
 intro value slice aA s σ H x y v u Q I rx ry h hs
 obtain⟨p,xs,i,z,rfl,rfl,hq,he,q⟩:=h;cases rx
 obtain⟨t,rfl⟩:=ry;obtain⟨its,r,pl,hz⟩:=I.tuple hq;obtain⟨j,h1,h2,h3,h4,h5⟩:=a5g he;obtain⟨w,ew,rw'⟩:=r.get h2;have hl:=r.length;have hn:=a1u;have fin:EP X aA σ Q w s:=⟨z,H,I,rw',q⟩;exact subscriptTail_builtinR (x:=w) pl.typeIs slot_tuple_getitem.lookup
  (getItem_tuple (j:=j) (Q:=λr s'=>r=w/\EP X aA σ Q r s') pl (by omega) (by omega) (by rw[ae,<-hl];exact h1) (by simpa using ew) ⟨rfl,fin⟩) hs
theorem amo:IxR X as9:=by
 intro value slice aA s σ H x y v u Q I rx ry h hs
 obtain⟨z,i,c,rfl,rfl,hz,he,q⟩:=h;obtain⟨t,rfl⟩:=rx;obtain⟨t',rfl⟩:=ry;obtain⟨j,h1,h2,h3,h4,h5⟩:=a5g he;have hl:z.cps.toList.length=z.length:=by simp[Str.length]
 rw[hl]at h1 h4 h5;have hn:=a1u;exact tail_any (fg s z t) slot_str_getitem.lookup (getItem_str (c:=c) (by
  have e1:decide (i < -(2^63:Int))=false:=b6 (by omega)
  have e2:decide (i≥2^63)=false:=b6 (by omega)
  rw[e1,e2,Bool.or_false]) (by rw[h1];simpa using h2) ⟨.str ⟨#[c]⟩,H,I.tok _,⟨_,rfl⟩,q⟩) hs
def rIx(K:Fg):R2:=λx y H Q=>apx K x y H Q\/as8 K x y H Q\/as9 x y H Q
theorem amq:IxR X (rIx X.K):=aiy.or (a2v.or amo)
theorem aa6(its:List Value)(n j:Nat)(u:Value):Obj.mapSeq (·.setIfInBounds j u) {cls:=.type "list",data:=.seq its.toArray n}={cls:=.type "list",data:=.seq (its.set j u).toArray n}:=by
 simp[Obj.mapSeq]
theorem Inv.lst{aA:List (Addr×Obj)}{σ:St}{H:Hp}{s:Shared}{p:Addr}{xs:List V}(I:Inv X aA σ H s)(h:H p=some (.lst xs)) :
  ∃(its:List Value) (n:Nat),Vals xs its/\s.heap.get? p=some {cls:=.type "list",data:=.seq its.toArray n}/\xs.length<=sizeLine:=by
 obtain⟨z,its,n,r,e⟩:=I.hok p _ h;exact⟨its,n,r,e,z⟩
theorem Inv.lstUpd{its its':List Value}(I:Inv X aA σ H s)(h:H p=some (.lst xs))
  (ho:s.heap.get? p=some {cls:=.type "list",data:=.seq its.toArray n}) (hf:f {cls:=.type "list",data:=.seq its.toArray n}={cls:=.type "list",data:=.seq its'.toArray n' }) (r:Vals ys its') (hz:ys.length<=sizeLine) (t:Nat) :
  Inv X aA σ (upd H p (.lst ys)) {s with heap:=s.heap.update p f,toks:=t}:=by
 have e:(s.heap.update p f).get? p=some {cls:=.type "list",data:=.seq its'.toArray n' }:=by
  rw[Heap.get?_update_self f ho (by rw[hf]<;>rfl),hf]
 refine I.write (x:=p) (e:=p) (by rw[h];trivial) (.inl rfl) (λb u hb q=>(de _ _ (eK hb)).trans q) ⟨_,e⟩ ?_
 exact⟨hz,its',n',r,e⟩
def amr:V->V->V->Hp->(Hp->Prop)->Prop:=λo i v H Q=>∃p xs k j,o=.ref p/\i=.int k/\H p=some (.lst xs)/\ixN xs.length k=some j/\Q (upd H p (.lst (xs.set j v)))
theorem set_list:aql X amr:=by
 intro aA s σ H o i v ov iv u Q I ro ri rv h
 obtain⟨p,xs,k,j,rfl,rfl,hp,hj,q⟩:=h;cases ro
 obtain⟨t,rfl⟩:=ri;obtain⟨its,n,r,ho,hz⟩:=I.lst hp;obtain⟨h1,h2,h3,h4⟩:=a81 hj;have hl:=r.length;have hn:=a1u;have I':Inv X aA σ (upd H p (.lst (xs.set j v))) {s with heap:=s.heap.update p (Obj.mapSeq (·.setIfInBounds j u))} :=
  I.lstUpd hp ho (aa6 its n j u) (r.set rv j) (by rw[eV];exact hz) s.toks
 by_cases h0:0<=k
 ·have hk:k.toNat=j:=by
   rw[fm h0 h4]at h1;exact ba h1
  exact PySem.W.ki_setAt ho h0 (by omega) (by rw[ae,<-hl];exact h4) (by rw[hk];exact⟨_,I',q⟩)
 ·have hk:(k+(its.toArray.size:Int)).toNat=j:=by
   rw[eU (by omega) h3]at h1
   rw[ae,<-hl];exact ba h1
  exact PySem.W.ki_setBack ho (by omega) (by rw[ae,<-hl];exact h3) (by omega) (by rw[hk];exact⟨_,I',q⟩)
theorem a70(lo hi:Option Int)(n:Nat):(sliceBounds lo hi none n).1=((HT.sIx n 0 lo:Nat):Int)/\(sliceBounds lo hi none n).2.1=((HT.sIx n n hi:Nat):Int)/\(sliceBounds lo hi none n).2.2=1:=by
 refine⟨?_,?_,rfl⟩
 ·cases lo with
  |none=>simp[sliceBounds,HT.sIx]
  |some i =>
   simp only[sliceBounds,HT.sIx,eS,show(1:Int) > 0 by decide,cQ]
   by_cases h:i<0
   ·simp only[h,cQ]<;>omega
   ·simp only[h,dD]<;>omega
 ·cases hi with
  |none=>simp[sliceBounds,HT.sIx]
  |some i =>
   simp only[sliceBounds,HT.sIx,eS,show(1:Int) > 0 by decide,cQ]
   by_cases h:i<0
   ·simp only[h,cQ]<;>omega
   ·simp only[h,dD]<;>omega
theorem a5i(its:List Value)(lo hi:Option Int):slicePick its.toArray lo hi none=((its.drop (HT.sIx its.length 0 lo)).take (HT.sIx its.length its.length hi-HT.sIx its.length 0 lo)).toArray:=by
 obtain⟨h1,h2,h3⟩:=a70 lo hi its.toArray.size;unfold slicePick;rw[h1,h2,h3];simp only[sliceRange_one,pick_run,ae]<;>rfl
def ar4(K:Fg):V->Option Int->Option Int->Hp->VK->Prop:=λx lo hi H Q=>∃a xs,x=.ref a/\SqL K H a xs/\∀p,H p=none->Q (.ref p) (upd H p (.lst (ah6 xs lo hi)))
theorem aiz:SlR X (ar4 X.K):=by
 intro aA s σ H x v vl vu lo hi sl Q I rx hs pl pu h
 obtain⟨a,xs,rfl,hx,q⟩:=h;cases rx
 obtain⟨its,r,ht,hz⟩:=I.list hx;have aH:=r.length;refine⟨"list",_,slot_list_getitem.lookup,ht.isList.typeIs,?_⟩;refine wpAny_getItem_list_slice ht.isList hs pl pu .none (by simp) ?_ (by rw[ae]<;>omega)
 rw[a5i,<-aH];refine⟨.ref s.heap.objs.size,_,I.laid (t':=s.toks) (o:=.lst (ah6 xs lo hi)) (λb ob q=>a8 _ q) (ag _) ?_,rfl,q _ (I.hok.fresh (ag _))⟩;exact⟨bD (a2u xs lo hi) hz,_,0,(r.drop (HT.sIx xs.length 0 lo)).take (HT.sIx xs.length xs.length hi-HT.sIx xs.length 0 lo),aN _ rfl⟩
def a0g:V->Bool
 |.non=>true
 |.bl _=>true
 |.int _=>true
 |.str _=>true
 |_=>false
def eqV:V->V->Bool
 |.non,.non=>true
 |.bl a,.bl b=>a == b
 |.bl a,.int b=>(if a then 1 else 0) == b
 |.int a,.bl b=>a == (if b then 1 else 0)
 |.int a,.int b=>a == b
 |.str a,.str b=>a == b
 |_,_=>false
theorem abl(ry:RelV y u)(rx:RelV x v)(fy:a0g y=true)(fx:a0g x=true):SeqAt.EqAt A s u v (eqV y x):=by
 cases y with
 |non =>
  cases ry
  cases x with
  |non=>cases rx;exact SeqAt.EqAt.same _
  |bl b=>cases rx;exact SeqAt.EqAt.none_bool b
  |int b=>obtain⟨t,rfl⟩:=rx;exact SeqAt.EqAt.none_int b t
  |str b=>obtain⟨t,rfl⟩:=rx;exact SeqAt.EqAt.none_str b t
  |_=>exact absurd (show false=true from fx) aV
 |bl a =>
  cases ry
  cases x with
  |non=>cases rx;exact SeqAt.EqAt.bool_none a
  |bl b=>cases rx;exact SeqAt.EqAt.bool_bool a b
  |int b=>obtain⟨t,rfl⟩:=rx;exact SeqAt.EqAt.bool_int a b t
  |str b=>obtain⟨t,rfl⟩:=rx;exact SeqAt.EqAt.bool_str a b t
  |_=>exact absurd (show false=true from fx) aV
 |int a =>
  obtain⟨t',rfl⟩:=ry
  cases x with
  |non=>cases rx;exact SeqAt.EqAt.int_none a t'
  |bl b=>cases rx;exact SeqAt.EqAt.int_bool a t' b
  |int b=>obtain⟨t,rfl⟩:=rx;exact SeqAt.EqAt.int_int a t' b t
  |str b=>obtain⟨t,rfl⟩:=rx;exact SeqAt.EqAt.int_str a t' b t
  |_=>exact absurd (show false=true from fx) aV
 |str a =>
  obtain⟨t',rfl⟩:=ry
  cases x with
  |non=>cases rx;exact SeqAt.EqAt.str_none a t'
  |bl b=>cases rx;exact SeqAt.EqAt.str_bool a t' b
  |int b=>obtain⟨t,rfl⟩:=rx;exact SeqAt.EqAt.str_int a t' b t
  |str b=>obtain⟨t,rfl⟩:=rx;exact SeqAt.EqAt.str_str a t' b t
  |_=>exact absurd (show false=true from fx) aV
 |_=>exact absurd (show false=true from fy) aV
def eqU(x:V)(u:Value):Bool:=match u with
 |.none=>eqV .non x
 |.bool b=>eqV (.bl b) x
 |.int i _=>eqV (.int i) x
 |.str z _=>eqV (.str z) x
 |_=>false
theorem ah7(r:RelV y u)(f:a0g y=true):eqU x u=eqV y x:=by
 cases y with
 |non=>cases r;rfl
 |bl b=>cases r;rfl
 |int i=>obtain⟨t,rfl⟩:=r;rfl
 |str z=>obtain⟨t,rfl⟩:=r;rfl
 |_=>exact absurd (show false=true from f) aV
theorem a2w:∀{xs:List V} {us:List Value},Vals xs us->xs.all a0g=true->us.any (eqU x)=xs.any λy=>eqV y x
 |_,_,.nil,_=>rfl
 |y::xs,u::us,.cons r t,f=>by
  rw[cA,bI]at f;rw[eM,eM,ah7 r f.1,a2w t f.2]
theorem a0r(rx:RelV x v)(fx:a0g x=true):∀{xs:List V} {us:List Value},Vals xs us->xs.all a0g=true->∀u∈us,SeqAt.EqAt A s u v (eqU x u)
 |_,_,.nil,_=>λu hu=>by cases hu
 |y::xs,u::us,.cons r t,f=>λu' hu=>by
  rw[cA,bI]at f
  rcases ar.mp hu with rfl|hu
  ·rw[ah7 r f.1];exact abl r rx f.1 fx
  ·exact a0r rx fx t f.2 u' hu
def inV(x:V)(xs:List V):Bool:=xs.any λy=>eqV y x
def rIn(K:Fg)(neg:Bool):R2:=λx y H Q=>∃p xs,y=.ref p/\(SqL K H p xs\/SqT K H p xs)/\a0g x=true/\xs.all a0g=true/\Q (.bl (if neg then !inV x xs else inV x xs)) H
theorem abm:OpR X (compareOp .In) (rIn X.K false):=by
 intro aA s σ H x y v u Q I rx ry h
 obtain⟨p,xs,rfl,hq,fx,fs,q⟩:=h;cases ry
 rcases hq with hq|hq
 ·obtain⟨its,r,pl,hz⟩:=I.list hq;refine SeqAt.in_listAt (eqU x) pl.isList (λw hw=>a0r rx fx r fs w (by simpa using hw)) ⟨.bl _,H,I,rfl,?_⟩
  rw[show its.toArray.any (eqU x)=its.any (eqU x) by simp,a2w r fs]
  exact q
 ·obtain⟨its,r,pl,hz⟩:=I.tuple hq;refine SeqAt.in_tupleAt (eqU x) pl (λw hw=>a0r rx fx r fs w (by simpa using hw)) ⟨.bl _,H,I,rfl,?_⟩
  rw[show its.toArray.any (eqU x)=its.any (eqU x) by simp,a2w r fs]
  exact q
theorem a71:OpR X (compareOp .NotIn) (rIn X.K true):=by
 intro aA s σ H x y v u Q I rx ry h
 obtain⟨p,xs,rfl,hq,fx,fs,q⟩:=h;cases ry
 rcases hq with hq|hq
 ·obtain⟨its,r,pl,hz⟩:=I.list hq;refine SeqAt.notIn_listAt (eqU x) pl.isList (λw hw=>a0r rx fx r fs w (by simpa using hw)) ⟨.bl _,H,I,rfl,?_⟩
  rw[show its.toArray.any (eqU x)=its.any (eqU x) by simp,a2w r fs]
  exact q
 ·obtain⟨its,r,pl,hz⟩:=I.tuple hq;refine SeqAt.notIn_tupleAt (eqU x) pl (λw hw=>a0r rx fx r fs w (by simpa using hw)) ⟨.bl _,H,I,rfl,?_⟩
  rw[show its.toArray.any (eqU x)=its.any (eqU x) by simp,a2w r fs]
  exact q
theorem a72:CallR X (.builtin "len") (λxs H Q=>∃p ys,xs=[.ref p]/\(SqL X.K H p ys\/SqT X.K H p ys)/\Q (.int ys.length) H):=by
 intro aA s σ H xs us Q I r h
 obtain⟨p,ys,rfl,hq,q⟩:=h;obtain⟨u,rfl,rx⟩:=vals1 r;cases rx
 have hn:=a1u
 rcases hq with hq|hq
 ·obtain⟨its,r',pl,hz⟩:=I.list hq;have aH:=r'.length;exact Calls.call_len_list pl.isList (by simp only[ae]<;>omega) ⟨.int ys.length,H,I.tok _,⟨s.toks+1,by rw[ae,aH]⟩,q⟩
 ·obtain⟨its,r',pl,hz⟩:=I.tuple hq;have aH:=r'.length;exact len_tuple pl (by simp only[ae]<;>omega) ⟨.int ys.length,H,I.tok _,⟨s.toks+1,by rw[ae,aH]⟩,q⟩
theorem a73:CallR X (.builtin "len") (λxs H Q=>∃z,xs=[.str z]/\z.length<=sizeLine/\Q (.int z.length) H):=by
 intro aA s σ H xs us Q I r h
 obtain⟨z,rfl,hz,q⟩:=h;obtain⟨u,rfl,t,rfl⟩:=vals1 r;have hn:=a1u;exact len_str (by omega) ⟨.int z.length,H,I.tok _,⟨_,rfl⟩,q⟩
theorem CallR.or(h:CallR X f r)(h':CallR X f r'):CallR X f (λxs H Q=>r xs H Q\/r' xs H Q):=by
 intro aA s σ H xs us Q I rs q
 rcases q with q|q
 ·exact h aA s σ H xs us Q I rs q
 ·exact h' aA s σ H xs us Q I rs q
theorem uf:CallR X (.type "list") (λxs H Q=>∃p ys,xs=[.ref p]/\(SqL X.K H p ys\/SqT X.K H p ys)/\∀l,H l=none->Q (.ref l) (upd H l (.lst ys))):=by
 intro aA s σ H xs us Q I r h
 obtain⟨p,ys,rfl,hq,q⟩:=h;obtain⟨u,rfl,rx⟩:=vals1 r;cases rx
 have fin:∀(its:List Value),Vals ys its->ys.length<=sizeLine->∀(h':Heap) (c':Nat),(∀b o',s.heap.get? b=some o'->h'.get? b=some o')->
   h'.get? s.heap.objs.size=some {cls:=.type "list",dict:=none,data:=.seq its.toArray c',slots := #[]}->EP X aA σ Q (.ref s.heap.objs.size) {s with heap:=h' }:=λits r' hz h' c' kp e =>
  ⟨.ref s.heap.objs.size,_,I.laid (t':=s.toks) kp (ag _) (show ObjOk X.prog X.w _ h' _ (.lst ys) from ⟨hz,its,c',r',e⟩),rfl,q _ (I.hok.fresh (ag _))⟩
 rcases hq with hq|hq
 ·obtain⟨its,r',pl,hz⟩:=I.list hq;have aH:=r'.length;obtain⟨o,ho,hc,n,hd⟩:=pl.isList;exact call_list_seq p (.inl rfl) ho hc hd (λh' c' kp e=>fin its r' hz h' c' kp e) (by simp only[ae]<;>omega)
 ·obtain⟨its,r',pl,hz⟩:=I.tuple hq;have aH:=r'.length;obtain⟨o,ho,hc,n,hd⟩:=pl;exact call_list_seq p (.inr rfl) ho hc hd (λh' c' kp e=>fin its r' hz h' c' kp e) (by simp only[ae]<;>omega)
theorem mq:CallR X (.type "tuple") (λxs H Q=>∃p ys,xs=[.ref p]/\((SqL X.K H p ys/\∀l,H l=none->Q (.ref l) (upd H l (.tup ys)))\/(SqT X.K H p ys/\Q (.ref p) H))):=by
 intro aA s σ H xs us Q I r h
 obtain⟨p,ys,rfl,h⟩:=h;obtain⟨u,rfl,rx⟩:=vals1 r;cases rx
 rcases h with⟨hq,q⟩|⟨hq,q⟩
 ·obtain⟨its,r',pl,hz⟩:=I.list hq;have aH:=r'.length;refine call_tuple_list pl.isList (λh' kp=>?_) (by simp only[ae]<;>omega)
  have I1:Inv X aA σ H {s with heap:=h' }:=I.kept (t':=s.toks) kp
  have I2:Inv X aA σ (upd H h'.objs.size (.tup ys)) {s with heap:=h'.push {cls:=.type "tuple",data:=.seq its.toArray} } :=
   I1.laid (t':=s.toks) (λb o e=>a8 _ e) (ag _) (show ObjOk X.prog X.w _ _ _ (.tup ys) from ⟨hz,its,r',IsTup.new _ _⟩)
  exact⟨.ref h'.objs.size,_,I2,rfl,q _ (I1.hok.fresh (ag _))⟩
 ·obtain⟨its,r',pl,hz⟩:=I.tuple hq;exact call_tuple_same pl ⟨.ref p,H,I,rfl,q⟩
def tyV(K:Fg)(T:String)(x:V)(H:Hp):Prop:=match x with
 |.str _=>T = "str"
 |.int _=>T = "int"
 | .ref p=>(T = "list"/\∃xs,SqL K H p xs)\/(T = "tuple"/\∃o,K.lookup p=some o/\o.cls=.type "tuple"/\o.dict=none) \/
   (T = "dict"/\((∃kvs,H p=some (.dK kvs))\/∃kvs,H p=some (.dT kvs)))\/(T = "set"/\∃S n,H p=some (.set S n))
 |_=>False
theorem ah8(I:Inv X aA σ H s)(r:RelV x v)(ty:tyV X.K T x H) :
  s.TypeIs v T/\∀a,v=.ref a->∃ob,s.heap.get? a=some ob/\ob.dict=none:=by
 cases x with
 |str z =>
  obtain⟨t,rfl⟩:=r
  cases (show T = "str" from ty)
  exact⟨fg s z t,λ_ e=>nomatch e⟩
 |int i =>
  obtain⟨t,rfl⟩:=r
  cases (show T = "int" from ty)
  exact⟨typeIs_int s i t,λ_ e=>nomatch e⟩
 |ref p =>
  cases r
  rcases ty with⟨rfl,xs,hq⟩|⟨rfl,o,hk,hc,hd⟩|⟨rfl,hk⟩|⟨rfl,S,n,hk⟩
  ·obtain⟨its,_,pl,_⟩:=I.list hq;refine⟨pl.isList.typeIs,λa e=>?_⟩;cases e
   obtain⟨o,n,e,c,hd,_⟩:=pl;exact⟨o,e,hd⟩
  ·refine⟨⟨o,I.kIn p o hk,hc⟩,λa e=>?_⟩;cases e
   exact⟨o,I.kIn _ o hk,hd⟩
  ·have z:∃o,s.heap.get? p=some o/\o.ExactDict:=by
    rcases hk with⟨kvs,hk⟩|⟨kvs,hk⟩
    ·obtain⟨_,_,_,_,o,_,_,e,ex,_⟩:=I.hok p _ hk;exact⟨o,e,ex⟩
    ·obtain⟨_,_,_,_,o,_,_,e,ex,_⟩:=I.hok p _ hk;exact⟨o,e,ex⟩
   obtain⟨o,e,ex⟩:=z;refine⟨⟨o,e,ex.1⟩,λa e2=>?_⟩;cases e2
   exact⟨o,e,ex.2.1⟩
  ·obtain⟨o,_,_,_,e,ex,_⟩:=I.hok p _ hk;refine⟨⟨o,e,ex.1⟩,λa e2=>?_⟩;cases e2
   exact⟨o,e,ex.2.1⟩
 |_=>exact False.elim ty
def tBM(K:Fg)(T:String)(r:V->List V->Hp->VK->Prop)(to:TE)(t:TA):TE:=λσ H Q=>to σ H λx H1=>tyV K T x H1/\t σ H1 λxs H2=>r x xs H2 Q
variable{o e:Expr}{es:List Expr}{to:TE}{t:TA}{name:Str}{apos cpos:Pos}{T id:String}{r:V->List V->Hp->VK->Prop}
theorem ar5(pa:PlainAttrs T)(slot:Slot T name id)(hty:typeOf (.builtin id)=pure (.type "method_descriptor"))(hm:MtR X id r)(ho:PE X o to)(ha:PA X (e::es) t)
  (hbase:attributeBase o name X.env (eval o X.env)=eval o X.env:=by rfl)
  (hfew:((backTo cpos (starEach (e::es) X.env)).all (λx => !x.1) && (backToKw cpos (keywordEach [] X.env)).all (λx=>x.1.isSome)
   && decide ((e::es).length+([]:List Keyword).length+(if ([]:List Keyword).isEmpty then 0 else 1)<30))=true:=by rfl)
  (hline:(apos.endLine == cpos.line)=true:=by rfl) (hs:starEach (e::es) X.env=(false,eval e X.env)::starEach es X.env:=by rfl) (hplain:(backTo cpos (starEach es X.env)).any (·.1)=false:=by rfl) :
  PE X (.Call (.Attribute o name apos) (e::es) [] cpos) (tBM X.K T r to t):=by
 intro aA s σ H Q I h
 refine wpAny_Call_method_late hbase hfew hline rfl (thn (ho aA s σ H _ I h) λv s1 ⟨x,H1,I1,r1,ty,q1⟩=>?_);obtain⟨h1,h2⟩:=ah8 I1 r1 ty;refine⟨T,id,pa,slot,hty,h1,h2,?_⟩;have hA:=ha cpos aA s1 σ H1 _ I1 q1;rw[hs]at hA ⊢;refine Calls.callWith_builtin (by show(false || (backTo cpos (starEach es X.env)).any (·.1))=false;rw[hplain]<;>rfl) (Calls.evalArgs_plain ?_)
 exact thn hA λus s2 ⟨vs,H2,I2,r2,q2⟩=>hm aA s2 σ H2 x vs v us Q I2 r1 r2 q2
end
def MtM(X:Cx)(id:String)(r:V->List V->Hp->VK->Prop):Prop :=
 ∀(aA:List (Addr×Obj)) (s:Shared) (σ:St) (H:Hp) (x:V) (xs:List V) (v:Value) (us:List Value) (Q:VK),Inv X aA σ H s->RelV x v->Vals xs us->r x xs H Q->
  wpAny (model X.prog X.w) X.A (call (.builtin id) (v::us)) (EP X aA σ Q) X.xe s
theorem Vals.one:∀{x:V} {us:List Value},Vals [x] us->∃u,us=[u]/\RelV x u
 |_,_,.cons r .nil=>⟨_,rfl,r⟩
theorem Vals.two:∀{x y:V} {us:List Value},Vals [x,y] us->∃u v,us=[u,v]/\RelV x u/\RelV y v
 |_,_,_,.cons r (.cons q .nil)=>⟨_,_,rfl,r,q⟩
theorem Vals.zero:∀{us:List Value},Vals [] us->us=[]
 |_,.nil=>rfl
theorem Vals.eraseIdx:∀{xs:List V} {us:List Value} (i:Nat),Vals xs us->Vals (xs.eraseIdx i) (us.eraseIdx i)
 |_,_,_,.nil=>.nil
 |_,_,0,.cons _ t=>t
 |_,_,i+1,.cons r t=>.cons r (Vals.eraseIdx i t)
theorem Vals.reverse(h:Vals xs us):Vals xs.reverse us.reverse:=by
 induction h with
 |nil=>exact .nil
 |cons r t ih=>rw[List.reverse_cons,List.reverse_cons];exact Vals.append ih (.cons r .nil)
theorem Vals.rep(h:Vals xs us):∀k:Nat,Vals (List.replicate k xs).flatten (List.replicate k us).flatten
 |0=>.nil
 |k+1=>by
  rw[bT,bT,cK,cK];exact Vals.append h (Vals.rep h k)
theorem a74{α:Type}:∀(l:List α) (i:Nat),(l.eraseIdx i).length<=l.length
 |[],_=>ag _
 |_::_,0=>eN _
 |_::r,i+1=>Nat.succ_le_succ (a74 r i)
theorem foldl_rep(its:List Value):∀(k:Nat) (acc:List Value),
  List.foldl (λx1 x2=>x1++x2) acc.toArray (List.replicate k its.toArray)=(acc++(List.replicate k its).flatten).toArray
 |0,acc=>by simp
 |k+1,acc=>by
  have e:acc.toArray++its.toArray=(acc++its).toArray:=by simp
  have e2:(acc++its)++(List.replicate k its).flatten=acc++(List.replicate (k+1) its).flatten:=by
   rw[bT,cK,eI]
  rw[<-e2,<-foldl_rep its k (acc++its),<-e,bT,List.foldl_cons]
section
variable{X:Cx}{aA:List (Addr×Obj)}{σ:St}{H:Hp}{s:Shared}{l b:Addr}{xs ys zs:List V}
theorem Inv.lset{its its':List Value}(I:Inv X aA σ H s)(hH:H l=some (.lst xs))
  (e:s.heap.get? l=some {cls:=.type "list",data:=.seq its.toArray n}) (hf:f its.toArray=its'.toArray) (hv:Vals ys its') (hz:ys.length<=sizeLine) :
  Inv X aA σ (upd H l (.lst ys)) {s with heap:=s.heap.update l (Obj.mapSeq f),toks:=t' }:=by
 have q:=PySem.IsL.update e f;rw[hf]at q;refine I.write (x:=l) (e:=l) (by rw[hH];exact trivial) (.inl rfl) (λb' u hb hu=>(de s.heap (Obj.mapSeq f) (eK hb)).trans hu) ⟨_,q⟩ ?_
 exact⟨hz,its',_,hv,q⟩
theorem Inv.lnew(I:Inv X aA σ H s)(hv:Vals ys its)(hz:ys.length<=sizeLine) :
  Inv X aA σ (upd H s.heap.objs.size (.lst ys)) {s with heap:=s.heap.push {cls:=.type "list",data:=.seq its.toArray},toks:=t' } :=
 I.laid (λ_ _ q=>a8 _ q) (ag _) ⟨hz,its,0,hv,aN _ rfl⟩
theorem Inv.fresh(I:Inv X aA σ H s):H s.heap.objs.size=none:=I.hok.fresh (ag _)
theorem Inv.lstM(I:Inv X aA σ H s)(hH:H l=some (.lst xs)):xs.length<=sizeLine/\∃(its:List Value) (n:Nat),Vals xs its/\xs.length=its.length/\s.heap.get? l=some {cls:=.type "list",data:=.seq its.toArray n}:=by
 obtain⟨z,its,n,r,e⟩:=I.hok l _ hH;exact⟨z,its,n,r,r.length,e⟩
theorem a5j(h:n<=sizeLine):Builtin.List.listTooLong n=false:=by
 unfold Builtin.List.listTooLong;exact b6 (by omega)
end
section
variable{X:Cx}
def abn:V->List V->Hp->VK->Prop:=λx vs H Q=>∃l xs y,x=.ref l/\vs=[y]/\H l=some (.lst xs)/\xs.length<sizeLine/\Q .non (upd H l (.lst (xs++[y])))
theorem xg:MtM X "list.append" abn:=by
 intro aA s σ H x vs v us Q I rx rv h
 obtain⟨l,xs,y,rfl,rfl,hH,hz,q⟩:=h;cases rx
 obtain⟨u,rfl,ru⟩:=rv.one;obtain⟨z,its,n,r,hl,e⟩:=I.lstM hH;refine cZ F.slot_list_append ⟨_,e,rfl⟩ F.entry_list_append (F.args_list_append_2 _ _) (PySem.list_append l its.toArray n u (by rw[ae];omega)) ⟨e,?_⟩
 refine⟨.non,_,I.lset (its':=its++[u]) hH e (by simp) (r.append (.cons ru .nil)) ?_,rfl,q⟩
 rw[ah,ay];omega
def ah9:V->List V->Hp->VK->Prop:=λx vs H Q=>∃l xs i k y,x=.ref l/\vs=[.int i]/\H l=some (.lst xs) /\ -(2^63)<=i/\i<2^63/\seqIndex? i xs.length=some k/\xs[k]? = some y/\Q y (upd H l (.lst (xs.eraseIdx k)))
theorem af5:MtM X "list.pop" ah9:=by
 intro aA s σ H x vs v us Q I rx rv h
 obtain⟨l,xs,i,k,y,rfl,rfl,hH,h1,h2,hk,hy,q⟩:=h;cases rx
 obtain⟨u,rfl,ru⟩:=rv.one;obtain⟨t,rfl⟩:=ru;obtain⟨z,its,n,r,hl,e⟩:=I.lstM hH;obtain⟨w,hw,rw'⟩:=r.get hy;refine cZ F.slot_list_pop ⟨_,e,rfl⟩ F.entry_list_pop (F.args_list_pop_2 _ _)
  (MeetsSeq.list_pop_at l its.toArray n i t k w (fitsIndex_both h1 h2) (by rw[ae,<-hl];exact hk) (by rw[<-Array.getElem?_toList];exact hw) (by rw[ae];omega)) ⟨e,?_⟩
 refine⟨y,_,I.lset (its':=its.eraseIdx k) hH e ?_ (r.eraseIdx k) ?_,rw',q⟩
 ·show its.toArray.eraseIdxIfInBounds k=(its.eraseIdx k).toArray;rw[List.eraseIdxIfInBounds_toArray]
 ·have:=a74 xs k
  omega
theorem len_rep{α:Type}(xs:List α)(k:Nat):(List.replicate k xs).flatten.length=k*xs.length:=by
 induction k with
 |zero=>simp
 |succ k ih=>rw[bT,cK,ah,ih,Nat.succ_mul,Nat.add_comm]
end
section
variable{prog:Program}{w:World}{A:Around}{E:Value->Shared->Prop}{s:Shared}
theorem abo(its its2:List Value)(a c:Nat):its.toArray.extract 0 a++its2.toArray++its.toArray.extract c its.toArray.size=(its.take a++its2++its.drop c).toArray:=by
 apply Array.toList_inj.mp
 first
  | (simp
     exact aZ (by simp))
  |simp[aZ]
  |simp
theorem aa7{a c n:Nat}(hac:a<=c)(hc:c<=n):sliceBounds (some (a:Int)) (some (c:Int)) none n=((a:Int),(c:Int),1):=by
 simp only[sliceBounds,eS];have h1:¬ ((a:Int)<0):=by omega
 have h2:¬ ((c:Int)<0):=by omega
 simp only[h1,h2,dD,show(1:Int) > 0 by decide,cQ]
 congr 1
 ·omega
 ·congr 1;omega
set_option maxRecDepth 100000 in
theorem a5k{aC new:Array Value}{n n2:Nat}{a c:Nat}
  (e:s.heap.get? l=some {cls:=.type "list",data:=.seq aC n}) (e2:s.heap.get? b=some {cls:=.type "list",data:=.seq new n2}) (hne:l≠b)
  (hs:s.heap.IsSliceOf sl vl vu .none) (pl:IsPart vl (some (a:Int))) (pu:IsPart vu (some (c:Int))) (hac:a<=c) (hc:c<=aC.size)
  (hsz:aC.size+new.size<=sizeLine) (h:Q () {s with heap:=s.heap.update l (Obj.mapSeq λxs=>xs.extract 0 a++new++xs.extract c xs.size)}) :
  wpAny (model prog w) A (setItem (.ref l) (.ref sl) (.ref b)) Q E s:=by
 have hl:s.heap.IsList l aC:=cO e;have hb:s.heap.IsList b new:=cO e2;obtain⟨os,hos,hcs,hds⟩:=id hs;have hTs:s.TypeIs (.ref sl) "slice":=⟨os,hos,hcs⟩;have hstep:¬ ((rawPart none == rawInt 0)=true):=aV;have hsame:Builtin.List.listSameRef (.ref l) (.ref b)=false:=by
  unfold Builtin.List.listSameRef;exact bt.mpr hne
 have hmax:(max (a:Int) (c:Int)).toNat=c:=by omega
 have hz':((λxs:Array Value=>xs.extract 0 a++new++xs.extract c xs.size) aC).size<=sizeLine+1:=by
  simp only[Array.size_append,Array.size_extract];omega
 unfold setItem
 try with_reducible refine cw ?_
 first|refine a9 (aJ ?_)|skip
 refine a9 (eH hl.typeIs (by decide) ?_)
 refine a9 (bJ (name:=Str.ofString "__setitem__") hl.typeIs slot_list_setitem
  (cq slot_list_setitem hl.typeIs entry_list_setitem ?_ (args_list_setitem _ _ _)))
 show wpAny _ _ (Builtin.List.listSubscript? (.ref sl)>>=_) _ _ s;refine a9 ?_;unfold Builtin.List.listSubscript?;refine a9 (wpAny_specialOf hTs slice_no_index ?_);simp only[Option.isNone_none,cQ];refine aJ ?_;show wpAny _ _ (typeOf (.ref sl)>>=_) _ _ s;refine a9 (dU hTs ?_)
 first
  |rw[b9 (by decide)]
  |refine dW (by decide) ?_
 rw[listSliceParts_eq];refine a9 (a9 (bS hos hds (x:=.none) rfl (a9 (wpAny_listPart .none ?_))));rw[b9 hstep];refine a9 (bS hos hds (x:=vl) rfl (a9 (wpAny_listPart pl ?_)));refine a9 (bS hos hds (x:=vu) rfl (a9 (wpAny_listPart pu (aJ ?_))))
 first
  |simp only[hsame,cB,dD]
  |refine dW hsame ?_
  | (dsimp only
     rw[b9 (by rw[hsame];exact aV)])
 refine a9 (m:=Builtin.List.listAllItems (.ref b) "must assign iterable to extended slice") ?_;unfold Builtin.List.listAllItems;refine a9 (dU hb.typeIs ?_)
 first
  |refine PySem.W.KFB.if_so (by decide) ?_
  |rw[aI (by decide)]
  |simp only[bX,Bool.true_or,cQ]
 unfold Builtin.List.listItems;refine a9 (cE e2 rfl (aJ ?_));refine a9 (a9 (cE e rfl (aJ ?_)));refine a9 (wpAny_of_eq ((sliceIndices_raw (some (a:Int)) (some (c:Int)) none aC.size (by simp)).trans (aK (pure:Int×Int×Int->Sem (Int×Int×Int)) (aa7 hac hc))) ?_)
 show wpAny _ _ (if ((1:Int) == 1)=true then _ else _) _ _ s
 rw[aI (by decide)]
 refine a9 (wpAny_rule ?_)
 first
  |simp only[a5j hsz,cB,dD]
  |refine dW (a5j hsz) ?_
 first|refine a9 (aJ ?_)|skip
 show wpAny _ _ (updateSeq l (λxs=>xs.extract 0 ((a:Int)).toNat++new++xs.extract (max (a:Int) (c:Int)).toNat xs.size)>>=_) _ _ s;rw[hmax,cW];refine a9 (wpAny_updateSeq (hz:=bD (Nat.le_add_right _ _) hsz) (_hz':=hz') e rfl ?_);refine a9 (wpAny_letGo ?_)
 first
  |exact a9 (aJ (aJ ⟨.none,rfl,aJ h⟩))
  |exact aJ ⟨.none,rfl,aJ h⟩
end
end L2
namespace Att
open PySem.W PySem.Calls PyProof.Rows
theorem a2x:∀(ns:List Int) (vs:List Value),WellAll P h vs (ns.map WData.int)->IntsAre vs ns:=by
 intro ns
 induction ns with
 |nil =>
  intro vs w
  rw[dn]at w;cases w
  exact .nil
 |cons n ns ih =>
  intro vs w
  rw[bg]at w
  cases w with
  |cons a b =>
   cases a
   exact .cons _ _ (ih _ b)
theorem abp{l:OpenLaw}(hn:l.most=some n)
  (hpre:l.row.toRowW.claim.pre args=true) (hwl:WellAll P h vals args) :
  ∃a vs ns,vals=[Value.ref a]/\args=[WData.list (ns.map WData.int)]/\h.get? a=some {cls:=.type "list",data:=.seq vs.toArray}/\IntsAre vs ns/\ns.length<=n:=by
 have hsh:WShape.hasAll [] args [.list .int]=true:=(pre_splitW hpre).1;have hc:l.pre.holds [] {args:=args}=true:=(pre_splitW hpre).2;obtain⟨d,r,rfl,h1,h2⟩:=hasAllW_cons hsh;obtain rfl:=hasAllW_nil h2;obtain⟨xs,rfl,h3⟩:=hasW_list h1;obtain⟨ns,rfl⟩:=items_int h3;have aH:ns.length<=n:=by
  unfold OpenLaw.pre at hc;have h4:(WTm.not (.lt (.lit (.int (n:Int))) (.len (.arg 0)))).holds [] {args:=[.list (ns.map .int)]}=true:=by
   have h4:=(holds_andW hc).1;rw[hn]at h4;exact h4
  have h5:=condW_of h4 (w_not (w_lt w_lit (w_len_list (w_arg rfl))));rw[ai]at h5;refine Nat.le_of_not_lt λq=>?_;have q':(n:Int)<((ns.length:Nat):Int):=by omega
  first
   |(rw[bA q']at h5;exact absurd h5 (by decide))
   |(simp at h5;omega)
 cases hwl with
 |cons w1 w2 =>
  cases w2
  cases w1 with
  |list ho hall=>exact⟨_,_,ns,rfl,rfl,ho,a2x ns _ hall,aH⟩
theorem abq(l:OpenLaw)(args:List WData):l.row.toRowW.claim.post args (.bool true) args=true :=
 postW_of (r:=l.row.toRowW) (X:=(true == true))
  (show WShape.has [] (.bool true) .bool=true by first|rfl|decide|simp[WShape.has,WShape.arms,WShape.armsAll])
  (show(WTm.eq .res (.lit (.bool true))).value [] {args:=args,res:=some (.bool true),after:=args}=some (.bool (true == true)) from w_eq_bool (w_res rfl) w_lit) rfl
theorem a82{l:OpenLaw}{d:DefRec}
  (hn:l.most=some n) (hdf:d.params.defaults=[])
  (call:∀(w:World) (s₀ s₁:Shared) (mg mb:Str->Option Value) (fa:Addr) (o:Obj) (pm cd doc:Value) (a:Addr) (vs:List Value) (ns:List Int),
   Ground q loose [] XP w s₀ mg mb s₁.heap->YP w s₁.heap->
   s₁.heap.get? fa=some o->o.data=.func (docDef d.name d.params d.body d.scope pm cd doc)->s₁.heap.CodeRec cd d.name->mg d.name=some (.ref fa)->
   s₁.heap.get? a=some {cls:=.type "list",data:=.seq vs.toArray}->IntsAre vs ns->ns.length<=n->s₁.gens = #[]->
   codeAny (model l.prog w) callerA (.call (.ref fa) ⟨[.ref a],[]⟩) (λr s'=>r=.ok (.ret (.bool true))/\OldK s₁.heap s'.heap/\s'.os=s₁.os/\AllBare s'.gens) s₁) :
  WalkO q loose XP YP l.row.toRowW d [] (λf vs=>PySem.call f vs):=by
 intro w s₀ s₁ mg mb G Y fa o pm cd doc dV kV ho hd hcd hD hmg hg args vals as hpre hlay hrd hwl hlo
 obtain rfl:dV=.none:=Dflts.none hD hdf
 obtain rfl:kV=.none:=Dflts.noKw hD
 obtain⟨a,vs,ns,rfl,rfl,hobj,hints,aH⟩:=abp hn hpre hwl;refine enter_call (dS (call w s₀ s₁ mg mb fa o pm cd doc a vs ns G Y ho (fd_plain hd) hcd hmg hobj hints aH hg) λr s' hq=>?_);obtain⟨rfl,h2,h3,h4⟩:=hq;exact⟨.inl ⟨.bool true,.bool true,[],rfl,λ_=>rfl,.bool true,abq l _,λ_=>⟨List.Pairwise.nil,λ_ hm=>(nomatch hm)⟩⟩,h2,h3,h4⟩
end Att
namespace L2
open PyProof.Rows
theorem a2y:∀{vs:List Value} {ns:List Int},IntsAre vs ns->Vals (ns.map V.int) vs
 |_,_,.nil=>.nil
 |_,_,.cons n t h=>.cons ⟨t,rfl⟩ (a2y h)
def Only(H:Hp):Prop:=∀b,H b=none\/∃o xs,H b=some (.frz o (.lst xs))
theorem af6{K:Fg}{s₁:Shared}{vs:List Value}
  (KX:K.In s₁.heap) (hns:s₁.heap.Ns mainGlobals mg) (hb:s₁.heap.Ns builtinsNs mb) (hbb:∀x:Str,x ≠ "__name__"->mb x=bootBuiltins x) (hlim:s₁.heap.NoLimit) (hg:s₁.gens = #[])
  (ha:s₁.heap.get? a=some {cls:=.type "list",data:=.seq vs.toArray}) (hi:IntsAre vs ns) (hl:ns.length<=sizeLine) (hr:Room k callerA)
  (F:∀base:Heap,K.In base->base.Ns mainGlobals mg->FnOk P w K mg base CX k fa fd [x] sp) (hbind:∀(s:Shared) (u:Value),BindsTo s fd ⟨[u],[]⟩ [(x,u)])
  (hsp:∀H:Hp,Only H->SqL K H a (ns.map V.int)->sp [.ref a] H (λv _=>v=.bl true) λ_ _ _=>False)
  (hCX:∀H e s',CX [] H s₁ (λ_ _ _=>False) e s'->False) :
  codeAny (model P w) callerA (.call (.ref fa) ⟨[.ref a],[]⟩) (λr s'=>r=.ok (.ret (.bool true))/\OldK s₁.heap s'.heap/\s'.os=s₁.os/\AllBare s'.gens) s₁:=by
 have rv:=a2y hi;have lenV:=hi.length;have core:∀H:Hp,Only H->SqL K H a (ns.map V.int)->HOk P w H s₁.heap->(∀b,H b≠none->b=a)->(H a≠none->K.lookup a=none)->
   codeAny (model P w) callerA (.call (.ref fa) ⟨[.ref a],[]⟩) (λr s'=>r=.ok (.ret (.bool true))/\OldK s₁.heap s'.heap/\s'.os=s₁.os/\AllBare s'.gens) s₁:=by
  intro H hO hS hok hA hK
  have base_of:∀{b:Addr} {o:Obj},s₁.heap.get? b=some o->H b=none->(aeq s₁.heap H).get? b=some o:=λe n=>aer e n;have noA:∀{b:Addr} {o:Obj} {es:Array DictEntry} {ep:Nat},s₁.heap.get? b=some o->o.data=.dict es ep->H b=none:=λ{b o es ep} e d=>by
   cases q:H b with
   |none=>rfl
   |some u =>
    have e':b=a:=hA b (by rw[q];simp)
    subst e';rw[ha]at e;cases e
    have d':Data.seq vs.toArray _=Data.dict es ep:=d
    cases d'
  have nsK:∀{b:Addr} {m:Str->Option Value},s₁.heap.Ns b m->(aeq s₁.heap H).Ns b m:=λ{b m} ⟨o,es,ep,e,d,r⟩=>⟨o,es,ep,base_of e (noA e d),d,r⟩;have hKb:K.In (aeq s₁.heap H):=λb o e=>base_of (KX b o e) (by
   cases q:H b with
   |none=>rfl
   |some u =>
    have e':b=a:=hA b (by rw[q];simp)
    subst e';rw[hK (by rw[q];simp)]at e;cases e)
  have hM:Mod K mg (aeq s₁.heap H):=⟨hKb,nsK hns,⟨mb,nsK hb,hbb⟩,let ⟨mc,h1,h2⟩:=hlim; ⟨mc,nsK h1,h2⟩⟩;have e0:Env0 P w K mg (aeq s₁.heap H) callerA [] s₁ H:=⟨rfl,hM,λb o e=>aie e,Nat.le_of_eq (aay _ _),trivial,λb hb=>absurd (show b∈([]:List Addr) from hb) (by simp),hok,.of_eq hg⟩
  refine dS ((F _ hKb (nsK hns)).run callerA [] s₁ H ⟨[.ref a],[]⟩ [.ref a] [.ref a] _ _ hr e0 (hbind s₁ (.ref a)) (.cons rfl .nil) (hsp H hO hS)) λr s' h=>?_
  cases r with
  |error e=>exact(hCX H e s' h).elim
  |ok fl =>
   cases fl with
   |next=>exact False.elim h
   |brk=>exact False.elim h
   |cont=>exact False.elim h
   |ret u =>
    obtain⟨v,H',os,bare,un,hok',r',q⟩:=h;have q':v=.bl true:=q;subst q';obtain rfl:u=Value.bool true:=r';refine⟨rfl,OldK.of_keep λb o e=>?_,os,bare⟩
    cases q:H b with
    |none=>exact un.keep b o e q (by intro z;exact absurd (show b∈([]:List Addr) from z) (by simp)) (by simp)
    |some u =>
     rcases hO b with z|⟨ob,xs,z⟩
     ·rw[q]at z;cases z
     ·have z2:=un.frzs b ob _ z;obtain⟨e1,_⟩:=hok b _ z;obtain⟨e2,_⟩:=hok' b _ z2;rw[e]at e1;cases e1
      exact e2
 cases hk:K.lookup a with
 |some o =>
  have e:=KX a o hk;rw[ha]at e;cases e
  refine core (λ_=>none) (λ_=>.inl rfl) (.inr ⟨_,vs.toArray,_,hk,rfl,rfl,rfl,by rw[ae,lenV];exact hl,by simpa using rv⟩) (λb u z=>by have z':(none:Option HO)=some u:=z;cases z') (λb z=>absurd rfl z) λz=>absurd rfl z
 |none =>
  refine core (λb=>if b=a then some (.frz {cls:=.type "list",data:=.seq vs.toArray} (.lst (ns.map V.int))) else none) (λb=>?_) (.inl (.inr ⟨{cls:=.type "list",data:=.seq vs.toArray},aI rfl⟩)) (λb u z=>?_) (λb z=>?_) λ_=>hk
  ·by_cases hb:b=a
   ·exact .inr ⟨_,_,aI hb⟩
   ·exact .inl (b9 hb)
  ·by_cases hb:b=a
   ·have z':=(aI hb).symm.trans z
    cases z'
    subst hb;exact⟨ha,by rw[ai];exact hl,vs,_,rv,ha⟩
   ·have z':=(b9 hb).symm.trans z
    cases z'
  ·by_cases hb:b=a
   ·exact hb
   ·exact absurd (b9 hb) z
theorem aj0{l:PySem.W.OpenLaw}{n k:Nat}{q:Program}{loose:List Str}{XP:(Str->Option Value)->Heap->Prop}{YP:World->Heap->Prop}{d:DefRec}{K:Params->Fg}{CX:World->CXT}{sp:World->Sp}{x:Str}
  (hn:l.most=some n) (hn2:n<=sizeLine) (hdf:d.params.defaults=[]) (hr:Room k callerA)
  (hY:∀(w:World) (h:Heap),YP w h->(K w.params).In h)
  (F:∀(w:World) (mg:Str->Option Value) (fa:Addr) (h:Heap),(K w.params).In h->h.Ns mainGlobals mg->mg d.name=some (.ref fa)->
   ∃fd:FuncData,(∀(s:Shared) (u:Value),BindsTo s fd ⟨[u],[]⟩ [(x,u)]) /\
    ∀base:Heap,(K w.params).In base->base.Ns mainGlobals mg->FnOk l.prog w (K w.params) mg base (CX w) k fa fd [x] (sp w))
  (hsp:∀(w:World) (H:Hp) (a:Addr) (ns:List Int),ns.length<=n->Only H->SqL (K w.params) H a (ns.map V.int)->sp w [.ref a] H (λv _=>v=.bl true) λ_ _ _=>False)
  (hCX:∀(w:World) (H:Hp) (s:Shared) (e:Value) (s':Shared),CX w [] H s (λ_ _ _=>False) e s'->False) :
  PySem.W.WalkO q loose XP YP l.row.toRowW d [] (λf vs=>PySem.call f vs):=by
 refine Att.a82 hn hdf λw s₀ s₁ mg mb fa o pm cd doc a vs ns G Y ho hd hcd hmg hobj hints aH hg=>?_;have KX:=hY w _ Y;obtain⟨fd,hb,hF⟩:=F w mg fa _ KX G.T.g hmg;exact af6 KX G.T.g G.T.b G.T.builtins G.T.nolimit hg hobj hints (bD aH hn2) hr hF hb (λH hO hS=>hsp w H a ns aH hO hS) λH e s'=>hCX w H s₁ e s'
def a0h(s:Stmt):Arguments:=match s with
 |.FunctionDef _ a _ _ _ _ _ _ _ _=>a
 |_=>{posonlyargs:=[],args:=[],vararg:=none,kwonlyargs:=[],kw_defaults:=[],kwarg:=none,defaults:=[]}
def um(s:Stmt):List Stmt:=match s with
 |.FunctionDef _ _ b _ _ _ _ _ _ _=>b
 |_=>[]
def bz(s:Stmt):Scope:=match s with
 |.FunctionDef _ _ _ _ _ _ sc _ _ _=>sc
 |_=>{kind:=.function,names:=[],isGenerator:=false,isCoroutine:=false}
abbrev CX0:CXT:=λ_ _ _ _ _ _=>False
abbrev E0:XK:=λ_ _ _=>False
theorem ams:a8u CX0 X E0:=λ_ _ _ _ _ _ _ h=>h.elim
structure Fun (K:Fg) (x qual:Str) (st:Stmt) (f:Addr) (fd:FuncData):Prop where
 ex:∃(oc:Value) (od:Option Addr) (kV doc pm:Value) (an:Option Addr) (cdv ct:Value) (osl:Array (Option Value)),
  fd=PySem.W.fnOf x qual (a0h st) (um st) (bz st) .none kV doc pm an cdv ct/\K.lookup f=some ⟨oc,od,.func fd,osl⟩/\PySem.W.codeIn K cdv qual=true
 kp:PySem.W.keepIn K (.ref f)=true
section
variable{P:Program}{w:World}{K:Fg}{mg:Str->Option Value}{base:Heap}
theorem Fun.ok{x qual:Str}{st:Stmt}{f:Addr}{fd:FuncData}{N ps:List Str}{k:Nat}{sp:Sp}(F:Fun K x qual st f fd)(S:FnScope N ps (bz st))(len:∀vs H Q E,sp vs H Q E->vs.length=ps.length)
  (hbody:∀(cdv:Value) (A:Around) (outer:List Env) (s:Shared) (H:Hp) (vs:List V) (Q:VK) (E:XK),Room k (A.deeper (envOfC qual (bz st) s.heap.objs.size f cdv))->sp vs H Q E->
   ∃t,PSs (ael CX0 P w K mg base N qual (bz st) f cdv A outer s H E).nox (um st) t/\t {nx:=λ_ H'=>Q .non H',rt:=Q} (start N vs) H):FnOk P w K mg base CX0 (k+1) f fd ps sp:=by
 obtain⟨oc,od,kV,doc,pm,an,cdv,ct,osl,rfl,lk,hcd⟩:=F.ex;refine aqy lk hcd S len λA outer s H vs Q E hr hsp=>?_;obtain⟨t,h,q⟩:=hbody cdv A outer s H vs Q E hr hsp;exact⟨t,h.nox,q⟩
theorem Fun.binds{x qual:Str}{st:Stmt}{f:Addr}{fd:FuncData}{ps:List Str}(F:Fun K x qual st f fd)
  (h:∀(kV doc pm:Value) (an:Option Addr) (cdv ct:Value) (us:List Value),us.length=ps.length->bindArgs (PySem.W.fnOf x qual (a0h st) (um st) (bz st) .none kV doc pm an cdv ct) ⟨us,[]⟩=pure (ps.zip us)):Binds K fd ps []:=by
 obtain⟨oc,od,kV,doc,pm,an,cdv,ct,osl,rfl,lk,hcd⟩:=F.ex;exact .all (h kV doc pm an cdv ct)
theorem amt{x qual:Str}{st:Stmt}{f:Addr}{oc:Value}{od an:Option Addr}{osl:Array (Option Value)}{kV doc pm cdv ct:Value}(l:K.lookup f=some ⟨oc,od,.func (PySem.W.fnOf x qual (a0h st) (um st) (bz st) .none kV doc pm an cdv ct),osl⟩)
  (c:PySem.W.codeIn K cdv qual=true) (k:PySem.W.keepIn K (.ref f)=true):Fun K x qual st f (PySem.W.fnOf x qual (a0h st) (um st) (bz st) .none kV doc pm an cdv ct):=⟨⟨oc,od,kV,doc,pm,an,cdv,ct,osl,rfl,l,c⟩,k⟩
end
def Same(H H':Hp):Prop:=∀b o,H b=some o->H' b=some o
theorem Same.seq{K:Fg}{H H':Hp}{a:Addr}{xs:List V}(e:Same H H')(h:SqL K H a xs):SqL K H' a xs:=by
 rcases h with(h|⟨o,h⟩)|h
 ·exact .inl (.inl (e _ _ h))
 ·exact .inl (.inr ⟨o,e _ _ h⟩)
 ·exact .inr h
section
variable{κ:Type}[DecidableEq κ]
theorem RelO.getD{o:Option V}{u:Option Value}{d:V}{d':Value}(r:RelO o u)(rd:RelV d d'):RelV (o.getD d) (u.getD d'):=by
 cases o with
 |none=>cases u with
  |none=>exact rd
  |some _=>exact(show False from r).elim
 |some _=>cases u with
  |none=>exact(show False from r).elim
  |some _=>exact r
end
section
variable{X:Cx}{aA:List (Addr×Obj)}{σ:St}{H:Hp}{s:Shared}{a:Addr}{y v:V}{u r:Value}{o:Option V}{A:Around}{E:Value->Shared->Prop}
theorem Inv.big(I:Inv X aA σ H s):sysModules<s.heap.objs.size:=by
 have h:mainGlobals<s.heap.objs.size:=(I.mod.glob.keeps I.bk).lt;exact Nat.lt_trans (by decide) h
end
theorem af7{P:Program}{w:World}{H:Hp}(h:Heap)(hb:sysModules<h.objs.size):ObjOk P w H (h.push {cls:=.type "dict",data:=.dict #[]}) h.objs.size (.dK []) :=
 ⟨bp _,bt.mpr (eK (bq hb)),[],.nil,Heap.DictOf.new h⟩
def amu:TE:=λ_ H Q=>∀p,H p=none->Q (.ref p) (upd H p (.dK []))
section
variable{X:Cx}{pos:Pos}
theorem af8:PE X (.Dict [] [] pos) amu:=λaA s σ H Q I h =>
 wpAny_Dict_empty ⟨.ref s.heap.objs.size,_,I.laid (a:=s.heap.objs.size) (o:=.dK []) (t':=s.toks) (λ_ _ q=>a8 _ q) (ag _) (af7 s.heap I.big),rfl,h _ (I.hok.fresh (ag _))⟩
end
section
variable{X:Cx}
theorem a5l:OpR X (compareOp .Is) (λx y H Q=>∃i j,x=.bl i/\y=.bl j/\Q (.bl (i == j)) H):=by
 intro aA s σ H x y v u Q I rx ry h
 obtain⟨i,j,rfl,rfl,q⟩:=h;cases rx
 cases ry
 exact is_bool (a1t I q rfl)
theorem a0i:OpR X (compareOp .IsNot) (λx y H Q=>∃i j,x=.bl i/\y=.bl j/\Q (.bl (i != j)) H):=by
 intro aA s σ H x y v u Q I rx ry h
 obtain⟨i,j,rfl,rfl,q⟩:=h;cases rx
 cases ry
 exact isnot_bool (a1t I q rfl)
theorem a2z:OpR X (compareOp .LtE) (λx y H Q=>∃i j,x=.str i/\y=.str j/\Q (.bl (!decide (j.cps.toList<i.cps.toList))) H):=by
 intro aA s σ H x y v u Q I rx ry h
 obtain⟨i,j,rfl,rfl,q⟩:=h;obtain⟨t,rfl⟩:=rx;obtain⟨t',rfl⟩:=ry;exact PySem.P.le_str (a1t I q rfl)
def a3z{α:Type}(xs:List α)(lo hi:Option Int):List α:=(xs.drop (HT.sIx xs.length 0 lo)).take (HT.sIx xs.length xs.length hi-HT.sIx xs.length 0 lo)
def ar6:V->Option Int->Option Int->Hp->VK->Prop:=λx lo hi H Q=>∃z,x=.str z/\z.length<=sizeLine/\Q (.str ⟨(a3z z.cps.toList lo hi).toArray⟩) H
theorem amv(lo hi:Option Int)(n:Nat):Builtin.Str.strSliceIndices lo hi 1 n=(List.range (HT.sIx n n hi-HT.sIx n 0 lo)).map λk=>HT.sIx n 0 lo+k:=by
 have e1:Builtin.Str.strSliceIndices lo hi 1 n=sliceRange ((HT.sIx n 0 lo:Nat):Int) ((HT.sIx n n hi:Nat):Int) 1:=by
  unfold Builtin.Str.strSliceIndices;dsimp only
  congr 1
  ·cases lo with
   |none=>simp[HT.sIx]
   |some i=>simp only[HT.sIx,show(1:Int) > 0 by decide,cQ];split<;>omega
  ·cases hi with
   |none=>simp[HT.sIx]
   |some i=>simp only[HT.sIx,show(1:Int) > 0 by decide,cQ];split<;>omega
 rw[e1];exact sliceRange_one _ _
theorem amw{α:Type}(xs:List α)(a:Nat):∀k,a+k<=xs.length->((List.range k).map λj=>a+j).filterMap (xs[·]?)=(xs.drop a).take k
 |0,_=>by simp
 |k+1,h=>by
  rw[eW,bG,List.filterMap_append,amw xs a k (by omega)]
  have hk:a+k<xs.length:=by omega
  rw[List.take_succ]
  congr 1
  simp[dX,hk]
theorem amx:SlR X ar6:=by
 intro aA s σ H x v vl vu lo hi sl Q I rx hs pl pu h
 obtain⟨z,rfl,hz,q⟩:=h;obtain⟨t,rfl⟩:=rx;refine⟨"str",_,PyProof.Rows.slot_str_getitem.lookup,fg s z t,?_⟩;have hl:z.cps.toList.length=z.length:=by simp[Str.length]
 have fin:∀(l u:Option (Int×Tok)),vl=partValue l->vu=partValue u->l.map (·.1)=lo->u.map (·.1)=hi->wpAny (model X.prog X.w) X.A (getItem (.str z t) (.ref sl)) (EP X aA σ Q) X.xe s:=by
  intro l u e1 e2 e3 e4
  subst e1 e2;refine wpAny_getItem_str_slice (l:=l) (u:=u) (st:=none) hs rfl ?_;have hp:slicePicked z l u none=(List.range (HT.sIx z.length z.length hi-HT.sIx z.length 0 lo)).map λk=>HT.sIx z.length 0 lo+k:=by
   unfold slicePicked;rw[e3,e4];exact amv lo hi z.length
  have hb1:HT.sIx z.length z.length hi<=z.length:=HT.abj _ _ (ag _) _;have hb2:HT.sIx z.length 0 lo<=z.length:=HT.abj _ _ (bp _) _;unfold sliceMade
  split
  ·rename_i c;simp only[bI,beq_iff_eq]at c;obtain⟨_,c⟩:=c;rw[hp,ai,bK]at c;have e:(⟨(a3z z.cps.toList lo hi).toArray⟩:Str)=z:=by
    unfold a3z;rw[hl];have z1:HT.sIx z.length 0 lo=0:=by omega
    have z2:HT.sIx z.length z.length hi=z.length:=by omega
    rw[z1,z2,fh,Nat.sub_zero,aZ (by omega)]
   rw[e]at q;exact⟨.str z,H,I,⟨_,rfl⟩,q⟩
  ·have e:(⟨(a3z z.cps.toList lo hi).toArray⟩:Str)=⟨((slicePicked z l u none).filterMap (z.cps[·]?)).toArray⟩:=by
    rw[hp];unfold a3z;rw[hl]
    by_cases hc:HT.sIx z.length 0 lo<=HT.sIx z.length z.length hi
    ·rw[<-amw z.cps.toList _ _ (by omega)]
     simp only[Array.getElem?_toList]
    ·rw[show HT.sIx z.length z.length hi-HT.sIx z.length 0 lo=0 by omega]
     simp
   rw[e]at q;refine⟨?_,.str _,H,I.tok _,⟨_,rfl⟩,q⟩;rw[<-e];show(a3z z.cps.toList lo hi).toArray.size<=sizeLine;rw[ae];unfold a3z;rw[bP,bW,hl];omega
 cases pl with
 |none=>cases pu with
  |none=>exact fin none none rfl rfl rfl rfl
  |int j t'=>exact fin none (some (j,t')) rfl rfl rfl rfl
 |int i t'=>cases pu with
  |none=>exact fin (some (i,t')) none rfl rfl rfl rfl
  |int j t''=>exact fin (some (i,t')) (some (j,t'')) rfl rfl rfl rfl
theorem jd:CallR X (.builtin "isinstance") (λxs H Q=>∃x T t b,xs=[x,.ty T]/\TyOf X.K H x t/\PySem.W.kitOne X.K t (.type T)=some b/\Q (.bl b) H):=by
 intro aA s σ H xs us Q I r h
 obtain⟨x,T,t,b,rfl,ty,e,q⟩:=h;obtain⟨u,w',rfl,rx,rt⟩:=vals2 r;cases rt
 exact abe I rx ty e λtk=>⟨.bl b,H,I.tok tk,rfl,q⟩
theorem a75(bs:List Bool):((List.range bs.length).all λi=>(bs[i]?).getD true)=bs.all id:=by
 have e:(List.range bs.length).map (λi=>(bs[i]?).getD true)=bs:=by
  apply List.ext_getElem (by simp)
  intro i h1 h2
  simp[h2]
 have f:((List.range bs.length).map λi=>(bs[i]?).getD true).all id=bs.all id:=by rw[e]
 rw[<-f,eX];rfl
theorem a3a(hc:X.calm=true):CallR X (.builtin "all") (λxs H Q=>∃(p:Addr) (bs:List Bool),xs=[.ref p]/\SqL X.K H p (bs.map V.bl)/\Q (.bl (bs.all id)) H):=by
 intro aA s σ H xs us Q I r h
 obtain⟨p,bs,rfl,hq,q⟩:=h;obtain⟨u,rfl,rx⟩:=vals1 r;cases rx
 obtain⟨its,r',pl,hz⟩:=I.list hq;have hl:=r'.length;rw[ai]at hl;have hlt:p<s.heap.objs.size:=by obtain⟨_,e,_⟩:=pl.isList;exact aL e
 refine call_all_walk (eD pl.isList ?_);refine⟨s.heap.objs.size,[s.heap.objs.size,p],[s.heap.objs.size],its.toArray.size,_,_,λi=>(bs[i]?).getD true,rfl,Walks.list (A:=X.A.in1) (I.ok.hd hc) _ p (bq hlt) its.toArray,
  ⟨⟨_,aN _ rfl,rfl,rfl⟩,pl.isList.push _⟩,λi v s' Q' E' hP hQ=>?_,λh' tk hk=>?_⟩
 ·have hP':its[i]? = some v:=by simpa using hP
  have hi:i<bs.length:=by
   have:=(a7.mp hP').1
   omega
  obtain⟨u,e,ru⟩:=r'.get (i:=i) (x:=.bl bs[i]) (by simp[hi])
  rw[hP']at e;cases e
  cases ru
  simp only[a6 hi,cP]at hQ;exact cH hQ
 ·have e:((List.range its.toArray.size).all λi=>(bs[i]?).getD true)=bs.all id:=by
   rw[ae,<-hl];exact a75 bs
  rw[e];exact⟨.bl _,H,I.kept λb x e=>hk b x (λhm=>by rw[aw.mp hm]at e;exact bZ _ (aL e)) (a8 _ e),rfl,q⟩
def ur(x:Str):List V:=x.cps.toList.map λc=>V.str ⟨#[c]⟩
theorem a4i(h:ItemsOf (SignAt x) acc x.cps.size):Vals (ur x) acc.toList:=by
 obtain⟨hs,ha⟩:=h;have key:∀(cs:List Nat) (us:List Value),us.length=cs.length->(∀(j:Nat) (v:Value),us[j]? = some v->∃c u,cs[j]? = some c/\v=.str ⟨#[c]⟩ u)->Vals (cs.map λc=>V.str ⟨#[c]⟩) us:=by
  intro cs
  induction cs with
  |nil=>intro us hl _;cases us with|nil=>exact .nil|cons _ _=>simp at hl
  |cons c cs ih =>
   intro us hl hp
   cases us with
   |nil=>simp at hl
   |cons u us =>
    refine .cons ?_ (ih us (by simpa using hl) λj v e=>hp (j+1) v (by simpa using e))
    obtain⟨c',t,e1,e2⟩:=hp 0 u rfl;simp at e1;subst e1;exact⟨t,e2⟩
 refine key _ _ (by simp[hs]) λj v e=>?_
 obtain⟨c,u,e1,e2⟩:=ha j v (by simpa using e)
 exact⟨c,u,by simpa using e1,e2⟩
theorem v4(hc:X.calm=true):CallR X (.type "list") (λxs H Q=>∃z,xs=[.str z]/\z.length<=sizeLine/\∀l,H l=none->Q (.ref l) (upd H l (.lst (ur z)))):=by
 intro aA s σ H xs us Q I r h
 obtain⟨z,rfl,hz,q⟩:=h;obtain⟨u,rfl,t,rfl⟩:=vals1 r;refine PySem.call_list_str (I.ok.hd hc) z t (λh' tk acc c kp e hi=>?_) (by simpa[Str.length] using hz)
 refine⟨.ref s.heap.objs.size,_,I.laid (t':=tk) kp (ag _) (show ObjOk X.prog X.w _ h' _ (.lst (ur z)) from ⟨by simpa[ur,Str.length] using hz,acc.toList,c,a4i hi,by simpa using e⟩),rfl,q _ (I.hok.fresh (ag _))⟩
theorem qg(hc:X.calm=true):CallR X (.type "tuple") (λxs H Q=>∃z,xs=[.str z]/\z.length<=sizeLine/\∀l,H l=none->Q (.ref l) (upd H l (.tup (ur z)))):=by
 intro aA s σ H xs us Q I r h
 obtain⟨z,rfl,hz,q⟩:=h;obtain⟨u,rfl,t,rfl⟩:=vals1 r;refine PySem.call_tuple_str (I.ok.hd hc) z t (λh' tk acc kp hi=>?_) (by simpa[Str.length] using hz)
 have I1:Inv X aA σ H {s with heap:=h',toks:=tk}:=I.kept kp
 have I2:Inv X aA σ (upd H h'.objs.size (.tup (ur z))) {s with heap:=h'.push {cls:=.type "tuple",data:=.seq acc},toks:=tk} :=
  I1.laid (t':=tk) (λb o e=>a8 _ e) (ag _) (show ObjOk X.prog X.w _ _ _ (.tup (ur z)) from ⟨by simpa[ur,Str.length] using hz,acc.toList,a4i hi,by simpa using IsTup.new h' acc⟩)
 exact⟨.ref h'.objs.size,_,I2,rfl,q _ (I1.hok.fresh (ag _))⟩
end
def Its(x:Str):It:=⟨λi _=>i<x.cps.size,λi H v H'=>H'=H/\∃c,x.cps.toList[i]? = some c/\v=.str ⟨#[c]⟩,λi _=>i=x.cps.size⟩
theorem a8x{P:Program}{w:World}{K:Fg}{tg:Expr}(it:Addr)(x:Str)(t:Tok)(ty:String)
  (hty:["enumerate","zip","dict_itemiterator","dict_reverseitemiterator","odict_iterator","itertools.zip_longest","itertools.pairwise"].contains ty=false)
  (W:∀A':Around,A'.handled=none->Walks P w A' it [it] [it] x.cps.size (SignAt x) (λi h=>h.IsStrIter it ty x t i))
  (slf:∀(A:Around) (i:Nat) (s:Shared) (Q:Value->Shared->Prop) (E:Value->Shared->Prop),s.heap.IsStrIter it ty x t i->Q (.ref it) s->wpAny (model P w) A (pyIter (.ref it)) Q E s) :
  Turn P w K tg (Its x) [it] it (λi h=>h.IsStrIter it ty x t i) where
 mem:=by simp
 obj:=λi h st b hb=>by
  have e:b=it:=by simpa using hb
  subst e;obtain⟨o,e,c,d⟩:=st;exact⟨o,e,λv z=>by rw[d]at z;cases z⟩
 keep:=λi h h' st k=>by
  obtain⟨o,e,c,d⟩:=st;exact⟨o,k it (by simp) o e,c,d⟩
 item:=by
  intro X hP hw hK hc i aA s σ H E I hf st hg
  subst hP hw hK;obtain⟨f0,f1,f2,f3,f4,f5⟩:=hf it (by simp)
  refine(W X.A (I.ok.hd hc)).item i s _ _ hg st λv h' tk hv st' kk=>?_;obtain⟨c,u,hx,rfl⟩:=hv;have I1:Inv X aA σ H {s with heap:=h',toks:=tk}:=I.turned (λb o hb e=>kk b o (by simpa using hb) e) f0 f1 f3 f4 f5
  obtain⟨o,e,oc,d⟩:=id st';exact⟨_,rfl,aew (s:={s with heap:=h',toks:=tk}) e oc d hty ⟨.str ⟨#[c]⟩,H,I1,⟨_,rfl⟩,⟨rfl,c,by simpa using hx,rfl⟩,st',λb hb=>(hf b hb).1⟩⟩
 done:=by
  intro X hP hw hK hc i aA s σ H E I hf st hg
  subst hP hw hK;obtain⟨f0,f1,f2,f3,f4,f5⟩:=hf it (by simp)
  have hg':i=x.cps.size:=hg;subst hg';exact(W X.A (I.ok.hd hc)).done s _ _ st λh' tk eb=>⟨rfl,I.turned (λb o hb e=>eb b o (by simpa using hb) e) f0 f1 f3 f4 f5⟩
 self:=slf
section
variable{X:Cx}{tg:Expr}
def atx(tl:TE):TI:=λσ H R=>tl σ H λx H1=>∃z,x=.str z/\R (Its z) H1
theorem aha{l:Expr}{tl:TE}(hl:PE X l tl):PI X tg l (atx tl):=by
 intro aA s σ H R I h
 refine thn (hl aA s σ H _ I h) ?_
 rintro v s1 ⟨x,H1,I1,r1,q1⟩
 obtain⟨z,e,q⟩:=q1;subst e;obtain⟨t,rfl⟩:=r1;have fp:∀b∈[s1.heap.objs.size],a6u X aA H1 b:=λb hb=>by
  have e:b=s1.heap.objs.size:=by simpa using hb
  subst e;exact I1.fpOk (ag _) (I1.hok.fresh (ag _))
 cases ha:z.cps.all (· < 128)
 ·exact wpAny_pyIter_wide ha ⟨s1.heap.objs.size,[s1.heap.objs.size],_,_,H1,rfl,I1.kept (t':=s1.toks) λb o e=>a8 _ e,
   a8x _ z t "str_iterator" (by decide) (λA' hA=>Walks.strWide hA _ z t) (λ_ _ _ _ _ st h=>wpAny_pyIter_striter_wide st h),⟨_,aN _ rfl,rfl,rfl⟩,fp,q⟩
 ·exact wpAny_pyIter_ascii ha ⟨s1.heap.objs.size,[s1.heap.objs.size],_,_,H1,rfl,I1.kept (t':=s1.toks) λb o e=>a8 _ e,
   a8x _ z t "str_ascii_iterator" (by decide) (λA' hA=>Walks.strAscii hA _ z t) (λ_ _ _ _ _ st h=>wpAny_pyIter_striter_ascii st h),⟨_,aN _ rfl,rfl,rfl⟩,fp,q⟩
end
def cxC(X:Cx)(N:List Str)(aB:Scope)(cl:List (Str×Addr))(C:Addr)(fp:List Addr)(s:Shared)(H:Hp):Cx where
 prog:=X.prog
 w:=X.w
 K:=X.K
 mg:=X.mg
 base:=X.base
 A:=X.A
 N:=N
 s₀:=s
 H₀:=H
 env:=compEnvC aB cl C X.env
 outer:=X.stack
 stack:=X.stack
 ex:=fp
 fn:=λ_=>false
 calm:=X.calm
 pn:=[]
 xe:=λ_ _=>False
structure CSc (X:Cx) (aB:Scope) (cl:List (Str×Addr)) (ts fr:List Str) (ix:List Nat):Prop where
 clos:closureFor aB X.env=pure cl
 kind:aB.kind=.function
 nocell:∀y∈aB.names,y.2≠.cell
 names:∀y∈aB.names,y.2=.local->aB.names.lookup y.1=some .local
 sub:∀y c,cl.lookup y=some c->X.env.cells.lookup y=some c
 has:∀y,((relabel aB X.env).names.lookup y=some .cell\/(relabel aB X.env).names.lookup y=some .free)->∃c,cl.lookup y=some c
 nofn:∀y∈ts,(relabel aB X.env).names.lookup y=some .local
 len:ix.length=fr.length
 vis:∀(j:Nat) (y:Str),fr[j]? = some y->∃i:Nat,ix[j]? = some i/\X.N[i]? = some y/\(X.env.kindOf y=some .cell\/X.env.kindOf y=some .free)/\((relabel aB X.env).names.lookup y=some .cell\/(relabel aB X.env).names.lookup y=some .free)
def Ext(a b:St):Prop:=b.length=a.length/\∀(i:Nat) v,a[i]? = some (some v)->b[i]? = some (some v)
def zf(nt:Nat)(ix:List Nat)(σ:St):St:=List.replicate nt none++ix.map λi=>(σ[i]?).join
def aj1(J:It)(s0:St)(g:TG)(te:TE)(Q:VK)(H1:Hp):Prop:=∃W:Nat->Nat->List V->Hp->Prop,(∃m,W 0 m [] H1)/\∀i m ys H,W i m ys H->
 (J.stop i H/\∀p,H p=none->Q (.ref p) (upd H p (.lst ys))) \/
 (J.go i H/\ys.length<sizeLine/\∀x H',J.yld i H x H'->g x s0 H' λσ2 H2=>Ext s0 σ2/\te σ2 H2 λy H3=>∃m',m'<m/\W (i+1) m' (ys++[y]) H3)
def abr(wi:TI)(s0:St->St)(g:TG)(te:TE):TE:=λσ H Q=>wi σ H λJ H1=>aj1 J (s0 σ) g te Q H1
def abt(J:It)(s0:St)(g:TG)(tc:TT)(te:TE)(Q:VK)(H1:Hp):Prop:=∃W:Nat->Nat->List V->Hp->Prop,(∃m,W 0 m [] H1)/\∀i m ys H,W i m ys H->
 (J.stop i H/\∀p,H p=none->Q (.ref p) (upd H p (.lst ys))) \/
 (J.go i H/\ys.length<sizeLine/\∀x H',J.yld i H x H'->g x s0 H' λσ2 H2=>Ext s0 σ2/\tc σ2 H2 λok H2'=>if ok=true then te σ2 H2' (λy H3=>∃m',m'<m/\W (i+1) m' (ys++[y]) H3) else ∃m',m'<m/\W (i+1) m' ys H2')
def abu(wi:TI)(s0:St->St)(g:TG)(tc:TT)(te:TE):TE:=λσ H Q=>wi σ H λJ H1=>abt J (s0 σ) g tc te Q H1
theorem a3b(aD target aF cnd:Expr)(aB:Scope)(pos:Pos)(it acc:Value)(env:Env) :
  compTurn (.ListComp aD [⟨target,aF,[cnd],0⟩] aB pos) 0 it acc env=(standAt aF.pos>>=λ_=>pyNext it>>=λr=>match r with
   |none=>pure (.done .next)
   |some v=>letOwnedTupleGo target it v>>=λ_=>assign target env v>>=λ_=>isTrue cnd env (eval cnd env)>>=λok =>
    (if ok=true then (eval aD env>>=λx=>call (.builtin "list.append") [acc,x]>>=λ_=>pure ()) else pure ())>>=λ_ =>
     again (.compLoop (.ListComp aD [⟨target,aF,[cnd],0⟩] aB pos) 0 it acc env)):=by
 first
  |rfl
  |(unfold compTurn;simp only[eO];rfl)
  | (show(standAt aF.pos>>=λ_=>pyNext it>>=λr=>_)=_
     congr 1;funext _;congr 1;funext r
     cases r with
     |none=>rfl
     |some v =>
      show(letOwnedTupleGo target it v>>=λ_=>assign target env v>>=λ_=>_)=(letOwnedTupleGo target it v>>=λ_=>assign target env v>>=λ_=>_)
      congr 1;funext _;congr 1;funext _
      simp
      congr 1;funext ok
      cases ok with
      |false=>rw[b9 aV,b9 aV,pure_bind]
      |true =>
       rw[aI rfl,aI rfl,bind_assoc]
       congr 1;funext x
       rw[map_eq_pure_bind,bind_assoc]
       congr 1)
def runC(cnd:Option Expr)(env:Env):Sem Bool:=match cnd with
 |none=>pure true
 |some c=>isTrue c env (eval c env)
def PTO(X:Cx)(cnd:Option Expr)(t:TT):Prop :=
 ∀(aA:List (Addr×Obj)) (s:Shared) (σ:St) (H:Hp) (Q:Bool->Hp->Prop),Inv X aA σ H s->t σ H Q->wpAny (model X.prog X.w) X.A (runC cnd X.env) (TP X aA σ Q) X.xe s
theorem a4a(aD target aF:Expr)(cnd:Option Expr)(aB:Scope)(pos:Pos)(it acc:Value)(env:Env) :
  compTurn (.ListComp aD [⟨target,aF,cnd.toList,0⟩] aB pos) 0 it acc env=(standAt aF.pos>>=λ_=>pyNext it>>=λr=>match r with
   |none=>pure (.done .next)
   |some v=>letOwnedTupleGo target it v>>=λ_=>assign target env v>>=λ_=>runC cnd env>>=λok =>
    (if ok=true then (eval aD env>>=λx=>call (.builtin "list.append") [acc,x]>>=λ_=>pure ()) else pure ())>>=λ_ =>
     again (.compLoop (.ListComp aD [⟨target,aF,cnd.toList,0⟩] aB pos) 0 it acc env)):=by
 cases cnd with
 |some c=>exact a3b ..
 |none =>
  rw[show(none:Option Expr).toList=[] from rfl,compTurn_list1]
  congr 1
theorem abv{cnd:Option Expr}{E:Value->Shared->Prop}(no:∀v s,E v s->False)(J:Nat->Shared->Prop)
  (step:∀m z,J m z->wpAny (model prog w) A (pyNext it) (λgot z1=>match got with
   |none=>R (.ok .next) z1
   |some v=>wpAny (model prog w) A (letOwnedTupleGo target it v) (λ_ z2=>wpAny (model prog w) A (assign target env v) (λ_ z3=>wpAny (model prog w) A (runC cnd env) (λok z3'=>if ok=true then wpAny (model prog w) A (eval aD env) (λx z4 =>
     wpAny (model prog w) A (call (.builtin "list.append") [acc,x]) (λ_ z5=>∃m',m'<m/\J m' z5) E z4)
     E z3' else ∃m',m'<m/\J m' z3') E z3) E z2) E z1) E z)
  (m:Nat) (j0:J m s):codeAny (model prog w) A (.compLoop (.ListComp aD [⟨target,aF,cnd.toList,0⟩] aB pos) 0 it acc env) R s:=by
 refine codeAny_loop rfl J (λm z hj=>(wpAny_noted ?_:wpAny _ _ ((compTurn (.ListComp aD [⟨target,aF,cnd.toList,0⟩] aB pos) 0 it acc env).onRaise _) _ _ z)) m j0;rw[a4a];refine a9 (dC (a9 (cG (step m z hj) (λgot z1 h1=>?_) λ_ _ e=>(no _ _ e).elim)))
 match got,h1 with
 |none,h1=>exact aJ h1
 |some v,h1 =>
  refine a9 (cG h1 (λ_ z2 h2=>a9 (cG h2 (λ_ z3 h3=>a9 (cG h3 (λok z3' h3'=>?_) λ_ _ e=>(no _ _ e).elim)) λ_ _ e=>(no _ _ e).elim)) λ_ _ e=>(no _ _ e).elim)
  match ok,h3' with
  |true,h3' =>
   rw[aI rfl]at h3';refine a9 (a9 (cG h3' (λx z4 h4=>?_) λ_ _ e=>(no _ _ e).elim));exact a9 (cG h4 (λ_ z5 h5=>aJ (aJ ⟨rfl,h5⟩)) λ_ _ e=>(no _ _ e).elim)
  |false,h3' =>
   rw[b9 aV]at h3';exact a9 (aJ (aJ ⟨rfl,h3'⟩))
section
variable{X:Cx}
theorem abw(S:CSc X aB cl ts fr ix)(I:Inv X aA σ H s)
  (hf:∀b∈fp,a6u X aA H b) (hb:∀b∈fp,b<s.heap.objs.size) (hC:s.heap.objs.size<=C):(cxC X (ts++fr) aB cl C fp s H).Ok where
 mod:=I.ok.mod
 kind:=S.kind
 glob:=I.ok.glob
 blt:=I.ok.blt
 above:=hC
 inj:=λx y c h1 h2=>I.ok.inj x y c (S.sub x c h1) (S.sub y c h2)
 has:=S.has
 cab:=λ_ _ z=>nomatch z
 hd:=I.ok.hd
 frames:=I.ok.frames
 stk:=.inl rfl
 exf:=λb hb'=>⟨bq (aS (hb b hb') hC),λx c e=>(hf b hb').2.2.2.2.1 x c (S.sub x c e)⟩
 bs:=λb o e=>I.bs b o e
 bsz:=bD I.ok.bsz I.sz
 noex:=λb o e hb'=>by
  rcases(hf b hb').2.2.2.1 with z|z
  ·exact I.ok.noex b o e z
  ·exact absurd (aS (aL e) (bD I.ok.bsz z)) (bZ _)
 exfs:=λb hb' z=>by
  rcases ar.mp (I.stkSub b z) with e|e
  ·exact(hf b hb').2.1 e
  ·exact(hf b hb').2.2.1 e
 funs:=I.stack
 frf:=λb hb'=>I.stkFree b hb'
theorem aa8:(zf nt ix σ).length=nt+ix.length:=by
 unfold zf;rw[ah,cT,ai]
theorem aj2{s4:Shared}(S:CSc X aB cl ts fr ix)(I:Inv X aA σ H s)
  (hf:∀b∈fp,a6u X aA H b) (hb:∀b∈fp,b<s.heap.objs.size) (hC:s.heap.objs.size<=C)
  (k:∀b o,s.heap.get? b=some o->s4.heap.get? b=some o) (hn:s4.heap.Ns C m) (ho:s4.os=s.os) (hg:s4.gens=s.gens) :
  Inv (cxC X (ts++fr) aB cl C fp s H) [] (zf ts.length ix σ) H s4 where
 ok:=abw S I hf hb hC
 os:=ho
 bare:=by rw[hg];exact I.bare
 base:=Un.kept k
 loc:=by
  refine⟨m,hn,λi x v e1 e2 e3=>?_⟩;have e1:(ts++fr)[i]? = some x:=e1
  by_cases hi:i<ts.length
  ·unfold zf at e2;rw[aE (by simpa using hi),cM,aI hi]at e2
   cases e2
  ·rw[av (by omega)]at e1
   unfold zf at e2;rw[av (by simpa using hi),cT,aR]at e2
   obtain⟨j,h1,h2,h3,h4⟩:=S.vis _ x e1;rw[h1]at e2;have e2':(σ[j]?).join=some v:=ba e2;have e5:σ[j]? = some (some v):=by
    cases q:σ[j]? with
    |none=>rw[q]at e2';cases e2'
    |some o=>rw[q]at e2';simp at e2';rw[e2']
   obtain⟨m0,_,hl⟩:=I.loc;have vis:Vis X.env.scope x:=h3.elim (λz=>.inr (.inl z)) λz=>.inr (.inr z);obtain⟨u,ru,l⟩:=hl j x v h2 e5 vis;refine⟨u,ru,?_⟩
   rcases l with⟨z,_⟩|⟨_,c,hc,hcell⟩
   ·rcases h3 with h3|h3<;>rw[h3]at z<;>cases z
   ·obtain⟨c',hc'⟩:=S.has x h4;have e6:c'=c:=ba ((S.sub x c' hc').symm.trans hc);subst e6;obtain⟨o,ho,hd⟩:=hcell;exact .inr ⟨h4,c',hc',o,k _ _ ho,hd⟩
 cell:=λx c e=>by
  obtain⟨v,o,ho,hd⟩:=I.cell x c (S.sub x c e);exact⟨v,o,k _ _ ho,hd⟩
 free:=I.hok.fresh hC
 freeC:=λx c e=>I.freeC x c (S.sub x c e)
 pin:=λp hp=>absurd (show p∈([]:List (Addr×Obj)) from hp) (by simp)
 hok:=I.hok.kept k
 len:=by
  rw[aa8];show _=(ts++fr).length;rw[ah,S.len]
theorem Inv.unpinned'(I:Inv X aA σ H s):Inv X [] σ H s:=I.pins_of λ_ hp=>nomatch hp
theorem comp_back{its:List Value}(I:Inv X aA σ H s)
  (hf:∀b∈fp,a6u X aA H b) (hC:s.heap.objs.size<=C) (hacc:s.heap.objs.size<=acc) (hCa:C≠acc)
  (J:Inv (cxC X N aB cl C fp s H) [] σ' H' s') (hn:H' acc=none) (ha:s'.heap.get? acc=some {cls:=.type "list",data:=.seq its.toArray n}) (rv:Vals ys its) (hz:ys.length<=sizeLine) (sb:Heap.SameBut C s'.heap h') :
  Inv X aA σ (upd H' acc (.lst ys)) {s' with heap:=h' }:=by
 have k:∀b o,b≠C->s'.heap.get? b=some o->h'.get? b=some o:=λb o hb e=>sb.extBut b o hb e;have old:∀b o,s.heap.get? b=some o->b≠C/\b≠acc:=λb o e=>⟨bq (aS (aL e) hC),bq (aS (aL e) hacc)⟩;have u0:Un (frs X.stack) fp H H' s.heap s'.heap:=J.base;have fC:H' C=none:=J.free;have u:Un (frs X.stack) fp H (upd H' acc (.lst ys)) s.heap h':=by
  refine⟨λb o e n' hb hx=>k b o (old b o e).1 (u0.keep b o e n' hb hx),λb o e n' hb hx=>?_,λb o e n' hx=>?_,λb o e hx=>?_,λb xs e=>?_,λb o v e=>?_,λb ps e=>?_⟩
  ·obtain⟨sl,e1⟩:=u0.slot b o e n' hb hx;exact⟨sl,k b _ (old b o e).1 e1⟩
  ·rw[j4 (old b o e).2];exact u0.free b o e n' hx
  ·obtain⟨o',e1⟩:=u0.there b o e hx;exact⟨o',k b _ (old b o e).1 e1⟩
  ·rw[j4 (gk (u0.tups b xs e) hn)];exact u0.tups b xs e
  ·rw[j4 (gk (u0.frzs b o v e) hn)];exact u0.frzs b o v e
  ·obtain⟨more,e1⟩:=u0.tbls b ps e;exact⟨more,by rw[j4 (gk e1 hn)];exact e1⟩
 have hok:HOk X.prog X.w (upd H' acc (.lst ys)) h':=λb o e=>by
  by_cases hb:b=acc
  ·subst hb;rw[p6]at e;cases e
   exact⟨hz,its,n,rv,k _ _ (eK hCa) ha⟩
  ·rw[j4 hb]at e;refine(J.hok b o e).stay (λc v hc q=>k c v ?_ q) (λc q=>by rw[j4 (gk q hn)];exact q) λc xs q=>by rw[j4 (gk q hn)];exact q
   rcases hc with z|z
   ·rw[z];exact gk e fC
   ·exact gk z fC
 have J':=I.call (g':=s'.gens) (t':=s'.toks) (d':=s'.drawn) (ch:=fp) u hok J.bare λb hb=>⟨(hf b hb).2.2.2.1,(hf b hb).2.1,(hf b hb).2.2.2.2.1,(hf b hb).2.2.2.2.2⟩;have eo:s'.os=s.os:=J.os;obtain⟨hp,g,d,t,o⟩:=s';have eo':o=s.os:=eo;subst eo';exact J'
def a5m(X:Cx)(aA:List (Addr×Obj))(σ:St)(use:Option (Value->Sem Unit))(Q:VK)(Qf:Value->Shared->Prop):Prop :=
 ∀(acc C:Addr) (s6:Shared) (H6:Hp) (m6:Str->Option Value),s6.heap.Ns C m6->a6u X aA H6 C->(∀h',Heap.SameBut C s6.heap h'->Inv X aA σ H6 {s6 with heap:=h' })->Q (.ref acc) H6->
  compPost (model X.prog X.w) X.A X.xe use Qf (.ref acc) C (.ok .next) s6
theorem af9:a5m X aA σ none Q (EP X aA σ Q):=λacc C s6 H6 m6 hn _ k q=>⟨m6,hn,λh' sb=>⟨.ref acc,H6,k h' sb,rfl,q⟩⟩
theorem afa{D:Ends}(hN:X.N.Nodup)(hi:X.N[i]? = some x)(hx:Loc X.env.scope x)(hf:X.fn x=true\/X.env.scope.names.lookup x=some .local) :
  a5m X aA σ (some (assign (.Name x pos') X.env)) (λv H1=>a5b i v σ H1 D.nx) (λ_ s'=>SP X aA D .next s'):=by
 intro acc C s6 H6 m6 hn fp k q
 obtain⟨f1,f2,f3,f4,f5,f6⟩:=fp;have I6:Inv X aA σ H6 s6:=k s6.heap (Heap.SameBut.refl _ _);refine wpAny_assign_Name (a6t (v:=.ref acc) I6 hN hi hx rfl (λs' I' ⟨a,sb,ha⟩=>⟨m6,hn.sameBut sb ?_,λh' sb'=>⟨_,H6,I'.turned (t':=s'.toks) (it:=C) (λb o hb e=>sb'.extBut b o hb e) f1 f2 f4 f5 f6,q⟩⟩) hf)
 rcases ha with ha|ha
 ·rw[ha];exact f2
 ·exact λz=>f5 x a ha z.symm
theorem abx{Y:Cx}{cnd:Option Expr}{N it:Addr}{fp:List Addr}{tn:Nat->Heap->Prop}{J:It}{σ0:St}{H2:Hp}{s4:Shared}{W:Nat->Nat->List V->Hp->Prop}{Q:VK}(hc:Y.calm=true)(no:∀v s,Y.xe v s->False)(hp0:Y.pn=[])(T:Turn Y.prog Y.w Y.K tg J fp it tn)
  (stat:∀{H':Hp},(∀b∈fp,H' b=none)->∀b∈fp,a6u Y [] H' b) (statA:∀{H':Hp},H' N=none->a6u Y [] H' N) (accF:N∉fp) (hg:PG Y tg g) (he:PE Y aD te) (ht:PTO Y cnd tc)
  (turn:∀i m ys H,W i m ys H->(J.stop i H/\∀p,H p=none->Q (.ref p) (upd H p (.lst ys)))\/(J.go i H/\ys.length<sizeLine/\∀x H',J.yld i H x H'->g x σ0 H' λσ2 H2=>Ext σ0 σ2/\tc σ2 H2 λok H2'=>if ok=true then te σ2 H2' (λy H3=>∃m',m'<m/\W (i+1) m' (ys++[y]) H3) else ∃m',m'<m/\W (i+1) m' ys H2'))
  (w0:W 0 m0 [] H2) (K0:Inv Y [] σ0 H2 s4) (st4:tn 0 s4.heap) (f0:∀b∈fp,H2 b=none) (fa:H2 N=none) (hacc:s4.heap.get? N=some {cls:=.type "list",data:=.seq ([]:List Value).toArray 0})
  (fin:∀s6 H6 ys its k,Inv Y [(N,{cls:=.type "list",data:=.seq its.toArray k})] σ0 H6 s6->H6 N=none->Vals ys its->ys.length<=sizeLine->(∀p,H6 p=none->Q (.ref p) (upd H6 p (.lst ys)))->R (.ok .next) s6) :
  codeAny (model Y.prog Y.w) Y.A (.compLoop (.ListComp aD [⟨tg,aF,cnd.toList,0⟩] aB pos) 0 (.ref it) (.ref N) Y.env) R s4:=by
 refine abv no (λn s'=>∃i σ' H' ys its k,Inv Y [] σ' H' s'/\Ext σ0 σ'/\tn i s'.heap/\(∀b∈fp,H' b=none)/\H' N=none /\
  s'.heap.get? N=some {cls:=.type "list",data:=.seq its.toArray k}/\Vals ys its/\ys.length<=sizeLine/\W i n ys H') ?_ m0
  ⟨0,_,H2,[],[],0,K0,⟨rfl,λ_ _ z=>z⟩,st4,f0,fa,hacc,.nil,bp _,w0⟩
 rintro n s5 ⟨i,σ5,H5,ys,its,k5,I5,x5,st5,fr5,fa5,ac5,rv5,hz5,w5⟩
 have I5':Inv Y [] σ0 H5 s5:=I5.weak x5.1.symm x5.2;obtain⟨ob,hob⟩:∃ob:Obj,ob={cls:=.type "list",data:=.seq its.toArray k5}:=⟨_,rfl⟩;rw[<-hob]at ac5;have IP:Inv Y [(N,ob)] σ0 H5 s5:=I5'.pins_of λp hp=>by
  rw[aw.mp hp];obtain⟨a0,a1,a2,_⟩:=statA fa5;exact⟨ac5,a0,a1,a2,λv z=>by rw[hob]at z;cases z⟩
 have FB:∀b∈fp,a6u Y [(N,ob)] H5 b:=λb hb=>by
  obtain⟨b0,b1,b2,b3,b4,b5⟩:=stat fr5 b hb;refine⟨b0,b1,b2,b3,b4,λp hp=>?_⟩;rw[hp0]at hp;rw[aw.mp hp];exact λz=>accF (by have z':N=b:=z;rw[z'];exact hb)
 rcases turn i n ys H5 w5 with⟨stop,qn⟩|⟨go,hlt,step⟩
 ·refine thn (T.done Y rfl rfl rfl hc i [(N,ob)] s5 _ H5 _ IP FB st5 stop) ?_
  rintro r s6 ⟨hr,I6⟩
  subst hr;rw[hob]at I6;exact fin s6 H5 ys its k5 I6 fa5 rv5 hz5 qn
 ·refine thn (T.item Y rfl rfl rfl hc i [(N,ob)] s5 _ H5 _ IP FB st5 go) ?_
  rintro r s6 ⟨u,hr,h6⟩
  subst hr;refine thn h6 ?_
  rintro _ s7 ⟨x,H7,I7,r7,y7,st7,fr7⟩
  obtain⟨ac7,fa7,_⟩:=I7.pin (N,ob) (by simp)
  have I7':Inv Y (a2t (N::fp) s7.heap) σ0 H7 s7:=by
   show Inv Y ([]++a2t (N::fp) s7.heap) _ _ _;refine Inv.pinned I7.unpinned' (λb hb=>?_) λb hb=>?_
   ·rcases ar.mp hb with e|e
    ·subst e;exact statA fa7
    ·exact stat fr7 b e
   ·rcases ar.mp hb with e|e
    ·subst e;exact⟨_,ac7,λv z=>by rw[hob]at z;cases z⟩
    ·exact T.obj _ _ st7 b e
  have keep:∀{σ':St} {H9:Hp} {s9:Shared} {ps:List (Addr×Obj)},Inv Y (a2t (N::fp) s7.heap) σ' H9 s9->(s9.heap.get? N=some ob/\H9 N=none)/\∀b∈fp,(∀o,s7.heap.get? b=some o->s9.heap.get? b=some o)/\H9 b=none:=λI9=>by
   refine⟨?_,λb hb=>?_⟩
   ·obtain⟨z1,z2,_⟩:=I9.pin (N,ob) (br _ (zx aT ac7));exact⟨z1,z2⟩
   ·obtain⟨o,e,_⟩:=T.obj _ _ st7 b hb;obtain⟨z1,z2,_⟩:=I9.pin (b,o) (br _ (zx (aP _ hb) e));exact⟨λo' e'=>by rw[e]at e';cases e';exact z1,z2⟩
  refine thn (hg _ s7 _ H7 x u _ I7' r7 (step x H7 y7)) ?_
  rintro _ s8 ⟨σ8,H8,I8,x8,q8⟩
  refine thn (ht _ s8 _ H8 _ I8 q8) ?_
  rintro ok s8' ⟨H8',I8',q8'⟩
  cases ok with
  |false =>
   rw[b9 aV]at q8' ⊢;obtain⟨m',hm',w9⟩:=q8';obtain⟨⟨ac9,fa9⟩,k9⟩:=keep (ps:=[]) I8';exact⟨m',hm',i+1,σ8,H8',ys,its,k5,I8'.unpinned',x8,T.keep _ _ _ st7 λb hb o e=>(k9 b hb).1 o e,λb hb=>(k9 b hb).2,fa9,by rw[ac9,hob],rv5,hz5,w9⟩
  |true =>
   rw[aI rfl]at q8' ⊢;refine thn (he _ s8' _ H8' _ I8' q8') ?_
   rintro yv s9 ⟨y,H9,I9,r9,m',hm',w9⟩
   obtain⟨⟨ac9,fa9⟩,k9⟩:=keep (ps:=[]) I9;rw[hob]at ac9;have hl:=rv5.length;refine cZ F.slot_list_append ⟨_,ac9,rfl⟩ F.entry_list_append (F.args_list_append_2 _ _) (PySem.list_append N its.toArray k5 yv (by rw[ae];omega)) ⟨ac9,?_⟩
   have q:=PySem.IsL.update ac9 (λa=>a.push yv);have qo:∀b o,b≠N->s9.heap.get? b=some o->(s9.heap.update N (Obj.mapSeq (λa=>a.push yv))).get? b=some o:=λb o hb e=>(de s9.heap _ (eK hb)).trans e;have q':∃k,(s9.heap.update N (Obj.mapSeq (λa=>a.push yv))).get? N=some {cls:=.type "list",data:=.seq (its++[yv]).toArray k}:=⟨_,by rw[q];simp;rfl⟩
   obtain⟨k9',q9⟩:=q';obtain⟨a0,a1,a2,a3,a4,a5⟩:=statA fa9;refine⟨m',hm',i+1,σ8,H9,ys++[y],its++[yv],k9',(I9.unpinned').turned qo a0 a1 a3 a4 a5,x8,T.keep _ _ _ st7 λb hb o e=>qo b o (λz=>accF (z ▸ hb)) ((k9 b hb).1 o e),λb hb=>(k9 b hb).2,fa9,q9,rv5.append (.cons r9 .nil),?_,w9⟩;rw[ah,ay];omega
theorem aa9{cnd:Option Expr}(hc:X.calm=true)(S:CSc X aB cl ts fr ix)(hi:PI X tg aF wi)
  (hg:∀C fp s H,PG (cxC X (ts++fr) aB cl C fp s H) tg g) (he:∀C fp s H,PE (cxC X (ts++fr) aB cl C fp s H) aD te) (ht:∀C fp s H,PTO (cxC X (ts++fr) aB cl C fp s H) cnd tc) (hs:∀x,foldedSetIterable aF X.env x=pure x)
  (use:Option (Value->Sem Unit)) (I:Inv X aA σ H s) (h:abu wi (zf ts.length ix) g tc te σ H Q) (fin:a5m X aA σ use Q Qf) :
  wpAny (model X.prog X.w) X.A (comprehension (.ListComp aD [⟨tg,aF,cnd.toList,0⟩] aB pos) aB X.env ppos (newList []) false (eval aF X.env) use) Qf X.xe s:=by
 refine wpAny_comprehension_free (use:=use) rfl hs S.clos S.kind S.names (thn (hi aA s σ H _ I h) λv s1 h1=>thn h1 λitv s2 h2=>?_);obtain⟨it,fp,tn,J,H2,e,I2,T,st2,f2,W,⟨m0,w0⟩,turn⟩:=h2;subst e;have hob:∀b∈fp,b<s2.heap.objs.size:=λb hb=>let ⟨o,e,_⟩:=T.obj _ _ st2 b hb;aL e;refine cc (wpAny_newFunctionEnv S.nocell (by intro y hy;simp at hy) (λh4 hns4 hsb4=>?_) S.kind)
 dsimp only at hns4 hsb4 ⊢
 generalize hH2:s2.heap.push {cls:=.type "list",dict:=none,data:=.seq ([]:List Value).toArray}=G at hns4 hsb4 ⊢
 have hCs:G.objs.size=s2.heap.objs.size+1:=by rw[<-hH2,bO]
 have hCle:s2.heap.objs.size<=G.objs.size:=by omega
 have hne:G.objs.size≠s2.heap.objs.size:=by omega
 have old:∀b o,s2.heap.get? b=some o->h4.get? b=some o:=λb o e=>by
  have hlt:=aL e;exact hsb4.extBut b o (bq (aS hlt hCle)) (a8 _ (hH2 ▸ a8 _ e))
 have hacc:h4.get? s2.heap.objs.size=some {cls:=.type "list",data:=.seq ([]:List Value).toArray 0} :=
  hsb4.extBut _ _ (eK hne) (a8 _ (hH2 ▸ aN _ rfl))
 have K0:Inv (cxC X (ts++fr) aB cl G.objs.size fp s2 H2) [] (zf ts.length ix σ) H2 {s2 with heap:=h4,toks:=s2.toks+([]:List (Str×Value)).length} :=
  aj2 S I2 f2 hob hCle old hns4 rfl rfl
 have st4:tn 0 h4:=T.keep _ _ _ st2 λb _ o e=>old b o e;have accF:s2.heap.objs.size∉fp:=λz=>bZ _ (hob _ z);have stat:∀{H':Hp},(∀b∈fp,H' b=none)->∀b∈fp,a6u (cxC X (ts++fr) aB cl G.objs.size fp s2 H2) [] H' b:=λhn b hb =>
  ⟨hn b hb,λz=>by have h1:=hob b hb;have z':b=G.objs.size:=z;exact bq (aS h1 hCle) z',λz=>(abw S I2 f2 hob hCle).exfs b hb z,.inl hb,λx c e=>(f2 b hb).2.2.2.2.1 x c (S.sub x c e),λp hp=>absurd (show p∈([]:List (Addr×Obj)) from hp) (by simp)⟩
 have statA:∀{H':Hp},H' s2.heap.objs.size=none->a6u (cxC X (ts++fr) aB cl G.objs.size fp s2 H2) [] H' s2.heap.objs.size:=λhn =>
  ⟨hn,λz=>hne (show G.objs.size=s2.heap.objs.size from z.symm),λz=>by
   obtain⟨_,o,ho,_⟩:=(abw S I2 f2 hob hCle).funs.mem z;exact bZ _ (aL ho),.inr (ag _),λx c e z=>by
   obtain⟨v,o,ho,_⟩:=I2.cell x c (S.sub x c e);rw[z]at ho;exact bZ _ (aL ho),λp hp=>absurd (show p∈([]:List (Addr×Obj)) from hp) (by simp)⟩
 have loop:codeAny (model X.prog X.w) X.A (.compLoop (.ListComp aD [⟨tg,aF,cnd.toList,0⟩] aB pos) 0 (.ref it) (.ref s2.heap.objs.size) (compEnvC aB cl G.objs.size X.env))
   (compPost (model X.prog X.w) X.A X.xe use Qf (.ref s2.heap.objs.size) G.objs.size) {s2 with heap:=h4,toks:=s2.toks+([]:List (Str×Value)).length} :=
  abx (Y:=cxC X (ts++fr) aB cl G.objs.size fp s2 H2) hc (λ_ _ h=>h) rfl T stat statA accF (hg _ _ _ _) (he _ _ _ _) (ht _ _ _ _) turn w0 K0 st4 (λb hb=>(f2 b hb).1) (I2.hok.fresh (ag _)) hacc λs6 H6 ys its k I6 fa rv hz qn=>by
   have e6:=(I6.pin (s2.heap.objs.size,{cls:=.type "list",data:=.seq its.toArray k}) (by show _∈[]++[_];simp)).1
   obtain⟨m6,hn6,_⟩:=I6.loc;exact fin _ _ s6 _ m6 hn6 (I2.fpOk hCle (by rw[j4 hne];exact I6.free)) (λh' sb=>comp_back I2 f2 hCle (ag _) hne I6.unpinned' fa e6 rv hz sb) (qn _ fa)
 exact codeAny_compStart_list loop (T.self _ 0 _ _ _ st4 loop)
theorem a76(hc:X.calm=true)(S:CSc X aB cl ts fr ix)(hi:PI X tg aF wi)
  (hg:∀C fp s H,PG (cxC X (ts++fr) aB cl C fp s H) tg g) (he:∀C fp s H,PE (cxC X (ts++fr) aB cl C fp s H) aD te) (hs:∀x,foldedSetIterable aF X.env x=pure x)
  (use:Option (Value->Sem Unit)) (I:Inv X aA σ H s) (h:abr wi (zf ts.length ix) g te σ H Q) (fin:a5m X aA σ use Q Qf) :
  wpAny (model X.prog X.w) X.A (comprehension (.ListComp aD [⟨tg,aF,[],0⟩] aB pos) aB X.env ppos (newList []) false (eval aF X.env) use) Qf X.xe s:=by
 refine aa9 (cnd:=none) (tc:=λσ H Q=>Q true H) hc S hi hg he (λ_ _ _ _ aA s σ H Q I h=>aJ ⟨H,I,h⟩) hs use I ?_ fin;unfold abu abt;unfold abr aj1 at h;simpa only[cQ] using h
theorem afb(hc:X.calm=true)(S:CSc X aB cl ts fr ix)(hi:PI X tg aF wi)
  (hg:∀C fp s H,PG (cxC X (ts++fr) aB cl C fp s H) tg g) (he:∀C fp s H,PE (cxC X (ts++fr) aB cl C fp s H) aD te)
  (hs:∀x,foldedSetIterable aF X.env x=pure x:=by intro _;rfl) :
  PE X (.ListComp aD [⟨tg,aF,[],0⟩] aB pos) (abr wi (zf ts.length ix) g te):=by
 intro aA s σ H Q I h
 rw[eval_ListComp];exact a76 hc S hi hg he hs none I h af9
theorem afc{spos:Pos}(hN:X.N.Nodup)(hi':X.N[i]? = some x)(hx:Loc X.env.scope x)(hc:X.calm=true)(S:CSc X aB cl ts fr ix)(hi:PI X tg aF wi)
  (hg:∀C fp s H,PG (cxC X (ts++fr) aB cl C fp s H) tg g) (he:∀C fp s H,PE (cxC X (ts++fr) aB cl C fp s H) aD te)
  (hs:∀x,foldedSetIterable aF X.env x=pure x:=by intro _;rfl) (hsw:swapsWith (.ListComp aD [⟨tg,aF,[],0⟩] aB pos) (some (.Name x pos')) spos.line X.env=pure true:=by rfl) (hf:Hf X x:=by first|exact .inl rfl|exact .inr rfl|assumption) :
  PS X (.Assign [.Name x pos'] (.ListComp aD [⟨tg,aF,[],0⟩] aB pos) spos) (aqm (abr wi (zf ts.length ix) g te) (a5b i)):=by
 intro aA s σ H D I h
 rw[exec_Assign_Name_used _ _ _ _ hsw];refine a9 (dC (a9 ?_));refine a9 (cG (a76 hc S hi hg he hs (some (assign (.Name x pos') X.env)) I h (afa hN hi' hx hf)) (λ_ s' hq=>aJ (aJ hq)) λ_ _ e=>e)
end
end L2
namespace L2
theorem amy:bootBuiltins "len" = some (.builtin "len"):=PySem.boot_len
theorem ig:bootBuiltins "isinstance" = some (.builtin "isinstance"):=by first|exact PySem.boot_isinstance|exact PyProof.Rows.boot_isinstance
theorem amz:bootBuiltins "str" = some (.type "str"):=by first|exact PySem.boot_str|exact PyProof.Rows.boot_str
theorem ahb:bootBuiltins "all" = some (.builtin "all"):=by first|exact PySem.boot_all|exact PyProof.Rows.boot_all
theorem an0:bootBuiltins "abs" = some (.builtin "abs"):=by first|exact PySem.boot_abs|exact PyProof.Rows.boot_abs
theorem aby:bootBuiltins "int" = some (.type "int"):=by first|exact PySem.boot_int|exact PyProof.Rows.boot_int
theorem zg:bootBuiltins "list" = some (.type "list"):=by first|exact PySem.boot_list|exact PyProof.Rows.boot_list
theorem ut:bootBuiltins "tuple" = some (.type "tuple"):=by first|exact PySem.boot_tuple|exact PyProof.Rows.boot_tuple
structure Dn (P:Program) (w:World) (K:Fg) (mg:Str->Option Value) (base:Heap) (k:Nat) (x:Str) (ps:List Str) (sp:Sp) (f:Addr) (fd:FuncData):Prop where
 ok:FnOk P w K mg base CX0 k f fd ps sp
 m:mg x=some (.ref f)
 kp:PySem.W.keepIn K (.ref f)=true
 b:Binds K fd ps []
theorem aj3:sizeLine=16777216:=dk
theorem aj4(h:n<=16777216):n<=sizeLine:=by rw[dk];exact h
theorem CSc.noFree{aB:Scope}(kind:aB.kind=.function)(h:∀y∈aB.names,y.2≠.cell/\y.2≠.free)(names:∀y∈aB.names,y.2=.local->aB.names.lookup y.1=some .local)
  (ht:∀y∈ts,aB.names.lookup y=some .local):CSc X aB [] ts [] []:=by
 have e:(relabel aB X.env).names=aB.names:=by
  show aB.names.map _=_;refine map_eq_self λy hy=>?_;obtain⟨n,k⟩:=y;have:(k == NameKind.free)=false:=by simpa using (h _ hy).2
  simp[this]
 refine⟨closureFor_none λy hy=>(h y hy).2,kind,λy hy=>(h y hy).1,names,(λ_ _ z=>nomatch z),λy z=>?_,λy hy=>by rw[e];exact ht y hy,rfl,(λ_ _ z=>by simp at z)⟩
 rw[e]at z
 rcases z with z|z
 ·exact absurd rfl (h _ (bF z)).1
 ·exact absurd rfl (h _ (bF z)).2
theorem ar7(x y:Str):(x++y).cps.toList=x.cps.toList++y.cps.toList:=by
 show(x.cps++y.cps).toList=_;simp
theorem a83{α:Type}(xs:List α)(k:Nat):a3z xs none (some (k:Int))=xs.take k:=by
 unfold a3z;rw[HT.a8w,HT.abi,fh,Nat.sub_zero]
 by_cases h:k<=xs.length
 ·rw[eY h]
 ·rw[Nat.min_eq_right (by omega),aZ (ag _),aZ (by omega)]
theorem a77{α:Type}(xs:List α)(k:Nat):a3z xs (some (k:Int)) none=xs.drop k:=by
 unfold a3z;rw[HT.a8w,HT.abi]
 by_cases h:k<=xs.length
 ·rw[eY h,aZ (by rw[bW];omega)]
 ·rw[Nat.min_eq_right (by omega),cn (ag _),cn (by omega),List.take_nil]
end L2
namespace L2
open PyProof.Rows
section
variable{X:Cx}
def a0s(T:Str)(c:Nat):Int:=Txt.find T ⟨#[c]⟩
theorem a84(s sub:Str)(hi limit:Nat):∀(l:List Nat) (st:Array Nat×Nat) (k:Nat),k∈(forIn l st (StrLaws.occBody s sub hi limit)).run.fst.toList->k∈st.fst.toList\/(k+sub.length<=hi/\Builtin.Str.subAt s sub k=true)
 |[],st,k,h=>.inl h
 |a::l,st,k,h=>by
  rw[List.forIn_cons]at h;unfold StrLaws.occBody at h
  split at h
  ·rename_i c
   rcases a84 s sub hi limit l _ k h with z|z
   ·simp at z
    rcases z with z|z
    ·exact .inl (by simpa using z)
    ·subst z;exact .inr ⟨c.1.2,c.2⟩
   ·exact .inr z
  ·rcases a84 s sub hi limit l _ k h with z|z
   ·exact .inl z
   ·exact .inr z
theorem a8y{T:Str}(h:c∈T.cps.toList):∃i:Nat,a0s T c=(i:Int)/\T.cps.toList[i]? = some c/\∃aG,Builtin.Str.occurrences T ⟨#[c]⟩ 0 T.length 1=i::aG:=by
 have h1:=eJ T c;rw[bA h]at h1
 cases ho:Builtin.Str.occurrences T ⟨#[c]⟩ 0 T.length 1 with
 |nil=>rw[ho]at h1;cases h1
 |cons i aG =>
  refine⟨i,by simp[a0s,Txt.find,ho],?_,aG,rfl⟩
  rw[StrLaws.occ_eq]at ho;have hm:=a84 T ⟨#[c]⟩ T.length 1 (List.range' 0 (T.length+1-0)) (#[],0) i (by rw[ho];exact aT)
  rcases hm with z|z
  ·simp at z
  ·exact(StrLaws.subAt_one T c i).mp z
theorem aj5:OpR X (compareOp .In) (λx y H Q=>∃c T,x=.str ⟨#[c]⟩/\y=.str T/\Q (.bl (decide (c∈T.cps.toList))) H):=by
 intro aA s σ H x y v u Q I rx ry h
 obtain⟨c,T,rfl,rfl,q⟩:=h;exact ab7 aA s σ H _ _ v u Q I rx ry ⟨_,_,rfl,rfl,by rw[eJ];exact q⟩
theorem aaa:OpR X (compareOp .NotIn) (λx y H Q=>∃c T,x=.str ⟨#[c]⟩/\y=.str T/\Q (.bl (!decide (c∈T.cps.toList))) H):=by
 intro aA s σ H x y v u Q I rx ry h
 obtain⟨c,T,rfl,rfl,q⟩:=h;exact a6v aA s σ H _ _ v u Q I rx ry ⟨_,_,rfl,rfl,by rw[eJ];exact q⟩
theorem aj6:MtR X "str.find" (λx xs H Q=>∃T c,x=.str T/\xs=[.str ⟨#[c]⟩]/\Q (.int (a0s T c)) H):=by
 intro aA s σ H x xs v us Q I rx rs h
 obtain⟨T,c,rfl,rfl,q⟩:=h;obtain⟨t,rfl⟩:=rx;obtain⟨u,rfl,t',rfl⟩:=vals1 rs;exact cZ F.slot_str_find (fg _ _ _) F.entry_str_find (F.args_str_find_2 _ _) (gives_str_find _ _ _ _).meets ⟨.int (a0s T c),H,I.tok _,⟨_,rfl⟩,q⟩
theorem afd:MtR X "str.index" (λx xs H Q=>∃T c,x=.str T/\xs=[.str ⟨#[c]⟩]/\c∈T.cps.toList/\Q (.int (a0s T c)) H):=by
 intro aA s σ H x xs v us Q I rx rs h
 obtain⟨T,c,rfl,rfl,hc,q⟩:=h;obtain⟨t,rfl⟩:=rx;obtain⟨u,rfl,t',rfl⟩:=vals1 rs;obtain⟨i,e1,e2,aG,ho⟩:=a8y hc;refine cZ F.slot_str_index (fg _ _ _) F.entry_str_index (F.args_str_index_2 _ _) (gives_str_index _ _ _ _ i aG ho).meets ⟨.int (a0s T c),H,I.tok _,⟨_,by rw[e1]⟩,q⟩
theorem aj7{zs:List Str}:∀{us:List Value},Vals (zs.map V.str) us->StrsAre us zs:=by
 induction zs with
 |nil=>intro us r;rw[dn]at r;cases r;exact .nil
 |cons z zs ih =>
  intro us r
  rw[bg]at r
  cases r with
  |cons r1 r2 =>
   obtain⟨t,e⟩:=r1;subst e;exact .cons z t (ih r2)
theorem aj8:MtR X "str.join" (λx xs H Q=>∃sep p zs,x=.str sep/\xs=[.ref p]/\SqL X.K H p (zs.map V.str)/\(zs.map (·.length)).sum+zs.length*sep.length<=16777216/\Q (.str (Txt.join sep zs)) H):=by
 intro aA s σ H x xs v us Q I rx rs h
 obtain⟨sep,p,zs,rfl,rfl,hp,hz,q⟩:=h;obtain⟨t,rfl⟩:=rx;obtain⟨u,rfl,ru⟩:=vals1 rs;cases ru
 obtain⟨its,r,pl,_⟩:=I.list hp;exact join_list pl.isList (by simpa using aj7 r) hz λt' k=>⟨.str _,H,I.tok _,⟨_,rfl⟩,q⟩
end
theorem CSc.of{X:Cx}{ts fr:List Str}{ix:List Nat}(clos:closureFor aB X.env=pure cl)(kind:aB.kind=.function)
  (nocell:(aB.names.all λp=>p.2 != .cell)=true) (names:(aB.names.all λp=>p.2 != .local || aB.names.lookup p.1 == some .local)=true) (sub:∀p∈cl,X.env.cells.lookup p.1=some p.2)
  (has:((relabel aB X.env).names.all λp => !(p.2 == .cell || p.2 == .free) || (cl.lookup p.1).isSome)=true) (nofn:(ts.all λy=>(relabel aB X.env).names.lookup y == some .local)=true)
  (len:ix.length=fr.length) (vis:((fr.zip ix).all λp=>X.N[p.2]? == some p.1 && (X.env.kindOf p.1 == some .cell || X.env.kindOf p.1 == some .free) && ((relabel aB X.env).names.lookup p.1 == some .cell || (relabel aB X.env).names.lookup p.1 == some .free))=true) :
  CSc X aB cl ts fr ix:=by
 refine⟨clos,kind,λy hy=>?_,λy hy e=>?_,λy c e=>sub _ (bF e),λy z=>?_,λy hy=>?_,len,λj y e=>?_⟩
 ·have:=aO.mp nocell y hy
  simpa using this
 ·have:=aO.mp names y hy
  rw[e]at this;simpa using this
 ·have key:∀k,(relabel aB X.env).names.lookup y=some k->(k == .cell || k == .free)=true->∃c,cl.lookup y=some c:=λk e hk=>by
   have:=aO.mp has _ (bF e)
   rw[hk]at this;exact eF.mp (by simpa using this)
  rcases z with z|z
  ·exact key _ z rfl
  ·exact key _ z rfl
 ·have:=aO.mp nofn y hy
  simpa using this
 ·obtain⟨hj,_⟩:=a7.mp e;have hj2:j<ix.length:=by omega
  have hm:(y,ix[j])∈fr.zip ix:=by
   rw[List.mem_iff_getElem?];exact⟨j,by rw[bU];exact⟨e,a6 hj2⟩⟩
  have:=aO.mp vis _ hm
  simp only[bI,Bool.or_eq_true,beq_iff_eq]at this;exact⟨ix[j],a6 hj2,this.1.1,this.1.2,this.2⟩
def tSM(r:V->List V->Hp->VK->Prop)(to:TE)(t:TA):TE:=λσ H Q=>to σ H λx H1=>(∃z,x=.str z)/\t σ H1 λxs H2=>r x xs H2 Q
theorem ar8{X:Cx}{o e:Expr}{es:List Expr}{to:TE}{t:TA}{name:Str}{apos cpos:Pos}{id:String}{r:V->List V->Hp->VK->Prop}(slot:Slot "str" name id)(hty:typeOf (.builtin id)=pure (.type "method_descriptor"))(hm:MtR X id r)(ho:PE X o to)(ha:PA X (e::es) t)
  (hbase:attributeBase o name X.env (eval o X.env)=eval o X.env:=by rfl)
  (hfew:((backTo cpos (starEach (e::es) X.env)).all (λx => !x.1) && (backToKw cpos (keywordEach [] X.env)).all (λx=>x.1.isSome)
   && decide ((e::es).length+([]:List Keyword).length+(if ([]:List Keyword).isEmpty then 0 else 1)<30))=true:=by rfl)
  (hline:(apos.endLine == cpos.line)=true:=by rfl) (hs:starEach (e::es) X.env=(false,eval e X.env)::starEach es X.env:=by rfl) (hplain:(backTo cpos (starEach es X.env)).any (·.1)=false:=by rfl) :
  PE X (.Call (.Attribute o name apos) (e::es) [] cpos) (tSM r to t):=by
 intro aA s σ H Q I h
 refine wpAny_Call_method_late hbase hfew hline rfl (thn (ho aA s σ H _ I h) λv s1 ⟨x,H1,I1,r1,⟨z,hz⟩,q1⟩=>?_);subst hz;obtain⟨h1,h2⟩:=ah8 (T := "str") I1 r1 rfl;refine⟨"str",id,PySem.F.plainAttrs_str,slot,hty,h1,h2,?_⟩;have hA:=ha cpos aA s1 σ H1 _ I1 q1;rw[hs]at hA ⊢;refine Calls.callWith_builtin (by show(false || (backTo cpos (starEach es X.env)).any (·.1))=false;rw[hplain]<;>rfl) (Calls.evalArgs_plain ?_)
 exact thn hA λus s2 ⟨vs,H2,I2,r2,q2⟩=>hm aA s2 σ H2 _ vs v us Q I2 r1 r2 q2
section
variable{X:Cx}
theorem aab(hc:X.calm=true):CallR X (.builtin "sum") (λxs H Q=>∃(p:Addr) (ns:List Int),xs=[.ref p]/\SqL X.K H p (ns.map V.int)/\Q (.int ns.sum) H):=by
 intro aA s σ H xs us Q I r h
 obtain⟨p,ns,rfl,hq,q⟩:=h;obtain⟨u,rfl,rx⟩:=vals1 r;cases rx
 obtain⟨its,r',pl,hz⟩:=I.list hq;have hInts:IntsAre its ns:=intsAre_of r';obtain⟨prs,ep⟩:=hInts.allInts.items;refine sum_intListG (xs:=prs) (I.ok.hd hc) (ep ▸ pl.isList) λh' tk t' hk=>⟨.int ns.sum,H,I.kept hk,⟨t',?_⟩,q⟩;have nums:prs.toList.map (·.1)=ns:=by
  rw[<-nums_intItems,<-ep];exact hInts.numsOf
 have tot:preSum (numAt prs) prs.size=ns.sum:=by
  rw[preSum_eq,<-nums]
  congr 1
  exact aZ (by simp)
 rw[tot]
end
end L2
namespace MI
open L2
inductive D where
 |non|bl (b:Bool)|int (i:Int)|str (x:Str)|ty (n:String)|tup (xs:List D)|rol (xs:List D)|ref (i:Nat)|scr (xs:List D)|rod (ks:List Key) (xs:List D)|rdT (ks:List (List Key)) (xs:List D)|exc (c:Str)|ins (c:Str) (ks:List Str) (xs:List D)
inductive O where
 |lst (xs:List D)|dK (kvs:List (Key×D))|dT (kvs:List (List Key×D))|ins (c:Str) (fs:List (Str×D))
abbrev Hd:=List O
abbrev Sd:=List (Option D)
inductive R (α:Type) where
 |ok (a:α) (h:Hd)|ex (c:Str) (h:Hd)|no
def R.bind{α β:Type}:R α->(α->Hd->R β)->R β
 |.ok a h,k=>k a h
 |.ex c h,_=>.ex c h
 |.no,_=>.no
inductive Fl where
 |nx (σ:Sd) (h:Hd)|rt (d:D) (h:Hd)|bk (σ:Sd) (h:Hd)|ct (σ:Sd) (h:Hd)|ex (c:Str) (h:Hd)|no
def R.fl{α:Type}:R α->(α->Hd->Fl)->Fl
 |.ok a h,k=>k a h
 |.ex c h,_=>.ex c h
 |.no,_=>.no
abbrev SE:=Sd->Hd->R D
abbrev ST:=Sd->Hd->R Bool
abbrev SA:=Sd->Hd->R (List D)
abbrev SS:=Sd->Hd->Fl
def SqF(K:Fg)(H:Hp)(a:Addr)(vs:List V):Prop:=(∃o,H a=some (.frz o (.lst vs)))\/SqL K (λ_=>none) a vs
theorem SqF.l(h:SqF K H a vs):SqL K H a vs:=by
 rcases h with⟨o,h⟩|h
 ·exact .inl (.inr ⟨o,h⟩)
 ·rcases h with(h|⟨o,h⟩)|h
  ·cases h
  ·cases h
  ·exact .inr h
def SqZ(H:Hp)(a:Addr)(vs:List V):Prop:=∃o,H a=some (.frz o (.lst vs))
theorem SqZ.l(h:SqZ H a vs):SqL K H a vs:=let ⟨o,e⟩:=h; .inl (.inr ⟨o,e⟩)
def exO(a:Addr):HO:=.ext λh=>∃o,h.get? a=some o
mutual
inductive Rep (K:Fg) (ι:List Addr) (H:Hp):V->D->Prop
 |non:Rep K ι H .non .non
 |bl (b:Bool):Rep K ι H (.bl b) (.bl b)
 |int (i:Int):Rep K ι H (.int i) (.int i)
 |str (x:Str):Rep K ι H (.str x) (.str x)
 |ty (n:String):Rep K ι H (.ty n) (.ty n)
 |tup {a:Addr} {vs:List V} {xs:List D} (h:H a=some (.tup vs)) (r:Reps K ι H vs xs):Rep K ι H (.ref a) (.tup xs)
 |rol {a:Addr} {vs:List V} {xs:List D} (h:SqZ H a vs) (r:Reps K ι H vs xs):Rep K ι H (.ref a) (.rol xs)
 |scr {a:Addr} {vs:List V} {xs:List D} (h:SqF K H a vs) (r:Reps K ι H vs xs):Rep K ι H (.ref a) (.scr xs)
 |ref {a:Addr} {i:Nat} (h:ι[i]? = some a):Rep K ι H (.ref a) (.ref i)
 |rod {a:Addr} {o:Obj} {us:List (Key×V)} {ks:List Key} {xs:List D} (h:H a=some (.frz o (.dK us))) (e:us.map (·.1)=ks) (r:Reps K ι H (us.map (·.2)) xs):Rep K ι H (.ref a) (.rod ks xs)
 |rdT {a:Addr} {o:Obj} {us:List (List Key×V)} {ks:List (List Key)} {xs:List D} (h:H a=some (.frz o (.dT us))) (e:us.map (·.1)=ks) (r:Reps K ι H (us.map (·.2)) xs):Rep K ι H (.ref a) (.rdT ks xs)
 |exc {a C:Addr} {o:Obj} {c:Str} (h:H a=some (.frz o (exO a))) (hc:o.cls=.ref C) (hn:PySem.W.nsIn K mainGlobals c=some (some (.ref C))):Rep K ι H (.ref a) (.exc c)
 |ins {a C dx:Addr} {o:Obj} {c:Str} {us:List (Str×V)} {ks:List Str} {xs:List D} (h:H a=some (.frz o (.ins C dx us))) (hn:PySem.W.nsIn K mainGlobals c=some (some (.ref C))) (e:us.map (·.1)=ks) (r:Reps K ι H (us.map (·.2)) xs):Rep K ι H (.ref a) (.ins c ks xs)
inductive Reps (K:Fg) (ι:List Addr) (H:Hp):List V->List D->Prop
 |nil:Reps K ι H [] []
 |cons {v:V} {d:D} {vs:List V} {ds:List D} (r:Rep K ι H v d) (rs:Reps K ι H vs ds):Reps K ι H (v::vs) (d::ds)
end
structure Gw (ι:List Addr) (H:Hp) (ι':List Addr) (H':Hp):Prop where
 pre:∃m,ι'=ι++m
 tup:∀a vs,H a=some (.tup vs)->H' a=some (.tup vs)
 frz:∀a o u,H a=some (.frz o u)->H' a=some (.frz o u)
structure Gr (ι:List Addr) (H:Hp) (ι':List Addr) (H':Hp):Prop where
 pre:∃m,ι'=ι++m/\∀a∈m,H a=none
 tup:∀a vs,H a=some (.tup vs)->H' a=some (.tup vs)
 frz:∀a o u,H a=some (.frz o u)->H' a=some (.frz o u)
 oth:∀a u,H a=some u->a∉ι->H' a=some u
 kp:∀a u,H a=some u->∃u',H' a=some u'
theorem Gr.w(g:Gr ι H ι' H'):Gw ι H ι' H':=⟨let ⟨m,e,_⟩:=g.pre; ⟨m,e⟩,g.tup,g.frz⟩
theorem Gr.refl(ι:List Addr)(H:Hp):Gr ι H ι H:=⟨⟨[],by simp,by simp⟩,λ_ _ h=>h,λ_ _ _ h=>h,λ_ _ h _=>h,λ_ u h=>⟨u,h⟩⟩
theorem Gr.trans(a:Gr ι H ι1 H1)(b:Gr ι1 H1 ι2 H2):Gr ι H ι2 H2:=by
 obtain⟨m,rfl,hm⟩:=a.pre;obtain⟨n,rfl,hn⟩:=b.pre;refine⟨⟨m++n,by simp,λx hx=>?_⟩,λx vs h=>b.tup x vs (a.tup x vs h),λx o u h=>b.frz x o u (a.frz x o u h),λx u h hx=>?_,λx u h=>?_⟩
 ·rcases aW.mp hx with hx|hx
  ·exact hm x hx
  ·cases e:H x with
   |none=>rfl
   |some u =>
    obtain⟨u',e'⟩:=a.kp x u e;rw[hn x hx]at e';cases e'
 ·refine b.oth x u (a.oth x u h hx) λz=>?_
  rcases aW.mp z with z|z
  ·exact hx z
  ·rw[hm x z]at h;cases h
 ·obtain⟨u',e⟩:=a.kp x u h;exact b.kp x u' e
theorem Gw.at(g:Gw ι H ι' H'){i:Nat}(h:ι[i]? = some a):ι'[i]? = some a:=by
 obtain⟨m,rfl⟩:=g.pre;rw[aE (a7.mp h).1];exact h
theorem Gr.at(g:Gr ι H ι' H'){i:Nat}(h:ι[i]? = some a):ι'[i]? = some a:=g.w.at h
theorem SqF.monoW(g:Gw ι H ι' H')(h:SqF K H a vs):SqF K H' a vs:=by
 rcases h with⟨o,h⟩|h
 ·exact .inl ⟨o,g.frz _ _ _ h⟩
 ·exact .inr h
theorem SqZ.monoW(g:Gw ι H ι' H')(h:SqZ H a vs):SqZ H' a vs:=let ⟨o,e⟩:=h; ⟨o,g.frz _ _ _ e⟩
theorem SqZ.mono(g:Gr ι H ι' H')(h:SqZ H a vs):SqZ H' a vs:=h.monoW g.w
mutual
theorem Rep.monoW(g:Gw ι H ι' H'):∀{v:V} {d:D},Rep K ι H v d->Rep K ι' H' v d
 |_,_,.non=>.non
 |_,_,.bl b=>.bl b
 |_,_,.int i=>.int i
 |_,_,.str x=>.str x
 |_,_,.ty n=>.ty n
 |_,_,.tup h r=>.tup (g.tup _ _ h) (Reps.monoW g r)
 |_,_,.rol h r=>.rol (h.monoW g) (Reps.monoW g r)
 |_,_,.scr h r=>.scr (h.monoW g) (Reps.monoW g r)
 |_,_,.ref h=>.ref (g.at h)
 |_,_,.rod h e r=>.rod (g.frz _ _ _ h) e (Reps.monoW g r)
 |_,_,.rdT h e r=>.rdT (g.frz _ _ _ h) e (Reps.monoW g r)
 |_,_,.exc h hc hn=>.exc (g.frz _ _ _ h) hc hn
 |_,_,.ins h hn e r=>.ins (g.frz _ _ _ h) hn e (Reps.monoW g r)
theorem Reps.monoW(g:Gw ι H ι' H'):∀{vs:List V} {ds:List D},Reps K ι H vs ds->Reps K ι' H' vs ds
 |_,_,.nil=>.nil
 |_,_,.cons r rs=>.cons (Rep.monoW g r) (Reps.monoW g rs)
end
theorem Rep.mono(g:Gr ι H ι' H')(r:Rep K ι H v d):Rep K ι' H' v d:=r.monoW g.w
theorem Reps.mono(g:Gr ι H ι' H')(r:Reps K ι H vs ds):Reps K ι' H' vs ds:=r.monoW g.w
section
variable{K:Fg}{ι:List Addr}{H:Hp}
theorem Reps.len:Reps K ι H vs ds->vs.length=ds.length
 |.nil=>rfl
 |.cons _ rs=>by rw[bQ,bQ,rs.len]
theorem Reps.get:∀{vs:List V} {ds:List D} {i:Nat} {d:D},Reps K ι H vs ds->ds[i]? = some d->∃v,vs[i]? = some v/\Rep K ι H v d
 |_,_,_,_,.nil,e=>by simp at e
 |_,_,0,_,.cons r _,e=>by simp at e;subst e;exact⟨_,rfl,r⟩
 |_,_,i+1,d,.cons _ rs,e=>by
  obtain⟨u,h1,h2⟩:=Reps.get (i:=i) (d:=d) rs (by simpa using e)
  exact⟨u,by simpa using h1,h2⟩
theorem Reps.app:∀{vs us:List V} {ds es:List D},Reps K ι H vs ds->Reps K ι H us es->Reps K ι H (vs++us) (ds++es)
 |_,_,_,_,.nil,s=>s
 |_,_,_,_,.cons r rs,s=>.cons r (Reps.app rs s)
theorem Reps.set(q:Rep K ι H v d):∀{vs:List V} {ds:List D} (i:Nat),Reps K ι H vs ds->Reps K ι H (vs.set i v) (ds.set i d)
 |_,_,_,.nil=>.nil
 |_,_,0,.cons _ rs=>.cons q rs
 |_,_,i+1,.cons r rs=>.cons r (Reps.set q i rs)
theorem Reps.take:∀{vs:List V} {ds:List D} (n:Nat),Reps K ι H vs ds->Reps K ι H (vs.take n) (ds.take n)
 |_,_,0,_=>.nil
 |_,_,_+1,.nil=>.nil
 |_,_,n+1,.cons r rs=>.cons r (Reps.take n rs)
theorem Reps.drop:∀{vs:List V} {ds:List D} (n:Nat),Reps K ι H vs ds->Reps K ι H (vs.drop n) (ds.drop n)
 |_,_,0,r=>r
 |_,_,_+1,.nil=>.nil
 |_,_,n+1,.cons _ rs=>Reps.drop n rs
theorem Reps.erase:∀{vs:List V} {ds:List D} (n:Nat),Reps K ι H vs ds->Reps K ι H (vs.eraseIdx n) (ds.eraseIdx n)
 |_,_,_,.nil=>.nil
 |_,_,0,.cons _ rs=>rs
 |_,_,n+1,.cons r rs=>.cons r (Reps.erase n rs)
theorem Reps.snoc(r:Reps K ι H vs ds)(q:Rep K ι H v d):Reps K ι H (vs++[v]) (ds++[d]):=r.app (.cons q .nil)
theorem Reps.flat:∀{vs:List V} {ds:List D} (k:Nat),Reps K ι H vs ds->Reps K ι H (List.replicate k vs).flatten (List.replicate k ds).flatten
 |_,_,0,_=>.nil
 |vs,ds,k+1,r=>by
  rw[bT,bT,cK,cK];exact r.app (Reps.flat k r)
end
def KRep{κ:Type}(K:Fg)(ι:List Addr)(H:Hp)(us:List (κ×V))(kvs:List (κ×D)):Prop:=us.map (·.1)=kvs.map (·.1)/\Reps K ι H (us.map (·.2)) (kvs.map (·.2))
def ORep(K:Fg)(ι:List Addr)(H:Hp)(a:Addr):O->Prop
 |.lst xs=>∃vs,H a=some (.lst vs)/\Reps K ι H vs xs
 |.dK kvs=>∃us,H a=some (.dK us)/\KRep K ι H us kvs
 |.dT kvs=>∃us,H a=some (.dT us)/\KRep K ι H us kvs
 |.ins c fs=>∃C dx us,H a=some (.ins C dx us)/\PySem.W.nsIn K mainGlobals c=some (some (.ref C))/\KRep K ι H us fs
structure HRep (K:Fg) (ι:List Addr) (H:Hp) (h:Hd):Prop where
 nd:ι.Nodup
 len:ι.length=h.length
 obj:∀(i:Nat) (a:Addr) (o:O),ι[i]? = some a->h[i]? = some o->ORep K ι H a o
section
variable{K:Fg}{ι:List Addr}{H:Hp}{h:Hd}
theorem ORep.some(r:ORep K ι H a o):∃u,H a=some u/\(∀vs,u≠.tup vs)/\(∀o' u',u≠.frz o' u'):=by
 cases o with
 |lst xs=>obtain⟨vs,e,_⟩:=r;exact⟨_,e,λ_ z=>(by cases z),λ_ _ z=>(by cases z)⟩
 |dK kvs=>obtain⟨us,e,_⟩:=r;exact⟨_,e,λ_ z=>(by cases z),λ_ _ z=>(by cases z)⟩
 |dT kvs=>obtain⟨us,e,_⟩:=r;exact⟨_,e,λ_ z=>(by cases z),λ_ _ z=>(by cases z)⟩
 |ins c fs=>obtain⟨C,dx,us,e,_⟩:=r;exact⟨_,e,λ_ z=>(by cases z),λ_ _ z=>(by cases z)⟩
theorem HRep.at(r:HRep K ι H h){i:Nat}(e:ι[i]? = some a):∃o,h[i]? = some o/\ORep K ι H a o:=by
 have hi:i<h.length:=by rw[<-r.len];exact(a7.mp e).1
 exact⟨h[i],a6 hi,r.obj i a _ e (a6 hi)⟩
theorem HRep.addr(r:HRep K ι H h){i:Nat}(e:h[i]? = some o):∃a,ι[i]? = some a/\ORep K ι H a o:=by
 have hi:i<ι.length:=by rw[r.len];exact(a7.mp e).1
 exact⟨ι[i],a6 hi,r.obj i _ o (a6 hi) e⟩
theorem HRep.notin(r:HRep K ι H h)(e:H p=none):p∉ι:=λz=>by
 obtain⟨i,hi⟩:=bB z;obtain⟨o,_,q⟩:=r.at hi;obtain⟨u,q,_⟩:=q.some;rw[e]at q;cases q
theorem ORep.monoW(g:Gw ι H ι' H')(e:H' a=H a)(r:ORep K ι H a o):ORep K ι' H' a o:=by
 cases o with
 |lst xs=>obtain⟨vs,h1,h2⟩:=r;exact⟨vs,by rw[e];exact h1,h2.monoW g⟩
 |dK kvs=>obtain⟨us,h1,h2,h3⟩:=r;exact⟨us,by rw[e];exact h1,h2,h3.monoW g⟩
 |dT kvs=>obtain⟨us,h1,h2,h3⟩:=r;exact⟨us,by rw[e];exact h1,h2,h3.monoW g⟩
 |ins c fs=>obtain⟨C,dx,us,h1,hn,h2,h3⟩:=r;exact⟨C,dx,us,by rw[e];exact h1,hn,h2,h3.monoW g⟩
theorem ORep.mono(g:Gr ι H ι' H')(e:H' a=H a)(r:ORep K ι H a o):ORep K ι' H' a o:=r.monoW g.w e
theorem yt(e:H p=none)(o:HO):Gr ι H ι (upd H p o) :=
 ⟨⟨[],by simp,by simp⟩,λa vs h=>by rw[j4 (gk h e)];exact h,λa o u h=>by rw[j4 (gk h e)];exact h,λa u h _=>by rw[j4 (gk h e)];exact h,λa u h=>⟨u,by rw[j4 (gk h e)];exact h⟩⟩
theorem HRep.aside(r:HRep K ι H h)(e:H p=none)(o:HO):HRep K ι (upd H p o) h:=by
 refine⟨r.nd,r.len,λi a o' e1 e2=>?_⟩;have q:=r.obj i a o' e1 e2;obtain⟨u,hu,_⟩:=q.some;exact q.mono (yt e o) (j4 (gk hu e))
theorem a8z(e:H p=none)(o:HO):Gr ι H (ι++[p]) (upd H p o) :=
 ⟨⟨[p],rfl,by simpa using e⟩,(yt (ι:=ι) e o).tup,(yt (ι:=ι) e o).frz,(yt (ι:=ι) e o).oth,(yt (ι:=ι) e o).kp⟩
theorem HRep.add(r:HRep K ι H h)(e:H p=none)(q:ORep K (ι++[p]) (upd H p o) p ob):HRep K (ι++[p]) (upd H p o) (h++[ob]):=by
 refine⟨?_,by simp[r.len],λi a o' e1 e2=>?_⟩
 ·rw[bL];exact⟨r.nd,by simp,λa ha b hb z=>r.notin e (by rw[aw.mp hb]at z;rw[<-z];exact ha)⟩
 ·by_cases hi:i<ι.length
  ·rw[aE hi]at e1;rw[aE (by rw[<-r.len];exact hi)]at e2
   have q:=r.obj i a o' e1 e2;obtain⟨u,hu,_⟩:=q.some;exact q.mono (a8z e o) (j4 (gk hu e))
  ·have hi2:i<(ι++[p]).length:=(a7.mp e1).1;have:i=ι.length:=by simp at hi2;omega
   subst this;rw[av (ag _)]at e1;rw[r.len,av (ag _)]at e2;simp at e1 e2;subst e1 e2;exact q
theorem a1v{i:Nat}(r:HRep K ι H h)(e:ι[i]? = some a)(o:HO):Gr ι H ι (upd H a o):=by
 obtain⟨_,_,q⟩:=r.at e;obtain⟨u,hu,n1,n2⟩:=q.some;refine⟨⟨[],by simp,by simp⟩,λb vs hb=>?_,λb o' u' hb=>?_,λb u' hb hn=>?_,λb u' hb=>?_⟩
 ·rw[j4 (λz=>by subst z;rw[hu]at hb;exact n1 _ (ba hb))];exact hb
 ·rw[j4 (λz=>by subst z;rw[hu]at hb;exact n2 _ _ (ba hb))];exact hb
 ·rw[j4 (λz=>hn (by subst z;exact aQ e))];exact hb
 ·by_cases z:b=a
  ·subst z;exact⟨o,p6⟩
  ·exact⟨u',by rw[j4 z];exact hb⟩
theorem HRep.put(r:HRep K ι H h){i:Nat}(e:ι[i]? = some a)(q:ORep K ι (upd H a o) a ob):HRep K ι (upd H a o) (h.set i ob):=by
 refine⟨r.nd,by rw[eV];exact r.len,λj b o' e1 e2=>?_⟩
 by_cases hj:i=j
 ·subst hj;rw[e]at e1;cases e1
  have hi:i<h.length:=by rw[<-r.len];exact(a7.mp e).1
  rw[bR hi]at e2;cases e2
  exact q
 ·rw[cF hj]at e2;have hne:b≠a:=λz=>by
   subst z;obtain⟨h1,g1⟩:=a7.mp e;obtain⟨h2,g2⟩:=a7.mp e1;have np:=bV.mp r.nd
   rcases Nat.lt_or_gt_of_ne hj with l|l
   ·exact np i j h1 h2 l (g1.trans g2.symm)
   ·exact np j i h2 h1 l (g2.trans g1.symm)
  exact(r.obj j b o' e1 e2).mono (a1v r e o) (j4 hne)
end
structure SRep (K:Fg) (ι:List Addr) (H:Hp) (σ:St) (τ:Sd):Prop where
 len:σ.length=τ.length
 val:∀(i:Nat) (d:D),τ[i]? = some (some d)->∃v,σ[i]? = some (some v)/\Rep K ι H v d
theorem SRep.mono(g:Gr ι H ι' H')(s:SRep K ι H σ τ):SRep K ι' H' σ τ :=
 ⟨s.len,λi d e=>let ⟨v,h1,h2⟩:=s.val i d e; ⟨v,h1,h2.mono g⟩⟩
theorem SRep.set(s:SRep K ι H σ τ)(r:Rep K ι H v d)(i:Nat):SRep K ι H (σ.set i (some v)) (τ.set i (some d)):=by
 refine⟨by simp[s.len],λj d' e=>?_⟩
 by_cases hj:i=j
 ·subst hj;have hi:i<τ.length:=by
   have:=(a7.mp e).1
   simpa using this
  rw[bR hi]at e;cases e
  exact⟨v,by rw[bR (by rw[s.len];exact hi)],r⟩
 ·rw[cF hj]at e ⊢;exact s.val j d' e
abbrev XD:=Str->List Addr->Hp->Hd->Prop
def out{α β:Type}(K:Fg)(E:XD)(Rp:List Addr->Hp->β->α->Prop)(ι:List Addr)(H:Hp)(r:R α)(Q:β->Hp->Prop):Prop :=
 match r with
 |.ok a h=>∀ι' H' b,Gr ι H ι' H'->Rp ι' H' b a->HRep K ι' H' h->Q b H'
 |.ex c h=>∀ι' H',Gr ι H ι' H'->HRep K ι' H' h->E c ι' H' h
 |.no=>False
theorem a90{α β:Type}{K:Fg}{E:XD}{Rp:List Addr->Hp->β->α->Prop}{ι ι1:List Addr}{H H1:Hp}{r:R α}{Q:β->Hp->Prop}(o:out K E Rp ι H r Q)(g:Gr ι H ι1 H1):out K E Rp ι1 H1 r Q:=by
 cases r with
 |ok a h=>exact λι' H' b g'=>o ι' H' b (g.trans g')
 |ex c h=>exact λι' H' g'=>o ι' H' (g.trans g')
 |no=>exact o
theorem dh{α β γ δ:Type}{K:Fg}{E:XD}{Rp:List Addr->Hp->β->α->Prop}{Sp:List Addr->Hp->δ->γ->Prop}{ι:List Addr}{H:Hp}{r:R α}{k:α->Hd->R γ}{Q:δ->Hp->Prop}{P:β->Hp->Prop}
  (o:out K E Sp ι H (r.bind k) Q) (hP:∀a h ι1 H1 b,Gr ι H ι1 H1->Rp ι1 H1 b a->HRep K ι1 H1 h->out K E Sp ι1 H1 (k a h) Q->P b H1):out K E Rp ι H r P:=by
 cases r with
 |ok a h=>exact λι' H' b g r' hr=>hP a h ι' H' b g r' hr (a90 o g)
 |ex c h=>exact o
 |no=>exact o
abbrev zy(K:Fg):List Addr->Hp->V->D->Prop:=λι H v d=>Rep K ι H v d
abbrev aty(K:Fg):List Addr->Hp->List V->List D->Prop:=λι H v d=>Reps K ι H v d
abbrev apy:List Addr->Hp->Bool->Bool->Prop:=λ_ _ a b=>a=b
abbrev atz:List Addr->Hp->Option Int->Option Int->Prop:=λ_ _ a b=>a=b
def aem(K:Fg)(E:XD)(ι:List Addr)(H:Hp)(r:Fl)(N:Ends):Prop :=
 match r with
 |.nx τ h=>∀ι' H' σ,Gr ι H ι' H'->SRep K ι' H' σ τ->HRep K ι' H' h->N.nx σ H'
 |.bk τ h=>∀ι' H' σ,Gr ι H ι' H'->SRep K ι' H' σ τ->HRep K ι' H' h->N.bk σ H'
 |.ct τ h=>∀ι' H' σ,Gr ι H ι' H'->SRep K ι' H' σ τ->HRep K ι' H' h->N.ct σ H'
 |.rt d h=>∀ι' H' v,Gr ι H ι' H'->Rep K ι' H' v d->HRep K ι' H' h->N.rt v H'
 |.ex c h=>∀ι' H',Gr ι H ι' H'->HRep K ι' H' h->E c ι' H' h
 |.no=>False
theorem qm(o:aem K E ι H r N)(g:Gr ι H ι1 H1):aem K E ι1 H1 r N:=by
 cases r with
 |nx τ h=>exact λι' H' b g'=>o ι' H' b (g.trans g')
 |bk τ h=>exact λι' H' b g'=>o ι' H' b (g.trans g')
 |ct τ h=>exact λι' H' b g'=>o ι' H' b (g.trans g')
 |rt d h=>exact λι' H' b g'=>o ι' H' b (g.trans g')
 |ex c h=>exact λι' H' g'=>o ι' H' (g.trans g')
 |no=>exact o
theorem n8{α β:Type}{K:Fg}{E:XD}{Rp:List Addr->Hp->β->α->Prop}{ι:List Addr}{H:Hp}{r:R α}{k:α->Hd->Fl}{N:Ends}{P:β->Hp->Prop}
  (o:aem K E ι H (r.fl k) N) (hP:∀a h ι1 H1 b,Gr ι H ι1 H1->Rp ι1 H1 b a->HRep K ι1 H1 h->aem K E ι1 H1 (k a h) N->P b H1):out K E Rp ι H r P:=by
 cases r with
 |ok a h=>exact λι' H' b g r' hr=>hP a h ι' H' b g r' hr (qm o g)
 |ex c h=>exact o
 |no=>exact o
def lift{α β:Type}(K:Fg)(E:XD)(Rp:List Addr->Hp->β->α->Prop)(f:Sd->Hd->R α):St->Hp->(β->Hp->Prop)->Prop:=λσ H Q =>
 ∃ι τ h,SRep K ι H σ τ/\HRep K ι H h/\out K E Rp ι H (f τ h) Q
def a5n(K:Fg)(E:XD)(f:SS):TS:=λN σ H=>∃ι τ h,SRep K ι H σ τ/\HRep K ι H h/\aem K E ι H (f τ h) N
abbrev ME(X:Cx)(E:XD)(e:Expr)(f:SE):Prop:=PE X e (lift X.K E (zy X.K) f)
abbrev MT(X:Cx)(E:XD)(e:Expr)(f:ST):Prop:=PT X e (lift X.K E apy f)
abbrev MW(X:Cx)(E:XD)(e:Expr)(f:ST):Prop:=PW X e (lift X.K E apy f)
abbrev MA(X:Cx)(E:XD)(es:List Expr)(f:SA):Prop:=PA X es (lift X.K E (aty X.K) f)
abbrev MS(X:Cx)(E:XD)(st:Stmt)(f:SS):Prop:=PS X st (a5n X.K E f)
abbrev MSs(X:Cx)(E:XD)(st:List Stmt)(f:SS):Prop:=PSs X st (a5n X.K E f)
theorem PE.weak(h:PE X e t)(i:∀σ H Q,t' σ H Q->t σ H Q):PE X e t':=λaA s σ H Q I q=>h aA s σ H Q I (i _ _ _ q)
theorem PT.weak(h:PT X e t)(i:∀σ H Q,t' σ H Q->t σ H Q):PT X e t':=λaA s σ H Q I q=>h aA s σ H Q I (i _ _ _ q)
theorem PW.weak(h:PW X e t)(i:∀σ H Q,t' σ H Q->t σ H Q):PW X e t':=λwh aA s σ H Q I q=>h wh aA s σ H Q I (i _ _ _ q)
theorem PA.weak(h:PA X e t)(i:∀σ H Q,t' σ H Q->t σ H Q):PA X e t':=λpos aA s σ H Q I q=>h pos aA s σ H Q I (i _ _ _ q)
theorem PS.weak(h:PS X e t)(i:∀N σ H,t' N σ H->t N σ H):PS X e t':=λaA s σ H N I q=>h aA s σ H N I (i _ _ _ q)
theorem PSs.weak(h:PSs X e t)(i:∀N σ H,t' N σ H->t N σ H):PSs X e t':=λaA s σ H N I q=>h aA s σ H N I (i _ _ _ q)
abbrev LINE:Nat:=16777216
theorem ll{n:Nat}(h:n<=LINE):n<=sizeLine:=aj4 h
def sV(i:Nat):SE:=λτ h=>match τ[i]? with|some (some d)=>.ok d h|_=>.no
def sC(d:D):SE:=λ_ h=>.ok d h
abbrev sI(i:Int):SE:=sC (.int i)
section
variable{X:Cx}{E:XD}{a b c e:Expr}{fa fb fc:SE}{pos:Pos}
theorem az(i:Nat)(hN:X.N[i]? = some x:=by rfl)(hv:Vis X.env.scope x:=by with_unfolding_all first|exact Or.inl rfl|exact Or.inr (Or.inl rfl)|exact Or.inr (Or.inr rfl))(hd:(x == ("__debug__" : Str))=false:=by decide)
  (hcd:(x == ("__classdict__" : Str))=false:=by decide):ME X E (.Name x pos) (sV i):=by
 refine PE.weak (alo hN hv hd hcd) ?_
 rintro σ H Q ⟨ι,τ,h,S,Rh,o⟩
 unfold sV at o
 split at o
 ·rename_i d e;obtain⟨v,h1,h2⟩:=S.val i d e;exact⟨v,h1,o ι H v (.refl _ _) h2 Rh⟩
 ·exact o.elim
theorem an1(h:PE X e (tC v))(r:∀ι H,Rep X.K ι H v d):ME X E e (sC d) :=
 PE.weak h λσ H Q ⟨ι,τ,h,S,Rh,o⟩=>o ι H v (.refl _ _) (r ι H) Rh
theorem aq{i j pos}:ME X E (.Constant (.int i) j pos) (sC (.int i)):=an1 alp λ_ _=>.int i
theorem a2e{i j pos}:ME X E (.Constant (.bool i) j pos) (sC (.bl i)):=an1 aqe λ_ _=>.bl i
theorem a4j{i j pos}:ME X E (.Constant (.str i) j pos) (sC (.str i)):=an1 alr λ_ _=>.str i
theorem a1w{j pos}:ME X E (.Constant .none j pos) (sC .non):=an1 alq λ_ _=>.non
theorem a3c(hg:Gl X x)(hm:X.mg x=none)(hv:bootBuiltins x=some (.type n))(hn:x ≠ "__name__":=by decide)(hd:(x == ("__debug__" : Str))=false:=by decide):ME X E (.Name x pos) (sC (.ty n)) :=
 an1 (aig (v:=.ty n) hg hm hv rfl hn hd) λ_ _=>.ty n
def s2(g:D->D->Hd->R D)(fa fb:SE):SE:=λτ h=>(fa τ h).bind λx h1=>(fb τ h1).bind λy h2=>g x y h2
def s1(g:D->Hd->R D)(fa:SE):SE:=λτ h=>(fa τ h).bind g
def a00(K:Fg)(g:D->D->Hd->R D)(r:R2):Prop:=∀(E:XD) ι H h x y dx dy Q,Rep K ι H x dx->Rep K ι H y dy->HRep K ι H h->out K E (zy K) ι H (g dx dy h) Q->r x y H Q
def au0(K:Fg)(g:D->Hd->R D)(r:V->Hp->VK->Prop):Prop:=∀(E:XD) ι H h x dx Q,Rep K ι H x dx->HRep K ι H h->out K E (zy K) ι H (g dx h) Q->r x H Q
def a91(K:Fg)(g:List D->Hd->R D)(r:List V->Hp->VK->Prop):Prop:=∀(E:XD) ι H h xs ds Q,Reps K ι H xs ds->HRep K ι H h->out K E (zy K) ι H (g ds h) Q->r xs H Q
theorem apz(hs:a00 K g r)(q:lift K E (zy K) (s2 g fa fb) σ H Q):tOp r (lift K E (zy K) fa) (lift K E (zy K) fb) σ H Q:=by
 obtain⟨ι,τ,h,S,Rh,o⟩:=q;refine⟨ι,τ,h,S,Rh,dh o λd h1 ι1 H1 v g1 r1 hr1 o1=>?_⟩;refine⟨ι1,τ,h1,S.mono g1,hr1,dh o1 λd2 h2 ι2 H2 u g2 r2 hr2 o2=>?_⟩;exact hs E ι2 H2 h2 v u d d2 Q (r1.mono g2) r2 hr2 o2
theorem aac(ho:OpR X (binaryOp op) r)(hs:a00 X.K g r)(ha:ME X E a fa)(hb:ME X E b fb):ME X E (.BinOp a op b pos) (s2 g fa fb) :=
 PE.weak (aqs ho ha hb) λσ H Q q=>apz hs q
theorem zj(ho:OpR X (compareOp op) r)(hs:a00 X.K g r)(ha:ME X E a fa)(hb:ME X E b fb)(hm:behindInMarks op b=false):ME X E (.Compare a [op] [b] pos) (s2 g fa fb) :=
 PE.weak (aio ho ha hb hm) λσ H Q q=>apz hs q
theorem ar9(ho:UnR X (unaryOp op) r)(hs:au0 X.K g r)(ha:ME X E a fa):ME X E (.UnaryOp op a pos) (s1 g fa):=by
 refine PE.weak (aqt ho ha) ?_
 rintro σ H Q ⟨ι,τ,h,S,Rh,o⟩
 exact⟨ι,τ,h,S,Rh,dh o λd h1 ι1 H1 v g1 r1 hr1 o1=>hs E ι1 H1 h1 v d Q r1 hr1 o1⟩
theorem ara(ho:IxR X r)(hs:a00 X.K g r)(ha:ME X E a fa)(hb:ME X E b fb)(hp:a5h b):ME X E (.Subscript a b pos) (s2 g fa fb) :=
 PE.weak (ar3 ho ha hb hp) λσ H Q q=>apz hs q
def asB(d:D)(h:Hd):R Bool:=match d with|.bl b=>.ok b h|_=>.no
def sT(f:SE):ST:=λτ h=>(f τ h).bind asB
theorem aj9(hi:∀σ H Q,lift K E (zy K) f σ H Q->t σ H Q)(q:lift K E apy (sT f) σ H Q):amf t σ H Q:=by
 refine hi σ H _ ?_;obtain⟨ι,τ,h,S,Rh,o⟩:=q;refine⟨ι,τ,h,S,Rh,dh o λd h1 ι1 H1 v g1 r1 hr1 o1=>?_⟩
 cases r1 with
 |bl b=>exact⟨b,rfl,o1 ι1 H1 b (.refl _ _) rfl hr1⟩
 |_=>exact o1.elim
theorem a85(ho:OpR X (compareOp op) r)(hs:a00 X.K g r)(ha:ME X E a fa)(hb:ME X E b fb)(hm:behindInMarks op b=false):MT X E (.Compare a [op] [b] pos) (sT (s2 g fa fb)) :=
 PT.weak (aip ho ha hb hm) λσ H Q q=>aj9 (λ_ _ _=>apz hs) q
def sCh(g g':D->D->Hd->R D)(fa fb fc:SE):SE:=λτ h=>(fa τ h).bind λx h1=>(fb τ h1).bind λy h2=>(g x y h2).bind λz h3=>match z with
 |.bl true=>(fc τ h3).bind λw h4=>g' y w h4
 |.bl false=>.ok (.bl false) h3
 |_=>.no
theorem an2(hs:a00 K g r)(hs':a00 K g' r')(q:lift K E (zy K) (sCh g g' fa fb fc) σ H Q) :
  ah4 r r' (lift K E (zy K) fa) (lift K E (zy K) fb) (lift K E (zy K) fc) σ H Q:=by
 obtain⟨ι,τ,h,S,Rh,o⟩:=q;refine⟨ι,τ,h,S,Rh,dh o λd h1 ι1 H1 v g1 r1 hr1 o1=>?_⟩;refine⟨ι1,τ,h1,S.mono g1,hr1,dh o1 λd2 h2 ι2 H2 u g2 r2 hr2 o2=>?_⟩;refine hs E ι2 H2 h2 v u d d2 _ (r1.mono g2) r2 hr2 (dh o2 λd3 h3 ι3 H3 z g3 r3 hr3 o3=>?_)
 cases r3 with
 |bl k =>
  refine⟨k,rfl,?_⟩
  cases k with
  |true =>
   rw[aI rfl];refine⟨ι3,τ,h3,((S.mono g1).mono g2).mono g3,hr3,dh o3 λd4 h4 ι4 H4 w g4 r4 hr4 o4=>?_⟩;exact hs' E ι4 H4 h4 u w d2 d4 Q ((r2.mono g3).mono g4) r4 hr4 o4
  |false =>
   rw[b9 aV];exact o3 ι3 H3 (.bl false) (.refl _ _) (.bl false) hr3
 |_=>exact o3.elim
theorem afe(ho:OpR X (compareOp op) r)(ho':OpR X (compareOp op') r')(hs:a00 X.K g r)(hs':a00 X.K g' r')(ha:ME X E a fa)(hb:ME X E b fb)(hc:ME X E c fc)
  (hm:lastMarks [op,op'] [b,c]=false:=by with_unfolding_all rfl):ME X E (.Compare a [op,op'] [b,c] pos) (sCh g g' fa fb fc) :=
 PE.weak (aey ho ho' ha hb hc hm) λσ H Q q=>an2 hs hs' q
def tru(d:D)(h:Hd):R Bool:=match d with
 |.non=>.ok false h
 |.bl b=>.ok b h
 |.int i=>.ok (i != 0) h
 |.str x=>if x.length<=LINE then .ok ((x.length:Int) != 0) h else .no
 |.tup xs=>.ok (!xs.isEmpty) h
 |.rol xs=>.ok (!xs.isEmpty) h
 |.ref i=>match h[i]? with
  |some (.lst xs)=>.ok (!xs.isEmpty) h
  |some (.dK kvs)=>.ok (!kvs.isEmpty) h
  |_=>.no
 |_=>.no
theorem Reps.emp{K:Fg}{ι:List Addr}{H:Hp}{vs:List V}{ds:List D}(r:Reps K ι H vs ds):vs.isEmpty=ds.isEmpty:=by cases r<;>rfl
theorem KRep.emp{κ:Type}{K:Fg}{ι:List Addr}{H:Hp}{us:List (κ×V)}{kvs:List (κ×D)}(r:KRep K ι H us kvs):us.isEmpty=kvs.isEmpty:=by
 have:=aK List.length r.1
 cases us<;>cases kvs<;>simp at this ⊢
theorem aja{K:Fg}{ι:List Addr}{H:Hp}{h:Hd}{x:V}{d:D}{Q:Bool->Hp->Prop}(r:Rep K ι H x d)(hr:HRep K ι H h)(o:out K E apy ι H (tru d h) Q):∃k,aqw K x H k/\Q k H:=by
 cases r with
 |non=>exact⟨false,rfl,o ι H _ (.refl _ _) rfl hr⟩
 |bl b=>exact⟨b,rfl,o ι H _ (.refl _ _) rfl hr⟩
 |int i=>exact⟨_,rfl,o ι H _ (.refl _ _) rfl hr⟩
 |str x =>
  by_cases hl:x.length<=LINE
  ·simp only[tru,aI hl]at o;exact⟨_,⟨ll hl,rfl⟩,o ι H _ (.refl _ _) rfl hr⟩
  ·simp only[tru,b9 hl]at o;exact o.elim
 |ty n=>exact o.elim
 |rod _ _ _=>exact o.elim
 |scr _ _=>exact o.elim
 |rdT _ _ _=>exact o.elim
 |exc _ _ _=>exact o.elim
 |ins _ _ _ _=>exact o.elim
 |tup e rs=>exact⟨_,.inr (.inl ⟨_,SqT.of e,rfl⟩),by rw[rs.emp];exact o ι H _ (.refl _ _) rfl hr⟩
 |rol e rs=>exact⟨_,.inl ⟨_,e.l,rfl⟩,by rw[rs.emp];exact o ι H _ (.refl _ _) rfl hr⟩
 |@ref a i e =>
  obtain⟨ob,h1,h2⟩:=hr.at e;simp only[tru,h1]at o
  cases ob with
  |lst xs =>
   obtain⟨vs,h3,h4⟩:=h2;exact⟨_,.inl ⟨_,SqL.of h3,rfl⟩,by rw[h4.emp];exact o ι H _ (.refl _ _) rfl hr⟩
  |dK kvs =>
   obtain⟨us,h3,h4⟩:=h2;exact⟨_,.inr (.inr ⟨_,h3,rfl⟩),by rw[h4.emp];exact o ι H _ (.refl _ _) rfl hr⟩
  |dT kvs=>exact o.elim
  |ins _ _=>exact o.elim
def a2f(f:SE):ST:=λτ h=>(f τ h).bind tru
theorem yu(ha:ME X E a fa)(he:∀whole,isTrue a X.env whole=(do let v <-whole;standAt a.pos;holding [v] (truthy v)):=by intro _;rfl):MT X E a (a2f fa):=by
 refine PT.weak (aez ha he) ?_
 rintro σ H Q ⟨ι,τ,h,S,Rh,o⟩
 exact⟨ι,τ,h,S,Rh,dh o λd h1 ι1 H1 v g1 r1 hr1 o1=>aja r1 hr1 o1⟩
def a78(f g:ST):ST:=λτ h=>(f τ h).bind λb h1=>if b=true then g τ h1 else .ok false h1
def sOr(f g:ST):ST:=λτ h=>(f τ h).bind λb h1=>if b=true then .ok true h1 else g τ h1
def a4k(f:ST):ST:=λτ h=>(f τ h).bind λb h1=>.ok (!b) h1
variable{ga gb:ST}
theorem a5o(ha:MT X E a ga):MW X E (.BoolOp .And [a] pos) ga:=aih ha
theorem a3d(ha:MT X E a ga):MW X E (.BoolOp .Or [a] pos) ga:=als ha
theorem a92{aG:List Expr}(ha:MT X E a ga)(hb:MW X E (.BoolOp .And (b::aG) pos) gb):MW X E (.BoolOp .And (a::b::aG) pos) (a78 ga gb):=by
 refine PW.weak (alu ha hb) ?_
 rintro σ H Q ⟨ι,τ,h,S,Rh,o⟩
 refine⟨ι,τ,h,S,Rh,dh o λd h1 ι1 H1 v g1 r1 hr1 o1=>?_⟩;cases r1
 cases d with
 |true=>exact⟨ι1,τ,h1,S.mono g1,hr1,o1⟩
 |false=>exact o1 ι1 H1 false (.refl _ _) rfl hr1
theorem a86{aG:List Expr}(ha:MT X E a ga)(hb:MW X E (.BoolOp .Or (b::aG) pos) gb):MW X E (.BoolOp .Or (a::b::aG) pos) (sOr ga gb):=by
 refine PW.weak (aqf ha hb) ?_
 rintro σ H Q ⟨ι,τ,h,S,Rh,o⟩
 refine⟨ι,τ,h,S,Rh,dh o λd h1 ι1 H1 v g1 r1 hr1 o1=>?_⟩;cases r1
 cases d with
 |true=>exact o1 ι1 H1 true (.refl _ _) rfl hr1
 |false=>exact⟨ι1,τ,h1,S.mono g1,hr1,o1⟩
theorem a0t(ha:MT X E a ga):MT X E (.UnaryOp .Not a pos) (a4k ga):=by
 refine PT.weak (alv ha) ?_
 rintro σ H Q ⟨ι,τ,h,S,Rh,o⟩
 refine⟨ι,τ,h,S,Rh,dh o λd h1 ι1 H1 v g1 r1 hr1 o1=>?_⟩;cases r1
 exact o1 ι1 H1 _ (.refl _ _) rfl hr1
def yc(f g:SE):SE:=λτ h=>(f τ h).bind λd h1=>match d with|.bl true=>g τ h1|.bl false=>.ok (.bl false) h1|_=>.no
def aq0(f g:SE):SE:=λτ h=>(f τ h).bind λd h1=>match d with|.bl true=>.ok (.bl true) h1|.bl false=>g τ h1|_=>.no
def a79(f:SE):SE:=λτ h=>(f τ h).bind λd h1=>match d with|.bl b=>.ok (.bl (!b)) h1|_=>.no
theorem a7a{op}(ha:ME X E a fa):ME X E (.BoolOp op [a] pos) fa:=alw ha
theorem a4l{aG:List Expr}(ha:ME X E a fa)(hb:ME X E (.BoolOp .And (b::aG) pos) fb):ME X E (.BoolOp .And (a::b::aG) pos) (yc fa fb):=by
 refine PE.weak (alx ha hb) ?_
 rintro σ H Q ⟨ι,τ,h,S,Rh,o⟩
 refine⟨ι,τ,h,S,Rh,dh o λd h1 ι1 H1 v g1 r1 hr1 o1=>?_⟩
 cases r1 with
 |bl k =>
  refine⟨k,rfl,?_⟩
  cases k with
  |true=>exact⟨ι1,τ,h1,S.mono g1,hr1,o1⟩
  |false=>exact o1 ι1 H1 _ (.refl _ _) (.bl _) hr1
 |_=>exact o1.elim
theorem an3(ha:ME X E a fa):ME X E (.UnaryOp .Not a pos) (a79 fa):=by
 refine PE.weak (aly ha) ?_
 rintro σ H Q ⟨ι,τ,h,S,Rh,o⟩
 refine⟨ι,τ,h,S,Rh,dh o λd h1 ι1 H1 v g1 r1 hr1 o1=>?_⟩
 cases r1 with
 |bl k=>exact⟨k,rfl,o1 ι1 H1 _ (.refl _ _) (.bl _) hr1⟩
 |_=>exact o1.elim
def a6q(c:ST)(f g:SE):SE:=λτ h=>(c τ h).bind λb h1=>if b=true then f τ h1 else g τ h1
theorem abz(hc:MT X E c ga)(ha:ME X E a fa)(hb:ME X E b fb):ME X E (.IfExp c a b pos) (a6q ga fa fb):=by
 refine PE.weak (aes hc ha hb) ?_
 rintro σ H Q ⟨ι,τ,h,S,Rh,o⟩
 refine⟨ι,τ,h,S,Rh,dh o λd h1 ι1 H1 v g1 r1 hr1 o1=>?_⟩;cases r1
 cases d with
 |true=>exact⟨ι1,τ,h1,S.mono g1,hr1,o1⟩
 |false=>exact⟨ι1,τ,h1,S.mono g1,hr1,o1⟩
def bw:SA:=λ_ h=>.ok [] h
def aj(f:SE)(g:SA):SA:=λτ h=>(f τ h).bind λd h1=>(g τ h1).bind λds h2=>.ok (d::ds) h2
variable{es:List Expr}{ka:SA}
theorem au:MA X E [] bw:=PA.weak abf λσ H Q ⟨ι,τ,h,S,Rh,o⟩=>o ι H [] (.refl _ _) .nil Rh
theorem aa(ha:ME X E e fa)(hr:MA X E es ka)(hs:starEach (e::es) X.env=(false,eval e X.env)::starEach es X.env:=by rfl):MA X E (e::es) (aj fa ka):=by
 refine PA.weak (a5f ha hr hs) ?_
 rintro σ H Q ⟨ι,τ,h,S,Rh,o⟩
 refine⟨ι,τ,h,S,Rh,dh o λd h1 ι1 H1 v g1 r1 hr1 o1=>?_⟩;refine⟨ι1,τ,h1,S.mono g1,hr1,dh o1 λd2 h2 ι2 H2 u g2 r2 hr2 o2=>?_⟩;exact o2 ι2 H2 _ (.refl _ _) (.cons (r1.mono g2) r2) hr2
def uy(ds:List D)(h:Hd):R D:=if ds.length<=LINE then .ok (.tup ds) h else .no
def a08(ds:List D)(h:Hd):R D:=if ds.length<=LINE then .ok (.ref h.length) (h++[.lst ds]) else .no
def sA(g:List D->Hd->R D)(k:SA):SE:=λτ h=>(k τ h).bind g
theorem a0j(r:Reps K ι H vs ds)(hr:HRep K ι H h)(o:out K E (zy K) ι H (.ok (.tup ds) h) Q):∀p,H p=none->Q (.ref p) (upd H p (.tup vs)):=λp hp =>
 o ι _ _ (yt hp _) (.tup p6 (r.mono (yt hp _))) (hr.aside hp _)
theorem uo(r:Reps K ι H vs ds)(hr:HRep K ι H h)(o:out K E (zy K) ι H (.ok (.ref h.length) (h++[.lst ds])) Q):∀p,H p=none->Q (.ref p) (upd H p (.lst vs)):=λp hp =>
 o (ι++[p]) _ _ (a8z hp _) (.ref (by rw[av (by rw[hr.len];exact ag _),hr.len];simp)) (hr.add hp ⟨_,p6,r.mono (a8z hp _)⟩)
theorem a87{K:Fg}{ι:List Addr}{H:Hp}{h:Hd}{i:Nat}{a:Addr}{vs:List V}{ds:List D}{d:D}{v:V}{Q:VK}(r:Reps K ι H vs ds)(hr:HRep K ι H h)(hi:ι[i]? = some a)(rd:Rep K ι H v d)(o:out K E (zy K) ι H (.ok d (h.set i (.lst ds))) Q):Q v (upd H a (.lst vs)) :=
 o ι _ _ (a1v hr hi _) (rd.mono (a1v hr hi _)) (hr.put hi ⟨_,p6,r.mono (a1v hr hi _)⟩)
theorem nj{x1}(h:MA X E es ka):ME X E (.Tuple es x1 pos) (sA uy ka):=by
 refine PE.weak (ami h) ?_
 rintro σ H Q ⟨ι,τ,h,S,Rh,o⟩
 refine⟨ι,τ,h,S,Rh,dh o λd h1 ι1 H1 v g1 r1 hr1 o1=>?_⟩;unfold uy at o1
 split at o1
 ·rename_i hl;exact⟨ll (by rw[r1.len];exact hl),a0j r1 hr1 o1⟩
 ·exact o1.elim
theorem yw(h:MA X E es ka):ME X E (.List es pos) (sA a08 ka):=by
 refine PE.weak (amj h) ?_
 rintro σ H Q ⟨ι,τ,h,S,Rh,o⟩
 refine⟨ι,τ,h,S,Rh,dh o λd h1 ι1 H1 v g1 r1 hr1 o1=>?_⟩;unfold a08 at o1
 split at o1
 ·rename_i hl;exact⟨ll (by rw[r1.len];exact hl),uo r1 hr1 o1⟩
 ·exact o1.elim
theorem ye{x:Str}{p:Pos}{id:String}{r:List V->Hp->VK->Prop}{g:List D->Hd->R D}(hc:CallR X (.builtin id) r)(hs:a91 X.K g r)(hg:Gl X x)(hm:X.mg x=none)(hv:bootBuiltins x=some (.builtin id))(ha:MA X E (e::es) ka)(hn:x ≠ "__name__":=by decide)(hdb:(x == ("__debug__" : Str))=false:=by decide)
  (he:starEach (e::es) X.env=(false,eval e X.env)::starEach es X.env:=by rfl) (hpl:(backTo pos (starEach es X.env)).any (·.1)=false:=by rfl):ME X E (.Call (.Name x p) (e::es) [] pos) (sA g ka):=by
 refine PE.weak (af2 hc hg hm hv ha hn hdb he hpl) ?_
 rintro σ H Q ⟨ι,τ,h,S,Rh,o⟩
 exact⟨ι,τ,h,S,Rh,dh o λd h1 ι1 H1 v g1 r1 hr1 o1=>hs E ι1 H1 h1 v d Q r1 hr1 o1⟩
theorem uq{x:Str}{p:Pos}{id:String}{r:List V->Hp->VK->Prop}{g:List D->Hd->R D}(hc:CallR X (.type id) r)(hs:a91 X.K g r)(hg:Gl X x)(hm:X.mg x=none)(hv:bootBuiltins x=some (.type id))(ha:MA X E (e::es) ka)(hn:x ≠ "__name__":=by decide)(hdb:(x == ("__debug__" : Str))=false:=by decide)
  (he:starEach (e::es) X.env=(false,eval e X.env)::starEach es X.env:=by rfl) (hpl:(backTo pos (starEach es X.env)).any (·.1)=false:=by rfl):ME X E (.Call (.Name x p) (e::es) [] pos) (sA g ka):=by
 refine PE.weak (abh hc hg hm hv ha hn hdb he hpl) ?_
 rintro σ H Q ⟨ι,τ,h,S,Rh,o⟩
 exact⟨ι,τ,h,S,Rh,dh o λd h1 ι1 H1 v g1 r1 hr1 o1=>hs E ι1 H1 h1 v d Q r1 hr1 o1⟩
end
def dz(f g:SS):SS:=λτ h=>match f τ h with|.nx τ1 h1=>g τ1 h1|r=>r
def sNx:SS:=λτ h=>.nx τ h
def p7(f:SE):SS:=λτ h=>(f τ h).fl λd h1=>.rt d h1
def v5(f:SE):SS:=λτ h=>(f τ h).fl λ_ h1=>.nx τ h1
def sIf(c:ST)(f g:SS):SS:=λτ h=>(c τ h).fl λb h1=>if b=true then f τ h1 else g τ h1
def j9(i:Nat)(f:SE):SS:=λτ h=>(f τ h).fl λd h1=>.nx (τ.set i (some d)) h1
def aen(i:Nat)(g:D->D->Hd->R D)(f:SE):SS:=λτ h=>match τ[i]? with
 |some (some x)=>(f τ h).fl λy h1=>(g x y h1).fl λz h2=>.nx (τ.set i (some z)) h2
 |_=>.no
section
variable{X:Cx}{E:XD}{e o:Expr}{es:List Expr}{fa fb fc:SE}{ga:ST}{st:Stmt}{sts a b:List Stmt}{f g:SS}{pos:Pos}
theorem ik:MSs X E [] sNx:=PSs.weak aii λN σ H ⟨ι,τ,h,S,Rh,o⟩=>o ι H σ (.refl _ _) S Rh
theorem an4(q:a5n K E (dz f g) N σ H):a5n K E f {N with nx:=a5n K E g N} σ H:=by
 obtain⟨ι,τ,h,S,Rh,o⟩:=q;refine⟨ι,τ,h,S,Rh,?_⟩;unfold dz at o
 cases hf:f τ h with
 |nx τ1 h1 =>
  rw[hf]at o;exact λι1 H1 σ1 g1 S1 R1=>⟨ι1,τ1,h1,S1,R1,qm o g1⟩
 |_=>rw[hf]at o;exact o
theorem ao(h1:MS X E st f)(h2:MSs X E sts g):MSs X E (st::sts) (dz f g):=PSs.weak (aet h1 h2) λN σ H q=>an4 q
theorem bf(h1:MS X E st f):MSs X E [st] f:=aij h1
theorem ie(he:ME X E e fa):MS X E (.Return (some e) pos) (p7 fa):=by
 refine PS.weak (alz he) ?_
 rintro N σ H ⟨ι,τ,h,S,Rh,o⟩
 exact⟨ι,τ,h,S,Rh,n8 o λd h1 ι1 H1 v g1 r1 hr1 o1=>o1 ι1 H1 v (.refl _ _) r1 hr1⟩
theorem yf(he:ME X E e fa)(hs:swapsWith e none pos.line X.env=pure false:=by rfl):MS X E (.Expr e pos) (v5 fa):=by
 refine PS.weak (aik he hs) ?_
 rintro N σ H ⟨ι,τ,h,S,Rh,o⟩
 exact⟨ι,τ,h,S,Rh,n8 o λd h1 ι1 H1 v g1 r1 hr1 o1=>o1 ι1 H1 σ (.refl _ _) (S.mono g1) hr1⟩
theorem kj(hc:MT X E c ga)(ha:MSs X E a f)(hb:MSs X E b g):MS X E (.If c a b pos) (sIf ga f g):=by
 refine PS.weak (aqk hc ha hb) ?_
 rintro N σ H ⟨ι,τ,h,S,Rh,o⟩
 refine⟨ι,τ,h,S,Rh,n8 o λd h1 ι1 H1 v g1 r1 hr1 o1=>?_⟩;cases r1
 cases d with
 |true=>exact⟨ι1,τ,h1,S.mono g1,hr1,o1⟩
 |false=>exact⟨ι1,τ,h1,S.mono g1,hr1,o1⟩
theorem an5(hN:X.N.Nodup)(hi:X.N[i]? = some x)(hx:Loc X.env.scope x)(he:ME X E e fa)(hs:swapsWith e (some (.Name x pos')) pos.line X.env=pure false:=by rfl)(hf:Hf X x:=by with_unfolding_all first|exact .inl rfl|exact .inr rfl|assumption) :
  MS X E (.Assign [.Name x pos'] e pos) (j9 i fa):=by
 refine PS.weak (am2 hN hi hx he hs hf) ?_
 rintro N σ H ⟨ι,τ,h,S,Rh,o⟩
 exact⟨ι,τ,h,S,Rh,n8 o λd h1 ι1 H1 v g1 r1 hr1 o1=>o1 ι1 H1 _ (.refl _ _) ((S.mono g1).set r1 i) hr1⟩
theorem ahc(hN:X.N.Nodup)(hi:X.N[i]? = some x)(hx:Loc X.env.scope x)(ho:OpR X (inplaceOp op) r)(hs:a00 X.K gg r)(he:ME X E e fa)(hf:Hf X x:=by with_unfolding_all first|exact .inl rfl|exact .inr rfl|assumption) :
  MS X E (.AugAssign (.Name x pos') op e pos) (aen i gg fa):=by
 refine PS.weak (am3 hN hi hx he ho hf) ?_
 rintro N σ H ⟨ι,τ,h,S,Rh,o⟩
 unfold aen at o
 split at o
 ·rename_i d ed;obtain⟨v,h1,h2⟩:=S.val i d ed;refine⟨v,h1,ι,τ,h,S,Rh,n8 o λd2 h3 ι1 H1 u g1 r1 hr1 o1=>?_⟩;refine hs E ι1 H1 h3 v u d d2 _ (h2.mono g1) r1 hr1 (n8 o1 λd3 h4 ι2 H2 z g2 r2 hr2 o2=>?_);exact o2 ι2 H2 _ (.refl _ _) (((S.mono g1).mono g2).set r2 i) hr2
 ·exact o.elim
def put(o k v:D)(h:Hd):Option Hd:=match o,k with
 |.ref i,.int j=>match h[i]? with
  |some (.lst xs)=>match ixN xs.length j with
   |some m=>some (h.set i (.lst (xs.set m v)))
   |none=>none
  |_=>none
 |_,_=>none
theorem ac0{K:Fg}{ι:List Addr}{H:Hp}{h h':Hd}{o k v:V}{od kd vd:D}{Q:Hp->Prop}(r1:Rep K ι H o od)(r2:Rep K ι H k kd)(r3:Rep K ι H v vd)(hr:HRep K ι H h)(e:put od kd vd h=some h')
  (q:∀H',Gr ι H ι H'->HRep K ι H' h'->Q H'):amr o k v H Q:=by
 cases r1 with
 |@ref a i ha =>
  cases r2 with
  |int j =>
   obtain⟨ob,h1,h2⟩:=hr.at ha
   cases ob with
   |lst xs =>
    obtain⟨vs,h3,h4⟩:=h2;simp only[put,h1]at e
    cases hm:ixN xs.length j with
    |none=>rw[hm]at e;cases e
    |some m =>
     rw[hm]at e;cases e
     exact⟨a,vs,j,m,rfl,rfl,h3,by rw[h4.len];exact hm,q _ (a1v hr ha _) (hr.put ha ⟨_,p6,(h4.set r3 m).mono (a1v hr ha _)⟩)⟩
   |dK _=>simp only[put,h1]at e;cases e
   |dT _=>simp only[put,h1]at e;cases e
   |ins _ _=>simp only[put,h1]at e;cases e
  |_=>cases e
 |_=>cases e
def a93(fe fo fi:SE):SS:=λτ h=>(fe τ h).fl λv h1=>(fo τ h1).fl λo h2=>(fi τ h2).fl λk h3=>match put o k v h3 with|some h4=>.nx τ h4|none=>.no
theorem ac1(he:ME X E e fa)(ho:ME X E o fb)(hi:ME X E i fc)
  (hs:swapsWithSole [.Subscript o i pos'] e pos.line X.env=pure false:=by rfl) (hw:swappedStores [.Subscript o i pos'] e X.env=pure none:=by rfl)
  (h1:(assignEach [.Subscript o i pos'] X.env).map (·.2)=[assign (.Subscript o i pos') X.env]:=by rfl)
  (ha:∀v,assign (.Subscript o i pos') X.env v=(do
   let ov <-holding [v] (eval o X.env)
   let iv <-holding [v,ov] (eval i X.env)
   standAt pos'
   holding [v,ov,iv] (setItem ov iv v)
   release [v,ov,iv] []):=by intro _;rfl):MS X E (.Assign [.Subscript o i pos'] e pos) (a93 fa fb fc):=by
 refine PS.weak (ab1 he (am1 ho hi set_list ha) hs hw h1) ?_
 rintro N σ H ⟨ι,τ,h,S,Rh,oo⟩
 refine⟨ι,τ,h,S,Rh,n8 oo λd h1 ι1 H1 v g1 r1 hr1 o1=>?_⟩;refine⟨ι1,τ,h1,S.mono g1,hr1,n8 o1 λd2 h2 ι2 H2 u g2 r2 hr2 o2=>?_⟩;refine⟨ι2,τ,h2,(S.mono g1).mono g2,hr2,n8 o2 λd3 h3 ι3 H3 w g3 r3 hr3 o3=>?_⟩
 cases hp:put d2 d3 d h3 with
 |none=>rw[hp]at o3;exact o3.elim
 |some h4 =>
  rw[hp]at o3;exact ac0 (r2.mono g3) r3 ((r1.mono g2).mono g3) hr3 hp λH' g4 hr4=>o3 ι3 H' σ g4 ((((S.mono g1).mono g2).mono g3).mono g4) hr4
def sWh(c:ST)(f:SS):Nat->SS
 |0,_,_=>.no
 |n+1,τ,h=>(c τ h).fl λb h1=>if b=true then (match f τ h1 with|.nx τ2 h2=>sWh c f n τ2 h2|.ct τ2 h2=>sWh c f n τ2 h2|.bk τ2 h2=>.nx τ2 h2|r=>r) else .nx τ h1
theorem a5p(n:Nat)(hp:PassesOwn (model X.prog X.w) X.A X.env X.xe)(hc:MT X E c ga)(hb:MSs X E a f):MS X E (.While c a [] pos) (sWh ga f n):=by
 refine PS.weak (aev hp hc hb) λN σ H q=>?_;refine⟨λm σ H=>a5n X.K E (sWh ga f m) N σ H,⟨n,q⟩,?_⟩
 rintro m σ1 H1 ⟨ι,τ,h,S,Rh,o⟩
 cases m with
 |zero=>exact o.elim
 |succ m =>
  refine⟨ι,τ,h,S,Rh,n8 o λd h1 ι1 H1 v g1 r1 hr1 o1=>?_⟩;cases r1
  cases d with
  |false=>exact o1 ι1 H1 _ (.refl _ _) (S.mono g1) hr1
  |true =>
   refine⟨λσ' H'=>a5n X.K E (sWh ga f m) N σ' H',λσ' H' q=>⟨m,Nat.lt_succ_self m,q⟩,ι1,τ,h1,S.mono g1,hr1,?_⟩;rw[aI rfl]at o1
   cases hf:f τ h1 with
   |nx τ2 h2=>rw[hf]at o1;exact λι2 H2 σ2 g2 S2 R2=>⟨ι2,τ2,h2,S2,R2,qm o1 g2⟩
   |ct τ2 h2=>rw[hf]at o1;exact λι2 H2 σ2 g2 S2 R2=>⟨ι2,τ2,h2,S2,R2,qm o1 g2⟩
   |bk τ2 h2=>rw[hf]at o1;exact o1
   |rt d h2=>rw[hf]at o1;exact o1
   |ex c h2=>rw[hf]at o1;exact o1
   |no=>rw[hf]at o1;exact o1.elim
end
abbrev SG:=D->Sd->Hd->Fl
def ajb(K:Fg)(E:XD)(g:SG):TG:=λv σ H Q=>∃ι τ h d,Rep K ι H v d/\SRep K ι H σ τ/\HRep K ι H h/\aem K E ι H (g d τ h) {nx:=Q,rt:=λ_ _=>False}
abbrev MG(X:Cx)(E:XD)(tg:Expr)(g:SG):Prop:=PG X tg (ajb X.K E g)
abbrev SGs:=List D->Sd->Hd->Fl
def ac2(K:Fg)(E:XD)(g:SGs):TGs:=λvs σ H Q=>∃ι τ h ds,Reps K ι H vs ds/\SRep K ι H σ τ/\HRep K ι H h/\aem K E ι H (g ds τ h) {nx:=Q,rt:=λ_ _=>False}
abbrev MGs(X:Cx)(E:XD)(tg:List Expr)(g:SGs):Prop:=PGs X tg (ac2 X.K E g)
theorem PG.weak(h:PG X e t)(i:∀v σ H Q,t' v σ H Q->t v σ H Q):PG X e t':=λaA s σ H v u Q I r q=>h aA s σ H v u Q I r (i _ _ _ _ q)
theorem PGs.weak(h:PGs X e t)(i:∀v σ H Q,t' v σ H Q->t v σ H Q):PGs X e t':=λaA s σ H v u Q I r q=>h aA s σ H v u Q I r (i _ _ _ _ q)
def kN(i:Nat):SG:=λd τ h=>.nx (τ.set i (some d)) h
def a5q:SGs:=λds τ h=>match ds with|[]=>.nx τ h|_=>.no
def jo(g:SG)(k:SGs):SGs:=λds τ h=>match ds with|d::r=>(match g d τ h with|.nx τ1 h1=>k r τ1 h1|_=>.no)|[]=>.no
def a4m(n:Nat)(k:SGs):SG:=λd τ h=>match d with|.tup ds=>if ds.length=n then k ds τ h else .no|_=>.no
section
variable{X:Cx}{E:XD}{e:Expr}{es:List Expr}{fa:SE}{pos:Pos}{g:SG}{ks:SGs}
theorem jj(hN:X.N.Nodup)(hi:X.N[i]? = some x)(hx:Loc X.env.scope x)(hf:Hf X x:=by with_unfolding_all first|exact .inl rfl|exact .inr rfl|assumption):MG X E (.Name x pos) (kN i) :=
 PG.weak (a7z hN hi hx hf) λv σ H Q ⟨ι,τ,h,d,r,S,Rh,o⟩=>o ι H _ (.refl _ _) (S.set r i) Rh
theorem a1j:MGs X E [] a5q:=by
 refine PGs.weak ab0 ?_
 rintro vs σ H Q ⟨ι,τ,h,ds,r,S,Rh,o⟩
 cases r with
 |nil=>exact⟨rfl,o ι H σ (.refl _ _) S Rh⟩
 |cons _ _=>exact o.elim
theorem afg(q:ac2 K E (jo g ks) vs σ H Q):aeu (ajb K E g) (ac2 K E ks) vs σ H Q:=by
 obtain⟨ι,τ,h,ds,r,S,Rh,o⟩:=q
 cases r with
 |nil=>exact o.elim
 |@cons v d vs ds r rs =>
  refine⟨v,vs,rfl,ι,τ,h,d,r,S,Rh,?_⟩;simp only[jo]at o
  cases hg:g d τ h with
  |nx τ1 h1 =>
   rw[hg]at o;exact λι1 H1 σ1 g1 S1 R1=>⟨ι1,τ1,h1,ds,rs.mono g1,S1,R1,qm o g1⟩
  |_=>rw[hg]at o;exact o.elim
theorem a4n(hc:X.calm=true)(h:MGs X E es ks)(hn:(assignEach es X.env).length=n:=by rfl)(hst:(assignEach es X.env).findIdx? (·.1)=none:=by rfl):MG X E (.Tuple es k pos) (a4m n ks):=by
 refine PG.weak (ah3 hc h hn hst) ?_
 rintro v σ H Q ⟨ι,τ,h,d,r,S,Rh,o⟩
 cases r with
 |@tup a vs xs e rs =>
  simp only[a4m]at o
  by_cases hl:xs.length=n
  ·rw[aI hl]at o;exact⟨a,vs,rfl,SqT.of e,by rw[rs.len];exact hl,ι,τ,h,xs,rs,S,Rh,o⟩
  ·rw[b9 hl]at o;exact o.elim
 |_=>exact o.elim
def a6r(f:SE)(g:SG):SS:=λτ h=>(f τ h).fl λd h1=>match g d τ h1 with|.nx τ2 h2=>.nx τ2 h2|_=>.no
theorem a7b(he:ME X E e fa)(hg:MG X E tg g)(hs:swapsWithSole [tg] e pos.line X.env=pure false:=by rfl)(hw:swappedStores [tg] e X.env=pure none:=by rfl)
  (h1:(assignEach [tg] X.env).map (·.2)=[assign tg X.env]:=by rfl):MS X E (.Assign [tg] e pos) (a6r fa g):=by
 refine PS.weak (ab1 he hg hs hw h1) ?_
 rintro N σ H ⟨ι,τ,h,S,Rh,o⟩
 refine⟨ι,τ,h,S,Rh,n8 o λd h1 ι1 H1 v g1 r1 hr1 o1=>⟨ι1,τ,h1,d,r1,S.mono g1,hr1,?_⟩⟩
 cases hg:g d τ h1 with
 |nx τ1 h1=>rw[hg]at o1;exact o1
 |_=>rw[hg]at o1;exact o1.elim
end
structure Itm where
 xs:List D
 ck:Hd->Prop
def an6(K:Fg)(ι0:List Addr)(H0:Hp)(J:It)(it:Itm):Prop:=∀ι H h,Gr ι0 H0 ι H->HRep K ι H h->it.ck h->
 (∀(i:Nat) (d:D),it.xs[i]? = some d->J.go i H/\∀x H',J.yld i H x H'->Gr ι H ι H'/\Rep K ι H' x d/\HRep K ι H' h)/\J.stop it.xs.length H
abbrev asa(K:Fg):List Addr->Hp->It->Itm->Prop:=λι H J it=>an6 K ι H J it
abbrev SI:=Sd->Hd->R Itm
abbrev MI(X:Cx)(E:XD)(tg aF:Expr)(f:SI):Prop:=PI X tg aF (lift X.K E (asa X.K) f)
def xj(x:Str):List D:=x.cps.toList.map λc=>D.str ⟨#[c]⟩
def afh(d:D)(h:Hd):R Itm:=match d with
 |.tup xs=>.ok ⟨xs,λ_=>True⟩ h
 |.rol xs=>.ok ⟨xs,λ_=>True⟩ h
 |.str x=>.ok ⟨xj x,λ_=>True⟩ h
 |.ref i=>match h[i]? with
  |some (.lst xs)=>.ok ⟨xs,λh=>h[i]? = some (.lst xs)⟩ h
  |_=>.no
 |_=>.no
def sIt(f:SE):SI:=λτ h=>(f τ h).bind afh
theorem ahd(hl:∀ι H h,Gr ι0 H0 ι H->HRep K ι H h->ck h->∃vs,SqL K H a vs/\Reps K ι H vs xs):an6 K ι0 H0 (Itl K a) ⟨xs,ck⟩:=by
 intro ι H h g hr c
 obtain⟨vs,h1,h2⟩:=hl ι H h g hr c;refine⟨λi d e=>?_,⟨vs,h1,by rw[h2.len];exact ag _⟩⟩
 obtain⟨v,e1,r⟩:=h2.get e;refine⟨⟨vs,v,h1,e1⟩,λx H' y=>?_⟩;obtain⟨rfl,y⟩:=y;have:=y vs h1;rw[e1]at this;cases this
 exact⟨.refl _ _,r,hr⟩
theorem yx(hl:ME X E l f):MI X E tg l (sIt f):=by
 rintro aA s σ H Rr I ⟨ι,τ,h,S,Rh,o⟩
 unfold sIt at o
 cases hf:f τ h with
 |no=>rw[hf]at o;exact o.elim
 |ex c h1 =>
  rw[hf]at o;exact aha hl aA s σ H Rr I ⟨ι,τ,h,S,Rh,by rw[hf];exact o⟩
 |ok d h1 =>
  rw[hf]at o
  cases d with
  |tup xs =>
   refine am5 hl aA s σ H Rr I ⟨ι,τ,h,S,Rh,?_⟩;rw[hf]
   intro ι1 H1 v g1 r1 hr1
   cases r1 with
   |@tup a vs _ e rs =>
    refine⟨a,rfl,⟨vs,SqT.of e⟩,o ι1 H1 _ g1 ?_ hr1⟩
    intro ι2 H2 h2 g2 hr2 _
    have e2:=g2.tup _ _ e;have rs2:=rs.mono g2;refine⟨λi d ed=>?_,⟨vs,SqT.of e2,by rw[rs2.len];exact ag _⟩⟩
    obtain⟨v,e1,r⟩:=rs2.get ed;refine⟨⟨vs,v,SqT.of e2,e1⟩,λx H' y=>?_⟩;obtain⟨rfl,y⟩:=y;have:=y vs (SqT.of e2);rw[e1]at this;cases this
    exact⟨.refl _ _,r,hr2⟩
  |rol xs =>
   refine ab3 hl aA s σ H Rr I ⟨ι,τ,h,S,Rh,?_⟩;rw[hf]
   intro ι1 H1 v g1 r1 hr1
   cases r1 with
   |@rol a vs _ e rs =>
    refine⟨a,rfl,⟨vs,e.l⟩,o ι1 H1 _ g1 ?_ hr1⟩;exact ahd (λι2 H2 h2 g2 hr2 _=>⟨vs,(e.mono g2).l,rs.mono g2⟩)
  |str x =>
   refine aha hl aA s σ H Rr I ⟨ι,τ,h,S,Rh,?_⟩;rw[hf]
   intro ι1 H1 v g1 r1 hr1
   cases r1
   refine⟨x,rfl,o ι1 H1 _ g1 ?_ hr1⟩
   intro ι2 H2 h2 g2 hr2 _
   refine⟨λi d ed=>?_,by show(xj x).length=_;simp[xj]⟩
   simp only[xj,aR,ax]at ed;obtain⟨c,ec,rfl⟩:=ed;refine⟨by show i<x.cps.size;have:=(a7.mp ec).1;simpa using this,λy H' q=>?_⟩
   obtain⟨rfl,c',ec',rfl⟩:=q;rw[ec]at ec';cases ec'
   exact⟨.refl _ _,.str _,hr2⟩
  |ref i =>
   simp only[R.bind,afh]at o
   cases ho:h1[i]? with
   |none=>rw[ho]at o;exact o.elim
   |some ob =>
    rw[ho]at o
    cases ob with
    |dK _=>exact o.elim
    |dT _=>exact o.elim
    |ins _ _=>exact o.elim
    |lst xs =>
     refine ab3 hl aA s σ H Rr I ⟨ι,τ,h,S,Rh,?_⟩;rw[hf]
     intro ι1 H1 v g1 r1 hr1
     cases r1 with
     |@ref a _ e =>
      obtain⟨vs,e1,rs⟩:=hr1.obj i a _ e ho;refine⟨a,rfl,⟨vs,SqL.of e1⟩,o ι1 H1 _ g1 ?_ hr1⟩;refine ahd (λι2 H2 h2 g2 hr2 c=>?_);obtain⟨us,e3,rs3⟩:=hr2.obj i a _ (g2.at e) c;exact⟨us,SqL.of e3,rs3⟩
  |_=>exact o.elim
def rng(lo:Int)(n:Nat):List D:=(List.range n).map λi=>D.int (lo+(i:Nat))
def B62(j:Int):Prop := -(2^62)<=j/\j<2^62
instance (j:Int):Decidable (B62 j):=by unfold B62;exact inferInstance
def a0u(ds:List D)(h:Hd):R Itm:=match ds with
 |[.int j]=>if B62 j then .ok ⟨rng 0 j.toNat,λ_=>True⟩ h else .no
 |_=>.no
def a4b(ds:List D)(h:Hd):R Itm:=match ds with
 |[.int i,.int j]=>if B62 i/\B62 j then .ok ⟨rng i (j-i).toNat,λ_=>True⟩ h else .no
 |_=>.no
def sRg(g:List D->Hd->R Itm)(k:SA):SI:=λτ h=>(k τ h).bind g
theorem ahe(lo:Int)(n:Nat):an6 K ι0 H0 (Itr lo n) ⟨rng lo n,λ_=>True⟩:=by
 intro ι H h g hr _
 refine⟨λi d ed=>?_,by show n<=(rng lo n).length;simp[rng]⟩
 simp only[rng,aR,ax]at ed;obtain⟨j,ej,rfl⟩:=ed;obtain⟨hj,e⟩:=a7.mp ej;simp at e hj;subst e;refine⟨hj,λy H' q=>?_⟩;obtain⟨rfl,rfl⟩:=q;exact⟨.refl _ _,.int _,hr⟩
theorem a5r(hg:Gl X "range")(hm:X.mg "range" = none)(ha:MA X E [a] k)(hs:starEach [a] X.env=[(false,eval a X.env)]:=by rfl):MI X E tg (.Call (.Name "range" p) [a] [] pos) (sRg a0u k):=by
 rintro aA s σ H Rr I ⟨ι,τ,h,S,Rh,o⟩
 refine ab4 hg hm ha hs aA s σ H Rr I ⟨ι,τ,h,S,Rh,dh o λds h1 ι1 H1 vs g1 r1 hr1 o1=>?_⟩;unfold a0u at o1
 split at o1
 ·rename_i j
  cases r1 with
  |cons r rs =>
   cases r;cases rs
   by_cases hb:B62 j
   ·rw[aI hb]at o1;exact⟨j,rfl,hb.1,hb.2,o1 ι1 H1 _ (.refl _ _) (ahe 0 j.toNat) hr1⟩
   ·rw[b9 hb]at o1;exact o1.elim
 ·exact o1.elim
theorem ac3(hg:Gl X "range")(hm:X.mg "range" = none)(ha:MA X E [a,b] k)(hs:starEach [a,b] X.env=[(false,eval a X.env),(false,eval b X.env)]:=by rfl)(hs2:starEach [b] X.env=[(false,eval b X.env)]:=by rfl):MI X E tg (.Call (.Name "range" p) [a,b] [] pos) (sRg a4b k):=by
 rintro aA s σ H Rr I ⟨ι,τ,h,S,Rh,o⟩
 refine ab5 hg hm ha hs hs2 aA s σ H Rr I ⟨ι,τ,h,S,Rh,dh o λds h1 ι1 H1 vs g1 r1 hr1 o1=>?_⟩;unfold a4b at o1
 split at o1
 ·rename_i i j
  cases r1 with
  |cons r rs =>
   cases r
   cases rs with
   |cons r rs =>
   cases r;cases rs
   by_cases hb:B62 i/\B62 j
   ·rw[aI hb]at o1;exact⟨i,j,rfl,⟨hb.1.1,hb.1.2,hb.2.1,hb.2.2⟩,o1 ι1 H1 _ (.refl _ _) (ahe i _) hr1⟩
   ·rw[b9 hb]at o1;exact o1.elim
 ·exact o1.elim
open Classical in
noncomputable def forL(ck:Hd->Prop)(g:SG)(b:SS):List D->Sd->Hd->Fl
 |[],τ,h=>if ck h then .nx τ h else .no
 | x::xs,τ,h=>if ck h then (match g x τ h with
   |.nx τ1 h1=>(match b τ1 h1 with
    |.nx τ2 h2=>forL ck g b xs τ2 h2
    |.ct τ2 h2=>forL ck g b xs τ2 h2
    |.bk τ2 h2=>.nx τ2 h2
    |r=>r)
   |_=>.no) else .no
noncomputable def a4o(f:SI)(g:SG)(b:SS):SS:=λτ h=>(f τ h).fl λit h1=>forL it.ck g b it.xs τ h1
theorem ajc(ir:an6 K ι0 H0 J it)(S:SRep K ι0 H0 σ0 τ0)(Rh:HRep K ι0 H0 h0)(o:aem K E ι0 H0 (forL it.ck g b it.xs τ0 h0) N) :
  ∃W:Nat->Nat->St->Hp->Prop,(∃m,W 0 m σ0 H0)/\∀i m σ H,W i m σ H->
   (J.stop i H/\N.nx σ H)\/(J.go i H/\∃M:St->Hp->Prop,(∀σ' H',M σ' H'->∃m',m'<m/\W (i+1) m' σ' H')/\∀x H',J.yld i H x H'->ajb K E g x σ H' λσ2 H2=>a5n K E b {N with nx:=M,ct:=M,bk:=N.nx} σ2 H2):=by
 refine⟨λi m σ H=>m=it.xs.length-i/\i<=it.xs.length/\∃ι τ h,Gr ι0 H0 ι H/\SRep K ι H σ τ/\HRep K ι H h/\aem K E ι H (forL it.ck g b (it.xs.drop i) τ h) N,⟨_,rfl,bp _,ι0,τ0,h0,.refl _ _,S,Rh,o⟩,?_⟩
 rintro i m σ H ⟨rfl,hi,ι,τ,h,g0,S,Rh,o⟩
 by_cases hlt:i<it.xs.length
 ·rw[e9 hlt,forL]at o
  by_cases hc:it.ck h
  ·rw[aI hc]at o;obtain⟨go,yl⟩:=(ir ι H h g0 Rh hc).1 i _ (a6 hlt);refine .inr ⟨go,λσ' H'=>it.xs.length-(i+1)<it.xs.length-i/\∃ι τ h,Gr ι0 H0 ι H'/\SRep K ι H' σ' τ/\HRep K ι H' h/\aem K E ι H' (forL it.ck g b (it.xs.drop (i+1)) τ h) N,λσ' H' q=>⟨_,q.1,rfl,hlt,q.2⟩,λx H' y=>?_⟩;obtain⟨g1,r1,hr1⟩:=yl x H' y;refine⟨ι,τ,h,_,r1,S.mono g1,hr1,?_⟩;have o':=qm o g1
   cases hg:g it.xs[i] τ h with
   |nx τ1 h1 =>
    rw[hg]at o';dsimp only at o'
    intro ι2 H2 σ2 g2 S2 R2
    refine⟨ι2,τ1,h1,S2,R2,?_⟩;have o2:=qm o' g2;have gg:=(g0.trans g1).trans g2
    cases hb:b τ1 h1 with
    |nx τ2 h2=>rw[hb]at o2;exact λι3 H3 σ3 g3 S3 R3=>⟨by omega,ι3,τ2,h2,gg.trans g3,S3,R3,qm o2 g3⟩
    |ct τ2 h2=>rw[hb]at o2;exact λι3 H3 σ3 g3 S3 R3=>⟨by omega,ι3,τ2,h2,gg.trans g3,S3,R3,qm o2 g3⟩
    |bk τ2 h2=>rw[hb]at o2;exact o2
    |rt d h2=>rw[hb]at o2;exact o2
    |ex c h2=>rw[hb]at o2;exact o2
    |no=>rw[hb]at o2;exact o2.elim
   |_=>rw[hg]at o';exact o'.elim
  ·rw[b9 hc]at o;exact o.elim
 ·have e:i=it.xs.length:=by omega
  subst e;rw[cn (ag _),forL]at o
  by_cases hc:it.ck h
  ·rw[aI hc]at o;exact .inl ⟨(ir ι H h g0 Rh hc).2,o ι H σ (.refl _ _) S Rh⟩
  ·rw[b9 hc]at o;exact o.elim
theorem a0v{X:Cx}(hp:PassesOwn (model X.prog X.w) X.A X.env X.xe)(hc:X.calm=true)(hi:MI X E tg aF f)(hg:MG X E tg g)(hb:MSs X E body b)(hs:∀x,foldedSetIterable aF X.env x=pure x:=by intro _;rfl):MS X E (.For tg aF body [] pos) (a4o f g b):=by
 refine PS.weak (am6 hp hc hi hg hb hs) ?_
 rintro N σ H ⟨ι,τ,h,S,Rh,o⟩
 exact⟨ι,τ,h,S,Rh,n8 o λit h1 ι1 H1 J g1 r1 hr1 o1=>ajc r1 (S.mono g1) hr1 o1⟩
end MI
namespace MI
open L2
open Classical in
noncomputable def mapR(ck:Hd->Prop)(f:D->Hd->R D):List D->Hd->R (List D)
 |[],h=>if ck h then .ok [] h else .no
 |x::xs,h=>if ck h then (f x h).bind λy h1=>(mapR ck f xs h1).bind λys h2=>.ok (y::ys) h2 else .no
def frs'(ix:List Nat)(τ:Sd):Sd:=ix.map λi=>(τ[i]?).join
def t1(d:D):Option Sd:=some [some d]
def tN(n:Nat)(d:D):Option Sd:=match d with|.tup ds=>if ds.length=n then some (ds.map some) else none|_=>none
def a4c(t:D->Option Sd)(fe:SE)(aG:Sd)(x:D)(h:Hd):R D:=match t x with|some ts=>fe (ts++aG) h|none=>.no
def ajd(yd zs:List D)(h:Hd):R D:=.ok (.ref h.length) (h++[.lst (yd++zs)])
theorem an7(r:R D)(m:Hd->R (List D))(yd:List D):(r.bind λy h1=>(m h1).bind λys h2=>.ok (y::ys) h2).bind (ajd yd)=r.bind λy h1=>(m h1).bind (ajd (yd++[y])):=by
 cases r with
 |ok y h1 =>
  show((m h1).bind _).bind _=(m h1).bind _
  cases m h1 with
  |ok ys h2=>simp[R.bind,ajd]
  |_=>rfl
 |_=>rfl
noncomputable def m5(fi:SI)(t:D->Option Sd)(fe:SE)(ix:List Nat):SE:=λτ h=>(fi τ h).bind λit h1=>if it.xs.length<=LINE then (mapR it.ck (a4c t fe (frs' ix τ)) it.xs h1).bind (ajd []) else .no
def alb(K:Fg)(n:Nat)(g:TG)(t:D->Option Sd):Prop:=∀ι H v d ts (r:St) (Q:St->Hp->Prop),Rep K ι H v d->t d=some ts->(∀us:St,us.length=n->SRep K ι H us ts->Q (us++r) H)->g v (List.replicate n none++r) H Q
theorem a5s:SRep K ι H [] []:=⟨rfl,λi d e=>by simp at e⟩
theorem a0w(r:Rep K ι H v d)(s:SRep K ι H σ τ):SRep K ι H (some v::σ) (some d::τ):=by
 refine⟨by simp[s.len],λi d' e=>?_⟩
 cases i with
 |zero=>simp at e;subst e;exact⟨v,rfl,r⟩
 |succ i=>simpa using s.val i d' (by simpa using e)
theorem a94(s:SRep K ι H σ τ)(s':SRep K ι H σ' τ'):SRep K ι H (σ++σ') (τ++τ'):=by
 refine⟨by simp[s.len,s'.len],λi d e=>?_⟩
 by_cases hi:i<τ.length
 ·rw[aE hi]at e;rw[aE (by rw[s.len];exact hi)]
  exact s.val i d e
 ·rw[av (by omega)]at e
  rw[av (by rw[s.len];omega),s.len]
  exact s'.val _ d e
theorem a95(s:SRep K ι H σ τ)(ix:List Nat):SRep K ι H (ix.map λi=>(σ[i]?).join) (frs' ix τ):=by
 refine⟨by simp[frs'],λj d e=>?_⟩
 simp only[frs',aR,ax]at e;obtain⟨i,hi,e⟩:=e;have:τ[i]? = some (some d):=by
  cases q:τ[i]? with
  |none=>rw[q]at e;cases e
  |some o=>rw[q]at e;simp at e;rw[e]
 obtain⟨v,h1,h2⟩:=s.val i d this;exact⟨v,by simp[hi,h1],h2⟩
theorem a0b:alb K 1 (a5b 0) t1:=λι H v d ts r Q hr e q=>by
 cases e
 exact q [some v] rfl (a0w hr a5s)
theorem an8{α:Type}{xs:List α}(h:xs.length=n+1):∃x ys,xs=x::ys:=by cases xs with|nil=>cases h|cons x ys=>exact⟨x,ys,rfl⟩
theorem ahf{vs:List V}{d:D}{ds:List D}(r:Reps K ι H vs (d::ds)):∃v us,vs=v::us/\Rep K ι H v d/\Reps K ι H us ds:=by cases r with|cons r rs=>exact⟨_,_,rfl,r,rs⟩
theorem an9:alb K 2 (L2.uy K 2 (aeu (a5b 0) (aeu (a5b 1) as5))) (tN 2):=λι H v d ts r Q hr e q=>by
 unfold tN at e
 cases hr with
 |@tup a vs xs h rs =>
  simp only at e
  split at e
  ·rename_i hl;cases e
   obtain⟨x1,xs,rfl⟩:=an8 hl;obtain⟨x2,xs,rfl⟩:=an8 (eZ hl);obtain rfl:=eP.mp (eZ (eZ hl));obtain⟨v1,vs,rfl,r1,rs⟩:=ahf rs;obtain⟨v2,vs,rfl,r2,rs⟩:=ahf rs;cases rs
   exact⟨a,_,rfl,SqT.of h,rfl,_,_,rfl,_,_,rfl,rfl,q [some _,some _] rfl (a0w r1 (a0w r2 a5s))⟩
  ·cases e
 |_=>cases e
theorem aje{us:St}(h:us.length=n):L2.Ext (List.replicate n none++r) (us++r):=by
 refine⟨by simp[h],λi v e=>?_⟩
 by_cases hi:i<n
 ·rw[aE (by simpa using hi),cM,aI hi]at e
  cases e
 ·rw[av (by simpa using hi),cT]at e
  rw[av (by omega),h]
  exact e
theorem a96(ir:an6 K ι0 H0 J it)(tg:alb K n g t)(S:SRep K ι0 H0 r rd)(Rh:HRep K ι0 H0 h0)(hl:it.xs.length<=LINE)
  (o:out K E (zy K) ι0 H0 ((mapR it.ck (a4c t fe rd) it.xs h0).bind (ajd [])) Q):aj1 J (List.replicate n none++r) g (lift K E (zy K) fe) Q H0:=by
 refine⟨λi m ys H=>m=it.xs.length-i/\i<=it.xs.length/\ys.length<=i/\∃ι h yd,Gr ι0 H0 ι H/\HRep K ι H h/\Reps K ι H ys yd/\out K E (zy K) ι H ((mapR it.ck (a4c t fe rd) (it.xs.drop i) h).bind (ajd yd)) Q,
  ⟨_,rfl,bp _,bp _,ι0,h0,[],.refl _ _,Rh,.nil,o⟩,?_⟩
 rintro i m ys H ⟨rfl,hi,hy,ι,h,yd,g0,Rh,ry,o⟩
 by_cases hlt:i<it.xs.length
 ·rw[e9 hlt,mapR]at o
  by_cases hc:it.ck h
  ·rw[aI hc,an7]at o;obtain⟨go,yl⟩:=(ir ι H h g0 Rh hc).1 i _ (a6 hlt);refine .inr ⟨go,Nat.lt_of_le_of_lt hy (aS hlt (ll hl)),λx H' y=>?_⟩;obtain⟨g1,r1,hr1⟩:=yl x H' y;have o':=a90 o g1
   cases ht:t it.xs[i] with
   |none=>simp only[a4c,ht]at o';exact o'.elim
   |some ts =>
    simp only[a4c,ht]at o';refine tg ι H' x _ ts r _ r1 ht λus hus su=>⟨aje hus,ι,ts++rd,h,a94 su (S.mono (g0.trans g1)),hr1,dh o' λd2 h2 ι2 H2 u g2 r2 hr2 o2=>?_⟩;refine⟨it.xs.length-(i+1),by omega,rfl,hlt,by simp;omega,ι2,h2,yd++[d2],(g0.trans g1).trans g2,hr2,((ry.mono g1).mono g2).snoc r2,o2⟩
  ·rw[b9 hc]at o;exact o.elim
 ·have e:i=it.xs.length:=by omega
  subst e;rw[cn (ag _),mapR]at o
  by_cases hc:it.ck h
  ·rw[aI hc]at o;refine .inl ⟨(ir ι H h g0 Rh hc).2,uo (E:=E) ry Rh ?_⟩;simpa[R.bind,ajd] using o
  ·rw[b9 hc]at o;exact o.elim
section
variable{X:Cx}{E:XD}{aD tg aF cnd:Expr}{aB:Scope}{pos:Pos}{cl:List (Str×Addr)}{ts fr:List Str}{ix:List Nat}{fi:SI}{g:TG}{t:D->Option Sd}{fe:SE}{fc:ST}
theorem a0k(hc:X.calm=true)(S:CSc X aB cl ts fr ix)(hi:MI X E tg aF fi)(hg:∀C fp s H,PG (cxC X (ts++fr) aB cl C fp s H) tg g)(ht:alb X.K ts.length g t)(he:∀C fp s H,ME (cxC X (ts++fr) aB cl C fp s H) E aD fe)
  (hs:∀x,foldedSetIterable aF X.env x=pure x:=by intro _;rfl):ME X E (.ListComp aD [⟨tg,aF,[],0⟩] aB pos) (m5 fi t fe ix):=by
 refine PE.weak (afb (te:=lift X.K E (zy X.K) fe) hc S hi hg he hs) ?_
 rintro σ H Q ⟨ι,τ,h,Sr,Rh,o⟩
 refine⟨ι,τ,h,Sr,Rh,dh o λit h1 ι1 H1 J g1 r1 hr1 o1=>?_⟩
 by_cases hl:it.xs.length<=LINE
 ·rw[aI hl]at o1;exact a96 r1 ht (a95 (Sr.mono g1) ix) hr1 hl o1
 ·rw[b9 hl]at o1;exact o1.elim
end
mutual
def clo(n:Nat):D->Prop
 |.tup xs=>clos n xs
 |.rol xs=>clos n xs
 |.rod _ xs=>clos n xs
 |.scr xs=>clos n xs
 |.rdT _ xs=>clos n xs
 |.ins _ _ xs=>clos n xs
 |.ref i=>i<n
 |_=>True
def clos(n:Nat):List D->Prop
 |[]=>True
 |x::xs=>clo n x/\clos n xs
end
mutual
theorem Rep.clo:∀{v:V} {d:D},Rep K ι H v d->clo ι.length d
 |_,_,.non=>by simp[MI.clo]
 |_,_,.bl b=>by simp[MI.clo]
 |_,_,.int i=>by simp[MI.clo]
 |_,_,.str x=>by simp[MI.clo]
 |_,_,.ty n=>by simp[MI.clo]
 |_,_,.tup h r=>by simp only[MI.clo];exact Reps.clo r
 |_,_,.rol h r=>by simp only[MI.clo];exact Reps.clo r
 |_,_,.ref h=>by simp only[MI.clo];exact(a7.mp h).1
 |_,_,.rod h e r=>by simp only[MI.clo];exact Reps.clo r
 |_,_,.scr h r=>by simp only[MI.clo];exact Reps.clo r
 |_,_,.rdT h e r=>by simp only[MI.clo];exact Reps.clo r
 |_,_,.exc h hc hn=>by simp[MI.clo]
 |_,_,.ins h hn e r=>by simp only[MI.clo];exact Reps.clo r
theorem Reps.clo:∀{vs:List V} {ds:List D},Reps K ι H vs ds->clos ι.length ds
 |_,_,.nil=>by simp[MI.clos]
 |_,_,.cons r rs=>by simp only[MI.clos];exact⟨Rep.clo r,Reps.clo rs⟩
end
mutual
theorem Rep.cut:∀{v:V} {d:D},Rep K ι H v d->clo n d->Rep K (ι.take n) H v d
 |_,_,.non,_=>.non
 |_,_,.bl b,_=>.bl b
 |_,_,.int i,_=>.int i
 |_,_,.str x,_=>.str x
 |_,_,.ty n,_=>.ty n
 |_,_,.tup h r,c=>.tup h (Reps.cut r (by simpa only[MI.clo] using c))
 |_,_,.rol h r,c=>.rol h (Reps.cut r (by simpa only[MI.clo] using c))
 |_,_,.ref h,c=>.ref (by simp only[MI.clo]at c;rw[da,aI c];exact h)
 |_,_,.rod h e r,c=>.rod h e (Reps.cut r (by simpa only[MI.clo] using c))
 |_,_,.scr h r,c=>.scr h (Reps.cut r (by simpa only[MI.clo] using c))
 |_,_,.rdT h e r,c=>.rdT h e (Reps.cut r (by simpa only[MI.clo] using c))
 |_,_,.exc h hc hn,_=>.exc h hc hn
 |_,_,.ins h hn e r,c=>.ins h hn e (Reps.cut r (by simpa only[MI.clo] using c))
theorem Reps.cut:∀{vs:List V} {ds:List D},Reps K ι H vs ds->clos n ds->Reps K (ι.take n) H vs ds
 |_,_,.nil,_=>.nil
 |_,_,.cons r rs,c=>by simp only[MI.clos]at c;exact .cons (Rep.cut r c.1) (Reps.cut rs c.2)
end
def a0c(n:Nat):O->Prop
 |.lst xs=>clos n xs
 |.dK kvs=>clos n (kvs.map (·.2))
 |.dT kvs=>clos n (kvs.map (·.2))
 |.ins _ fs=>clos n (fs.map (·.2))
def ana(n:Nat)(h:Hd):Prop:=∀o∈h,a0c n o
theorem ORep.clo(r:ORep K ι H a o):a0c ι.length o:=by
 cases o with
 |lst xs=>obtain⟨vs,_,r⟩:=r;exact r.clo
 |dK kvs=>obtain⟨us,_,_,r⟩:=r;exact r.clo
 |dT kvs=>obtain⟨us,_,_,r⟩:=r;exact r.clo
 |ins _ _=>obtain⟨_,_,us,_,_,_,r⟩:=r;exact r.clo
theorem ORep.cut(r:ORep K ι H a o)(c:a0c n o):ORep K (ι.take n) H a o:=by
 cases o with
 |lst xs=>obtain⟨vs,h,r⟩:=r;exact⟨vs,h,r.cut c⟩
 |dK kvs=>obtain⟨us,h,e,r⟩:=r;exact⟨us,h,e,r.cut c⟩
 |dT kvs=>obtain⟨us,h,e,r⟩:=r;exact⟨us,h,e,r.cut c⟩
 |ins _ _=>obtain⟨C,dx,us,h,hn,e,r⟩:=r;exact⟨C,dx,us,h,hn,e,r.cut c⟩
theorem HRep.clo(r:HRep K ι H h):ana h.length h:=λo ho=>by
 obtain⟨i,hi⟩:=bB ho;obtain⟨a,_,q⟩:=r.addr hi;rw[<-r.len];exact q.clo
theorem HRep.cut(r:HRep K ι H (h++g))(c:ana h.length h):HRep K (ι.take h.length) H h:=by
 refine⟨r.nd.sublist (List.take_sublist _ _),?_,λi a o e1 e2=>?_⟩
 ·have:=r.len
  rw[ah]at this;rw[bP];omega
 ·have hi:i<h.length:=(a7.mp e2).1;rw[da,aI hi]at e1;exact(r.obj i a o e1 (by rw[aE hi];exact e2)).cut (c o (aQ e2))
def X0:XD:=λ_ _ _ _=>False
abbrev SF:=List D->Hd->R D
def wj(K:Fg)(n:Nat)(F:SF):Sp:=λvs H Q _=>vs.length=n/\∃ι ds h,Reps K ι H vs ds/\HRep K ι H h/\out K X0 (zy K) ι H (F ds h) Q
def a3e(n:Nat)(ds:List D):Sd:=ds.map some++List.replicate (n-ds.length) none
def jx(b:SS)(n:Nat)(ds:List D)(h:Hd):R D:=match b (a3e n ds) h with
 |.rt d h1=>.ok d h1
 |.nx _ h1=>.ok .non h1
 |.ex c h1=>.ex c h1
 |_=>.no
def Rf(n:Nat)(r' r:R D):Prop:=match r with
 |.no=>True
 |.ok d h1=>∃g,r'=.ok d (h1++g)/\(g=[]\/(n<=h1.length/\clo h1.length d/\ana h1.length h1))
 |.ex c h1=>∃g,r'=.ex c (h1++g)/\(g=[]\/(n<=h1.length/\ana h1.length h1))
theorem Rf.same(h:r'=r):Rf n r' r:=by
 subst h
 cases r' with
 |ok d h1=>exact⟨[],by simp,.inl rfl⟩
 |ex c h1=>exact⟨[],by simp,.inl rfl⟩
 |no=>exact True.intro
theorem aad(r:Reps K ι H vs ds):SRep K ι H (start N vs) (a3e N.length ds):=by
 refine a94 ?_ ?_
 ·clear N
  induction r using Reps.rec (motive_1:=λ_ _ _=>True) with
  |nil=>exact a5s
  |cons r rs _ ih=>exact a0w r ih
  |_=>trivial
 ·rw[r.len];exact⟨by simp,λi d e=>by rw[cM]at e;split at e<;>cases e⟩
theorem ahg(g:Gr ι H ι' H')(hn:ι.length<=n):Gr ι H (ι'.take n) H':=by
 obtain⟨m,rfl,hm⟩:=g.pre;exact⟨⟨m.take (n-ι.length),by rw[List.take_append,aZ hn],λa ha=>hm a (cX ha)⟩,g.tup,g.frz,g.oth,g.kp⟩
section
variable{P:Program}{w:World}{K:Fg}{mg:Str->Option Value}{base:Heap}
theorem anb(Fu:Fun K x qual st f fd)(S:FnScope N ps (bz st))
  (hb:∀(cdv:Value) (A:Around) (outer:List Env) (s:Shared) (H:Hp) (E:XK),Room k (A.deeper (PyProof.Rows.envOfC qual (bz st) s.heap.objs.size f cdv))->MSs (ael CX0 P w K mg base N qual (bz st) f cdv A outer s H E).nox X0 (um st) b)
  (hF:∀ds h,ds.length=ps.length->clos h.length ds->ana h.length h->Rf h.length (jx b N.length ds h) (F ds h)):FnOk P w K mg base CX0 (k+1) f fd ps (wj K ps.length F):=by
 refine Fu.ok S (λvs H Q E h=>h.1) λcdv A outer s H vs Q E hr h=>⟨_,hb cdv A outer s H E hr,?_⟩;obtain⟨hl,ι,ds,h,r,hr',o⟩:=h;refine⟨ι,a3e N.length ds,h,aad r,hr',?_⟩;have q:=hF ds h (by rw[<-r.len];exact hl) (by rw[<-hr'.len];exact r.clo) hr'.clo
 unfold jx at q
 cases hFd:F ds h with
 |no=>rw[hFd]at o;exact o.elim
 |ex c h1 =>
  rw[hFd]at q o;obtain⟨g,e,cl⟩:=q;have fin:∀ι' H',Gr ι H ι' H'->HRep K ι' H' (h1++g)->X0 c ι' H' (h1++g):=λι' H' g1 hr1=>by
   rcases cl with rfl|⟨hn,c2⟩
   ·rw[cJ]at hr1;exact o ι' H' g1 hr1
   ·exact o (ι'.take h1.length) H' (ahg g1 (by rw[hr'.len];exact hn)) (hr1.cut c2)
  cases hbd:b (a3e N.length ds) h with
  |ex c' h' =>
   rw[hbd]at e
   injection e with e1 e2
   subst e1 e2;exact fin
  |_=>rw[hbd]at e;cases e
 |ok d h1 =>
  rw[hFd]at q o;obtain⟨g,e,cl⟩:=q;have fin:∀ι' H' v,Gr ι H ι' H'->Rep K ι' H' v d->HRep K ι' H' (h1++g)->Q v H':=λι' H' v g1 r1 hr1=>by
   rcases cl with rfl|⟨hn,c1,c2⟩
   ·rw[cJ]at hr1;exact o ι' H' v g1 r1 hr1
   ·exact o (ι'.take h1.length) H' v (ahg g1 (by rw[hr'.len];exact hn)) (r1.cut c1) (hr1.cut c2)
  cases hbd:b (a3e N.length ds) h with
  |rt d' h' =>
   rw[hbd]at e
   injection e with e1 e2
   subst e1 e2;exact fin
  |nx τ' h' =>
   rw[hbd]at e
   injection e with e1 e2
   subst e1 e2;exact λι' H' σ' g1 S1 hr1=>fin ι' H' .non g1 .non hr1
  |_=>rw[hbd]at e;cases e
end
section
variable{K:Fg}{E:XD}{ι:List Addr}{H:Hp}{h:Hd}{Q:VK}
theorem ans(o:out K E (zy K) ι H (.ok d h) Q)(r:Rep K ι H v d)(hr:HRep K ι H h):Q v H:=o ι H v (.refl _ _) r hr
theorem HRep.lst(hr:HRep K ι H h){i:Nat}{a:Addr}{xs:List D}(e:ι[i]? = some a)(hi:h[i]? = some (.lst xs)):∃vs,H a=some (.lst vs)/\Reps K ι H vs xs:=hr.obj i a _ e hi
end
def au1:D->D->Hd->R D
 |.int i,.int j,h=>.ok (.int (i+j)) h
 |.str x,.str y,h=>if x.length+y.length<=LINE then .ok (.str (x++y)) h else .no
 |.tup xs,.tup ys,h=>if xs≠[]/\xs.length+ys.length<=LINE then .ok (.tup (xs++ys)) h else .no
 |.ref i,.ref j,h=>match h[i]?,h[j]? with
  |some (.lst xs),some (.lst ys)=>if xs.length+ys.length<=LINE then .ok (.ref h.length) (h++[.lst (xs++ys)]) else .no
  |_,_=>.no
 |_,_,_=>.no
def a3y:D->D->Hd->R D
 |.int i,.int j,h=>.ok (.int (i-j)) h
 |_,_,_=>.no
def a1x:D->D->Hd->R D
 |.int i,.int j,h=>if 0<j then .ok (.int (i%j)) h else .no
 |_,_,_=>.no
def a4d:D->D->Hd->R D
 |.int i,.int j,h=>if 0<j/\j<1073741824 then .ok (.int (i / j)) h else .no
 |_,_,_=>.no
def a4p:D->D->Hd->R D
 |.int i,.int j,h=>if 0<=j/\j<=1000000/\i.natAbs<2^64 then .ok (.int (i^j.toNat)) h else .no
 |_,_,_=>.no
section
variable{X:Cx}{K:Fg}
theorem ajf:a00 K a3y (rI0 λi j=>.int (i-j)):=by
 intro E ι H h x y dx dy Q rx ry hr o
 cases rx with
 |int i =>
  cases ry with
  |int j=>exact⟨i,j,rfl,rfl,ans o (.int _) hr⟩
  |_=>exact o.elim
 |_=>exact o.elim
theorem ajg:a00 K a1x (rI (λ_ j=>0<j) λi j=>.int (i%j)):=by
 intro E ι H h x y dx dy Q rx ry hr o
 cases rx with
 |int i =>
  cases ry with
  |int j =>
   by_cases hc:0<j
   ·simp only[a1x,aI hc]at o;exact⟨i,j,rfl,rfl,hc,ans o (.int _) hr⟩
   ·simp only[a1x,b9 hc]at o;exact o.elim
  |_=>exact o.elim
 |_=>exact o.elim
theorem ac4:a00 K a4d (rI aqv λi j=>.int (i / j)):=by
 intro E ι H h x y dx dy Q rx ry hr o
 cases rx with
 |int i =>
  cases ry with
  |int j =>
   by_cases hc:0<j/\j<1073741824
   ·simp only[a4d,aI hc]at o;exact⟨i,j,rfl,rfl,hc,ans o (.int _) hr⟩
   ·simp only[a4d,b9 hc]at o;exact o.elim
  |_=>exact o.elim
 |_=>exact o.elim
theorem ajh:a00 K a4p (rI as7 λi j=>.int (i^j.toNat)):=by
 intro E ι H h x y dx dy Q rx ry hr o
 cases rx with
 |int i =>
  cases ry with
  |int j =>
   by_cases hc:0<=j/\j<=1000000/\i.natAbs<2^64
   ·simp only[a4p,aI hc]at o;exact⟨i,j,rfl,rfl,hc,ans o (.int _) hr⟩
   ·simp only[a4p,b9 hc]at o;exact o.elim
  |_=>exact o.elim
 |_=>exact o.elim
variable{E:XD}{a b e:Expr}{es:List Expr}{fa fb:SE}{ka:SA}{pos:Pos}
theorem a3f(ha:ME X E a fa)(hb:ME X E b fb):ME X E (.BinOp a .Sub b pos) (s2 a3y fa fb):=aac am8 ajf ha hb
theorem a4q(ha:ME X E a fa)(hb:ME X E b fb):ME X E (.BinOp a .Mod b pos) (s2 a1x fa fb):=aac ama ajg ha hb
theorem ac6(ha:ME X E a fa)(hb:ME X E b fb):ME X E (.BinOp a .FloorDiv b pos) (s2 a4d fa fb):=aac aim ac4 ha hb
theorem ac8(ha:ME X E a fa)(hb:ME X E b fb):ME X E (.BinOp a .Pow b pos) (s2 a4p fa fb):=aac amb ajh ha hb
def a88:D->Hd->R D
 |.int i,h=>.ok (.int (-i)) h
 |_,_=>.no
theorem a97(ha:ME X E a fa):ME X E (.UnaryOp .USub a pos) (s1 a88 fa):=ar9 amc (λE ι H h x dx Q rx hr o=>by
 cases rx with
 |int i=>exact⟨i,rfl,ans o (.int _) hr⟩
 |_=>exact o.elim) ha
def gLt:D->D->Hd->R D
 |.int i,.int j,h=>.ok (.bl (decide (i<j))) h
 |.str i,.str j,h=>.ok (.bl (decide (i.cps.toList<j.cps.toList))) h
 |_,_,_=>.no
def gLe:D->D->Hd->R D
 |.int i,.int j,h=>.ok (.bl (decide (i<=j))) h
 |.str i,.str j,h=>.ok (.bl (!decide (j.cps.toList<i.cps.toList))) h
 |_,_,_=>.no
def gGt:D->D->Hd->R D
 |.int i,.int j,h=>.ok (.bl (decide (j<i))) h
 |_,_,_=>.no
def gGe:D->D->Hd->R D
 |.int i,.int j,h=>.ok (.bl (decide (j<=i))) h
 |_,_,_=>.no
theorem a0x:a00 K gLt (λx y H Q=>rI0 (λi j=>.bl (decide (i<j))) x y H Q\/∃i j,x=.str i/\y=.str j/\Q (.bl (decide (i.cps.toList<j.cps.toList))) H):=by
 intro E ι H h x y dx dy Q rx ry hr o
 cases rx with
 |int i =>
  cases ry with
  |int j=>exact .inl ⟨i,j,rfl,rfl,ans o (.bl _) hr⟩
  |_=>exact o.elim
 |str i =>
  cases ry with
  |str j=>exact .inr ⟨i,j,rfl,rfl,ans o (.bl _) hr⟩
  |_=>exact o.elim
 |_=>exact o.elim
theorem aca:a00 K gLe (λx y H Q=>rI0 (λi j=>.bl (decide (i<=j))) x y H Q\/∃i j,x=.str i/\y=.str j/\Q (.bl (!decide (j.cps.toList<i.cps.toList))) H):=by
 intro E ι H h x y dx dy Q rx ry hr o
 cases rx with
 |int i =>
  cases ry with
  |int j=>exact .inl ⟨i,j,rfl,rfl,ans o (.bl _) hr⟩
  |_=>exact o.elim
 |str i =>
  cases ry with
  |str j=>exact .inr ⟨i,j,rfl,rfl,ans o (.bl _) hr⟩
  |_=>exact o.elim
 |_=>exact o.elim
theorem ahh:a00 K gGt (rI0 λi j=>.bl (decide (j<i))):=by
 intro E ι H h x y dx dy Q rx ry hr o
 cases rx with
 |int i =>
  cases ry with
  |int j=>exact⟨i,j,rfl,rfl,ans o (.bl _) hr⟩
  |_=>exact o.elim
 |_=>exact o.elim
theorem ahi:a00 K gGe (rI0 λi j=>.bl (decide (j<=i))):=by
 intro E ι H h x y dx dy Q rx ry hr o
 cases rx with
 |int i =>
  cases ry with
  |int j=>exact⟨i,j,rfl,rfl,ans o (.bl _) hr⟩
  |_=>exact o.elim
 |_=>exact o.elim
def a2g:D->Bool
 |.non=>true
 |_=>false
theorem acb(r:Rep K ι H x .non):x=.non:=by cases r;rfl
theorem a98{b:Bool}(r:Rep K ι H x (.bl b)):x=.bl b:=by cases r;rfl
theorem acd{i:Int}(r:Rep K ι H x (.int i)):x=.int i:=by cases r;rfl
theorem a99(r:Rep K ι H x d):decide (x=.non)=a2g d:=by cases r<;>simp[a2g]
def gIs(x y:D)(h:Hd):R D:=match y with
 |.non=>.ok (.bl (a2g x)) h
 |.bl j=>(match x with|.bl i=>.ok (.bl (i == j)) h|_=>.no)
 |_=>.no
def a1y(x y:D)(h:Hd):R D:=match y with
 |.non=>.ok (.bl (!a2g x)) h
 |.bl j=>(match x with|.bl i=>.ok (.bl (i != j)) h|_=>.no)
 |_=>.no
theorem ace:a00 K gIs (λx y H Q=>(y=.non/\Q (.bl (decide (x=.non))) H)\/∃i j,x=.bl i/\y=.bl j/\Q (.bl (i == j)) H):=by
 intro E ι H h x y dx dy Q rx ry hr o
 cases dy with
 |non=>exact .inl ⟨acb ry,by rw[a99 rx];exact ans o (.bl _) hr⟩
 |bl j =>
  cases dx with
  |bl i=>exact .inr ⟨i,j,a98 rx,a98 ry,ans o (.bl _) hr⟩
  |_=>exact o.elim
 |_=>exact o.elim
theorem a3g:a00 K a1y (λx y H Q=>(y=.non/\Q (.bl (!decide (x=.non))) H)\/∃i j,x=.bl i/\y=.bl j/\Q (.bl (i != j)) H):=by
 intro E ι H h x y dx dy Q rx ry hr o
 cases dy with
 |non=>exact .inl ⟨acb ry,by rw[a99 rx];exact ans o (.bl _) hr⟩
 |bl j =>
  cases dx with
  |bl i=>exact .inr ⟨i,j,a98 rx,a98 ry,ans o (.bl _) hr⟩
  |_=>exact o.elim
 |_=>exact o.elim
def xm:D->Bool
 |.non=>true|.bl _=>true|.int _=>true|.str _=>true
 |_=>false
def fvD:D->Option V
 |.non=>some .non|.bl b=>some (.bl b)|.int i=>some (.int i)|.str x=>some (.str x)
 |_=>none
theorem afi{d:D}(r:Rep K ι H x d)(f:xm d=true):fvD d=some x:=by
 cases r<;>first|rfl|(cases f;done)
theorem fvs{d e:D}{P:D->V->D->V->Prop}(h:∀d x e y,fvD d=some x->fvD e=some y->P d x e y)(r:Rep K ι H x d)(q:Rep K ι H y e)(f:xm d=true)(g:xm e=true):P d x e y:=h d x e y (afi r f) (afi q g)
def eqF:D->D->Bool
 |.non,.non=>true
 |.bl i,.bl j=>i == j
 |.int i,.int j=>i == j
 |.str i,.str j=>i == j
 |.int i,.bl j=>i == (if j then 1 else 0)
 |.bl i,.int j=>(if i then 1 else 0) == j
 |_,_=>false
end
section
variable{X:Cx}{K:Fg}{E:XD}{a b e o:Expr}{es:List Expr}{fa fb:SE}{ka:SA}{pos:Pos}
def vo(d:D)(h:Hd):Option (List D):=match d with
 |.tup xs=>some xs
 |.rol xs=>some xs
 |.ref i=>match h[i]? with|some (.lst xs)=>some xs|_=>none
 |_=>none
def gIx(x y:D)(h:Hd):R D:=match y with
 |.int i=>(match x with
  |.str z=>if z.length<=LINE then (match atI z.cps.toList i with|some c=>.ok (.str ⟨#[c]⟩) h|none=>.no) else .no
  |x=>match vo x h with
   |some xs=>(match atI xs i with|some d=>.ok d h|none=>.no)
   |none=>.no)
 |_=>.no
theorem a9a(r:Reps K ι H vs xs)(e:atI xs i=some d):∃v,atI vs i=some v/\Rep K ι H v d:=by
 unfold atI at e ⊢;rw[r.len]
 cases hx:ixN xs.length i with
 |none=>rw[hx]at e;cases e
 |some j=>rw[hx]at e;exact r.get e
theorem anc:a00 K gIx (rIx K):=by
 intro E ι H h x y dx dy Q rx ry hr o
 cases ry with
 |int i =>
  have go:∀{p:Addr} {vs:List V} {xs:List D},Reps K ι H vs xs->out K E (zy K) ι H (match atI xs i with|some d=>.ok d h|none=>.no) Q->∃v,atI vs i=some v/\Q v H:=λ{p vs xs} r o=>by
   cases he:atI xs i with
   |none=>rw[he]at o;exact o.elim
   |some d =>
    rw[he]at o;obtain⟨v,h1,h2⟩:=a9a r he;exact⟨v,h1,ans o h2 hr⟩
  cases rx with
  |str z =>
   by_cases hc:z.length<=LINE
   ·simp only[gIx,aI hc]at o
    cases he:atI z.cps.toList i with
    |none=>rw[he]at o;exact o.elim
    |some c=>rw[he]at o;exact .inr (.inr ⟨z,i,c,rfl,rfl,ll hc,he,ans o (.str _) hr⟩)
   ·simp only[gIx,b9 hc]at o;exact o.elim
  |@tup p vs xs hp r =>
   simp only[gIx,vo]at o;obtain⟨v,h1,h2⟩:=go (p:=p) r o;exact .inr (.inl ⟨p,vs,i,v,rfl,rfl,SqT.of hp,h1,h2⟩)
  |@rol p vs xs hp r =>
   simp only[gIx,vo]at o;obtain⟨v,h1,h2⟩:=go (p:=p) r o;exact .inl ⟨p,vs,i,v,rfl,rfl,hp.l,h1,h2⟩
  |@ref p j hp =>
   obtain⟨ob,e1,e2⟩:=hr.at hp
   cases ob with
   |lst xs =>
    simp only[gIx,vo,e1]at o;obtain⟨vs,h3,h4⟩:=e2;obtain⟨v,h1,h2⟩:=go (p:=p) h4 o;exact .inl ⟨p,vs,i,v,rfl,rfl,SqL.of h3,h1,h2⟩
   |dK _=>simp only[gIx,vo,e1]at o;exact o.elim
   |dT _=>simp only[gIx,vo,e1]at o;exact o.elim
   |ins _ _=>simp only[gIx,vo,e1]at o;exact o.elim
  |_=>exact o.elim
 |_=>exact o.elim
theorem aji(ha:ME X E a fa)(hb:ME X E b fb)(hp:a5h b):ME X E (.Subscript a b pos) (s2 gIx fa fb):=ara amq anc ha hb hp
abbrev SO:=Sd->Hd->R (Option Int)
abbrev MO(X:Cx)(E:XD)(e:Option Expr)(f:SO):Prop:=PO X e (lift X.K E atz f)
def oN:SO:=λ_ h=>.ok none h
def oS(f:SE):SO:=λτ h=>(f τ h).bind λd h1=>match d with|.int i=>.ok (some i) h1|_=>.no
theorem PO.weak{e:Option Expr}{t t':St->Hp->(Option Int->Hp->Prop)->Prop}(h:PO X e t)(i:∀σ H Q,t' σ H Q->t σ H Q):PO X e t':=λaA s σ H Q I q=>h aA s σ H Q I (i _ _ _ q)
theorem qy:MO X E none oN:=PO.weak aiv λσ H Q ⟨ι,τ,h,S,Rh,o⟩=>o ι H none (.refl _ _) rfl Rh
theorem m8(he:ME X E e fa):MO X E (some e) (oS fa):=by
 refine PO.weak (aiw he) ?_
 rintro σ H Q ⟨ι,τ,h,S,Rh,o⟩
 refine⟨ι,τ,h,S,Rh,dh o λd h1 ι1 H1 v g1 r1 hr1 o1=>?_⟩
 cases r1 with
 |int i=>exact⟨i,rfl,o1 ι1 H1 _ (.refl _ _) rfl hr1⟩
 |_=>exact o1.elim
def whole(n:Nat)(lo hi:Option Int):Prop:=HT.sIx n 0 lo=0/\HT.sIx n n hi=n
instance (n:Nat) (lo hi:Option Int):Decidable (whole n lo hi):=by unfold whole;exact inferInstance
def gSl(d:D)(lo hi:Option Int)(h:Hd):R D:=match d with
 |.str z=>if z.length<=LINE then .ok (.str ⟨(a3z z.cps.toList lo hi).toArray⟩) h else .no
 |.tup xs=>if ¬ whole xs.length lo hi then .ok (.tup (a3z xs lo hi)) h else .no
 |.rol xs=>.ok (.ref h.length) (h++[.lst (a3z xs lo hi)])
 |.scr xs=>.ok (.ref h.length) (h++[.lst (a3z xs lo hi)])
 |.ref i=>match h[i]? with|some (.lst xs)=>.ok (.ref h.length) (h++[.lst (a3z xs lo hi)])|_=>.no
 |_=>.no
theorem a0y(r:Reps K ι H vs xs)(lo hi:Option Int):Reps K ι H (ah6 vs lo hi) (a3z xs lo hi):=by
 unfold ah6 a3z;rw[r.len];exact(r.drop _).take _
theorem a9b(rx:Rep K ι H x d)(hr:HRep K ι H h)(o:out K E (zy K) ι H (gSl d lo hi h) Q):ar6 x lo hi H Q\/ar0 K x lo hi H Q\/ar4 K x lo hi H Q:=by
 cases rx with
 |str z =>
  by_cases hc:z.length<=LINE
  ·simp only[gSl,aI hc]at o;exact .inl ⟨z,rfl,ll hc,ans o (.str _) hr⟩
  ·simp only[gSl,b9 hc]at o;exact o.elim
 |@tup p vs xs hp r =>
  by_cases hc:¬ whole xs.length lo hi
  ·simp only[gSl,aI hc]at o;exact .inr (.inl ⟨p,vs,rfl,SqT.of hp,by rw[r.len];exact hc,a0j (a0y r lo hi) hr o⟩)
  ·simp only[gSl,b9 hc]at o;exact o.elim
 |@rol p vs xs hp r=>exact .inr (.inr ⟨p,vs,rfl,hp.l,uo (a0y r lo hi) hr o⟩)
 |@scr p vs xs hp r=>exact .inr (.inr ⟨p,vs,rfl,hp.l,uo (a0y r lo hi) hr o⟩)
 |@ref p j hp =>
  obtain⟨ob,e1,e2⟩:=hr.at hp
  cases ob with
  |lst xs =>
   simp only[gSl,e1]at o;obtain⟨vs,h3,h4⟩:=e2;exact .inr (.inr ⟨p,vs,rfl,SqL.of h3,uo (a0y h4 lo hi) hr o⟩)
  |dK _=>simp only[gSl,e1]at o;exact o.elim
  |dT _=>simp only[gSl,e1]at o;exact o.elim
  |ins _ _=>simp only[gSl,e1]at o;exact o.elim
 |_=>exact o.elim
theorem acf(r:Rep K ι H x d)(f:xm d=true):a0g x=true:=by cases r<;>first|rfl|cases f
theorem ane(r:Rep K ι H x d)(q:Rep K ι H y c):xm d=true->xm c=true->eqV x y=eqF d c:=λf g=>by
 refine fvs (P:=λd x c y=>eqV x y=eqF d c) (λd x e y h h'=>?_) r q f g
 cases d<;>first|(cases h;done)|(cases h;cases e<;>first|(cases h';done)|(cases h';rfl))
def inD(x:D)(xs:List D):Bool:=xs.any λy=>eqF y x
theorem afj(r:Reps K ι H vs xs)(f:xs.all xm=true):vs.all a0g=true:=by
 induction r using Reps.rec (motive_1:=λ_ _ _=>True) with
 |nil=>rfl
 |cons r rs _ ih =>
  rw[cA,bI]at f ⊢;exact⟨acf r f.1,ih f.2⟩
 |_=>trivial
theorem anf(rx:Rep K ι H x d)(fx:xm d=true)(r:Reps K ι H vs xs)(f:xs.all xm=true):inV x vs=inD d xs:=by
 unfold inV inD
 induction r using Reps.rec (motive_1:=λ_ _ _=>True) with
 |nil=>rfl
 |cons r rs _ ih =>
  rw[cA,bI]at f;rw[eM,eM,ih f.2,ane r rx f.1 fx]
 |_=>trivial
def gIn(neg:Bool)(x y:D)(h:Hd):R D:=match y with
 |.str T=>(match x with
  |.str z=>(match z.cps.toList with|[c]=>.ok (.bl (if neg then !decide (c∈T.cps.toList) else decide (c∈T.cps.toList))) h|_=>.no)
  |_=>.no)
 |y=>match vo y h with
  |some xs=>if xm x=true/\xs.all xm=true then .ok (.bl (if neg then !inD x xs else inD x xs)) h else .no
  |none=>.no
theorem one_sign{z:Str}(h:z.cps.toList=[c]):z=⟨#[c]⟩:=by
 obtain⟨cps⟩:=z
 congr
 exact Array.ext' (by simpa using h)
theorem ahj(neg:Bool){r1:R2}(h1:∀c T H (Q:VK),Q (.bl (if neg then !decide (c∈T.cps.toList) else decide (c∈T.cps.toList))) H->r1 (.str ⟨#[c]⟩) (.str T) H Q):a00 K (gIn neg) (λx y H Q=>r1 x y H Q\/rIn K neg x y H Q):=by
 intro E ι H h x y dx dy Q rx ry hr o
 have go:∀{p:Addr} {vs:List V} {xs:List D},(SqL K H p vs\/SqT K H p vs)->Reps K ι H vs xs->out K E (zy K) ι H (if xm dx=true/\xs.all xm=true then .ok (.bl (if neg then !inD dx xs else inD dx xs)) h else .no) Q->rIn K neg x (.ref p) H Q:=λ{p vs xs} sq r o=>by
  split at o
  ·rename_i hc;exact⟨p,vs,rfl,sq,acf rx hc.1,afj r hc.2,by rw[anf rx hc.1 r hc.2];exact ans o (.bl _) hr⟩
  ·exact o.elim
 cases ry with
 |str T =>
  cases rx with
  |str z =>
   simp only[gIn]at o
   split at o
   ·rename_i c hz;rw[one_sign hz];exact .inl (h1 c T H Q (ans o (.bl _) hr))
   ·exact o.elim
  |_=>exact o.elim
 |@tup p vs xs hp r=>simp only[gIn,vo]at o;exact .inr (go (.inr (SqT.of hp)) r o)
 |@rol p vs xs hp r=>simp only[gIn,vo]at o;exact .inr (go (.inl hp.l) r o)
 |@ref p j hp =>
  obtain⟨ob,e1,e2⟩:=hr.at hp
  cases ob with
  |lst xs =>
   simp only[gIn,vo,e1]at o;obtain⟨vs,h3,h4⟩:=e2;exact .inr (go (.inl (SqL.of h3)) h4 o)
  |dK _=>simp only[gIn,vo,e1]at o;exact o.elim
  |dT _=>simp only[gIn,vo,e1]at o;exact o.elim
  |ins _ _=>simp only[gIn,vo,e1]at o;exact o.elim
 |_=>exact o.elim
theorem ajj:a00 K (gIn false) (λx y H Q=>(∃c T,x=.str ⟨#[c]⟩/\y=.str T/\Q (.bl (decide (c∈T.cps.toList))) H)\/rIn K false x y H Q):=ahj false λc T H Q q=>⟨c,T,rfl,rfl,q⟩
theorem ajk:a00 K (gIn true) (λx y H Q=>(∃c T,x=.str ⟨#[c]⟩/\y=.str T/\Q (.bl (!decide (c∈T.cps.toList))) H)\/rIn K true x y H Q):=ahj true λc T H Q q=>⟨c,T,rfl,rfl,q⟩
def yz:List D->Hd->R D
 |[.str z],h=>if z.length<=LINE then .ok (.int z.length) h else .no
 |[x],h=>(match vo x h with|some xs=>.ok (.int xs.length) h|none=>.no)
 |_,_=>.no
theorem ajl:a91 K yz (λxs H Q=>(∃p ys,xs=[.ref p]/\(SqL K H p ys\/SqT K H p ys)/\Q (.int ys.length) H)\/∃z,xs=[.str z]/\z.length<=sizeLine/\Q (.int z.length) H):=by
 intro E ι H h xs ds Q r hr o
 cases r with
 |nil=>exact o.elim
 |cons r rs =>
  cases rs with
  |cons _ _=>exact(show False by cases r<;>exact o).elim
  |nil =>
   cases r with
   |str z =>
    by_cases hc:z.length<=LINE
    ·simp only[yz,aI hc]at o;exact .inr ⟨z,rfl,ll hc,ans o (.int _) hr⟩
    ·simp only[yz,b9 hc]at o;exact o.elim
   |@tup p vs xs hp r=>simp only[yz,vo]at o;exact .inl ⟨p,vs,rfl,.inr (SqT.of hp),by rw[r.len];exact ans o (.int _) hr⟩
   |@rol p vs xs hp r=>simp only[yz,vo]at o;exact .inl ⟨p,vs,rfl,.inl hp.l,by rw[r.len];exact ans o (.int _) hr⟩
   |@ref p j hp =>
    obtain⟨ob,e1,e2⟩:=hr.at hp
    cases ob with
    |lst xs =>
     simp only[yz,vo,e1]at o;obtain⟨vs,h3,h4⟩:=e2;exact .inl ⟨p,vs,rfl,.inl (SqL.of h3),by rw[h4.len];exact ans o (.int _) hr⟩
    |dK _=>simp only[yz,vo,e1]at o;exact o.elim
    |dT _=>simp only[yz,vo,e1]at o;exact o.elim
    |ins _ _=>simp only[yz,vo,e1]at o;exact o.elim
   |_=>exact o.elim
def aq1:List D->Hd->R D
 |[.int i],h=>.ok (.int (if i<0 then -i else i)) h
 |_,_=>.no
theorem ajm:a91 K aq1 (λxs H Q=>∃i,xs=[.int i]/\Q (.int (if i<0 then -i else i)) H):=by
 intro E ι H h xs ds Q r hr o
 unfold aq1 at o
 split at o
 ·cases r with|cons r rs=>cases r;cases rs;exact⟨_,rfl,ans o (.int _) hr⟩
 ·exact o.elim
def a5t:List D->Hd->R D
 |[.int i,.int j],h=>.ok (.int (if j > i then j else i)) h
 |_,_=>.no
def a7c:List D->Hd->R D
 |[.int i,.int j],h=>.ok (.int (if j<i then j else i)) h
 |_,_=>.no
theorem afk:a91 K a5t (λxs H Q=>∃i j,xs=[.int i,.int j]/\Q (.int (if j > i then j else i)) H):=by
 intro E ι H h xs ds Q r hr o
 unfold a5t at o
 split at o
 ·cases r with|cons r rs=>cases rs with|cons q rs=>cases r;cases q;cases rs;exact⟨_,_,rfl,ans o (.int _) hr⟩
 ·exact o.elim
theorem afl:a91 K a7c (λxs H Q=>∃i j,xs=[.int i,.int j]/\Q (.int (if j<i then j else i)) H):=by
 intro E ι H h xs ds Q r hr o
 unfold a7c at o
 split at o
 ·cases r with|cons r rs=>cases rs with|cons q rs=>cases r;cases q;cases rs;exact⟨_,_,rfl,ans o (.int _) hr⟩
 ·exact o.elim
def ajn:List D->Hd->R D
 |[.int i],h=>.ok (.int i) h
 |[.bl k],h=>.ok (.int (if k then 1 else 0)) h
 |_,_=>.no
theorem ajo:a91 K ajn (λxs H Q=>(∃i,xs=[.int i]/\Q (.int i) H)\/∃k,xs=[.bl k]/\Q (.int (if k then 1 else 0)) H):=by
 intro E ι H h xs ds Q r hr o
 unfold ajn at o
 split at o
 ·cases r with|cons r rs=>cases r;cases rs;exact .inl ⟨_,rfl,ans o (.int _) hr⟩
 ·cases r with|cons r rs=>cases r;cases rs;exact .inr ⟨_,rfl,ans o (.int _) hr⟩
 ·exact o.elim
def tyD(d:D)(h:Hd):Option String:=match d with
 |.non=>some "NoneType" |.bl _=>some "bool" |.int _=>some "int" |.str _=>some "str" |.tup _=>some "tuple" |.rol _=>some "list"
 |.ref i=>(match h[i]? with|some (.lst _)=>some "list" |some (.dK _)=>some "dict" |_=>none)
 |_=>none
def a9c(t T:String):Option Bool :=
 if t∈["NoneType","bool","int","str","tuple","list","dict"]/\T∈["bool","int","str","tuple","list","dict"] then some (t == T || (t == "bool" && T == "int")) else none
theorem acg{t T:String}{b:Bool}(e:a9c t T=some b):PySem.W.kitOne K (.type t) (.type T)=some b:=by
 unfold a9c at e
 split at e
 ·rename_i h;obtain⟨h1,h2⟩:=h;simp only[ar,aM,bC]at h1 h2
  rcases h1 with rfl|rfl|rfl|rfl|rfl|rfl|rfl<;>rcases h2 with rfl|rfl|rfl|rfl|rfl|rfl<;>(cases e;rfl)
 ·cases e
def aav:List D->Hd->R D
 |[x,.ty T],h=>(match tyD x h with|some t=>(match a9c t T with|some b=>.ok (.bl b) h|none=>.no)|none=>.no)
 |_,_=>.no
theorem ang(r:Rep K ι H x d)(hr:HRep K ι H h)(e:tyD d h=some t):TyOf K H x (.type t):=by
 cases r with
 |non=>cases e;exact .non
 |bl b=>cases e;exact .bl b
 |int b=>cases e;exact .int b
 |str b=>cases e;exact .str b
 |ty _=>cases e
 |tup hp r=>cases e;exact .tup hp
 |rol hp r=>cases e;obtain⟨o,hp⟩:=hp;exact .frz hp
 |scr _ _=>cases e
 |rod _ _ _=>cases e
 |rdT _ _ _=>cases e
 |exc _ _ _=>cases e
 |ins _ _ _ _=>cases e
 |ref hp =>
  obtain⟨ob,e1,e2⟩:=hr.at hp
  cases ob with
  |lst xs=>simp only[tyD,e1]at e;cases e;obtain⟨vs,h3,h4⟩:=e2;exact .lst h3
  |dK _=>simp only[tyD,e1]at e;cases e;obtain⟨vs,h3,h4⟩:=e2;exact .dK h3
  |dT _=>simp only[tyD,e1]at e;cases e
  |ins _ _=>simp only[tyD,e1]at e;cases e
theorem ajp:a91 K aav (λxs H Q=>∃x T t b,xs=[x,.ty T]/\TyOf K H x t/\PySem.W.kitOne K t (.type T)=some b/\Q (.bl b) H):=by
 intro E ι H h xs ds Q r hr o
 unfold aav at o
 split at o
 ·rename_i d T
  cases r with
  |cons r rs =>
   cases rs with
   |cons q rs =>
    cases q;cases rs
    cases ht:tyD d h with
    |none=>rw[ht]at o;exact o.elim
    |some t =>
     rw[ht]at o
     cases hb:a9c t T with
     |none=>simp only[hb]at o;exact o.elim
     |some b =>
      simp only[hb]at o;exact⟨_,T,.type t,b,rfl,ang r hr ht,acg hb,ans o (.bl _) hr⟩
 ·exact o.elim
end
section
variable{X:Cx}{K:Fg}{E:XD}{a b e o:Expr}{es:List Expr}{fa fb fo:SE}{ka:SA}{pos apos cpos:Pos}{name:Str}{idn:String}
def afm(K:Fg)(g:D->List D->Hd->R D)(r:V->List V->Hp->VK->Prop):Prop:=∀(E:XD) ι H h x dx xs ds Q,Rep K ι H x dx->Reps K ι H xs ds->HRep K ι H h->out K E (zy K) ι H (g dx ds h) Q->r x xs H Q
def isL(d:D)(h:Hd):Bool:=match d with|.ref i=>(match h[i]? with|some (.lst _)=>true|_=>false)|.rol _=>true|_=>false
def sML(g:D->List D->Hd->R D)(f:SE)(k:SA):SE:=λτ h=>(f τ h).bind λd h1=>if isL d h1=true then (k τ h1).bind λds h2=>g d ds h2 else .no
theorem anh(r:Rep K ι H x d)(hr:HRep K ι H h)(e:isL d h=true):tyV K "list" x H:=by
 cases r with
 |rol hp _=>exact .inl ⟨rfl,_,hp.l⟩
 |ref hp =>
  obtain⟨ob,e1,e2⟩:=hr.at hp
  cases ob with
  |lst xs=>obtain⟨vs,h3,_⟩:=e2;exact .inl ⟨rfl,_,SqL.of h3⟩
  |dK _=>simp[isL,e1]at e
  |dT _=>simp[isL,e1]at e
  |ins _ _=>simp[isL,e1]at e
 |_=>cases e
theorem a5u(slot:Slot "list" name idn)(hty:typeOf (.builtin idn)=pure (.type "method_descriptor"))(hm:MtR X idn r)(hs:afm X.K g r)(ho:ME X E o fo)(ha:MA X E (e::es) ka)
  (hbase:attributeBase o name X.env (eval o X.env)=eval o X.env:=by rfl)
  (hfew:((backTo cpos (starEach (e::es) X.env)).all (λx => !x.1) && (backToKw cpos (keywordEach [] X.env)).all (λx=>x.1.isSome)
   && decide ((e::es).length+([]:List Keyword).length+(if ([]:List Keyword).isEmpty then 0 else 1)<30))=true:=by rfl)
  (hline:(apos.endLine == cpos.line)=true:=by rfl) (hst:starEach (e::es) X.env=(false,eval e X.env)::starEach es X.env:=by rfl) (hplain:(backTo cpos (starEach es X.env)).any (·.1)=false:=by rfl) :
  ME X E (.Call (.Attribute o name apos) (e::es) [] cpos) (sML g fo ka):=by
 refine PE.weak (ar5 PySem.F.plainAttrs_list slot hty hm ho ha hbase hfew hline hst hplain) ?_
 rintro σ H Q ⟨ι,τ,h,S,Rh,o⟩
 refine⟨ι,τ,h,S,Rh,dh o λd h1 ι1 H1 v g1 r1 hr1 o1=>?_⟩
 by_cases hc:isL d h1=true
 ·rw[aI hc]at o1;refine⟨anh r1 hr1 hc,ι1,τ,h1,S.mono g1,hr1,dh o1 λds h2 ι2 H2 vs g2 r2 hr2 o2=>?_⟩;exact hs E ι2 H2 h2 v d vs ds Q (r1.mono g2) r2 hr2 o2
 ·rw[b9 hc]at o1;exact o1.elim
def a5v:D->List D->Hd->R D
 |.ref i,[y],h=>(match h[i]? with|some (.lst xs)=>if xs.length<LINE then .ok .non (h.set i (.lst (xs++[y]))) else .no|_=>.no)
 |_,_,_=>.no
theorem a1k:afm K a5v abn:=by
 intro E ι H h x dx xs ds Q rx r hr o
 unfold a5v at o
 split at o
 ·rename_i i y
  cases rx with
  |@ref p _ hp =>
   cases r with
   |cons r1 rs =>
    cases rs
    split at o
    ·rename_i xs hx;obtain⟨vs,h3,h4⟩:=hr.lst hp hx
     split at o
     ·rename_i hc;exact⟨p,vs,_,rfl,rfl,h3,by rw[h4.len,aj3];exact hc,a87 (h4.snoc r1) hr hp .non o⟩
     ·exact o.elim
    ·exact o.elim
 ·exact o.elim
def a7d:D->List D->Hd->R D
 |.ref i,[.int j],h=>(match h[i]? with|some (.lst xs)=>(match ixN xs.length j with|some k=>(match xs[k]? with|some y=>if xs.length<=LINE then .ok y (h.set i (.lst (xs.eraseIdx k))) else .no|none=>.no)|none=>.no)|_=>.no)
 |_,_,_=>.no
theorem ach:afm K a7d ah9:=by
 intro E ι H h x dx xs ds Q rx r hr o
 unfold a7d at o
 split at o
 ·rename_i i j
  cases rx with
  |@ref p _ hp =>
   cases r with
   |cons r1 rs =>
    cases r1;cases rs
    split at o
    ·rename_i xs hx;obtain⟨vs,h3,h4⟩:=hr.lst hp hx
     split at o
     ·rename_i k hk
      split at o
      ·rename_i y hy
       split at o
       ·rename_i hl;obtain⟨v,h5,h6⟩:=h4.get hy;obtain⟨q1,q2,q3,q4⟩:=a81 hk;have hl':xs.length<=16777216:=hl;exact⟨p,vs,j,k,v,rfl,rfl,h3,by omega,by omega,by rw[h4.len];exact q1,h5,a87 (h4.erase k) hr hp h6 o⟩
       ·exact o.elim
      ·exact o.elim
     ·exact o.elim
    ·exact o.elim
 ·exact o.elim
def sMS(g:D->List D->Hd->R D)(f:SE)(k:SA):SE:=λτ h=>(f τ h).bind λd h1=>match d with|.str z=>(k τ h1).bind λds h2=>g (.str z) ds h2|_=>.no
theorem ajq(slot:Slot "str" name idn)(hty:typeOf (.builtin idn)=pure (.type "method_descriptor"))(hm:MtR X idn r)(hs:afm X.K g r)(ho:ME X E o fo)(ha:MA X E (e::es) ka)
  (hbase:attributeBase o name X.env (eval o X.env)=eval o X.env:=by rfl)
  (hfew:((backTo cpos (starEach (e::es) X.env)).all (λx => !x.1) && (backToKw cpos (keywordEach [] X.env)).all (λx=>x.1.isSome)
   && decide ((e::es).length+([]:List Keyword).length+(if ([]:List Keyword).isEmpty then 0 else 1)<30))=true:=by rfl)
  (hline:(apos.endLine == cpos.line)=true:=by rfl) (hst:starEach (e::es) X.env=(false,eval e X.env)::starEach es X.env:=by rfl) (hplain:(backTo cpos (starEach es X.env)).any (·.1)=false:=by rfl) :
  ME X E (.Call (.Attribute o name apos) (e::es) [] cpos) (sMS g fo ka):=by
 refine PE.weak (ar8 slot hty hm ho ha hbase hfew hline hst hplain) ?_
 rintro σ H Q ⟨ι,τ,h,S,Rh,o⟩
 refine⟨ι,τ,h,S,Rh,dh o λd h1 ι1 H1 v g1 r1 hr1 o1=>?_⟩
 cases r1 with
 |str z=>exact⟨⟨z,rfl⟩,ι1,τ,h1,S.mono g1,hr1,dh o1 λds h2 ι2 H2 vs g2 r2 hr2 o2=>hs E ι2 H2 h2 _ _ vs ds Q (.str z) r2 hr2 o2⟩
 |_=>exact o1.elim
def aci:D->List D->Hd->R D
 |.str T,[.str z],h=>(match z.cps.toList with|[c]=>.ok (.int (a0s T c)) h|_=>.no)
 |_,_,_=>.no
theorem afn:afm K aci (λx xs H Q=>∃T c,x=.str T/\xs=[.str ⟨#[c]⟩]/\Q (.int (a0s T c)) H):=by
 intro E ι H h x dx xs ds Q rx r hr o
 unfold aci at o
 split at o
 ·cases rx
  cases r with
  |cons r1 rs =>
   cases r1;cases rs
   split at o
   ·rename_i c hz;exact⟨_,c,rfl,by rw[one_sign hz],ans o (.int _) hr⟩
   ·exact o.elim
 ·exact o.elim
def a3h:D->List D->Hd->R D
 |.str T,[.str z],h=>(match z.cps.toList with|[c]=>if c∈T.cps.toList then .ok (.int (a0s T c)) h else .no|_=>.no)
 |_,_,_=>.no
theorem acj:afm K a3h (λx xs H Q=>∃T c,x=.str T/\xs=[.str ⟨#[c]⟩]/\c∈T.cps.toList/\Q (.int (a0s T c)) H):=by
 intro E ι H h x dx xs ds Q rx r hr o
 unfold a3h at o
 split at o
 ·cases rx
  cases r with
  |cons r1 rs =>
   cases r1;cases rs
   split at o
   ·rename_i c hz
    split at o
    ·rename_i hc;exact⟨_,c,rfl,by rw[one_sign hz],hc,ans o (.int _) hr⟩
    ·exact o.elim
   ·exact o.elim
 ·exact o.elim
def a89:List D->Option (List Str)
 |[]=>some []
 |.str z::r=>(a89 r).map (z::·)
 |_::_=>none
theorem a5w:∀{vs:List V} {xs:List D} {zs:List Str},Reps K ι H vs xs->a89 xs=some zs->vs=zs.map V.str
 |_,_,_,.nil,e=>by cases e;rfl
 |_,_,zs,.cons (d:=d) r rs,e=>by
  cases r with
  |str z =>
   simp only[a89,ax]at e;obtain⟨ws,h1,rfl⟩:=e;rw[a5w rs h1];rfl
  |_=>cases e
def ack:D->List D->Hd->R D
 |.str sep,[.ref i],h=>(match h[i]? with|some (.lst xs)=>(match a89 xs with|some zs=>if (zs.map (·.length)).sum+zs.length*sep.length<=16777216 then .ok (.str (Txt.join sep zs)) h else .no|none=>.no)|_=>.no)
 |.str sep,[.rol xs],h=>(match a89 xs with|some zs=>if (zs.map (·.length)).sum+zs.length*sep.length<=16777216 then .ok (.str (Txt.join sep zs)) h else .no|none=>.no)
 |_,_,_=>.no
theorem afo:afm K ack (λx xs H Q=>∃sep p zs,x=.str sep/\xs=[.ref p]/\SqL K H p (zs.map V.str)/\(zs.map (·.length)).sum+zs.length*sep.length<=16777216/\Q (.str (Txt.join sep zs)) H):=by
 intro E ι H h x dx xs ds Q rx r hr o
 unfold ack at o
 split at o
 ·rename_i sep i;cases rx
  cases r with
  |cons r1 rs =>
   cases rs
   cases r1 with
   |@ref p _ hp =>
    split at o
    ·rename_i xs hx;obtain⟨vs,h3,h4⟩:=hr.lst hp hx
     split at o
     ·rename_i zs hz
      split at o
      ·rename_i hc;exact⟨sep,p,zs,rfl,rfl,SqL.of (by rw[h3,a5w h4 hz]),hc,ans o (.str _) hr⟩
      ·exact o.elim
     ·exact o.elim
    ·exact o.elim
 ·rename_i sep xs;cases rx
  cases r with
  |cons r1 rs =>
   cases rs
   cases r1 with
   |@rol p vs xs hp r =>
    split at o
    ·rename_i zs hz
     split at o
     ·rename_i hc;exact⟨sep,p,zs,rfl,rfl,by rw[<-a5w r hz];exact hp.l,hc,ans o (.str _) hr⟩
     ·exact o.elim
    ·exact o.elim
 ·exact o.elim
def uv:List D->Hd->R D
 |[.str z],h=>if z.length<=LINE then .ok (.ref h.length) (h++[.lst (xj z)]) else .no
 |[x],h=>(match vo x h with|some xs=>.ok (.ref h.length) (h++[.lst xs])|none=>.no)
 |_,_=>.no
theorem a1l(z:Str):Reps K ι H (ur z) (xj z):=by
 unfold ur xj
 induction z.cps.toList with
 |nil=>exact .nil
 |cons c cs ih=>exact .cons (.str _) ih
theorem a0z:a91 K uv (λxs H Q=>(∃p ys,xs=[.ref p]/\(SqL K H p ys\/SqT K H p ys)/\∀l,H l=none->Q (.ref l) (upd H l (.lst ys)))\/∃z,xs=[.str z]/\z.length<=sizeLine/\∀l,H l=none->Q (.ref l) (upd H l (.lst (ur z)))):=by
 intro E ι H h xs ds Q r hr o
 cases r with
 |nil=>exact o.elim
 |cons r rs =>
  cases rs with
  |cons _ _=>exact(show False by cases r<;>exact o).elim
  |nil =>
   cases r with
   |str z =>
    by_cases hc:z.length<=LINE
    ·simp only[uv,aI hc]at o;exact .inr ⟨z,rfl,ll hc,uo (a1l z) hr o⟩
    ·simp only[uv,b9 hc]at o;exact o.elim
   |@tup p vs xs hp r=>simp only[uv,vo]at o;exact .inl ⟨p,vs,rfl,.inr (SqT.of hp),uo r hr o⟩
   |@rol p vs xs hp r=>simp only[uv,vo]at o;exact .inl ⟨p,vs,rfl,.inl hp.l,uo r hr o⟩
   |@ref p j hp =>
    obtain⟨ob,e1,e2⟩:=hr.at hp
    cases ob with
    |lst xs =>
     simp only[uv,vo,e1]at o;obtain⟨vs,h3,h4⟩:=e2;exact .inl ⟨p,vs,rfl,.inl (SqL.of h3),uo h4 hr o⟩
    |dK _=>simp only[uv,vo,e1]at o;exact o.elim
    |dT _=>simp only[uv,vo,e1]at o;exact o.elim
    |ins _ _=>simp only[uv,vo,e1]at o;exact o.elim
   |_=>exact o.elim
def o6:List D->Hd->R D
 |[.str z],h=>if z.length<=LINE then .ok (.tup (xj z)) h else .no
 |[x],h=>(match vo x h with|some xs=>.ok (.tup xs) h|none=>.no)
 |_,_=>.no
theorem xn:a91 K o6 (λxs H Q=>(∃p ys,xs=[.ref p]/\((SqL K H p ys/\∀l,H l=none->Q (.ref l) (upd H l (.tup ys)))\/(SqT K H p ys/\Q (.ref p) H)))\/∃z,xs=[.str z]/\z.length<=sizeLine/\∀l,H l=none->Q (.ref l) (upd H l (.tup (ur z)))):=by
 intro E ι H h xs ds Q r hr o
 cases r with
 |nil=>exact o.elim
 |cons r rs =>
  cases rs with
  |cons _ _=>exact(show False by cases r<;>exact o).elim
  |nil =>
   cases r with
   |str z =>
    by_cases hc:z.length<=LINE
    ·simp only[o6,aI hc]at o;exact .inr ⟨z,rfl,ll hc,a0j (a1l z) hr o⟩
    ·simp only[o6,b9 hc]at o;exact o.elim
   |@tup p vs xs hp r=>simp only[o6,vo]at o;exact .inl ⟨p,vs,rfl,.inr ⟨SqT.of hp,ans o (.tup hp r) hr⟩⟩
   |@rol p vs xs hp r=>simp only[o6,vo]at o;exact .inl ⟨p,vs,rfl,.inl ⟨hp.l,a0j r hr o⟩⟩
   |@ref p j hp =>
    obtain⟨ob,e1,e2⟩:=hr.at hp
    cases ob with
    |lst xs =>
     simp only[o6,vo,e1]at o;obtain⟨vs,h3,h4⟩:=e2;exact .inl ⟨p,vs,rfl,.inl ⟨SqL.of h3,a0j h4 hr o⟩⟩
    |dK _=>simp only[o6,vo,e1]at o;exact o.elim
    |dT _=>simp only[o6,vo,e1]at o;exact o.elim
    |ins _ _=>simp only[o6,vo,e1]at o;exact o.elim
   |_=>exact o.elim
def ajr:List D->Option (List Bool)
 |[]=>some []
 |.bl z::r=>(ajr r).map (z::·)
 |_::_=>none
def a5x:List D->Option (List Int)
 |[]=>some []
 |.int z::r=>(a5x r).map (z::·)
 |_::_=>none
theorem a8a:∀{vs:List V} {xs:List D} {zs:List Bool},Reps K ι H vs xs->ajr xs=some zs->vs=zs.map V.bl
 |_,_,_,.nil,e=>by cases e;rfl
 |_,_,zs,.cons (d:=d) r rs,e=>by
  cases r with
  |bl z =>
   simp only[ajr,ax]at e;obtain⟨ws,h1,rfl⟩:=e;rw[a8a rs h1];rfl
  |_=>cases e
theorem a1a:∀{vs:List V} {xs:List D} {zs:List Int},Reps K ι H vs xs->a5x xs=some zs->vs=zs.map V.int
 |_,_,_,.nil,e=>by cases e;rfl
 |_,_,zs,.cons (d:=d) r rs,e=>by
  cases r with
  |int z =>
   simp only[a5x,ax]at e;obtain⟨ws,h1,rfl⟩:=e;rw[a1a rs h1];rfl
  |_=>cases e
theorem a9d(bs:List Bool):ajr (bs.map D.bl)=some bs:=by
 induction bs with
 |nil=>rfl
 |cons b bs ih=>simp[ajr,ih]
def acl:List D->Hd->R D
 |[.ref i],h=>(match h[i]? with|some (.lst xs)=>(match ajr xs with|some bs=>.ok (.bl (bs.all id)) h|none=>.no)|_=>.no)
 |[.rol xs],h=>(match ajr xs with|some bs=>.ok (.bl (bs.all id)) h|none=>.no)
 |_,_=>.no
theorem acn:a91 K acl (λxs H Q=>∃(p:Addr) (bs:List Bool),xs=[.ref p]/\SqL K H p (bs.map V.bl)/\Q (.bl (bs.all id)) H):=by
 intro E ι H h xs ds Q r hr o
 unfold acl at o
 split at o
 ·cases r with
  |cons r rs =>
   cases rs
   cases r with
   |@ref p _ hp =>
    split at o
    ·rename_i xs hx;obtain⟨vs,h3,h4⟩:=hr.lst hp hx
     split at o
     ·rename_i bs hb;exact⟨p,bs,rfl,SqL.of (by rw[h3,a8a h4 hb]),ans o (.bl _) hr⟩
     ·exact o.elim
    ·exact o.elim
 ·cases r with
  |cons r rs =>
   cases rs
   cases r with
   |@rol p vs xs hp r =>
    split at o
    ·rename_i bs hb;exact⟨p,bs,rfl,by rw[<-a8a r hb];exact hp.l,ans o (.bl _) hr⟩
    ·exact o.elim
 ·exact o.elim
def ani:List D->Hd->R D
 |[.ref i],h=>(match h[i]? with|some (.lst xs)=>(match a5x xs with|some bs=>.ok (.int bs.sum) h|none=>.no)|_=>.no)
 |[.rol xs],h=>(match a5x xs with|some bs=>.ok (.int bs.sum) h|none=>.no)
 |_,_=>.no
theorem ajs:a91 K ani (λxs H Q=>∃(p:Addr) (ns:List Int),xs=[.ref p]/\SqL K H p (ns.map V.int)/\Q (.int ns.sum) H):=by
 intro E ι H h xs ds Q r hr o
 unfold ani at o
 split at o
 ·cases r with
  |cons r rs =>
   cases rs
   cases r with
   |@ref p _ hp =>
    split at o
    ·rename_i xs hx;obtain⟨vs,h3,h4⟩:=hr.lst hp hx
     split at o
     ·rename_i bs hb;exact⟨p,bs,rfl,SqL.of (by rw[h3,a1a h4 hb]),ans o (.int _) hr⟩
     ·exact o.elim
    ·exact o.elim
 ·cases r with
  |cons r rs =>
   cases rs
   cases r with
   |@rol p vs xs hp r =>
    split at o
    ·rename_i bs hb;exact⟨p,bs,rfl,by rw[<-a1a r hb];exact hp.l,ans o (.int _) hr⟩
    ·exact o.elim
 ·exact o.elim
end
end MI
theorem L2.Room.u(r:L2.Room k A):A.units+64<PySem.cLine:=r.units
namespace MI
open L2
mutual
def eqD:D->D->Bool
 |.non,.non=>true
 |.bl a,.bl b=>a == b
 |.bl a,.int b=>(if a then 1 else 0) == b
 |.int a,.bl b=>a == (if b then 1 else 0)
 |.int a,.int b=>a == b
 |.str a,.str b=>a == b
 |.tup xs,.tup ys=>a4r xs ys
 |_,_=>false
def a4r:List D->List D->Bool
 |[],[]=>true
 |x::xs,y::ys=>eqD x y && a4r xs ys
 |_,_=>false
end
def pur:Nat->D->Bool
 |_,.non=>true
 |_,.bl _=>true
 |_,.int _=>true
 |_,.str _=>true
 |n+1,.tup xs=>xs.all (pur n)
 |_,_=>false
def pairE(xs ys:List D)(j:Nat):Bool:=match xs[j]?,ys[j]? with|some x,some y=>eqD x y|_,_=>false
theorem a1b:∀xs ys:List D,((List.range (min xs.length ys.length)).all (pairE xs ys) && xs.length == ys.length)=a4r xs ys
 |[],[]=>by simp[a4r]
 |[],_::_=>by simp[a4r]
 |_::_,[]=>by simp[a4r]
 |x::xs,y::ys=>by
  have ih:=a1b xs ys;rw[show min (x::xs).length (y::ys).length=min xs.length ys.length+1 by simp only[bQ];omega,List.range_succ_eq_map]
  rw[cA,eX];have e:(pairE (x::xs) (y::ys) ∘ Nat.succ)=pairE xs ys:=by funext j;simp[pairE]
  rw[e];simp only[a4r];rw[<-ih];have e2:((x::xs).length == (y::ys).length)=(xs.length == ys.length):=by simp
  rw[e2,Bool.and_assoc];rfl
section
variable{K:Fg}{ι:List Addr}{H:Hp}
theorem a5y{xs:List D}(r:Rep K ι H v (.tup xs)):∃a vs,v=.ref a/\H a=some (.tup vs)/\Reps K ι H vs xs:=by cases r with|@tup a vs _ h rs=>exact⟨a,vs,rfl,h,rs⟩
theorem ahk(r:Rep K ι H v d)(q:Rep K ι H v e)(f:xm d=true)(g:xm e=true):eqD d e=true:=by
 have h:=afi r f;have h':=afi q g
 cases d<;>first|(cases h;done)|(cases h;cases e<;>first|(cases h';done)|(cases h';simp[eqD]))
theorem xq(r:Rep K ι H v d)(p:pur n d=true):(∃xs,d=.tup xs)\/(a0g v=true/\xm d=true):=by
 cases r<;>first|exact .inr ⟨rfl,rfl⟩|exact .inl ⟨_,rfl⟩|(cases n<;>cases p)
theorem a5z(r:Rep K ι H x d)(q:Rep K ι H y e)(f:xm d=true)(g:xm e=true):eqV x y=eqD d e:=by
 refine fvs (P:=λd x c y=>eqV x y=eqD d c) (λd x e y h h'=>?_) r q f g
 cases d<;>first|(cases h;done)|(cases h;cases e<;>first|(cases h';done)|(cases h';first|rfl|(simp[eqV,eqD];done)))
theorem afp:∀(n:Nat) {v:V} {d e:D},Rep K ι H v d->Rep K ι H v e->pur n d=true->pur n e=true->eqD d e=true:=by
 intro n
 induction n with
 |zero =>
  intro v d e r q p1 p2
  rcases xq r p1 with⟨xs,rfl⟩|⟨f1,g1⟩
  ·cases p1
  rcases xq q p2 with⟨xs,rfl⟩|⟨f2,g2⟩
  ·cases p2
  exact ahk r q g1 g2
 |succ n ih =>
  intro v d e r q p1 p2
  rcases xq r p1 with⟨xs,rfl⟩|⟨f1,g1⟩
  ·rcases xq q p2 with⟨ys,rfl⟩|⟨f2,g2⟩
   ·obtain⟨a,vs,rfl,h,rs⟩:=a5y r;obtain⟨b,us,z,h',qs⟩:=a5y q;cases z
    rw[h]at h';cases h'
    simp only[eqD];simp only[pur,aO]at p1 p2
    clear h r q
    induction rs using Reps.rec (motive_1:=λ_ _ _=>True) generalizing ys with
    |nil=>cases qs;rfl
    |cons r rs _ ih2 =>
     cases qs with
     |cons q qs =>
      simp only[a4r,bI];exact⟨ih r q (p1 _ (aT ..)) (p2 _ (aT ..)),ih2 _ qs (λx hx=>p1 x (aP _ hx)) (λx hx=>p2 x (aP _ hx))⟩
    |_=>trivial
   ·obtain⟨a,vs,rfl,h,rs⟩:=a5y r;cases f2
  ·rcases xq q p2 with⟨ys,rfl⟩|⟨f2,g2⟩
   ·obtain⟨a,vs,rfl,h,rs⟩:=a5y q;cases f1
   ·exact ahk r q g1 g2
open SeqAt in
theorem ahl{s:Shared}(hok:HOk P w H s.heap):∀(n:Nat) (A:Around) {x y:V} {u v:Value} {d e:D},Rep K ι H x d->Rep K ι H y e->RelV x u->RelV y v->pur n d=true->pur n e=true->A.units+n<cLine->EqAt A s u v (eqD d e):=by
 intro n
 induction n with
 |zero =>
  intro A x y u v d e r q rx ry p1 p2 hu
  rcases xq r p1 with⟨xs,rfl⟩|⟨f1,f2⟩
  ·cases p1
  ·rcases xq q p2 with⟨xs,rfl⟩|⟨g1,g2⟩
   ·cases p2
   ·rw[<-a5z r q f2 g2];exact abl rx ry f1 g1
 |succ n ih =>
  intro A x y u v d e r q rx ry p1 p2 hu
  rcases xq r p1 with⟨xs,rfl⟩|⟨f1,f2⟩
  ·cases r with
   |@tup a vs _ ha rs =>
    cases rx
    obtain⟨_,its,r1,t1⟩:=(Rd.of ha).ok hok
    rcases xq q p2 with⟨ys,rfl⟩|⟨g1,g2⟩
    ·cases q with
     |@tup b us _ hb qs =>
      cases ry
      obtain⟨_,its2,r2,t2⟩:=(Rd.of hb).ok hok
      by_cases hab:a=b
      ·subst hab;rw[afp (n+1) (.tup ha rs) (.tup hb qs) p1 p2];exact EqAt.same _
      ·have l1:its.toArray.size=xs.length:=by rw[ae,<-r1.length,rs.len]
       have l2:its2.toArray.size=ys.length:=by rw[ae,<-r2.length,qs.len]
       have:=RcAt.tuples (A:=A) (s:=s) (e:=pairE xs ys) t1 t2 (by omega) (λj h1 h2=>by
        have j1:j<xs.length:=by omega
        have j2:j<ys.length:=by omega
        obtain⟨v1,e1,q1⟩:=rs.get (a6 j1);obtain⟨v2,e2,q2⟩:=qs.get (a6 j2);obtain⟨u1,e3,q3⟩:=r1.get e1;obtain⟨u2,e4,q4⟩:=r2.get e2;have f1:its.toArray[j]=u1:=by simpa using (a7.mp e3).2
        have f2:its2.toArray[j]=u2:=by simpa using (a7.mp e4).2
        have pe:pairE xs ys j=eqD xs[j] ys[j]:=by simp[pairE,a6 j1,a6 j2]
        rw[f1,f2,pe];simp only[pur,aO]at p1 p2;exact ih A.in1 q1 q2 q3 q4 (p1 _ (aU j1)) (p2 _ (aU j2)) (by rw[cv];omega))
       rw[l1,l2,a1b]at this;exact EqAt.of_refs hab this
    ·have e0:eqD (.tup xs) e=false:=by cases e<;>first|rfl|(cases g2;done)
     rw[e0]
     cases y with
     |non=>cases ry;exact EqAt.tuple_none t1 (by omega)
     |bl b=>cases ry;exact EqAt.tuple_bool b t1 (by omega)
     |int b=>obtain⟨t,rfl⟩:=ry;exact EqAt.tuple_int b t t1 (by omega)
     |str b=>obtain⟨t,rfl⟩:=ry;exact EqAt.tuple_str b t t1 (by omega)
     |_=>cases g1
  ·rcases xq q p2 with⟨ys,rfl⟩|⟨g1,g2⟩
   ·cases q with
    |@tup b us _ hb qs =>
     cases ry
     obtain⟨_,its2,r2,t2⟩:=(Rd.of hb).ok hok;have e0:eqD d (.tup ys)=false:=by cases d<;>first|rfl|(cases f2;done)
     rw[e0]
     cases x with
     |non=>cases rx;exact EqAt.none_tuple t2 (by omega)
     |bl b=>cases rx;exact EqAt.bool_tuple b t2 (by omega)
     |int b=>obtain⟨t,rfl⟩:=rx;exact EqAt.int_tuple b t t2 (by omega)
     |str b=>obtain⟨t,rfl⟩:=rx;exact EqAt.str_tuple b t t2 (by omega)
     |_=>cases f1
   ·rw[<-a5z r q f2 g2];exact abl rx ry f1 g1
open SeqAt in
theorem anj(ry:RelV y u)(rx:RelV x v)(fy:a0g y=true)(fx:a0g x=true):RcAt A s u v (eqV y x):=by
 cases y with
 |non =>
  cases ry
  cases x with
  |non=>cases rx;exact RcAt.none_none
  |bl b=>cases rx;exact RcAt.none_bool b
  |int b=>obtain⟨t,rfl⟩:=rx;exact RcAt.none_int b t
  |str b=>obtain⟨t,rfl⟩:=rx;exact RcAt.none_str b t
  |_=>cases fx
 |bl a =>
  cases ry
  cases x with
  |non=>cases rx;exact RcAt.bool_none a
  |bl b=>cases rx;exact RcAt.bool_bool a b
  |int b=>obtain⟨t,rfl⟩:=rx;exact RcAt.bool_int a b t
  |str b=>obtain⟨t,rfl⟩:=rx;exact RcAt.bool_str a b t
  |_=>cases fx
 |int a =>
  obtain⟨t',rfl⟩:=ry
  cases x with
  |non=>cases rx;exact RcAt.int_none a t'
  |bl b=>cases rx;exact RcAt.int_bool a t' b
  |int b=>obtain⟨t,rfl⟩:=rx;exact RcAt.int_int a t' b t
  |str b=>obtain⟨t,rfl⟩:=rx;exact RcAt.int_str a t' b t
  |_=>cases fx
 |str a =>
  obtain⟨t',rfl⟩:=ry
  cases x with
  |non=>cases rx;exact RcAt.str_none a t'
  |bl b=>cases rx;exact RcAt.str_bool a t' b
  |int b=>obtain⟨t,rfl⟩:=rx;exact RcAt.str_int a t' b t
  |str b=>obtain⟨t,rfl⟩:=rx;exact RcAt.str_str a t' b t
  |_=>cases fx
 |_=>cases fy
open SeqAt in
theorem afq(ry:RelV y u)(rx:RelV x v)(fy:a0g y=true)(fx:a0g x=true):RcNeAt A s u v (!eqV y x):=by
 cases y with
 |non =>
  cases ry
  cases x with
  |non=>cases rx;exact RcNeAt.none_none
  |bl b=>cases rx;exact RcNeAt.none_bool b
  |int b=>obtain⟨t,rfl⟩:=rx;exact RcNeAt.none_int b t
  |str b=>obtain⟨t,rfl⟩:=rx;exact RcNeAt.none_str b t
  |_=>cases fx
 |bl a =>
  cases ry
  cases x with
  |non=>cases rx;exact RcNeAt.bool_none a
  |bl b=>cases rx;exact RcNeAt.bool_bool a b
  |int b=>obtain⟨t,rfl⟩:=rx;exact RcNeAt.bool_int a b t
  |str b=>obtain⟨t,rfl⟩:=rx;exact RcNeAt.bool_str a b t
  |_=>cases fx
 |int a =>
  obtain⟨t',rfl⟩:=ry
  cases x with
  |non=>cases rx;exact RcNeAt.int_none a t'
  |bl b=>cases rx;exact RcNeAt.int_bool a t' b
  |int b=>obtain⟨t,rfl⟩:=rx;exact RcNeAt.int_int a t' b t
  |str b=>obtain⟨t,rfl⟩:=rx;exact RcNeAt.int_str a t' b t
  |_=>cases fx
 |str a =>
  obtain⟨t',rfl⟩:=ry
  cases x with
  |non=>cases rx;exact RcNeAt.str_none a t'
  |bl b=>cases rx;exact RcNeAt.str_bool a t' b
  |int b=>obtain⟨t,rfl⟩:=rx;exact RcNeAt.str_int a t' b t
  |str b=>obtain⟨t,rfl⟩:=rx;exact RcNeAt.str_str a t' b t
  |_=>cases fx
 |_=>cases fy
open SeqAt in
theorem tops{s:Shared}{A:Around}(hok:HOk P w H s.heap)(r:Rep K ι H x d)(q:Rep K ι H y e)(rx:RelV x u)(ry:RelV y v)(p1:pur 60 d=true)(p2:pur 60 e=true)(hu:A.units+64<cLine) :
  RcAt A s u v (eqD d e)/\RcNeAt A s u v (!eqD d e):=by
 rcases xq r p1 with⟨xs,rfl⟩|⟨f1,f2⟩
 ·cases r with
  |@tup a vs _ ha rs =>
   cases rx
   obtain⟨_,its,r1,t1⟩:=(Rd.of ha).ok hok
   rcases xq q p2 with⟨ys,rfl⟩|⟨g1,g2⟩
   ·cases q with
    |@tup b us _ hb qs =>
     cases ry
     obtain⟨_,its2,r2,t2⟩:=(Rd.of hb).ok hok;have l1:its.toArray.size=xs.length:=by rw[ae,<-r1.length,rs.len]
     have l2:its2.toArray.size=ys.length:=by rw[ae,<-r2.length,qs.len]
     have step:∀j (h1:j<its.toArray.size) (h2:j<its2.toArray.size),EqAt A.in1 s its.toArray[j] its2.toArray[j] (pairE xs ys j):=λj h1 h2=>by
      have j1:j<xs.length:=by omega
      have j2:j<ys.length:=by omega
      obtain⟨v1,e1,q1⟩:=rs.get (a6 j1);obtain⟨v2,e2,q2⟩:=qs.get (a6 j2);obtain⟨u1,e3,q3⟩:=r1.get e1;obtain⟨u2,e4,q4⟩:=r2.get e2;have f1:its.toArray[j]=u1:=by simpa using (a7.mp e3).2
      have f2:its2.toArray[j]=u2:=by simpa using (a7.mp e4).2
      have pe:pairE xs ys j=eqD xs[j] ys[j]:=by simp[pairE,a6 j1,a6 j2]
      rw[f1,f2,pe];simp only[pur,aO]at p1 p2;exact ahl hok 59 A.in1 q1 q2 q3 q4 (p1 _ (aU j1)) (p2 _ (aU j2)) (by rw[cv];omega)
     have c1:=RcAt.tuples (A:=A) (s:=s) (e:=pairE xs ys) t1 t2 (by omega) step
     have c2:=RcNeAt.tuples (A:=A) (s:=s) (e:=pairE xs ys) t1 t2 (by omega) step
     rw[l1,l2,a1b]at c1 c2;exact⟨c1,c2⟩
   ·have e0:eqD (.tup xs) e=false:=by cases e<;>first|rfl|(cases g2;done)
    rw[e0]
    cases y with
    |non=>cases ry;exact⟨RcAt.tuple_none t1 (by omega),RcNeAt.tuple_none t1 (by omega)⟩
    |bl b=>cases ry;exact⟨RcAt.tuple_bool b t1 (by omega),RcNeAt.tuple_bool b t1 (by omega)⟩
    |int b=>obtain⟨t,rfl⟩:=ry;exact⟨RcAt.tuple_int b t t1 (by omega),RcNeAt.tuple_int b t t1 (by omega)⟩
    |str b=>obtain⟨t,rfl⟩:=ry;exact⟨RcAt.tuple_str b t t1 (by omega),RcNeAt.tuple_str b t t1 (by omega)⟩
    |_=>cases g1
 ·rcases xq q p2 with⟨ys,rfl⟩|⟨g1,g2⟩
  ·cases q with
   |@tup b us _ hb qs =>
    cases ry
    obtain⟨_,its2,r2,t2⟩:=(Rd.of hb).ok hok;have e0:eqD d (.tup ys)=false:=by cases d<;>first|rfl|(cases f2;done)
    rw[e0]
    cases x with
    |non=>cases rx;exact⟨RcAt.none_tuple t2 (by omega),RcNeAt.none_tuple t2 (by omega)⟩
    |bl b=>cases rx;exact⟨RcAt.bool_tuple b t2 (by omega),RcNeAt.bool_tuple b t2 (by omega)⟩
    |int b=>obtain⟨t,rfl⟩:=rx;exact⟨RcAt.int_tuple b t t2 (by omega),RcNeAt.int_tuple b t t2 (by omega)⟩
    |str b=>obtain⟨t,rfl⟩:=rx;exact⟨RcAt.str_tuple b t t2 (by omega),RcNeAt.str_tuple b t t2 (by omega)⟩
    |_=>cases f1
  ·rw[<-a5z r q f2 g2];exact⟨anj rx ry f1 g1,afq rx ry f1 g1⟩
def asd(K:Fg):R2:=λx y H Q=>∃ι d e,Rep K ι H x d/\Rep K ι H y e/\pur 60 d=true/\pur 60 e=true/\Q (.bl (eqD d e)) H
def ase(K:Fg):R2:=λx y H Q=>∃ι d e,Rep K ι H x d/\Rep K ι H y e/\pur 60 d=true/\pur 60 e=true/\Q (.bl (!eqD d e)) H
theorem a9e{X:Cx}(hu:X.A.units+64<cLine):OpR X (compareOp .Eq) (asd X.K):=by
 intro aA s σ H x y v u Q I rx ry h
 obtain⟨ι,d,e,r,q,p1,p2,hq⟩:=h;exact(tops (A:=X.A) I.hok r q rx ry p1 p2 hu).1 X.prog X.w X.xe _ ⟨.bl _,H,I,rfl,hq⟩
theorem a7e{X:Cx}(hu:X.A.units+64<cLine):OpR X (compareOp .NotEq) (ase X.K):=by
 intro aA s σ H x y v u Q I rx ry h
 obtain⟨ι,d,e,r,q,p1,p2,hq⟩:=h;exact(tops (A:=X.A) I.hok r q rx ry p1 p2 hu).2 X.prog X.w X.xe _ ⟨.bl _,H,I,rfl,hq⟩
def hEq(x y:D)(h:Hd):R D:=if pur 60 x=true/\pur 60 y=true then .ok (.bl (eqD x y)) h else .no
def hNe(x y:D)(h:Hd):R D:=if pur 60 x=true/\pur 60 y=true then .ok (.bl (!eqD x y)) h else .no
theorem a65:a00 K hEq (asd K):=by
 intro E ι H h x y dx dy Q rx ry hr o
 unfold hEq at o
 split at o
 ·rename_i hc;exact⟨ι,dx,dy,rx,ry,hc.1,hc.2,ans o (.bl _) hr⟩
 ·exact o.elim
theorem a3i:a00 K hNe (ase K):=by
 intro E ι H h x y dx dy Q rx ry hr o
 unfold hNe at o
 split at o
 ·rename_i hc;exact⟨ι,dx,dy,rx,ry,hc.1,hc.2,ans o (.bl _) hr⟩
 ·exact o.elim
end
section
variable{X:Cx}{E:XD}{K:Fg}
def aco:SE:=λ_ h=>.ok (.ref h.length) (h++[.dK []])
theorem acp:ME X E (.Dict [] [] pos) aco:=by
 refine PE.weak af8 λσ H Q ⟨ι,τ,h,S,Rh,o⟩=>λp hp=>?_;exact o (ι++[p]) _ _ (a8z hp _) (.ref (by rw[av (by rw[Rh.len];exact ag _),Rh.len];simp)) (Rh.add hp ⟨[],p6,rfl,.nil⟩)
def a0l:D->D->Hd->R D
 |.int i,.int j,h=>.ok (.int (i+j)) h
 |.str x,.str y,h=>if x.length+y.length<=LINE then .ok (.str (x++y)) h else .no
 |_,_,_=>.no
theorem a2h:a00 K a0l (λx y H Q=>rI0 (λi j=>.int (i+j)) x y H Q\/∃i j,x=.str i/\y=.str j/\i.length+j.length<=sizeLine/\Q (.str (i++j)) H):=by
 intro E ι H h x y dx dy Q rx ry hr o
 cases rx with
 |int i =>
  cases ry with
  |int j=>exact .inl ⟨i,j,rfl,rfl,ans o (.int _) hr⟩
  |_=>exact o.elim
 |str i =>
  cases ry with
  |str j =>
   by_cases hc:i.length+j.length<=LINE
   ·simp only[a0l,aI hc]at o;exact .inr ⟨i,j,rfl,rfl,ll hc,ans o (.str _) hr⟩
   ·simp only[a0l,b9 hc]at o;exact o.elim
  |_=>exact o.elim
 |_=>exact o.elim
theorem ank:bootBuiltins "max" = some (.builtin "max"):=by first|exact PySem.boot_max|exact PyProof.Rows.boot_max
theorem anl:bootBuiltins "min" = some (.builtin "min"):=by first|exact PySem.boot_min|exact PyProof.Rows.boot_min
theorem acq:bootBuiltins "bool" = some (.type "bool"):=by first|exact PySem.boot_bool|exact PyProof.Rows.boot_bool
theorem anm:bootBuiltins "sum" = some (.builtin "sum"):=by first|exact PySem.boot_sum|exact PyProof.Rows.boot_sum
theorem lw(h1:MG X E e g)(h2:MGs X E es ks)(hs:(assignEach (e::es) X.env).map (·.2)=assign e X.env::(assignEach es X.env).map (·.2):=by rfl):MGs X E (e::es) (jo g ks) :=
 PGs.weak (a5c h1 h2 hs) λvs σ H Q q=>afg q
end
end MI
namespace ZP
open PySem.Builtin PySem.Builtin.SmallTypes
section
variable{prog:Program}{w:World}{A:Around}{E:Value->Shared->Prop}{s:Shared}
theorem ajt{α:Type}{Q:α->Shared->Prop}(hh:A.handled=none)(q:∀h' e,(∀b o,s.heap.get? b=some o->h'.get? b=some o)->(∃o,h'.get? e=some o/\o.cls=.type "StopIteration")->E (.ref e) {s with heap:=h' }) :
  wpAny (model prog w) A (stopIteration:Sem α) Q E s:=by
 have none_first:firstArgMember (.type "StopIteration") []=pure Value.none:=by first|rfl|(simp only[firstArgMember];rfl)
 rw[stopIteration]
 apply a9
 rw[newExc,newTuple]
 apply a9
 apply cc _ (by size_fits)
 rw[none_first,pure_bind]
 apply cc _ (by size_fits)
 apply wpAny_raiseNew_none hh
 exact q _ _ (λb o z=>a8 _ (a8 _ z)) ⟨_,aN _ rfl,rfl⟩
theorem afr(hi:s.heap.IsTupleIter it t i)(ht:s.heap.IsTuple t aC)(hx:aC[i]? = some x)
  (q:∀h',h'.IsTupleIter it t (i+1)->Heap.SameBut it s.heap h'->Q x {s with heap:=h' }):wpAny (model prog w) A (nextOf (.ref it)) Q E s:=by
 have ty:=hi.typeIs;obtain⟨o,e1,e2,e3⟩:=id hi;obtain⟨p,f1,f2,n,f3⟩:=ht;rw[nextOf]
 apply a9
 apply bJ (name:=Str.ofString "__next__") ty cp
 apply cq cp ty dM _ (dE _)
 change wpAny (model prog w) A.in1 (field (.ref it) 0>>=_) _ _ _
 apply a9;apply bS e1 e3 (x:=.ref t) rfl
 change wpAny (model prog w) A.in1 (field (.ref it) 1>>=_) _ _ _
 apply a9;apply bS e1 e3 (x:=.int i 0) rfl
 change wpAny (model prog w) A.in1 (seqItems? (.ref t)>>=_) _ _ _
 apply a9;apply cE f1 f3
 dsimp only;rw[cW,hx]
 apply a9
 obtain⟨c,dd,dt,sl⟩:=o;simp only at e2 e3;subst e2 e3
 apply wpAny_setField e1 rfl (Nat.lt_succ_self 1)
 apply aJ
 exact⟨x,rfl,aJ (q _ ⟨_,Heap.get?_update_self _ e1 rfl,rfl,rfl⟩ (Heap.SameBut.update ..))⟩
theorem aju{it t:Addr}{i:Nat}{aC:Array Value}{Q:Value->Shared->Prop}(hh:A.handled=none)(hi:s.heap.IsTupleIter it t i)(ht:s.heap.IsTuple t aC)(hx:aC[i]? = none)
  (q:∀h' e,Heap.ExtBut it s.heap h'->(∃o,h'.get? e=some o/\o.cls=.type "StopIteration")->E (.ref e) {s with heap:=h' }):wpAny (model prog w) A (nextOf (.ref it)) Q E s:=by
 have ty:=hi.typeIs;obtain⟨o,e1,e2,e3⟩:=id hi;obtain⟨p,f1,f2,n,f3⟩:=ht;rw[nextOf]
 apply a9
 apply bJ (name:=Str.ofString "__next__") ty cp
 apply cq cp ty dM _ (dE _)
 change wpAny (model prog w) A.in1 (field (.ref it) 0>>=_) _ _ _
 apply a9;apply bS e1 e3 (x:=.ref t) rfl
 change wpAny (model prog w) A.in1 (field (.ref it) 1>>=_) _ _ _
 apply a9;apply bS e1 e3 (x:=.int i 0) rfl
 change wpAny (model prog w) A.in1 (seqItems? (.ref t)>>=_) _ _ _
 apply a9;apply cE f1 f3
 dsimp only;rw[cW,hx];dsimp only;obtain⟨c,dd,dt,sl⟩:=o;simp only at e2 e3;subst e2 e3
 apply a9;apply wpAny_rule
 apply a9;apply wpAny_setField e1 rfl (dv 1)
 apply ajt (show A.in1.handled=none from hh)
 exact λh' e k z=>q h' e (λb o nb eb=>k b o ((Heap.SameBut.update ..).extBut b o nb eb)) z
theorem acr{A:Around}(hh:A.handled=none)(it t:Addr)(ne:t≠it)(aC:Array Value):Draws prog w A it [it,t] aC.size (λi v=>aC[i]? = some v) (λi h=>h.IsTupleIter it t i/\h.IsTuple t aC) where
 live:=λ_ _ st=>let ⟨o,e,_⟩:=st.1; ⟨o,e⟩
 frame:=λ_ _ _ st k=>⟨let ⟨o,e,r⟩:=st.1; ⟨o,k it (by simp) o e,r⟩,let ⟨o,e,r⟩:=st.2; ⟨o,k t (by simp) o e,r⟩⟩
 item:=λi s Q E hi st q=>afr st.1 st.2 (eh hi) λh' a b=>q _ h' s.toks (eh hi) ⟨a,st.2.extBut b.extBut ne⟩ b
 done:=λs Q E st q=>aju hh st.1 st.2 (by simp) q
end
structure Ap (z TI TO i1 i2:Addr) (p q:List Addr):Prop where
 m1:i1∈p
 m2:i2∈q
 z1:z∉p
 z2:z∉q
 o1:TO∉p
 o2:TO∉q
 oz:TO≠z
 x1:i1∉q
 x2:i2∉p
section
variable{prog:Program}{w:World}{A:Around}{E:Value->Shared->Prop}{s:Shared}{z TI TO i1 i2:Addr}{p q:List Addr}{n1 n2 k:Nat}{P1 P2:Nat->Value->Prop}{S1 S2:Nat->Heap->Prop}{a b:Value}
theorem far{D:Draws prog w A i1 p n1 P1 S1}(sb:Heap.SameBut c h h')(nc:c∉p)(st:S1 k h):S1 k h':=D.frame _ _ _ st λx hx o e=>sb.extBut x o (λy=>nc (y ▸ hx)) e
theorem acs(hz:IsZip s.heap z TI TO .none)(hi:IsPair s.heap TI (.ref i1) (.ref i2))(ho:IsPair s.heap TO a b)(oz:TO≠z)
  (go:∀h1,IsZip h1 z TI TO .ellipsis->Heap.SameBut z s.heap h1->wpAny (model prog w) A (nextOf (.ref i1))
   (λx s2=>IsPair s2.heap TO a b/\∀h3,IsPair h3 TO x b->Heap.SameBut TO s2.heap h3->wpAny (model prog w) A (nextOf (.ref i2))
    (λy s4=>IsPair s4.heap TO x b/\∀h5,IsPair h5 TO x y->Heap.SameBut TO s4.heap h5->IsZip h5 z TI TO .ellipsis/\∀h8,IsZip h8 z TI TO (rawInt h5.objs.size)->IsPair h8 h5.objs.size x y->h8.objs.size=h5.objs.size+1->
     (∀c o,c≠z->h5.get? c=some o->h8.get? c=some o)->Q (.done (.ret (.ref h5.objs.size))) {s4 with heap:=h8})
    (λe s4=>wpAny (model prog w) A (setField (.ref z) 0 .none) (λ_ s5=>E e s5) E s4) {s2 with heap:=h3})
   (λe s2=>wpAny (model prog w) A (setField (.ref z) 0 .none) (λ_ s3=>E e s3) E s2) {s with heap:=h1}) :
  wpAny (model prog w) A (Builtin.«zip.__next__» ⟨[.ref z],[]⟩) Q E s:=by
 change wpAny (model prog w) A (field (.ref z) 2>>=_) _ _ _
 apply a9;apply bS hz rfl (x:=.bool false) rfl
 change wpAny (model prog w) A (field (.ref z) 3>>=_) _ _ _
 apply a9;apply bS hz rfl (x:=.ref TI) rfl
 apply a9;apply cE hi rfl
 change wpAny (model prog w) A (ownedTupleIsFree (.ref z)>>=_) _ _ _
 apply a9
 rw[ownedTupleIsFree]
 apply a9;apply bS hz rfl (x:=.none) rfl
 apply aJ
 rw[aI rfl]
 apply a9;apply wpAny_rule
 apply a9;apply bS hz rfl (x:=.ref TO) rfl
 apply a9;apply cR hz (dv _)
 intro h1 z1 b1
 apply a9
 simp only[List.zipIdx_cons,List.zipIdx_nil,List.forIn_cons,List.forIn_nil]
 apply a9;apply a9;apply wpAny_onRaise
 change wpAny (model prog w) A (nextOf (.ref i1)>>=_) _ _ _
 apply a9
 apply cG (go h1 z1 b1) _ λ_ _ r=>r
 rintro x s2 ⟨o2,g2⟩
 apply aJ
 apply a9;apply cE o2 rfl
 apply a9;apply wpAny_updateSeq_pair o2
 intro h3 o3 b3
 apply a9;apply wpAny_letGo;apply aJ
 apply a9;apply a9;apply wpAny_onRaise
 change wpAny (model prog w) A (nextOf (.ref i2)>>=_) _ _ _
 apply a9
 apply cG (g2 h3 o3 b3) _ λ_ _ r=>r
 rintro y s4 ⟨o4,g4⟩
 apply aJ
 apply a9;apply cE o4 rfl
 apply a9;apply wpAny_updateSeq_pair o4
 intro h5 o5 b5
 obtain⟨z5,g5⟩:=g4 h5 o5 b5
 apply a9;apply wpAny_letGo;apply aJ;apply aJ
 apply a9;apply cE o5 rfl
 apply a9;refine wpAny_newTuple ?_ (by show 2<=sizeLine;decide)
 change wpAny (model prog w) A (ownedTupleHandOut (.ref z) (.ref h5.objs.size)>>=_) _ _ _
 apply a9
 rw[ownedTupleHandOut];have z6:IsZip (h5.push {cls:=.type "tuple",data:=.seq #[x,y]}) z TI TO .ellipsis:=a8 _ z5;have lt:z<h5.objs.size:=aL z5
 apply a9;apply cR z6 (dv _)
 intro h7 z7 b7
 apply cR z7 (by show 1<5;decide)
 intro h8 z8 b8
 apply aJ
 refine g5 h8 z8 (b8.extBut _ _ (Nat.ne_of_gt lt) (b7.extBut _ _ (Nat.ne_of_gt lt) (aN _ rfl))) ?_ λc o nc e=>b8.extBut _ _ nc (b7.extBut _ _ nc (a8 _ e));rw[b8.1,b7.1,bO]
theorem afs{Q:Value->Shared->Prop}(D1:Draws prog w A i1 p n1 P1 S1)(D2:Draws prog w A i2 q n2 P2 S2)(ap:Ap z TI TO i1 i2 p q)(hz:IsZip s.heap z TI TO .none)(hi:IsPair s.heap TI (.ref i1) (.ref i2))(ho:IsPair s.heap TO a b)
  (s1:S1 k s.heap) (s2:S2 k s.heap) (k1:k<n1) (k2:k<n2)
  (hQ:∀x y h' tk,P1 k x->P2 k y->IsZip h' z TI TO (rawInt s.heap.objs.size)->IsPair h' TO x y->S1 (k+1) h'->S2 (k+1) h'->IsPair h' s.heap.objs.size x y->h'.objs.size=s.heap.objs.size+1->
   (∀c o,c≠z->c≠TO->c≠i1->c≠i2->s.heap.get? c=some o->h'.get? c=some o)->Q (.ref s.heap.objs.size) {s with heap:=h',toks:=tk}) :
  wpAny (model prog w) A (Builtin.«zip.__next__» ⟨[.ref z],[]⟩) (λfin s'=>∃v,fin=.done (.ret v)/\Q v s') E s:=by
 have ni1:i1≠z:=λe=>ap.z1 (e ▸ ap.m1);have ni2:i2≠z:=λe=>ap.z2 (e ▸ ap.m2);have no1:TO≠i1:=λe=>ap.o1 (e ▸ ap.m1);have no2:TO≠i2:=λe=>ap.o2 (e ▸ ap.m2);refine acs hz hi ho ap.oz λh1 z1 b1=>?_;refine D1.item k _ _ _ k1 (far (D:=D1) b1 ap.z1 s1) λx h2 t2 px st2 b2=>?_;refine⟨b2.extBut _ _ no1 (b1.extBut _ _ ap.oz ho),λh3 o3 b3=>?_⟩;refine D2.item k _ _ _ k2 (far (D:=D2) b3 ap.o2 (far (D:=D2) b2 ap.x1 (far (D:=D2) b1 ap.z2 s2))) λy h4 t4 py st4 b4=>?_;refine⟨b4.extBut _ _ no2 o3,λh5 o5 b5=>⟨b5.extBut _ _ ap.oz.symm (b4.extBut _ _ ni2.symm (b3.extBut _ _ ap.oz.symm (b2.extBut _ _ ni1.symm z1))),λh8 z8 t8 l8 k8=>⟨_,rfl,?_⟩⟩⟩
 have sz:h5.objs.size=s.heap.objs.size:=by rw[b5.1,b4.1,b3.1,b2.1,b1.1]
 have g1:S1 (k+1) h8:=D1.frame _ _ _ (far (D:=D1) b5 ap.o1 (far (D:=D1) b4 ap.x2 (far (D:=D1) b3 ap.o1 st2))) λc hc o e=>k8 c o (λy=>ap.z1 (y ▸ hc)) e;have g2:S2 (k+1) h8:=D2.frame _ _ _ (far (D:=D2) b5 ap.o2 st4) λc hc o e=>k8 c o (λy=>ap.z2 (y ▸ hc)) e;rw[sz]at z8 t8 l8 ⊢;exact hQ x y h8 t4 px py z8 (k8 _ _ ap.oz o5) g1 g2 t8 l8 λc o c1 c2 c3 c4 e=>k8 c o c1 (b5.extBut _ _ c2 (b4.extBut _ _ c4 (b3.extBut _ _ c2 (b2.extBut _ _ c3 (b1.extBut _ _ c1 e)))))
theorem ajv(D1:Draws prog w A i1 p n1 P1 S1)(D2:Draws prog w A i2 q n2 P2 S2)(ap:Ap z TI TO i1 i2 p q)(hz:IsZip s.heap z TI TO .none)(hi:IsPair s.heap TI (.ref i1) (.ref i2))(ho:IsPair s.heap TO a b)
  (s1:S1 k s.heap) (s2:S2 k s.heap) (kk:k=n1\/(k<n1/\k=n2))
  (hE:∀h' tk e,(∀c o,c≠z->c≠TO->c≠i1->c≠i2->s.heap.get? c=some o->h'.get? c=some o)->(∃o,h'.get? e=some o/\o.cls=.type "StopIteration")->E (.ref e) {s with heap:=h',toks:=tk}) :
  wpAny (model prog w) A (Builtin.«zip.__next__» ⟨[.ref z],[]⟩) Q E s:=by
 have ni1:i1≠z:=λe=>ap.z1 (e ▸ ap.m1);have ni2:i2≠z:=λe=>ap.z2 (e ▸ ap.m2);have no1:TO≠i1:=λe=>ap.o1 (e ▸ ap.m1);have stop:∀{h:Heap} {e:Addr},(∃o,h.get? e=some o/\o.cls=.type "StopIteration")->IsZip h z TI TO .ellipsis->e≠z:=λ{h e} ⟨o,eo,ec⟩ zz y=>by
  subst y;rw[zz]at eo;cases eo;simp at ec
 refine acs hz hi ho ap.oz λh1 z1 b1=>?_
 rcases kk with rfl|⟨k1,rfl⟩
 ·refine D1.done _ _ _ (far (D:=D1) b1 ap.z1 s1) λh2 e x2 st=>?_;have z2:IsZip h2 z TI TO .ellipsis:=x2 _ _ ni1.symm z1;have ne:=stop st z2;obtain⟨oe,f1,f2⟩:=st;refine cR z2 (dv _) λh3 _ b3=>?_;exact hE h3 _ e (λc o c1 _ c3 _ y=>b3.extBut _ _ c1 (x2 _ _ c3 (b1.extBut _ _ c1 y))) ⟨oe,b3.extBut _ _ ne f1,f2⟩
 ·refine D1.item k _ _ _ k1 (far (D:=D1) b1 ap.z1 s1) λx h2 t2 px st2 b2=>?_;refine⟨b2.extBut _ _ no1 (b1.extBut _ _ ap.oz ho),λh3 o3 b3=>?_⟩;refine D2.done _ _ _ (far (D:=D2) b3 ap.o2 (far (D:=D2) b2 ap.x1 (far (D:=D2) b1 ap.z2 s2))) λh4 e x4 st=>?_;have z4:IsZip h4 z TI TO .ellipsis:=x4 _ _ ni2.symm (b3.extBut _ _ ap.oz.symm (b2.extBut _ _ ni1.symm z1));have ne:=stop st z4;obtain⟨oe,f1,f2⟩:=st;refine cR z4 (dv _) λh5 _ b5=>?_;exact hE h5 _ e (λc o c1 c2 c3 c4 y=>b5.extBut _ _ c1 (x4 _ _ c4 (b3.extBut _ _ c2 (b2.extBut _ _ c3 (b1.extBut _ _ c1 y))))) ⟨oe,b5.extBut _ _ ne f1,f2⟩
theorem next_item{Q:Option Value->Shared->Prop}(D1:Draws prog w A.in1 i1 p n1 P1 S1)(D2:Draws prog w A.in1 i2 q n2 P2 S2)(ap:Ap z TI TO i1 i2 p q)(hz:IsZip s.heap z TI TO .none)(hi:IsPair s.heap TI (.ref i1) (.ref i2))(ho:IsPair s.heap TO a b)
  (s1:S1 k s.heap) (s2:S2 k s.heap) (k1:k<n1) (k2:k<n2)
  (hQ:∀x y h' tk,P1 k x->P2 k y->IsZip h' z TI TO (rawInt s.heap.objs.size)->IsPair h' TO x y->S1 (k+1) h'->S2 (k+1) h'->IsPair h' s.heap.objs.size x y->h'.objs.size=s.heap.objs.size+1->
   (∀c o,c≠z->c≠TO->c≠i1->c≠i2->s.heap.get? c=some o->h'.get? c=some o)->Q (some (.ref s.heap.objs.size)) {s with heap:=h',toks:=tk}):wpAny (model prog w) A (pyNext (.ref z)) Q E s:=by
 have ty:s.TypeIs (.ref z) "zip":=⟨_,hz,rfl⟩;rw[pyNext]
 apply a9;apply wpAny_attempt
 apply bJ (name:=Str.ofString "__next__") ty dN
 apply cq dN ty F.entry_zip_next _ (F.args_zip_next_1 _)
 exact afs D1 D2 ap hz hi ho s1 s2 k1 k2 λx y h' tk c1 c2 c3 c4 c5 c6 c7 c8 c9=>aJ (hQ x y h' tk c1 c2 c3 c4 c5 c6 c7 c8 c9)
theorem next_end(D1:Draws prog w A.in1 i1 p n1 P1 S1)(D2:Draws prog w A.in1 i2 q n2 P2 S2)(ap:Ap z TI TO i1 i2 p q)(hz:IsZip s.heap z TI TO .none)(hi:IsPair s.heap TI (.ref i1) (.ref i2))(ho:IsPair s.heap TO a b)
  (s1:S1 k s.heap) (s2:S2 k s.heap) (kk:k=n1\/(k<n1/\k=n2))
  (hQ:∀h' tk,(∀c o,c≠z->c≠TO->c≠i1->c≠i2->s.heap.get? c=some o->h'.get? c=some o)->Q none {s with heap:=h',toks:=tk}):wpAny (model prog w) A (pyNext (.ref z)) Q E s:=by
 have ty:s.TypeIs (.ref z) "zip":=⟨_,hz,rfl⟩;rw[pyNext]
 apply a9;apply wpAny_attempt
 apply bJ (name:=Str.ofString "__next__") ty dN
 apply cq dN ty F.entry_zip_next _ (F.args_zip_next_1 _)
 refine ajv D1 D2 ap hz hi ho s1 s2 kk ?_
 rintro h' tk e kp ⟨o,f1,f2⟩
 refine a9 (wpAny_isInstance (b:=true) (T := "StopIteration") ⟨o,f1,f2⟩ isSubtype_stop (aJ (hQ h' tk kp)))
end
end ZP
namespace ZP
open PySem.Builtin PySem.Builtin.SmallTypes L2
inductive Srk where
 |tup (a:Addr)|lst (a:Addr)|str (x:Str)
def Srk.v:Srk->V
 |.tup a=>.ref a
 |.lst a=>.ref a
 |.str x=>.str x
def its(H:Hp):Srk->Option (List V)
 |.tup a=>match H a with|some (.tup vs)=>some vs|_=>none
 |.lst a=>match H a with|some (.lst vs)=>some vs|some (.frz _ (.lst vs))=>some vs|_=>none
 |.str x=>some (ur x)
def own(it:Addr)(t:Tok):Srk->Nat->Heap->Prop
 |.tup a,i,h=>h.IsTupleIter it a i
 |.lst a,i,h=>h.IsListIter it a i
 |.str x,i,h=>h.IsStrIter it (strIterType x) x t i
def iob(t:Tok):Srk->Obj
 |.tup a=>{cls:=.type "tuple_iterator",data:=.fields #[.ref a,.int 0 0]}
 |.lst a=>{cls:=.type "list_iterator",data:=.fields #[.ref a,.int 0 0]}
 |.str x=>{cls:=.type (strIterType x),data:=.fields #[.str x t,.int 0 0]}
def val(t:Tok):Srk->Value
 |.tup a=>.ref a
 |.lst a=>.ref a
 |.str x=>.str x t
def cont(h:Heap):Srk->List Value->Prop
 |.tup a,us=>h.IsTuple a us.toArray
 |.lst a,us=>h.IsList a us.toArray
 |.str x,us=>True
theorem arb{h:Heap}(e:h.get? it=some (iob t k)):own it t k 0 h:=by
 cases k with
 |tup a=>exact⟨_,e,rfl,rfl⟩
 |lst a=>exact⟨_,e,rfl,rfl⟩
 |str x=>exact⟨_,e,rfl,rfl⟩
theorem a1m(o:own it t k i h):∃ob,h.get? it=some ob/\∀v,ob.data≠.cell v:=by
 cases k with
 |tup a=>obtain⟨ob,e,_,d⟩:=o;exact⟨ob,e,λv z=>by rw[d]at z;cases z⟩
 |lst a=>obtain⟨ob,e,_,d⟩:=o;exact⟨ob,e,λv z=>by rw[d]at z;cases z⟩
 |str x=>obtain⟨ob,e,_,d⟩:=o;exact⟨ob,e,λv z=>by rw[d]at z;cases z⟩
theorem a01{h':Heap}(o:own it t k i h)(kk:∀ob,h.get? it=some ob->h'.get? it=some ob):own it t k i h':=by
 cases k with
 |tup a=>obtain⟨ob,e,r⟩:=o;exact⟨ob,kk _ e,r⟩
 |lst a=>obtain⟨ob,e,r⟩:=o;exact⟨ob,kk _ e,r⟩
 |str x=>obtain⟨ob,e,r⟩:=o;exact⟨ob,kk _ e,r⟩
section
variable{P:Program}{w:World}{H:Hp}{s:Shared}
theorem a3j(I:Inv X aA σ H s)(e:its H k=some xs):∃us,cont s.heap k us/\((∀x,k≠.str x)->Vals xs us):=by
 cases k with
 |tup a =>
  cases q:H a with
  |none=>simp[its,q]at e
  |some o =>
   cases o with
   |tup vs =>
    simp[its,q]at e;subst e
    obtain⟨us,r,t,_⟩:=I.tuple (SqT.of q);exact⟨us,t,λ_=>r⟩
   |_=>simp[its,q]at e
 |lst a =>
  cases q:H a with
  |none=>simp[its,q]at e
  |some o =>
   cases o with
   |lst vs =>
    simp[its,q]at e;subst e
    obtain⟨us,r,t,_⟩:=I.list (SqL.of q);exact⟨us,t.isList,λ_=>r⟩
   |frz ob u =>
    cases u with
    |lst vs =>
     simp[its,q]at e;subst e
     obtain⟨us,r,t,_⟩:=I.list (.inl (.inr ⟨_,q⟩));exact⟨us,t.isList,λ_=>r⟩
    |_=>simp[its,q]at e
   |_=>simp[its,q]at e
 |str x=>exact⟨[],True.intro,λn=>absurd rfl (n x)⟩
theorem a1n(I:Inv X aA σ H s)(e:its H k=some xs)(hn:H it=none) :
  ∃(cs:List Addr) (P1:Nat->Value->Prop) (S1:Nat->Heap->Prop),(∀A:Around,A.handled=none->Draws X.prog X.w A it (it::cs) xs.length P1 S1)/\(∀i,own it t k i s.heap->S1 i s.heap)/\(∀i h,S1 i h->own it t k i h)/\(∀c∈cs,H c≠none) /\
   ∀i v,P1 i v->∃x,xs[i]? = some x/\RelV x v:=by
 cases k with
 |tup a =>
  obtain⟨us,c,r⟩:=a3j I e;have r:=r (by intro x z;cases z)
  have ha:H a≠none:=λz=>by simp[its,z]at e
  have l:us.toArray.size=xs.length:=by rw[ae,r.length]
  refine⟨[a],λi v=>us.toArray[i]? = some v,λi h=>h.IsTupleIter it a i/\h.IsTuple a us.toArray,λA hA=>?_,λi o=>⟨o,c⟩,λi h z=>z.1,λc hc=>by rw[aw.mp hc];exact ha,λi v z=>?_⟩
  ·have:=acr (prog:=X.prog) (w:=X.w) hA it a (λy=>ha (y ▸ hn)) us.toArray
   rw[l]at this;exact this
  ·have z':us[i]? = some v:=by simpa using z
   have hi:i<xs.length:=by rw[r.length];exact(a7.mp z').1
   obtain⟨u,e1,e2⟩:=r.get (a6 hi);rw[z']at e1;cases e1
   exact⟨_,a6 hi,e2⟩
 |lst a =>
  obtain⟨us,c,r⟩:=a3j I e;have r:=r (by intro x z;cases z)
  have ha:H a≠none:=λz=>by simp[its,z]at e
  have l:us.toArray.size=xs.length:=by rw[ae,r.length]
  refine⟨[a],λi v=>us.toArray[i]? = some v,λi h=>h.IsListIter it a i/\h.IsList a us.toArray,λA hA=>?_,λi o=>⟨o,c⟩,λi h z=>z.1,λc hc=>by rw[aw.mp hc];exact ha,λi v z=>?_⟩
  ·have:=Draws.list (prog:=X.prog) (w:=X.w) hA it a (λy=>ha (y ▸ hn)) us.toArray
   rw[l]at this;exact this
  ·have z':us[i]? = some v:=by simpa using z
   have hi:i<xs.length:=by rw[r.length];exact(a7.mp z').1
   obtain⟨u,e1,e2⟩:=r.get (a6 hi);rw[z']at e1;cases e1
   exact⟨_,a6 hi,e2⟩
 |str x =>
  cases e
  have l:(ur x).length=x.cps.size:=by simp[ur]
  refine⟨[],λi v=>∃c u,x.cps[i]? = some c/\v=.str ⟨#[c]⟩ u,λi h=>h.IsStrIter it (strIterType x) x t i,λA hA=>?_,λi o=>o,λi h z=>z,λc hc=>(by cases hc),λi v z=>?_⟩
  ·rw[l]
   cases ha:x.cps.all (· < 128)
   ·have:=Draws.strWide (prog:=X.prog) (w:=X.w) hA it x t
    simpa[strIterType,ha] using this
   ·have:=Draws.strAscii (prog:=X.prog) (w:=X.w) hA it x t
    simpa[strIterType,ha] using this
  ·obtain⟨c,u,e1,rfl⟩:=z;exact⟨.str ⟨#[c]⟩,by simp[ur,e1],⟨_,rfl⟩⟩
end
def ItZ(k1 k2:Srk):It where
 go:=λi H=>∃xs ys x y,its H k1=some xs/\its H k2=some ys/\xs[i]? = some x/\ys[i]? = some y
 yld:=λi H v H'=>∃xs ys x y p,its H k1=some xs/\its H k2=some ys/\xs[i]? = some x/\ys[i]? = some y/\H p=none/\v=.ref p/\H'=upd H p (.tup [x,y])
 stop:=λi H=>∃xs ys,its H k1=some xs/\its H k2=some ys/\(i=xs.length\/(i<xs.length/\i=ys.length))
def tnZ(z TI TO i1 i2:Addr)(t1 t2:Tok)(k1 k2:Srk)(i:Nat)(h:Heap):Prop :=
 IsZip h z TI TO .none/\IsPair h TI (.ref i1) (.ref i2)/\(∃a b,IsPair h TO a b)/\own i1 t1 k1 i h/\own i2 t2 k2 i h
structure Far (z TI TO i1 i2:Addr):Prop where
 a:TI≠z
 b:TO≠z
 c:i1≠z
 d:i2≠z
 e:TI≠TO
 f:TI≠i1
 g:TI≠i2
 h:TO≠i1
 i:TO≠i2
 j:i1≠i2
theorem a66{X:Cx}{aA:List (Addr×Obj)}{σ:St}{H:Hp}{s:Shared}{h':Heap}{t':Nat}{ch:List Addr}(I:Inv X aA σ H s)(hf:∀b∈ch,a6u X aA H b)(k:∀b o,b∉ch->s.heap.get? b=some o->h'.get? b=some o) :
  Inv X aA σ H {s with heap:=h',toks:=t' }:=by
 have nit:∀b u,H b=some u->b∉ch:=λb u e z=>by rw[(hf b z).1]at e;cases e
 refine I.step (g':=s.gens) (d':=s.drawn) (ch:=ch) (λb hb=>?_) (λb o _ _ hc e _=>k b o hc e) (λb o _ _ hc e _=>⟨o.slots,k b o hc e⟩) (λ_ _ _ _ n=>n) (λb o hc e=>⟨o,k b o hc e⟩) (λ_ _ e=>e) (λ_ _ _ e=>e)
  (λb ps e=>⟨#[],by rw[e];simp⟩) (λm hm=>?_) (λb u e=>?_) I.bare
 ·obtain⟨_,f1,_,f3,f4,f5⟩:=hf b hb;exact⟨f3,f1,f4,f5⟩
 ·obtain⟨o,es,ep,ho,r⟩:=hm;exact⟨o,es,ep,k _ o (λz=>(hf _ z).2.1 rfl) ho,r⟩
 ·refine(I.hok b u e).stay (λc v hc q=>k c v ?_ q) (λ_ q=>q) λ_ _ q=>q
  rcases hc with z|z
  ·rw[z];exact nit b u e
  ·exact nit c _ z
theorem aft{P:Program}{w:World}{K:Fg}{elts:List Expr}{x1:Nat}{pos:Pos}{z TI TO i1 i2:Addr}{t1 t2:Tok}{k1 k2:Srk}(f:Far z TI TO i1 i2):Turn P w K (.Tuple elts x1 pos) (ItZ k1 k2) [z,TI,TO,i1,i2] z (tnZ z TI TO i1 i2 t1 t2 k1 k2) where
 mem:=by simp
 obj:=λi h st b hb=>by
  obtain⟨h1,h2,⟨a,b',h3⟩,h4,h5⟩:=st;simp only[ar,aM,bC]at hb
  rcases hb with rfl|rfl|rfl|rfl|rfl
  ·exact⟨_,h1,λv z=>(by cases z)⟩
  ·exact⟨_,h2,λv z=>(by cases z)⟩
  ·exact⟨_,h3,λv z=>(by cases z)⟩
  ·exact a1m h4
  ·exact a1m h5
 keep:=λi h h' st k=>by
  obtain⟨h1,h2,⟨a,b',h3⟩,h4,h5⟩:=st;exact⟨k z (by simp) _ h1,k TI (by simp) _ h2,⟨a,b',k TO (by simp) _ h3⟩,a01 h4 λob e=>k i1 (by simp) ob e,a01 h5 λob e=>k i2 (by simp) ob e⟩
 item:=by
  intro X hP hw hK hc i aA s σ H E I hf st hg
  subst hP hw hK;obtain⟨xs,ys,x,y,e1,e2,g1,g2⟩:=hg;obtain⟨h1,h2,⟨a,b,h3⟩,h4,h5⟩:=st;have n:∀c∈[z,TI,TO,i1,i2],H c=none:=λc hc=>(hf c hc).1;obtain⟨cs,P1,S1,D1,a1,b1,c1,d1⟩:=a1n I (t:=t1) e1 (n i1 (by simp))
  obtain⟨ds,P2,S2,D2,a2,b2,c2,d2⟩:=a1n I (t:=t2) e2 (n i2 (by simp))
  have hd:=I.ok.hd hc;have out1:∀c,H c=none->c∉cs:=λc e z=>c1 c z e;have out2:∀c,H c=none->c∉ds:=λc e z=>c2 c z e;have ap:Ap z TI TO i1 i2 (i1::cs) (i2::ds):=⟨by simp,by simp,by simp[f.c.symm,out1 z (n z (by simp))],by simp[f.d.symm,out2 z (n z (by simp))],by simp[f.h,out1 TO (n TO (by simp))],by simp[f.i,out2 TO (n TO (by simp))],f.b,by simp[f.j,out2 i1 (n i1 (by simp))],by simp[f.j.symm,out1 i2 (n i2 (by simp))]⟩
  refine next_item (D1 X.A.in1 hd) (D2 X.A.in1 hd) ap h1 h2 h3 (a1 i h4) (a2 i h5) (a7.mp g1).1 (a7.mp g2).1 λu v h' tk pu pv z' to' s1' s2' pr sz kp=>?_;obtain⟨x',q1,r1⟩:=d1 i u pu;obtain⟨y',q2,r2⟩:=d2 i v pv;rw[g1]at q1;cases q1
  rw[g2]at q2;cases q2
  refine⟨_,rfl,wpAny_letOwnedTupleGo_zip z' λh2' z2' sb=>?_⟩;have hp:H s.heap.objs.size=none:=I.hok.fresh (ag _);have lt:∀c∈[z,TI,TO,i1,i2],c<s.heap.objs.size:=λc hc=>by
   simp only[ar,aM,bC]at hc
   rcases hc with rfl|rfl|rfl|rfl|rfl
   ·exact aL h1
   ·exact aL h2
   ·exact aL h3
   ·obtain⟨_,e,_⟩:=a1m h4;exact aL e
   ·obtain⟨_,e,_⟩:=a1m h5;exact aL e
  have all:∀c o,c∉[z,TI,TO,i1,i2]->s.heap.get? c=some o->h2'.get? c=some o:=λc o nc e=>by
   simp only[ar,aM,bC,not_or]at nc;exact(sb.2 c nc.1).trans (kp c o nc.1 nc.2.2.1 nc.2.2.2.1 nc.2.2.2.2 e)
  have nT:∀c∈[z,TI,TO,i1,i2],c≠s.heap.objs.size:=λc hc=>bq (lt c hc);have I0:Inv X aA σ (upd H s.heap.objs.size (.tup [x,y])) {s with heap:=s.heap.push {cls:=.type "tuple",data:=.seq #[u,v]} } :=
   I.laid (t':=s.toks) (o:=.tup [x,y]) (λb o e=>a8 _ e) (ag _) ⟨by show 2<=sizeLine;decide,[u,v],.cons r1 (.cons r2 .nil),⟨_,aN _ rfl,rfl,_,rfl⟩⟩
  have I1:Inv X aA σ (upd H s.heap.objs.size (.tup [x,y])) {s with heap:=h2',toks:=tk}:=by
   refine a66 (s:={s with heap:=s.heap.push {cls:=.type "tuple",data:=.seq #[u,v]} }) (ch:=[z,TI,TO,i1,i2]) I0 (λb hb=>?_) λc o nc e=>?_
   ·obtain⟨f0,f1⟩:=hf b hb;exact⟨by rw[j4 (nT b hb)];exact f0,f1⟩
   ·rcases Heap.get?_push_cases e with⟨rfl,rfl⟩|e
    ·exact(sb.2 _ (nT z (by simp)).symm).trans pr
    ·exact all c o nc e
  refine⟨.ref s.heap.objs.size,_,I1,rfl,⟨xs,ys,x,y,_,e1,e2,g1,g2,hp,rfl,rfl⟩,⟨z2',?_,⟨u,v,(sb.2 _ f.b).trans to'⟩,a01 (b1 _ _ s1') λob e=>(sb.2 _ f.c).trans e,a01 (b2 _ _ s2') λob e=>(sb.2 _ f.d).trans e⟩,λb hb=>?_⟩
  ·exact(sb.2 _ f.a).trans (kp TI _ f.a f.e f.f f.g h2)
  ·rw[j4 (nT b hb)];exact n b hb
 done:=by
  intro X hP hw hK hc i aA s σ H E I hf st hg
  subst hP hw hK;obtain⟨xs,ys,e1,e2,g⟩:=hg;obtain⟨h1,h2,⟨a,b,h3⟩,h4,h5⟩:=st;have n:∀c∈[z,TI,TO,i1,i2],H c=none:=λc hc=>(hf c hc).1;obtain⟨cs,P1,S1,D1,a1,b1,c1,d1⟩:=a1n I (t:=t1) e1 (n i1 (by simp))
  obtain⟨ds,P2,S2,D2,a2,b2,c2,d2⟩:=a1n I (t:=t2) e2 (n i2 (by simp))
  have hd:=I.ok.hd hc;have out1:∀c,H c=none->c∉cs:=λc e z=>c1 c z e;have out2:∀c,H c=none->c∉ds:=λc e z=>c2 c z e;have ap:Ap z TI TO i1 i2 (i1::cs) (i2::ds):=⟨by simp,by simp,by simp[f.c.symm,out1 z (n z (by simp))],by simp[f.d.symm,out2 z (n z (by simp))],by simp[f.h,out1 TO (n TO (by simp))],by simp[f.i,out2 TO (n TO (by simp))],f.b,by simp[f.j,out2 i1 (n i1 (by simp))],by simp[f.j.symm,out1 i2 (n i2 (by simp))]⟩
  refine next_end (D1 X.A.in1 hd) (D2 X.A.in1 hd) ap h1 h2 h3 (a1 i h4) (a2 i h5) g λh' tk kp=>⟨rfl,a66 I hf λc o nc e=>?_⟩;simp only[ar,aM,bC,not_or]at nc;exact kp c o nc.1 nc.2.2.1 nc.2.2.2.1 nc.2.2.2.2 e
 self:=λ_ _ _ _ _ st h=>wpAny_pyIter_zip st.1 h
theorem acu(c:cont h k us)(o:Obj):cont (h.push o) k us:=by
 cases k with
 |tup a=>obtain⟨ob,e,r⟩:=c;exact⟨ob,a8 _ e,r⟩
 |lst a=>obtain⟨ob,e,r⟩:=c;exact⟨ob,a8 _ e,r⟩
 |str x=>trivial
theorem a1c{s:Shared}(c:cont s.heap k us)(q:Q (.ref s.heap.objs.size) {s with heap:=s.heap.push (iob t k)}) :
  wpAny (model prog w) A (pyIter (val t k)) Q E s:=by
 cases k with
 |tup a=>exact wpAny_pyIter_tuple c q
 |lst a=>exact eD c q
 |str x=>exact wpAny_pyIter_strU q
def mk2(h:Heap)(t1 t2:Tok)(k1 k2:Srk):Heap:=(h.push (iob t1 k1)).push (iob t2 k2)
def mk5(h:Heap)(t1 t2:Tok)(k1 k2:Srk):Heap :=
 (((mk2 h t1 t2 k1 k2).push {cls:=.type "tuple",data:=.seq #[.ref h.objs.size,.ref (h.objs.size+1)]}).push {cls:=.type "tuple",data:=.seq #[.none,.none]}).push
  {cls:=.type "zip",data:=.fields #[.none,.bool false,.bool false,.ref (h.objs.size+2),.ref (h.objs.size+3)]}
theorem afu(t1 t2:Tok)(k1 k2:Srk)(us1 us2:List Value):Meets (Builtin.«zip.__new__» ⟨[.type "zip",val t1 k1,val t2 k2],[]⟩)
  (λ_ R s=>cont s.heap k1 us1/\cont s.heap k2 us2/\R (.ok (.ret (.ref (s.heap.objs.size+4)))) {s with heap:=mk5 s.heap t1 t2 k1 k2}) :=
 .of_wp λprog w A R s h=>by
  obtain⟨hp,g,d,tk,os⟩:=s;obtain⟨c1,c2,h⟩:=h;have sub:=sub_zip;have c1':cont (Shared.heap ⟨hp,g,d,tk,os⟩) k1 us1:=c1;have c2':cont (Shared.heap ⟨hp.push (iob t1 k1),g,d,tk,os⟩) k2 us2:=acu c2 _
  wp_walk using a1c (t:=t1) c1',a1c (t:=t2) c2'
  refine⟨_,rfl,?_⟩;simpa[mk5,mk2,bO,ownedTupleFields,ft] using h
theorem arc(n:Nat):Far (n+4) (n+2) (n+3) n (n+1):=by
 refine⟨?_,?_,?_,?_,?_,?_,?_,?_,?_,?_⟩<;>(intro z;have z:(_:Nat)=_:=z;omega)
theorem au2(n b:Nat)(h:b∈[n+4,n+2,n+3,n,n+1]):n<=b:=by
 simp only[ar,aM,bC]at h;omega
section
variable{X:Cx}{elts:List Expr}{x1:Nat}{tpos:Pos}
def au3(ta:TA):TI:=λσ H R=>ta σ H λvs H1=>∃k1 k2 xs ys,vs=[Srk.v k1,Srk.v k2]/\its H1 k1=some xs/\its H1 k2=some ys/\R (ItZ k1 k2) H1
theorem acv{k:Srk}(r:RelV k.v u):∃t,u=val t k:=by
 cases k with
 |tup a=>cases r;exact⟨0,rfl⟩
 |lst a=>cases r;exact⟨0,rfl⟩
 |str x=>obtain⟨t,rfl⟩:=r;exact⟨t,rfl⟩
theorem ano(hg:Gl X "zip")(hm:X.mg "zip" = none)(hb:bootBuiltins "zip" = some (.type "zip"))(ha:PA X [e1,e2] ta)
  (h1:starEach [e1,e2] X.env=[(false,eval e1 X.env),(false,eval e2 X.env)]:=by rfl) (h2:starEach [e2] X.env=[(false,eval e2 X.env)]:=by rfl):PI X (.Tuple elts x1 tpos) (.Call (.Name "zip" p) [e1,e2] [] pos) (au3 ta):=by
 intro aA s σ H R I h
 refine cy (a2s I hg hm hb ?_ (by decide) (by decide))
 refine cf (thn (ha pos aA s σ H _ I h) λus s1 ⟨vs,H1,I1,r1,q1⟩=>?_) (by rw[h1,h2]) (by rw[h2];rfl)
 obtain⟨k1,k2,xs,ys,rfl,e1,e2,q⟩:=q1;obtain⟨v1,v2,rfl,rv1,rv2⟩:=vals2 r1;obtain⟨t1,rfl⟩:=acv rv1;obtain⟨t2,rfl⟩:=acv rv2;obtain⟨us1,c1,_⟩:=a3j I1 e1;obtain⟨us2,c2,_⟩:=a3j I1 e2;refine callType_new F.called_zip (by decide) (F.typeCall_zip_2 _ _) (F.newCall_zip_2 _ _) (λobj=>F.args_object_init_3 obj _ _) F.entry_zip_new (afu t1 t2 k1 k2 us1 us2) ⟨c1,c2,?_⟩
 have z2:(mk2 s1.heap t1 t2 k1 k2).objs.size=s1.heap.objs.size+2:=by simp[mk2,bO]
 have at0:(mk5 s1.heap t1 t2 k1 k2).get? s1.heap.objs.size=some (iob t1 k1):=by
  unfold mk5 mk2;exact a8 _ (a8 _ (a8 _ (a8 _ (aN _ (by cases k1<;>rfl)))))
 have at1:(mk5 s1.heap t1 t2 k1 k2).get? (s1.heap.objs.size+1)=some (iob t2 k2):=by
  unfold mk5 mk2;have:=aN (o:=iob t2 k2) (s1.heap.push (iob t1 k1)) (by cases k2<;>rfl)
  rw[bO]at this;exact a8 _ (a8 _ (a8 _ this))
 have at2:IsPair (mk5 s1.heap t1 t2 k1 k2) (s1.heap.objs.size+2) (.ref s1.heap.objs.size) (.ref (s1.heap.objs.size+1)):=by
  unfold mk5;rw[<-z2];exact a8 _ (a8 _ (aN _ rfl))
 have at3:IsPair (mk5 s1.heap t1 t2 k1 k2) (s1.heap.objs.size+3) .none .none:=by
  unfold mk5;have:=aN (o:={cls:=.type "tuple",data:=.seq #[.none,.none]}) ((mk2 s1.heap t1 t2 k1 k2).push {cls:=.type "tuple",data:=.seq #[.ref s1.heap.objs.size,.ref (s1.heap.objs.size+1)]}) rfl;rw[bO,z2]at this;exact a8 _ this
 have at4:IsZip (mk5 s1.heap t1 t2 k1 k2) (s1.heap.objs.size+4) (s1.heap.objs.size+2) (s1.heap.objs.size+3) .none:=by
  unfold mk5;have:=aN (o:={cls:=.type "zip",data:=.fields #[.none,.bool false,.bool false,.ref (s1.heap.objs.size+2),.ref (s1.heap.objs.size+3)]}) (((mk2 s1.heap t1 t2 k1 k2).push {cls:=.type "tuple",data:=.seq #[.ref s1.heap.objs.size,.ref (s1.heap.objs.size+1)]}).push {cls:=.type "tuple",data:=.seq #[.none,.none]}) rfl;rw[bO,bO,z2]at this;exact this
 have keepA:∀b o,s1.heap.get? b=some o->(mk5 s1.heap t1 t2 k1 k2).get? b=some o:=λb o e=>by
  unfold mk5 mk2;exact a8 _ (a8 _ (a8 _ (a8 _ (a8 _ e))))
 have I2:Inv X aA σ H1 {s1 with heap:=mk5 s1.heap t1 t2 k1 k2}:=I1.kept (t':=s1.toks) keepA
 refine⟨⟨_,at4,rfl⟩,?_⟩;refine wpAny_pyIter_zip (s:={s1 with heap:=mk5 s1.heap t1 t2 k1 k2}) at4 ?_
 refine⟨s1.heap.objs.size+4,[s1.heap.objs.size+4,s1.heap.objs.size+2,s1.heap.objs.size+3,s1.heap.objs.size,s1.heap.objs.size+1],tnZ _ _ _ _ _ t1 t2 k1 k2,ItZ k1 k2,H1,rfl,I2,aft (arc s1.heap.objs.size),
  ⟨at4,at2,⟨_,_,at3⟩,arb at0,arb at1⟩,λb hb=>?_,q⟩
 have:s1.heap.objs.size<=b:=au2 _ b hb
 exact I1.fpOk this (I1.hok.fresh this)
end
end ZP
namespace MI
open L2 ZP
def srcOf(d:D)(h:Hd):Option (List D×(Hd->Prop)):=match d with
 |.tup xs=>some (xs,λ_=>True)
 |.rol xs=>some (xs,λ_=>True)
 |.str x=>some (xj x,λ_=>True)
 |.ref i=>(match h[i]? with|some (.lst xs)=>some (xs,λh=>h[i]? = some (.lst xs))|_=>none)
 |_=>none
def aq2(x y:D)(h:Hd):R Itm:=match srcOf x h,srcOf y h with
 |some (xs,c1),some (ys,c2)=>.ok ⟨(xs.zip ys).map λp=>.tup [p.1,p.2],λh=>c1 h/\c2 h⟩ h
 |_,_=>.no
def ajw(f g:SE):SI:=λτ h=>(f τ h).bind λx h1=>(g τ h1).bind λy h2=>aq2 x y h2
theorem acw(r:Rep K ι H v d)(hr:HRep K ι H h)(e:srcOf d h=some (xs,ck)) :
  ∃k:Srk,v=k.v/\ck h/\∀ι' H' h',Gr ι H ι' H'->HRep K ι' H' h'->ck h'->∃vs,its H' k=some vs/\Reps K ι' H' vs xs:=by
 cases r with
 |@tup a vs ys ha rs =>
  cases e
  exact⟨.tup a,rfl,True.intro,λι' H' h' g _ _=>⟨vs,by simp[its,g.tup _ _ ha],rs.mono g⟩⟩
 |@rol a vs ys ha rs =>
  cases e
  refine⟨.lst a,rfl,True.intro,λι' H' h' g _ _=>⟨vs,?_,rs.mono g⟩⟩;obtain⟨o,q⟩:=ha.mono g;simp[its,q]
 |str x =>
  cases e
  exact⟨.str x,rfl,True.intro,λι' H' h' g _ _=>⟨_,rfl,a1l x⟩⟩
 |@ref a i ha =>
  obtain⟨ob,e1,e2⟩:=hr.at ha
  cases ob with
  |lst zs =>
   simp only[srcOf,e1]at e;cases e
   refine⟨.lst a,rfl,e1,λι' H' h' g hr' c=>?_⟩;obtain⟨us,q1,q2⟩:=hr'.obj i a _ (g.at ha) c;exact⟨us,by simp[its,q1],q2⟩
  |dK _=>simp only[srcOf,e1]at e;cases e
  |dT _=>simp only[srcOf,e1]at e;cases e
  |ins _ _=>simp only[srcOf,e1]at e;cases e
 |_=>cases e
theorem anp(hg:Gl X "zip")(hm:X.mg "zip" = none)(hb:bootBuiltins "zip" = some (.type "zip"))(ha:ME X E e1 f)(hb':ME X E e2 g)
  (h1:starEach [e1,e2] X.env=[(false,eval e1 X.env),(false,eval e2 X.env)]:=by rfl) (h2:starEach [e2] X.env=[(false,eval e2 X.env)]:=by rfl) :
  MI X E (.Tuple elts x1 tpos) (.Call (.Name "zip" p) [e1,e2] [] pos) (ajw f g):=by
 rintro aA s σ H Rr I ⟨ι,τ,h,S,Rh,o⟩
 refine ano hg hm hb (a5f ha (a5f hb' abf (by rw[h2];rfl)) (by rw[h1,h2])) h1 h2 aA s σ H Rr I ?_
 refine⟨ι,τ,h,S,Rh,dh o λd h1 ι1 H1 v g1 r1 hr1 o1=>?_⟩;refine⟨ι1,τ,h1,S.mono g1,hr1,dh o1 λd2 h2 ι2 H2 u g2 r2 hr2 o2=>?_⟩;unfold aq2 at o2
 split at o2
 ·rename_i xs c1 ys c2 q1 q2;obtain⟨k1,rfl,k1c,k1f⟩:=acw (r1.mono g2) hr2 q1;obtain⟨k2,rfl,k2c,k2f⟩:=acw r2 hr2 q2;obtain⟨vs1,w1,w2⟩:=k1f ι2 H2 h2 (.refl _ _) hr2 k1c;obtain⟨vs2,w3,w4⟩:=k2f ι2 H2 h2 (.refl _ _) hr2 k2c;refine⟨k1,k2,vs1,vs2,rfl,w1,w3,o2 ι2 H2 _ (.refl _ _) ?_ hr2⟩
  intro ι3 H3 h3 g3 hr3 c
  obtain⟨us1,a1,a2⟩:=k1f ι3 H3 h3 g3 hr3 c.1;obtain⟨us2,a3,a4⟩:=k2f ι3 H3 h3 g3 hr3 c.2;refine⟨λi d ed=>?_,us1,us2,a1,a3,?_⟩
  ·simp only[aR,ax]at ed;obtain⟨⟨x,y⟩,ez,rfl⟩:=ed;obtain⟨ex,ey⟩:=bU.mp ez;obtain⟨v1,b1,b2⟩:=a2.get ex;obtain⟨v2,b3,b4⟩:=a4.get ey;refine⟨⟨us1,us2,v1,v2,a1,a3,b1,b3⟩,λx H' yl=>?_⟩;obtain⟨xs',ys',x',y',p,c1,c2,c3,c4,c5,rfl,rfl⟩:=yl;rw[a1]at c1;cases c1
   rw[a3]at c2;cases c2
   rw[b1]at c3;cases c3
   rw[b3]at c4;cases c4
   exact⟨yt c5 _,.tup p6 (.cons (b2.mono (yt c5 _)) (.cons (b4.mono (yt c5 _)) .nil)),hr3.aside c5 _⟩
  ·rw[ai,ff,a2.len,a4.len];omega
 ·exact o2.elim
theorem anq:bootBuiltins "zip" = some (.type "zip"):=by first|exact PySem.boot_zip|exact PyProof.Rows.boot_zip|rfl
end MI
namespace MI
open L2
section
variable{P:Program}{w:World}{K:Fg}{mg:Str->Option Value}{base:Heap}
theorem ard:FnOk P w K mg base CX0 k f fd ps (wj K ps.length λ_ _=>.no) :=
 ⟨λvs H Q E h=>h.1,λA outer s H args us vs Q E hr he hb hv hs=>by obtain⟨_,ι,ds,h,_,_,o⟩:=hs;exact o.elim⟩
end
def FrzOf(L:List Addr)(H H2:Hp):Prop:=∀a,(a∉L->H2 a=H a)/\(a∈L->∃o u,H a=some u/\H2 a=some (.frz o u))
def aae(H:Hp)(L:List Addr):Prop:=∀a∈L,(∃xs,H a=some (.lst xs))\/(∃kvs,H a=some (.dK kvs))\/(∃kvs,H a=some (.dT kvs))\/∃C dx fs,H a=some (.ins C dx fs)
def still:HO->Prop
 |.lst _=>False|.dK _=>False|.dT _=>False|.ins _ _ _=>False
 |_=>True
theorem FrzOf.still(f:FrzOf L H H2)(ab:aae H L)(e:H a=some u)(st:MI.still u):H2 a=some u:=by
 rw[(f a).1 λz=>?_]
 ·exact e
 ·rcases ab a z with⟨_,q⟩|⟨_,q⟩|⟨_,q⟩|⟨_,_,_,q⟩<;>(rw[e]at q;cases q;exact st)
theorem Inv.frz{X:Cx}{aA:List (Addr×Obj)}{σ:St}{H:Hp}{s:Shared}{L:List Addr}(I:Inv X aA σ H s)(ab:aae H L):∃H2,FrzOf L H H2/\Inv X aA σ H2 s:=by
 have obj:∀a∈L,∀u,H a=some u->∃o,s.heap.get? a=some o:=λa ha u e=>by
  rcases ab a ha with⟨_,q⟩|⟨_,q⟩|⟨_,q⟩|⟨_,_,_,q⟩
  ·obtain⟨_,_,_,_,z⟩:=I.hok a _ q;exact⟨_,z⟩
  ·obtain⟨_,_,_,_,z⟩:=I.hok a _ q;obtain⟨o,_,_,z,_⟩:=z;exact⟨o,z⟩
  ·obtain⟨_,_,_,_,o,_,_,z,_⟩:=I.hok a _ q;exact⟨o,z⟩
  ·obtain⟨_,_,_,z,_⟩:=I.hok a _ q;exact⟨_,z⟩
 let H2:Hp:=λa=>if a∈L then (match s.heap.get? a,H a with|some o,some u=>some (.frz o u)|_,w=>w) else H a
 have f:FrzOf L H H2:=λa=>⟨λh=>by simp[H2,h],λh=>by
  obtain⟨u,e⟩:∃u,H a=some u:=by
   rcases ab a h with⟨_,q⟩|⟨_,q⟩|⟨_,q⟩|⟨_,_,_,q⟩<;>exact⟨_,q⟩
  obtain⟨o,eo⟩:=obj a h u e;exact⟨o,u,e,by simp[H2,h,e,eo]⟩⟩
 refine⟨H2,f,?_⟩;have mv:∀a u,ObjOk X.prog X.w H s.heap a u->ObjOk X.prog X.w H2 s.heap a u:=λa u x=>x.stay (λb v _ q=>q) (λc q=>f.still ab q True.intro) λc xs q=>f.still ab q True.intro;have ok:HOk X.prog X.w H2 s.heap:=λa u e=>by
  by_cases hl:a∈L
  ·obtain⟨u0,e0⟩:∃u,H a=some u:=by
    rcases ab a hl with⟨_,q⟩|⟨_,q⟩|⟨_,q⟩|⟨_,_,_,q⟩<;>exact⟨_,q⟩
   obtain⟨o,eo⟩:=obj a hl u0 e0;have e':H2 a=some (.frz o u0):=by simp[H2,hl,e0,eo]
   rw[e']at e;cases e
   exact⟨eo,mv a u0 (I.hok a u0 e0)⟩
  ·rw[(f a).1 hl]at e;exact mv a u (I.hok a u e)
 have fn:∀b,H b=none->H2 b=none:=λb n=>by
  rw[(f b).1 λz=>?_]
  ·exact n
  ·rcases ab b z with⟨_,q⟩|⟨_,q⟩|⟨_,q⟩|⟨_,_,_,q⟩<;>(rw[n]at q;cases q)
 have un:Un X.fs [] H H2 s.heap s.heap:=⟨λb o q _ _ _=>q,λb o q _ _ _=>⟨o.slots,q⟩,λb o _ n _=>fn b n,λb o q _=>⟨o,q⟩,λb xs q=>f.still ab q True.intro,λb o u q=>f.still ab q True.intro,λb ps q=>⟨#[],by rw[f.still ab q True.intro];simp⟩⟩
 exact I.un (t':=s.toks) un ok
theorem acx(h:PE X e t):PE X e (λσ H Q=>t σ H λv H1=>∃L,aae H1 L/\∀H2,FrzOf L H1 H2->Q v H2):=λaA s σ H Q I q =>
 thn (h aA s σ H _ I q) λu s' ⟨v,H1,I1,r,L,ab,k⟩=>let ⟨H2,f,I2⟩:=Inv.frz I1 ab; ⟨v,H2,I2,r,k H2 f⟩
def xf{α β:Type}(f:α->Option β):List α->Option (List β)
 |[]=>some []
 |x::xs=>match f x,xf f xs with|some y,some ys=>some (y::ys)|_,_=>none
open Classical in
noncomputable def a09(n:Nat)(h:Hd):Nat->D->Option D
 |0,_=>none
 |k+1,d=>if clo n d then some d else match d with
  |.tup xs=>(xf (a09 n h k) xs).map .tup
  |.rol xs=>(xf (a09 n h k) xs).map .rol
  |.scr xs=>(xf (a09 n h k) xs).map .scr
  |.rod ks xs=>(xf (a09 n h k) xs).map (.rod ks)
  |.rdT ks xs=>(xf (a09 n h k) xs).map (.rdT ks)
  |.ins c ks xs=>(xf (a09 n h k) xs).map (.ins c ks)
  |.ref i=>match h[i]? with
   |some (.lst xs)=>(xf (a09 n h k) xs).map .rol
   |some (.dK kvs)=>(xf (a09 n h k) (kvs.map (·.2))).map (.rod (kvs.map (·.1)))
   |some (.dT kvs)=>(xf (a09 n h k) (kvs.map (·.2))).map (.rdT (kvs.map (·.1)))
   |some (.ins c kvs)=>(xf (a09 n h k) (kvs.map (·.2))).map (.ins c (kvs.map (·.1)))
   |none=>none
  |_=>none
open Classical in
noncomputable def anr(n:Nat)(h:Hd)(k:Nat)(o:O):Option O:=if a0c n o then some o else match o with
 |.lst xs=>(xf (a09 n h k) xs).map .lst
 |.dK kvs=>(xf (a09 n h k) (kvs.map (·.2))).map λys=>.dK ((kvs.map (·.1)).zip ys)
 |.dT kvs=>(xf (a09 n h k) (kvs.map (·.2))).map λys=>.dT ((kvs.map (·.1)).zip ys)
 |.ins c kvs=>(xf (a09 n h k) (kvs.map (·.2))).map λys=>.ins c ((kvs.map (·.1)).zip ys)
abbrev FU:Nat:=20
noncomputable def a8b(n:Nat):R D->R D
 |.ok d h1=>match a09 n h1 FU d,xf (anr n h1 FU) (h1.take n) with|some d',some g=>.ok d' g|_,_=>.no
 |_=>.no
open Classical in
noncomputable def alc(n:Nat):R D->R D
 | .ok (.ref i) h1=>(match h1[i]? with
   |some o=>if n<=i/\a0c n o/\∀u∈h1.take n,a0c n u then .ok (.ref n) (h1.take n++[o]) else .no
   |none=>.no)
 |_=>.no
section
variable{K:Fg}{ι ι':List Addr}{H H' H2:Hp}{h1:Hd}{n:Nat}{L:List Addr}
theorem a9f(f:FrzOf L H' H2)(ab:aae H' L)(κ:List Addr):Gw κ H' κ H2:=⟨⟨[],by simp⟩,λa vs e=>f.still ab e True.intro,λa o u e=>f.still ab e True.intro⟩
theorem jf(ih:∀{v d d'},Rep K ι H v d->f d=some d'->Rep K κ H2 v d'):∀{vs:List V} {ds ds':List D},Reps K ι H vs ds->xf f ds=some ds'->Reps K κ H2 vs ds'
 |_,_,_,.nil,e=>by cases e;exact .nil
 |_,x::xs,_,.cons r rs,e=>by
  unfold xf at e
  split at e
  ·rename_i y ys h1 h2;cases e
   exact .cons (ih r h1) (jf ih rs h2)
  ·cases e
theorem a3k(hr:HRep K ι' H' h1)(hL:∀(i:Nat) a,ι'[i]? = some a->n<=i->a∈L)(f:FrzOf L H' H2)(ab:aae H' L):∀(k:Nat) {v:V} {d d':D},Rep K ι' H' v d->a09 n h1 k d=some d'->Rep K (ι'.take n) H2 v d':=by
 intro k
 induction k with
 |zero=>intro v d d' r e;cases e
 |succ k ih =>
  intro v d d' r e
  unfold a09 at e
  split at e
  ·rename_i c;cases e
   exact(r.cut c).monoW (a9f f ab _)
  ·rename_i c
   cases r with
   |tup h rs =>
    simp only[ax]at e;obtain⟨ys,e1,rfl⟩:=e;exact .tup (f.still ab h True.intro) (jf (λr e=>ih r e) rs e1)
   |rol h rs =>
    simp only[ax]at e;obtain⟨ys,e1,rfl⟩:=e;exact .rol (h.monoW (a9f f ab ι')) (jf (λr e=>ih r e) rs e1)
   |scr h rs =>
    simp only[ax]at e;obtain⟨ys,e1,rfl⟩:=e;exact .scr (h.monoW (a9f f ab ι')) (jf (λr e=>ih r e) rs e1)
   |rod h ek rs =>
    simp only[ax]at e;obtain⟨ys,e1,rfl⟩:=e;exact .rod (f.still ab h True.intro) ek (jf (λr e=>ih r e) rs e1)
   |rdT h ek rs =>
    simp only[ax]at e;obtain⟨ys,e1,rfl⟩:=e;exact .rdT (f.still ab h True.intro) ek (jf (λr e=>ih r e) rs e1)
   |@ref a i ha =>
    have hi:n<=i:=by
     simp only[clo]at c;omega
    obtain⟨o,u,e1,e2⟩:=(f a).2 (hL i a ha hi);obtain⟨ob,h3,h4⟩:=hr.at ha;simp only[h3]at e
    cases ob with
    |lst xs =>
     simp only[ax]at e;obtain⟨ys,e3,rfl⟩:=e;obtain⟨vs,h5,h6⟩:=h4;rw[e1]at h5;cases h5
     exact .rol ⟨o,e2⟩ (jf (λr e=>ih r e) h6 e3)
    |dK kvs =>
     simp only[ax]at e;obtain⟨ys,e3,rfl⟩:=e;obtain⟨us,h5,h6,h7⟩:=h4;rw[e1]at h5;cases h5
     exact .rod e2 h6 (jf (λr e=>ih r e) h7 e3)
    |dT kvs =>
     simp only[ax]at e;obtain⟨ys,e3,rfl⟩:=e;obtain⟨us,h5,h6,h7⟩:=h4;rw[e1]at h5;cases h5
     exact .rdT e2 h6 (jf (λr e=>ih r e) h7 e3)
    |ins c kvs =>
     simp only[ax]at e;obtain⟨ys,e3,rfl⟩:=e;obtain⟨C,dx,us,h5,hn,h6,h7⟩:=h4;rw[e1]at h5;cases h5
     exact .ins e2 hn h6 (jf (λr e=>ih r e) h7 e3)
   |non=>simp only[clo,cL]at c
   |exc _ _ _=>simp only[clo,cL]at c
   |ins h hn ek rs =>
    simp only[ax]at e;obtain⟨ys,e1,rfl⟩:=e;exact .ins (f.still ab h True.intro) hn ek (jf (λr e=>ih r e) rs e1)
   |bl b=>simp only[clo,cL]at c
   |int b=>simp only[clo,cL]at c
   |str b=>simp only[clo,cL]at c
   |ty b=>simp only[clo,cL]at c
theorem a67{κ:Type}{H:Hp}{us:List (κ×V)}{ks:List κ}{ys:List D}(e:us.map (·.1)=ks)(r:Reps K ι H (us.map (·.2)) ys):KRep K ι H us (ks.zip ys):=by
 have l:ks.length=ys.length:=by rw[<-e,ai,<-r.len,ai]
 refine⟨?_,?_⟩
 ·rw[List.map_fst_zip (by omega)];exact e
 ·rw[List.map_snd_zip (by omega)];exact r
theorem ajx(hr:HRep K ι' H' h1)(hL:∀(i:Nat) a,ι'[i]? = some a->n<=i->a∈L)(f:FrzOf L H' H2)(ab:aae H' L){k:Nat}(na:a∉L)(r:ORep K ι' H' a o)(e:anr n h1 k o=some o'):ORep K (ι'.take n) H2 a o':=by
 have same:H2 a=H' a:=(f a).1 na;unfold anr at e
 split at e
 ·rename_i c;cases e
  exact(r.cut c).monoW (a9f f ab _) same
 ·cases o with
  |lst xs =>
   simp only[ax]at e;obtain⟨ys,e1,rfl⟩:=e;obtain⟨vs,h3,h4⟩:=r;exact⟨vs,by rw[same];exact h3,jf (λr e=>a3k hr hL f ab k r e) h4 e1⟩
  |dK kvs =>
   simp only[ax]at e;obtain⟨ys,e1,rfl⟩:=e;obtain⟨us,h3,h4,h5⟩:=r;exact⟨us,by rw[same];exact h3,a67 h4 (jf (λr e=>a3k hr hL f ab k r e) h5 e1)⟩
  |dT kvs =>
   simp only[ax]at e;obtain⟨ys,e1,rfl⟩:=e;obtain⟨us,h3,h4,h5⟩:=r;exact⟨us,by rw[same];exact h3,a67 h4 (jf (λr e=>a3k hr hL f ab k r e) h5 e1)⟩
  |ins c kvs =>
   simp only[ax]at e;obtain⟨ys,e1,rfl⟩:=e;obtain⟨C,dx,us,h3,hn,h4,h5⟩:=r;exact⟨C,dx,us,by rw[same];exact h3,hn,a67 h4 (jf (λr e=>a3k hr hL f ab k r e) h5 e1)⟩
theorem a02{α β:Type}{f:α->Option β}:∀{xs:List α} {ys:List β},xf f xs=some ys->xs.length=ys.length/\∀(i:Nat) y,ys[i]? = some y->∃x,xs[i]? = some x/\f x=some y
 |[],_,e=>by cases e;exact⟨rfl,λi y e=>by simp at e⟩
 |x::xs,ys,e=>by
  unfold xf at e
  split at e
  ·rename_i y ys h1 h2;cases e
   obtain⟨l,g⟩:=a02 h2;refine⟨by simp[l],λi z e=>?_⟩
   cases i with
   |zero=>simp at e;subst e;exact⟨x,rfl,h1⟩
   |succ i=>simpa using g i z (by simpa using e)
  ·cases e
theorem acy(hr:HRep K ι' H' h1)(M:List Addr)(hM:∀a∈M,a∈ι'):aae H' M:=λa ha=>by
 obtain⟨i,hi⟩:=bB (hM a ha);obtain⟨o,_,q⟩:=hr.at hi
 cases o with
 |lst xs=>obtain⟨vs,h,_⟩:=q;exact .inl ⟨_,h⟩
 |dK xs=>obtain⟨vs,h,_⟩:=q;exact .inr (.inl ⟨_,h⟩)
 |dT xs=>obtain⟨vs,h,_⟩:=q;exact .inr (.inr (.inl ⟨_,h⟩))
 |ins _ _=>obtain⟨C,dx,vs,h,_⟩:=q;exact .inr (.inr (.inr ⟨_,_,_,h⟩))
theorem a3l{α:Type}{l:List α}(nd:l.Nodup){i j:Nat}{a:α}(h1:l[i]? = some a)(h2:l[j]? = some a):i=j:=by
 obtain⟨l1,e1⟩:=a7.mp h1;obtain⟨l2,e2⟩:=a7.mp h2
 rcases Nat.lt_trichotomy i j with l|l|l
 ·exact absurd (e1.trans e2.symm) (bV.mp nd i j l1 l2 l)
 ·exact l
 ·exact absurd (e2.trans e1.symm) (bV.mp nd j i l2 l1 l)
theorem ant(g:Gr ι H ι' H')(f:FrzOf L H' H2)(ab:aae H' L)(hL:∀a∈L,H a=none)(hm:∀a∈m,H a=none):Gr ι H (ι++m) H2:=by
 refine⟨⟨m,rfl,hm⟩,λa vs e=>f.still ab (g.tup a vs e) True.intro,λa o u e=>f.still ab (g.frz a o u e) True.intro,λa u e hn=>?_,λa u e=>?_⟩
 ·rw[(f a).1 λz=>by rw[hL a z]at e;cases e]
  exact g.oth a u e hn
 ·obtain⟨u',e'⟩:=g.kp a u e;rw[(f a).1 λz=>by rw[hL a z]at e;cases e]
  exact⟨u',e'⟩
theorem acz{d d':D}{v:V}{g':Hd}(g:Gr ι H ι' H')(rb:Rep K ι' H' v d)(hr:HRep K ι' H' h1)(e:a8b ι.length (.ok d h1)=.ok d' g') :
  ∃L,aae H' L/\∀H2,FrzOf L H' H2->Gr ι H ι H2/\Rep K ι H2 v d'/\HRep K ι H2 g':=by
 obtain⟨m,rfl,hm⟩:=g.pre;have tk:(ι++m).take ι.length=ι:=by simp
 have ab:aae H' m:=acy hr m λa ha=>br _ ha;have hL:∀(i:Nat) a,(ι++m)[i]? = some a->ι.length<=i->a∈m:=λi a e hi=>by
  rw[av hi]at e;exact aQ e
 refine⟨m,ab,λH2 f=>?_⟩;unfold a8b at e;simp only at e
 split at e
 ·rename_i dd gg e1 e2;cases e
  refine⟨by simpa using ant g f ab hm (m:=[]) (by simp),by have:=a3k hr hL f ab FU rb e1;rwa[tk]at this,?_⟩
  obtain⟨l,gt⟩:=a02 e2;have hl:=hr.len;have ln:ι.length<=h1.length:=by rw[<-hl];simp
  refine⟨(bL.mp hr.nd).1,by rw[<-l,bP];omega,λi a o q1 q2=>?_⟩
  obtain⟨x,hx,fx⟩:=gt i o q2;have hi:i<ι.length:=(a7.mp q1).1;rw[da,aI hi]at hx;have q3:(ι++m)[i]? = some a:=by rw[aE hi];exact q1
  have na:a∉m:=λz=>(bL.mp hr.nd).2.2 a (aQ q1) a z rfl;have:=ajx hr hL f ab na (hr.obj i a x q3 hx) fx
  rwa[tk]at this
 ·cases e
theorem afv(g:Gr ι H ι' H')(rb:Rep K ι' H' v d)(hr:HRep K ι' H' h1)(e:alc ι.length (.ok d h1)=.ok d' g') :
  ∃b,H b=none/\Gr ι H (ι++[b]) H'/\Rep K (ι++[b]) H' v d'/\HRep K (ι++[b]) H' g':=by
 obtain⟨m,rfl,hm⟩:=g.pre;have tk:(ι++m).take ι.length=ι:=by simp
 have up:∀b,Gw ι H' (ι++[b]) H':=λb=>⟨⟨[b],rfl⟩,λ_ _ h=>h,λ_ _ _ h=>h⟩
 cases rb with
 |@ref b i hb =>
  unfold alc at e;simp only at e
  split at e
  ·rename_i ob ho
   split at e
   ·rename_i hc;obtain⟨hi,c1,c2⟩:=hc;cases e
    have hb':=hb;rw[av hi]at hb';have bm:b∈m:=aQ hb';obtain⟨nd1,nd2,nd3⟩:=bL.mp hr.nd;have hl:=hr.len;have ln:ι.length<=h1.length:=by rw[<-hl];simp
    have lt:(h1.take ι.length).length=ι.length:=by rw[bP];omega
    refine⟨b,hm b bm,⟨⟨[b],rfl,by simpa using hm b bm⟩,g.tup,g.frz,g.oth,g.kp⟩,.ref (by simp),?_⟩
    refine⟨bL.mpr ⟨nd1,by simp,λa ha c hc z=>nd3 a ha c (by rw[aw.mp hc];exact bm) z⟩,by simp[lt],λj a o q1 q2=>?_⟩
    by_cases hj:j<ι.length
    ·rw[aE hj]at q1;rw[aE (by omega)]at q2
     have q2':=q2;rw[da,aI hj]at q2';have:=(hr.obj j a o (by rw[aE hj];exact q1) q2').cut (c2 o (aQ q2))
     rw[tk]at this;exact this.monoW (up b) rfl
    ·have hj2:j<(ι++[b]).length:=(a7.mp q1).1;have:j=ι.length:=by simp at hj2;omega
     subst this;rw[av (ag _)]at q1;rw[av (by omega),lt]at q2
     simp at q1 q2
     subst q1 q2;have:=(hr.obj i b ob hb ho).cut c1;rw[tk]at this;exact this.monoW (up b) rfl
   ·cases e
  ·cases e
 |_=>cases e
end
noncomputable def sZ(f:SE):SE:=λτ h=>a8b h.length (f τ h)
abbrev au4(Q:VK):VK:=λv H1=>∃L,aae H1 L/\∀H2,FrzOf L H1 H2->Q v H2
theorem asf(q:lift K E (zy K) (sZ fa) σ H Q):lift K E (zy K) fa σ H (au4 Q):=by
 obtain⟨ι,τ,h,S,Rh,o⟩:=q;refine⟨ι,τ,h,S,Rh,?_⟩;unfold sZ at o;rw[<-Rh.len]at o
 cases hf:fa τ h with
 |ok d h1 =>
  rw[hf]at o
  intro ι' H' v g r hr
  cases hz:a8b ι.length (.ok d h1) with
  |ok d' g' =>
   rw[hz]at o;obtain⟨L,ab,k⟩:=acz g r hr hz;refine⟨L,ab,λH2 f=>?_⟩;obtain⟨k1,k2,k3⟩:=k H2 f;exact o ι H2 v k1 k2 k3
  |ex c hx=>unfold a8b at hz;simp only at hz;split at hz<;>cases hz
  |no=>rw[hz]at o;exact o.elim
 |ex c h1=>rw[hf]at o;exact o.elim
 |no=>rw[hf]at o;exact o.elim
theorem a7x(ha:ME X E e fa):ME X E e (sZ fa):=PE.weak (acx ha) λσ H Q q=>asf q
def refOf:D->Option Nat
 |.ref i=>some i
 |_=>none
def a0m(ds:List D):List Nat:=ds.filterMap refOf
def zp:Nat->List D->List D
 |_,[]=>[]
 |k,d::ds=>match d with
  |.ref _=>.ref k::zp (k+1) ds
  |d=>d::zp k ds
def qt:Hd->List Nat->List O->Hd
 |h,i::is,o::os=>qt (h.set i o) is os
 |h,_,_=>h
def isRef(d:D):Prop:=∃i,d=.ref i
open Classical in
noncomputable def anu(m:Bool)(F:SF)(ds:List D)(h:Hd):R D:=match xf (λi=>h[i]?) (a0m ds) with
 |none=>.no
 | some os=>if (a0m ds).Nodup/\(∀d∈ds,clo 0 d\/isRef d)/\(∀o∈os,a0c 0 o) then
   (match (if m then alc os.length (F (zp 0 ds) os) else a8b os.length (F (zp 0 ds) os)) with
   | .ok d h1=>if ∀o∈h1,a0c 0 o then
     (if m then .ok (.ref h.length) (qt h (a0m ds) h1++h1.drop os.length)
      else if clo 0 d then .ok d (qt h (a0m ds) h1) else .no) else .no
   |_=>.no)
  else .no
noncomputable def iz(m:Bool)(n:Nat)(F:SF):SF:=λds h=>if ds.length=n then anu m F ds h else .no
section
variable{K:Fg}{ι ι':List Addr}{H H' H2:Hp}{h h1:Hd}{n:Nat}
theorem ahm(κ:List Addr):Gw [] H κ H:=⟨⟨κ,rfl⟩,λ_ _ h=>h,λ_ _ _ h=>h⟩
theorem Rep.any(r:Rep K ι H v d)(c:MI.clo 0 d)(κ:List Addr):Rep K κ H v d:=by
 have:=r.cut c
 rw[List.take_zero]at this;exact this.monoW (ahm κ)
theorem ORep.any(r:ORep K ι H a o)(c:a0c 0 o)(κ:List Addr):ORep K κ H a o:=by
 have:=r.cut c
 rw[List.take_zero]at this;exact this.monoW (ahm κ) rfl
theorem a7f{α:Type}(l:List α):∀{is:List Nat},(∀i∈is,i<l.length)->∃ys,xf (λi=>l[i]?) is=some ys
 |[],_=>⟨[],rfl⟩
 |i::is,hi=>by
  obtain⟨ys,e⟩:=a7f l (is:=is) λj hj=>hi j (aP _ hj);have:=hi i aT;exact⟨l[i]::ys,by unfold xf;rw[e,a6 this]⟩
theorem a1o:∀{ds:List D} {vs:List V} {pre κ:List Addr},Reps K ι H vs ds->(∀d∈ds,clo 0 d\/isRef d)->xf (λi=>ι[i]?) (a0m ds)=some κ->Reps K (pre++κ) H vs (zp pre.length ds)
 |[],_,_,_,.nil,_,_=>.nil
 |d::ds,_,pre,κ,.cons r rs,hc,e=>by
  have hc':∀d∈ds,clo 0 d\/isRef d:=λx hx=>hc x (aP _ hx)
  by_cases hd:isRef d
  ·obtain⟨i,rfl⟩:=hd;have e':xf (λi=>ι[i]?) (i::a0m ds)=some κ:=e;unfold xf at e'
   split at e'
   ·rename_i a κ' h1 h2
    cases e'
    cases r with
    |ref ha =>
     rw[ha]at h1;cases h1
     have:=a1o (pre:=pre++[a]) rs hc' h2
     simp only[eI,List.singleton_append,ah,ay]at this;refine .cons (.ref ?_) this;rw[av (ag _)];simp
   ·cases e'
  ·have c:=(hc d aT).resolve_right hd;have e1:a0m (d::ds)=a0m ds:=by
    unfold a0m
    cases d<;>first|rfl|exact absurd ⟨_,rfl⟩ hd
   have e2:zp pre.length (d::ds)=d::zp pre.length ds:=by
    cases d<;>first|rfl|exact absurd ⟨_,rfl⟩ hd
   rw[e1]at e;rw[e2];exact .cons (r.any c _) (a1o rs hc' e)
theorem xr:∀{is:List Nat} {os:List O} {h:Hd},(qt h is os).length=h.length
 |[],_,_=>by simp[qt]
 |_::_,[],_=>by simp[qt]
 |i::is,o::os,h=>by rw[qt,xr,eV]
theorem a1p:∀{is:List Nat} {os:List O} {h:Hd},i∉is->(qt h is os)[i]? = h[i]?
 |[],_,_,_=>by simp[qt]
 |_::_,[],_,_=>by simp[qt]
 |j::is,o::os,h,n=>by
  rw[qt,a1p λz=>n (aP _ z),cF λz=>n (by rw[z];exact aT)]
theorem a7g:∀{is:List Nat} {os:List O} {h:Hd} {j:Nat},is.Nodup->is[j]? = some i->os[j]? = some o->i<h.length->(qt h is os)[i]? = some o
 |[],_,_,_,_,e,_,_=>by simp at e
 |_::_,[],_,_,_,_,e,_=>by simp at e
 |k::is,o'::os,h,j,nd,e1,e2,hl=>by
  cases j with
  |zero =>
   simp at e1 e2
   subst e1 e2;rw[qt,a1p (cS.mp nd).1,bR hl]
  |succ j =>
   rw[qt];exact a7g (j:=j) (cS.mp nd).2 (by simpa using e1) (by simpa using e2) (by simpa using hl)
theorem a7h{α:Type}{l:List α}(nl:l.Nodup){is:List Nat}{ys:List α}(e:xf (λi=>l[i]?) is=some ys)(ni:is.Nodup):ys.Nodup:=by
 obtain⟨le,g⟩:=a02 e;refine bV.mpr λi j hi hj lt z=>?_;obtain⟨x,h1,h2⟩:=g i _ (a6 hi);obtain⟨y,h3,h4⟩:=g j _ (a6 hj);rw[<-z]at h4;have:=a3l nl h2 h4;subst this;have:=a3l ni h1 h3;omega
theorem a9g{is:List Nat}{κ m:List Addr}{g:Hd}(hr:HRep K ι H h)(e1:xf (λi=>ι[i]?) is=some κ)(nd:is.Nodup)(gr:Gr κ H (κ++m) H2)(hg:HRep K (κ++m) H2 g)(cg:∀o∈g,a0c 0 o)(hm:m.length<=1) :
  Gr ι H (ι++m) H2/\HRep K (ι++m) H2 (qt h is g++g.drop κ.length):=by
 obtain⟨l1,g1⟩:=a02 e1;have mn:∀a∈m,H a=none:=by
  obtain⟨m',e,hm'⟩:=gr.pre;rw[List.append_cancel_left e];exact hm'
 have sub:∀a∈κ,a∈ι:=λa ha=>by
  obtain⟨j,hj⟩:=bB ha;obtain⟨i,_,q⟩:=g1 j a hj;exact aQ q
 have some_of:∀a∈ι,∃u,H a=some u:=λa ha=>by
  obtain⟨i,hi⟩:=bB ha;obtain⟨o,_,q⟩:=hr.at hi;obtain⟨u,q,_⟩:=q.some;exact⟨u,q⟩
 have G:Gr ι H (ι++m) H2:=⟨⟨m,rfl,mn⟩,gr.tup,gr.frz,λa u e n=>gr.oth a u e λz=>n (sub a z),gr.kp⟩;have lg:=hg.len;rw[ah]at lg;refine⟨G,?_,?_,λj a o q1 q2=>?_⟩
 ·refine bL.mpr ⟨hr.nd,(bL.mp hg.nd).2.1,λa ha b hb z=>?_⟩;obtain⟨u,q⟩:=some_of a ha;rw[z,mn b hb]at q;cases q
 ·rw[ah,ah,xr,bW,hr.len];omega
 ·by_cases hj:j<ι.length
  ·rw[aE hj]at q1;rw[aE (by rw[xr,<-hr.len];exact hj)]at q2
   by_cases hp:j∈is
   ·obtain⟨k,hk⟩:=bB hp;have hkl:k<κ.length:=by rw[<-l1];exact(a7.mp hk).1
    obtain⟨i,h3,h4⟩:=g1 k _ (a6 hkl);rw[hk]at h3;cases h3
    rw[q1]at h4;have hkg:k<g.length:=by omega
    have e5:=a7g (h:=h) nd hk (a6 hkg) (by rw[<-hr.len];exact hj)
    rw[e5]at q2;cases q2
    have ea:(κ++m)[k]? = some a:=by rw[aE hkl,a6 hkl];exact h4.symm
    exact(hg.obj k a _ ea (a6 hkg)).any (cg _ (aU hkg)) _
   ·rw[a1p hp]at q2;have r:=hr.obj j a o q1 q2;obtain⟨u,hu,_⟩:=r.some;have na:a∉κ:=λz=>by
     obtain⟨k,hk⟩:=bB z;obtain⟨i,h3,h4⟩:=g1 k a hk;have:=a3l hr.nd q1 h4;subst this;exact hp (aQ h3)
    exact r.mono G (by rw[hu];exact gr.oth a u hu na)
  ·have q1':=q1;rw[av (by omega)]at q1
   rw[av (by rw[xr,<-hr.len];omega),xr,<-hr.len,dX]at q2
   have ea:(κ++m)[κ.length+(j-ι.length)]? = some a:=by rw[av (by omega)];simpa using q1
   exact(hg.obj _ a o ea q2).any (cg o (aQ q2)) _
theorem ad0{m:Bool}{F:SF}{vs:List V}{ds:List D}{Q:VK}(r:Reps K ι H vs ds)(hr:HRep K ι H h)(o:out K X0 (zy K) ι H (iz m n F ds h) Q)(E:XK) :
  wj K n F vs H (λv H1=>∃L,aae H1 L/\∀H2,FrzOf L H1 H2->Q v H2) E:=by
 unfold iz at o
 split at o
 ·rename_i hl;refine⟨by rw[r.len];exact hl,?_⟩
  unfold anu at o
  split at o
  ·exact o.elim
  ·rename_i os hos
   split at o
   ·rename_i hc;obtain⟨nd,hd,hcl⟩:=hc;obtain⟨l0,g0⟩:=a02 hos;obtain⟨κ,e1⟩:=a7f ι (is:=a0m ds) λi hi=>by
     obtain⟨j,hj⟩:=bB hi;have hjl:j<os.length:=by rw[<-l0];exact(a7.mp hj).1
     obtain⟨x,h3,h4⟩:=g0 j _ (a6 hjl);rw[hj]at h3;cases h3
     rw[hr.len];exact(a7.mp h4).1
    obtain⟨l1,g1⟩:=a02 e1;have lk:κ.length=os.length:=by omega
    have R0:Reps K κ H vs (zp 0 ds):=by simpa using a1o (pre:=[]) r hd e1
    have H0:HRep K κ H os:=by
     refine⟨a7h hr.nd e1 nd,lk,λj a ob q1 q2=>?_⟩;obtain⟨i,h3,h4⟩:=g1 j a q1;obtain⟨i',h5,h6⟩:=g0 j ob q2;rw[h3]at h5;cases h5
     exact(hr.obj i a ob h4 h6).any (hcl ob (aQ q2)) _
    refine⟨κ,zp 0 ds,os,R0,H0,?_⟩
    cases hF:F (zp 0 ds) os with
    |no=>rw[hF]at o;cases m<;>exact o.elim
    |ex c hx=>rw[hF]at o;cases m<;>exact o.elim
    |ok d h1 =>
     rw[hF]at o
     intro ι' H' v g rb hr1
     rw[<-lk]at o
     cases m with
     |false =>
      simp only[cB,dD]at o
      cases hz:a8b κ.length (.ok d h1) with
      |ok d' g' =>
       rw[hz]at o;simp only at o;obtain⟨L,ab,k⟩:=acz g rb hr1 hz;refine⟨L,ab,λH2 f=>?_⟩;obtain⟨k1,k2,k3⟩:=k H2 f
       split at o
       ·rename_i cg
        split at o
        ·rename_i cd;have q:=a9g (m:=[]) hr e1 nd (by simpa using k1) (by simpa using k3) cg (by simp)
         have lg:=k3.len;have dr:g'.drop κ.length=[]:=cn (by omega)
         rw[dr,cJ,cJ]at q;exact o ι H2 v q.1 (k2.any cd _) q.2
        ·exact o.elim
       ·exact o.elim
      |ex c hx=>rw[hz]at o;exact o.elim
      |no=>rw[hz]at o;exact o.elim
     |true =>
      simp only[cQ]at o
      cases hz:alc κ.length (.ok d h1) with
      |ok d' g' =>
       rw[hz]at o;simp only at o;obtain⟨b,hb,k1,k2,k3⟩:=afv g rb hr1 hz;refine⟨[],λa ha=>(by simp at ha),λH2 f=>?_⟩
       have e2:H2=H':=by funext a;exact(f a).1 (by simp)
       subst e2
       split at o
       ·rename_i cg;have q:=a9g (m:=[b]) hr e1 nd k1 k3 cg (by simp)
        refine o (ι++[b]) H2 v q.1 ?_ q.2;have hd':d'=.ref κ.length:=by
         unfold alc at hz
         split at hz
         ·rename_i i h2 hh
          injection hh with z1 z2
          split at hz
          ·split at hz
           ·injection hz with z3 z4;exact z3.symm
           ·cases hz
          ·cases hz
         ·cases hz
        subst hd'
        cases k2 with
        |ref hk =>
         rw[av (ag _)]at hk;simp at hk;subst hk;exact .ref (by rw[<-hr.len];simp)
       ·exact o.elim
      |ex c hx=>rw[hz]at o;exact o.elim
      |no=>rw[hz]at o;exact o.elim
   ·exact o.elim
 ·exact o.elim
end
theorem a9h(m:Bool){X:Cx}(G:Dn X.prog X.w X.K X.mg X.base k x ps (wj X.K n F) f fd)(hr:Room k X.A)(hg:Gl X x)(ha:MA X X0 (e::es) ka)
  (hdb:(x == ("__debug__" : Str))=false:=by decide) (he:starEach (e::es) X.env=(false,eval e X.env)::starEach es X.env:=by rfl) (hpl:(backTo pos (starEach es X.env)).any (·.1)=false:=by rfl):ME X X0 (.Call (.Name x p) (e::es) [] pos) (sA (iz m n F) ka):=by
 refine PE.weak (acx (air G.ok hr hg G.m G.kp G.b .nil ams ha hdb he hpl)) ?_
 rintro σ H Q ⟨ι,τ,h,S,Rh,o⟩
 refine⟨ι,τ,h,S,Rh,dh o λds h1 ι1 H1 vs g1 r1 hr1 o1=>?_⟩;rw[cJ];exact ad0 r1 hr1 o1 _
theorem ad1(m:Bool){X:Cx}(G:Dn X.prog X.w X.K X.mg X.base k x ps (wj X.K n F) f fd)(hr:Room k X.A)(hg:Gl X x)(hdb:(x == ("__debug__" : Str))=false:=by decide) :
  ME X X0 (.Call (.Name x p) [] [] pos) (sA (iz m n F) bw):=by
 refine PE.weak (acx (af1 G.ok hr hg G.m G.kp G.b .nil ams hdb)) ?_
 rintro σ H Q ⟨ι,τ,h,S,Rh,o⟩
 exact ad0 (vs:=[]) .nil Rh o E0
def ajy:SS:=λ_ _=>.no
section
variable{X:Cx}{E:XD}
theorem ad2:MSs X E st ajy:=λ_ _ _ _ _ _ ⟨_,_,_,_,_,o⟩=>o.elim
end
theorem anv(h:PS X st t):PS X st (λD σ H=>t {D with nx:=λσ' H1=>∃L,aae H1 L/\∀H2,FrzOf L H1 H2->D.nx σ' H2} σ H):=λaA s σ H D I q =>
 thn (h aA s σ H _ I q) λf s' k=>by
  cases f with
  |next =>
   obtain⟨σ',H1,I1,L,ab,k⟩:=k;obtain⟨H2,f,I2⟩:=Inv.frz I1 ab;exact⟨σ',H2,I2,k H2 f⟩
  |brk=>exact k
  |cont=>exact k
  |ret u=>exact k
theorem anw(q:a5n K E (j9 i f) N σ H):lift K E (zy K) f σ H (λv H1=>N.nx (σ.set i (some v)) H1):=by
 obtain⟨ι,τ,h,S,Rh,o⟩:=q;exact⟨ι,τ,h,S,Rh,n8 o λd h1 ι1 H1 v g1 r1 hr1 o1=>o1 ι1 H1 _ (.refl _ _) ((S.mono g1).set r1 i) hr1⟩
theorem ajz(ht:alb K n g t)(q:lift K E (zy K) (m5 fi t fe ix) σ H Q):abr (lift K E (asa K) fi) (zf n ix) g (lift K E (zy K) fe) σ H Q:=by
 obtain⟨ι,τ,h,Sr,Rh,o⟩:=q;refine⟨ι,τ,h,Sr,Rh,dh o λit h1 ι1 H1 J g1 r1 hr1 o1=>?_⟩
 by_cases hl:it.xs.length<=LINE
 ·rw[aI hl]at o1;exact a96 r1 ht (a95 (Sr.mono g1) ix) hr1 hl o1
 ·rw[b9 hl]at o1;exact o1.elim
section
variable{X:Cx}{E:XD}{aD tg aF cnd:Expr}{aB:Scope}{pos spos pos':Pos}{cl:List (Str×Addr)}{ts fr:List Str}{ix:List Nat}{fi:SI}{g:TG}{t:D->Option Sd}{fe:SE}{fc:ST}{i:Nat}{x:Str}
theorem a2i(hN:X.N.Nodup)(hi':X.N[i]? = some x)(hx:Loc X.env.scope x)(hc:X.calm=true)(S:CSc X aB cl ts fr ix)(hi:MI X E tg aF fi)(hg:∀C fp s H,PG (cxC X (ts++fr) aB cl C fp s H) tg g)(ht:alb X.K ts.length g t)(he:∀C fp s H,ME (cxC X (ts++fr) aB cl C fp s H) E aD fe)
  (hs:∀x,foldedSetIterable aF X.env x=pure x:=by intro _;rfl) (hsw:swapsWith (.ListComp aD [⟨tg,aF,[],0⟩] aB pos) (some (.Name x pos')) spos.line X.env=pure true:=by rfl) (hf:Hf X x:=by with_unfolding_all first|exact .inl rfl|exact .inr rfl|assumption) :
  MS X E (.Assign [.Name x pos'] (.ListComp aD [⟨tg,aF,[],0⟩] aB pos) spos) (j9 i (sZ (m5 fi t fe ix))) :=
 PS.weak (anv (afc (te:=lift X.K E (zy X.K) fe) hN hi' hx hc S hi hg he hs hsw hf)) λN σ H q=>ajz ht (asf (anw q))
end
theorem ad3(Fu:Fun K x qual st f fd)(S:FnScope N ps (bz st))
  (hb:∀(cdv:Value) (A:Around) (outer:List Env) (s:Shared) (H:Hp) (E:XK),Room k (A.deeper (PyProof.Rows.envOfC qual (bz st) s.heap.objs.size f cdv))->MSs (ael CX0 P w K mg base N qual (bz st) f cdv A outer s H E).nox X0 (um st) b) :
  FnOk P w K mg base CX0 (k+1) f fd ps (wj K ps.length (jx b N.length)):=anb Fu S hb λds h _ _ _=>Rf.same rfl
end MI
namespace MI
open L2 HT
theorem aaf{s:Shared}(ht:PyProof.Rows.IsTup s.heap t aC)(hs:s.heap.IsSliceOf sl vl vu .none)(pl:IsPart vl lo)(pu:IsPart vu hi)
  (hw:HT.sIx aC.size 0 lo=0/\HT.sIx aC.size aC.size hi=aC.size) (h:Q (.ref t) s):wpAny (model prog w) A (getItem (.ref t) (.ref sl)) Q E s:=by
 obtain⟨os,f1,f2,f3⟩:=id hs;have ty:s.TypeIs (.ref sl) "slice":=⟨os,f1,f2⟩;have tt:s.TypeIs (.ref t) "tuple":=ht.typeIs;rw[getItem]
 try apply cw
 first|(apply a9;apply aJ)|skip
 apply a9;apply eH tt (by decide)
 apply a9
 apply bJ (name:=Str.ofString "__getitem__") tt bo
 apply cq bo tt PyProof.Rows.entry_tuple_getitem _ (PyProof.Rows.args_tuple_getitem _ _)
 change wpAny (model prog w) A.in1 (Builtin.Tuple.tupleItemsOf (.ref t)>>=_) _ _ s
 apply a9;apply PyProof.Rows.tupleItemsOf_ ht
 apply a9;apply dU ty
 rw[aI (by decide)]
 apply a9;apply HT.yr hs pl pu
 rw[hw.1,hw.2];dsimp only;rw[aI (by simp)]
 apply a9
 rw[Builtin.Tuple.tupleIsExact]
 apply a9;apply dU tt
 apply aJ
 rw[aI (by decide)]
 apply a9;apply wpAny_rule
 apply aJ
 exact⟨_,rfl,aJ h⟩
def ash(K:Fg):V->Option Int->Option Int->Hp->VK->Prop:=λx lo hi H Q=>∃a xs,x=.ref a/\SqT K H a xs/\whole xs.length lo hi/\Q (.ref a) H
theorem afw:SlR X (ash X.K):=by
 intro aA s σ H x v vl vu lo hi sl Q I rx hs pl pu h
 obtain⟨a,xs,rfl,hx,hw,q⟩:=h;cases rx
 obtain⟨its,r,ht,hz⟩:=I.tuple hx;have aH:its.toArray.size=xs.length:=by rw[ae];exact r.length.symm
 exact⟨"tuple",_,bo.lookup,ht.typeIs,aaf ht hs pl pu (by rw[aH];exact hw) ⟨.ref a,H,I,rfl,q⟩⟩
def a8c(d:D)(lo hi:Option Int)(h:Hd):R D:=match d with
 |.tup xs=>if whole xs.length lo hi then .ok (.tup xs) h else .ok (.tup (a3z xs lo hi)) h
 |d=>gSl d lo hi h
def a0n(f:SE)(l u:SO):SE:=λτ h=>(f τ h).bind λd h1=>(l τ h1).bind λlo h2=>(u τ h2).bind λhi h3=>a8c d lo hi h3
theorem ak0(rx:Rep K ι H x d)(hr:HRep K ι H h)(o:out K E (zy K) ι H (a8c d lo hi h) Q):(ar6 x lo hi H Q\/ar0 K x lo hi H Q\/ar4 K x lo hi H Q)\/ash K x lo hi H Q:=by
 cases rx with
 |@tup p vs xs hp r =>
  by_cases hc:whole xs.length lo hi
  ·simp only[a8c,aI hc]at o;exact .inr ⟨p,vs,rfl,SqT.of hp,by rw[r.len];exact hc,ans o (.tup hp r) hr⟩
  ·simp only[a8c,b9 hc]at o;exact .inl (.inr (.inl ⟨p,vs,rfl,SqT.of hp,by rw[r.len];exact hc,a0j (a0y r lo hi) hr o⟩))
 |non=>exact o.elim
 |bl _=>exact o.elim
 |int _=>exact o.elim
 |ty _=>exact o.elim
 |str z=>exact .inl (a9b (.str z) hr o)
 |rol a b=>exact .inl (a9b (.rol a b) hr o)
 |scr a b=>exact .inl (a9b (.scr a b) hr o)
 |rod a b c=>exact o.elim
 |rdT a b c=>exact o.elim
 |exc a b c=>exact o.elim
 |ins _ _ _ _=>exact o.elim
 |ref a=>exact .inl (a9b (.ref a) hr o)
theorem jq(he:ME X E e fa)(hl:MO X E lo l)(hu:MO X E hi u):ME X E (.Subscript e (.Slice lo hi none p2) pos) (a0n fa l u):=by
 refine PE.weak (af4 ((amx.or (amm.or aiz)).or afw) he hl hu) ?_
 rintro σ H Q ⟨ι,τ,h,S,Rh,o⟩
 refine⟨ι,τ,h,S,Rh,dh o λd h1 ι1 H1 v g1 r1 hr1 o1=>?_⟩;refine⟨ι1,τ,h1,S.mono g1,hr1,dh o1 λlo h2 ι2 H2 lv g2 r2 hr2 o2=>?_⟩;refine⟨ι2,τ,h2,(S.mono g1).mono g2,hr2,dh o2 λhi h3 ι3 H3 hv g3 r3 hr3 o3=>?_⟩
 cases r2;cases r3
 exact ak0 ((r1.mono g2).mono g3) hr3 o3
end MI
namespace L2
open PyProof.Rows
theorem afx:as6 X (apx X.K):=by
 intro aA s σ H o i ov iv Q I ro ri h
 obtain⟨p,xs,k,z,rfl,rfl,hq,he,q⟩:=h;cases ro
 obtain⟨t,rfl⟩:=ri;obtain⟨its,r,pl,hz⟩:=I.list hq;obtain⟨j,h1,h2,h3,h4,h5⟩:=a5g he;obtain⟨w,ew,rw'⟩:=r.get h2;have len:=r.length;have l63:=a1u;have done:EP X aA σ Q w s:=⟨z,H,I,rw',q⟩
 by_cases neg:k<0
 ·have ej:(k+(its.toArray.size:Int)).toNat=j:=by
   rw[eU neg h4]at h1;rw[ae,<-len];exact ba h1
  exact wpAny_getItem_list_neg pl.isList neg (by rw[ae];omega) (by omega) (by rw[ej];simpa using ew) done
 ·have ej:k.toNat=j:=by
   rw[fm (by omega) h5]at h1
   exact ba h1
  exact wpAny_getItem_list pl.isList (by omega) (by omega) (by rw[ej];simpa using ew) done
end L2
namespace MI
open L2
def aeo(x y:D)(h:Hd):R D:=match x,y with
 |.ref p,.int i=>(match h[p]? with|some (.lst xs)=>(match atI xs i with|some d=>.ok d h|none=>.no)|_=>.no)
 |_,_=>.no
theorem ak1:a00 K aeo (apx K):=by
 intro E ι H h x y dx dy Q rx ry hr o
 cases rx with
 |@ref p i hp =>
  cases ry with
  |int k =>
   simp only[aeo]at o
   split at o
   ·rename_i xs hx;obtain⟨vs,h3,h4⟩:=hr.lst hp hx
    split at o
    ·rename_i d he;obtain⟨v,h1,h2⟩:=a9a h4 he;exact⟨p,vs,k,v,rfl,rfl,SqL.of h3,h1,ans o h2 hr⟩
    ·exact o.elim
   ·exact o.elim
  |_=>exact o.elim
 |_=>exact o.elim
def a0a(g:D->D->Hd->R D)(fo fi fe:SE):SS:=λτ h=>(fo τ h).fl λo h1=>(fi τ h1).fl λi h2=>(aeo o i h2).fl λx h3=>(fe τ h3).fl λy h4=>(g x y h4).fl λz h5=>match put o i z h5 with|some h6=>.nx τ h6|none=>.no
section
variable{X:Cx}{E:XD}{e o i:Expr}{fa fb fc:SE}{pos:Pos}
theorem a8d(ho:ME X E o fa)(hi:ME X E i fb)(he:ME X E e fc)(hp:OpR X (inplaceOp op) r)(hs:a00 X.K gg r)
  (ha:∀ov iv new,augStore i ov iv new=(do holding [new,ov,iv] (setItem ov iv new);release [new,ov,iv] [];pure .next):=by intros;rfl):MS X E (.AugAssign (.Subscript o i tpos) op e pos) (a0a gg fa fb fc):=by
 refine PS.weak (ail ho hi afx he hp set_list ha) ?_
 rintro N σ H ⟨ι,τ,h,S,Rh,oo⟩
 refine⟨ι,τ,h,S,Rh,n8 oo λd h1 ι1 H1 v g1 r1 hr1 o1=>?_⟩;refine⟨ι1,τ,h1,S.mono g1,hr1,n8 o1 λd2 h2 ι2 H2 u g2 r2 hr2 o2=>?_⟩;refine ak1 E ι2 H2 h2 v u d d2 _ (r1.mono g2) r2 hr2 (n8 o2 λd3 h3 ι3 H3 w g3 r3 hr3 o3=>?_);have S3:=((S.mono g1).mono g2).mono g3;refine⟨ι3,τ,h3,S3,hr3,n8 o3 λd4 h4 ι4 H4 y g4 r4 hr4 o4=>?_⟩;refine hs E ι4 H4 h4 w y d3 d4 _ (r3.mono g4) r4 hr4 (n8 o4 λd5 h5 ι5 H5 z g5 r5 hr5 o5=>?_)
 cases hq:put d d2 d5 h5 with
 |none=>rw[hq]at o5;exact o5.elim
 |some h6 =>
  rw[hq]at o5;exact ac0 ((((r1.mono g2).mono g3).mono g4).mono g5) (((r2.mono g3).mono g4).mono g5) r5 hr5 hq λH' g6 hr6=>o5 ι5 H' σ g6 (((S3.mono g4).mono g5).mono g6) hr6
end
end MI
namespace TPM
open PySem.W L2 HT MI
theorem aag(t b:Addr)(items2:Array Value)(n n2:Nat)(dd dd2:Option Addr)(sl sl2:Array (Option Value)) :
  Meets (Builtin.«tuple.__add__» ⟨[.ref t,.ref b],[]⟩) (λ_ R s=>s.heap.get? t=some {cls:=.type "tuple",dict:=dd,data:=.seq #[] n,slots:=sl}/\s.heap.get? b=some {cls:=.type "tuple",dict:=dd2,data:=.seq items2 n2,slots:=sl2}/\R (.ok (.ret (.ref b))) s):=by
 refine .of_wp λprog w A R s h=>?_;obtain⟨hp,g,d,tk,os⟩:=s;obtain⟨hl,hb,h⟩:=h
 wp_walk
 refine wpAny_of_eq sub_tuple_self ?_
 wp_walk
 exact⟨_,rfl,h⟩
def anx(K:Fg):R2:=λx y H Q=>∃a b ys,x=.ref a/\y=.ref b/\SqT K H a []/\SqT K H b ys/\Q (.ref b) H
theorem ak2:OpR X (binaryOp .Add) (anx X.K):=by
 intro aA s σ H x y v u Q I rx ry h
 obtain⟨a,b,ys,rfl,rfl,ha,hb,q⟩:=h;cases rx
 cases ry
 obtain⟨its,r1,p1,_⟩:=I.tuple ha;obtain⟨its2,r2,p2,_⟩:=I.tuple hb;cases r1
 obtain⟨⟨cls,dd,data,sl⟩,ho,hc,n,hd⟩:=id p1;obtain⟨⟨cls2,dd2,data2,sl2⟩,ho2,hc2,n2,hd2⟩:=id p2;simp only at hc hd hc2 hd2;subst hc hd hc2 hd2;exact concat_meets ⟨_,ho,rfl⟩ ⟨_,ho2,rfl⟩ eR seq_tuple_add F.slot_tuple_add F.entry_tuple_add (F.args_tuple_add_2 _ _) (aag a b its2.toArray n n2 dd dd2 sl sl2) ⟨ho,ho2,⟨.ref b,H,I,rfl,q⟩⟩
end TPM
namespace L2
open PyProof.Rows
section
variable{X:Cx}
theorem Inv.lstR(I:Inv X aA σ H s)(hH:Rd H l (.lst xs)):xs.length<=sizeLine/\∃(its:List Value) (n:Nat),Vals xs its/\xs.length=its.length/\s.heap.get? l=some {cls:=.type "list",data:=.seq its.toArray n}:=by
 obtain⟨z,its,n,r,e⟩:=hH.ok I.hok;exact⟨z,its,n,r,r.length,e⟩
def anz:R2:=λx y H Q=>∃l b xs zs,x=.ref l/\y=.ref b/\Rd H l (.lst xs)/\Rd H b (.lst zs)/\xs.length+zs.length<=sizeLine/\∀p,H p=none->Q (.ref p) (upd H p (.lst (xs++zs)))
theorem ak3:OpR X (binaryOp .Add) anz:=λaA s σ H x y v u Q I rx ry ⟨l,b,xs,zs,ex,ey,h1,h2,hz,q⟩=>by
 subst ex ey;cases rx
 cases ry
 obtain⟨_,as,_,va,la,ea⟩:=I.lstR h1;obtain⟨_,bs,_,vb,lb,eb⟩:=I.lstR h2;have app:as.toArray++bs.toArray=(as++bs).toArray:=by simp
 refine PySem.P.add_list ea eb ?_ (by simp;omega)
 rw[app];exact⟨.ref _,_,I.lnew (t':=s.toks) (va.append vb) (by simpa using hz),rfl,q _ I.fresh⟩
def ao0:R2:=λx y H Q=>∃l k xs,x=.ref l/\y=.int k/\Rd H l (.lst xs) /\ -(2^63)<=k/\k<2^63/\xs.length*k.toNat<=sizeLine/\∀p,H p=none->Q (.ref p) (upd H p (.lst (List.replicate k.toNat xs).flatten))
theorem ak4(its:List Value)(k:Nat):List.foldl (λx1 x2=>x1++x2) #[] (List.replicate (if its.toArray.isEmpty=true then 0 else k) its.toArray)=(List.replicate k its).flatten.toArray:=by
 have g:∀m:Nat,List.foldl (λx1 x2=>x1++x2) #[] (List.replicate m its.toArray)=(List.replicate m its).flatten.toArray:=λm=>by simpa using foldl_rep its m []
 cases its with
 |nil=>simp
 |cons a r=>rw[b9 (by simp),g]
theorem ak5:OpR X (binaryOp .Mult) ao0:=λaA s σ H x y v u Q I rx ry ⟨l,k,xs,ex,ey,h1,k1,k2,hz,q⟩=>by
 subst ex ey;cases rx
 obtain⟨t,rfl⟩:=ry;obtain⟨_,as,n,va,la,ea⟩:=I.lstR h1;have few:as.toArray.size*k.toNat<=sizeLine:=by rw[ae,<-la];exact hz
 have top:(sizeLine:Nat)<=(2^63-1) / 8:=by decide
 refine wpAny_binaryOp_repeat_ref (T := "list") (U := "int") (by decide) ⟨_,ea,rfl⟩ (λs'=>typeIs_int s' k t) noFill_list_mul F.fills_int_mul F.slot_int_rmul repeat_list F.slot_int_index.lookup
  (cZ F.slot_int_rmul (typeIs_int s k t) F.entry_int_rmul (F.args_int_rmul_2 _ _) (int___rmul___int_list k t l as.toArray n)
   ⟨ea,rfl,⟨_,ea,rfl⟩,cZ F.slot_list_mul ⟨_,ea,rfl⟩ F.entry_list_mul (F.args_list_mul_2 _ _)
    (AutoListH.list___mul___list_int_3 l as.toArray n k t (by rw[fitsIndex_both k1 k2];exact aV) (by omega) (by rw[a5j few];exact aV)) ⟨ea,?_⟩⟩)
 rw[ak4];exact⟨.ref _,_,I.lnew (t':=s.toks) (va.rep k.toNat) (by rw[len_rep,Nat.mul_comm];exact hz),rfl,q _ I.fresh⟩
end
end L2
namespace MI
open L2 TPM
def wk(d:D)(h:Hd):Option (List D):=match d with
 |.rol xs=>some xs
 |.ref i=>(match h[i]? with|some (.lst xs)=>some xs|_=>none)
 |_=>none
section
variable{K:Fg}{ι:List Addr}{H:Hp}{h:Hd}
theorem a1d(r:Rep K ι H x d)(hr:HRep K ι H h)(e:wk d h=some xs):∃a vs,x=.ref a/\Rd H a (.lst vs)/\Reps K ι H vs xs:=by
 cases r with
 |@rol a vs ys hp rs=>cases e;exact⟨a,vs,rfl,.inr hp,rs⟩
 |@ref a i hp =>
  obtain⟨ob,e1,e2⟩:=hr.at hp;simp only[wk,e1]at e
  cases ob with
  |lst ys=>cases e;obtain⟨vs,h3,h4⟩:=e2;exact⟨a,vs,rfl,.inl h3,h4⟩
  |_=>cases e
 |_=>cases e
def gf:D->D->Hd->R D
 |.int i,.int j,h=>.ok (.int (i+j)) h
 |.str x,.str y,h=>if x.length+y.length<=LINE then .ok (.str (x++y)) h else .no
 |.tup [],.tup ys,h=>.ok (.tup ys) h
 |.tup (x::xs),.tup ys,h=>if (x::xs).length+ys.length<=LINE then .ok (.tup (x::xs++ys)) h else .no
 |x,y,h=>match wk x h,wk y h with
  |some xs,some ys=>if xs.length+ys.length<=LINE then .ok (.ref h.length) (h++[.lst (xs++ys)]) else .no
  |_,_=>.no
theorem ad4(e1:wk x h=some xs)(e2:wk y h=some ys):gf x y h=if xs.length+ys.length<=LINE then .ok (.ref h.length) (h++[.lst (xs++ys)]) else .no:=by
 cases x<;>first|(cases e1;done)|(cases y<;>first|(cases e2;done)|(simp only[gf,e1,e2]))
theorem ak6(x y:D)(h:Hd):(∃i j,x=.int i/\y=.int j)\/(∃i j,x=.str i/\y=.str j)\/(∃xs ys,x=.tup xs/\y=.tup ys)\/(∃xs ys,wk x h=some xs/\wk y h=some ys)\/gf x y h=.no:=by
 cases e1:wk x h with
 |some xs =>
  cases e2:wk y h with
  |some ys=>exact .inr (.inr (.inr (.inl ⟨xs,ys,rfl,rfl⟩)))
  |none =>
   refine .inr (.inr (.inr (.inr ?_)))
   cases x<;>first|(cases e1;done)|(simp only[gf,e1,e2])
 |none =>
  cases x with
  |int i=>cases y<;>first|exact .inl ⟨_,_,rfl,rfl⟩|exact .inr (.inr (.inr (.inr rfl)))
  |str i=>cases y<;>first|exact .inr (.inl ⟨_,_,rfl,rfl⟩)|exact .inr (.inr (.inr (.inr rfl)))
  |tup i=>cases y<;>first|exact .inr (.inr (.inl ⟨_,_,rfl,rfl⟩))|(cases i<;>exact .inr (.inr (.inr (.inr rfl))))
  |_=>refine .inr (.inr (.inr (.inr ?_)));simp only[gf,e1]
theorem afy:a00 K gf (λx y H Q=>(rI0 (λi j=>.int (i+j)) x y H Q\/(∃i j,x=.str i/\y=.str j/\i.length+j.length<=sizeLine/\Q (.str (i++j)) H)\/amn K x y H Q\/anz x y H Q)\/anx K x y H Q):=by
 intro E ι H h x y dx dy Q rx ry hr o
 rcases ak6 dx dy h with⟨i,j,rfl,rfl⟩|⟨i,j,rfl,rfl⟩|⟨xs,ys,rfl,rfl⟩|⟨xs,ys,e1,e2⟩|e
 ·cases rx;cases ry
  exact .inl (.inl ⟨i,j,rfl,rfl,ans o (.int _) hr⟩)
 ·cases rx;cases ry
  simp only[gf]at o
  split at o
  ·rename_i hc;exact .inl (.inr (.inl ⟨i,j,rfl,rfl,ll hc,ans o (.str _) hr⟩))
  ·exact o.elim
 ·cases rx with
  |@tup a vs _ ha r1 =>
  cases ry with
  |@tup b us _ hb r2 =>
  cases xs with
  |nil=>cases r1;exact .inr ⟨a,b,us,rfl,rfl,SqT.of ha,SqT.of hb,ans o (.tup hb r2) hr⟩
  |cons z xs =>
   simp only[gf]at o
   split at o
   ·rename_i hc;refine .inl (.inr (.inr (.inl ⟨a,b,vs,us,rfl,rfl,SqT.of ha,SqT.of hb,λz=>(by subst z;cases r1),ll (by rw[r1.len,r2.len];exact hc),λz=>?_,λ_=>?_⟩)))
    ·subst z;cases r2
     rw[cJ]at o;exact ans o (.tup ha r1) hr
    ·exact a0j (r1.app r2) hr o
   ·exact o.elim
 ·rw[ad4 e1 e2]at o;obtain⟨a,vs,rfl,h1,h2⟩:=a1d rx hr e1;obtain⟨b,us,rfl,h3,h4⟩:=a1d ry hr e2
  split at o
  ·rename_i hc;exact .inl (.inr (.inr (.inr ⟨a,b,vs,us,rfl,rfl,h1,h3,ll (by rw[h2.len,h4.len];exact hc),uo (h2.app h4) hr o⟩)))
  ·exact o.elim
 ·rw[e]at o;exact o.elim
theorem gj(ha:ME X E a fa)(hb:ME X E b fb):ME X E (.BinOp a .Add b pos) (s2 gf fa fb) :=
 aac (OpR.or (am7.or (aa3.or (aix.or ak3))) ak2) afy ha hb
open Classical in
noncomputable def zb(x y:D)(h:Hd):R D:=match y with
 |.int k=>(match x with
  |.int i=>if CMul i k then .ok (.int (i*k)) h else .no
  |_=>match wk x h with
   |some xs=>if (-(2^63)<=k/\k<2^63)/\xs.length*k.toNat<=LINE then .ok (.ref h.length) (h++[.lst (List.replicate k.toNat xs).flatten]) else .no
   |none=>.no)
 |_=>.no
theorem afz:a00 K zb (λx y H Q=>rI CMul (λi j=>.int (i*j)) x y H Q\/ao0 x y H Q):=by
 intro E ι H h x y dx dy Q rx ry hr o
 cases dy with
 |int k =>
  obtain rfl:=acd ry
  cases hx:wk dx h with
  |some xs =>
   obtain⟨a,vs,rfl,h1,h2⟩:=a1d rx hr hx;have o':out K E (zy K) ι H (if (-(2^63)<=k/\k<2^63)/\xs.length*k.toNat<=LINE then .ok (.ref h.length) (h++[.lst (List.replicate k.toNat xs).flatten]) else .no) Q:=by
    cases dx<;>first|(cases hx;done)|(simp only[zb,hx]at o;exact o)
   split at o'
   ·rename_i hc;exact .inr ⟨a,k,vs,rfl,rfl,h1,hc.1.1,hc.1.2,ll (by rw[h2.len];exact hc.2),uo (h2.flat _) hr o'⟩
   ·exact o'.elim
  |none =>
   cases dx with
   |int i =>
    obtain rfl:=acd rx
    by_cases hc:CMul i k
    ·simp only[zb,aI hc]at o;exact .inl ⟨i,k,rfl,rfl,hc,ans o (.int _) hr⟩
    ·simp only[zb,b9 hc]at o;exact o.elim
   |_=>simp only[zb,hx]at o;exact o.elim
 |_=>exact o.elim
theorem a68(ha:ME X E a fa)(hb:ME X E b fb):ME X E (.BinOp a .Mult b pos) (s2 zb fa fb):=aac (am9.or ak5) afz ha hb
end
end MI
namespace MI
open L2
def a4s(d:D)(h:Hd):Option (List Int):=match d with
 |.ref i=>(match h[i]? with|some (.lst xs)=>a5x xs|_=>none)
 |.rol xs=>a5x xs
 |_=>none
theorem a7i(r:Rep K ι H v d)(hr:HRep K ι H h)(e:a4s d h=some ns):∃p,v=.ref p/\SqL K H p (ns.map V.int):=by
 unfold a4s at e
 split at e
 ·cases r with
  |@ref p _ hp =>
   split at e
   ·rename_i xs hx;obtain⟨vs,h3,h4⟩:=hr.lst hp hx;exact⟨p,rfl,SqL.of (by rw[h3,a1a h4 e])⟩
   ·cases e
 ·cases r with
  |@rol p vs xs hp r=>exact⟨p,rfl,by rw[<-a1a r e];exact hp.l⟩
 ·cases e
end MI
namespace L2
open PyProof.Rows
section
variable{X:Cx}
theorem a69:CallR X (.builtin "sorted") (λxs H Q=>∃(p:Addr) (ns:List Int),xs=[.ref p]/\SqL X.K H p (ns.map V.int)/\ns.length<64/\∀l,H l=none->Q (.ref l) (upd H l (.lst ((PySem.W.sortI ns).map V.int)))):=by
 intro aA s σ H xs us Q I r ⟨p,ns,e,hq,h64,q⟩
 subst e;obtain⟨u,rfl,ru⟩:=vals1 r;cases ru
 obtain⟨its,r',pl,hz⟩:=I.list hq;have hI:IntsAre its ns:=intsAre_of r';have hl:its.length=ns.length:=by have:=r'.length;simp at this;omega
 refine sorted_ints pl.isList hI (by omega) λout ns' a1 a2 a3=>?_
 obtain⟨e,he⟩:=sortedAll_at s.heap its out;have e2:ns'=PySem.W.sortI ns:=PySem.W.eq_sortI a2 a3;subst e2;have ln:(PySem.W.sortI ns).length=ns.length:=(PySem.W.sortI_perm ns).length_eq;refine⟨.ref (s.heap.objs.size+1),_,I.laid (t':=s.toks) (λ_ _=>sortedAll_old) (eN _) (show ObjOk X.prog X.w _ _ _ (.lst ((PySem.W.sortI ns).map V.int)) from ⟨by rw[ai,ln];have:=dk;omega,out.toList,e,a2y a1,by simpa[seqObj] using he⟩),rfl,q _ (I.hok.fresh (eN _))⟩
end
end L2
namespace MI
open L2
def a0o:List D->Hd->R D
 |[d],h=>(match a4s d h with|some ns=>if ns.length<64 then .ok (.ref h.length) (h++[.lst ((PySem.W.sortI ns).map D.int)]) else .no|none=>.no)
 |_,_=>.no
theorem a4t:∀ns:List Int,Reps K ι H (ns.map V.int) (ns.map D.int)
 |[]=>.nil
 |n::ns=>.cons (.int n) (a4t ns)
theorem aah:a91 K a0o (λxs H Q=>∃(p:Addr) (ns:List Int),xs=[.ref p]/\SqL K H p (ns.map V.int)/\ns.length<64/\∀l,H l=none->Q (.ref l) (upd H l (.lst ((PySem.W.sortI ns).map V.int)))):=by
 intro E ι H h xs ds Q r hr o
 unfold a0o at o
 split at o
 ·cases r with
  |cons r rs =>
   cases rs
   split at o
   ·rename_i ns e
    split at o
    ·rename_i hl;obtain⟨p,rfl,q⟩:=a7i r hr e;exact⟨p,ns,rfl,q,hl,uo (a4t _) hr o⟩
    ·exact o.elim
   ·exact o.elim
 ·exact o.elim
end MI
namespace L2
open PyProof.Rows
def ixI(n:Int):List Int->Option Nat
 |[]=>none
 |a::l=>if a=n then some 0 else (ixI n l).map (·+1)
theorem ad5:∀{l:List Int} {j:Nat},ixI n l=some j->l[j]? = some n/\∀i,i<j->l[i]?≠some n
 |[],_,h=>by cases h
 |a::l,j,h=>by
  unfold ixI at h
  split at h
  ·rename_i e;cases h
   exact⟨by rw[e];rfl,λi hi=>absurd hi (Nat.not_lt_zero i)⟩
  ·rename_i e;obtain⟨k,hk,rfl⟩:=ax.mp h;obtain⟨h1,h2⟩:=ad5 hk;refine⟨h1,λi hi=>?_⟩
   cases i with
   |zero=>intro z;exact e (ba z)
   |succ i=>exact h2 i (Nat.lt_of_succ_lt_succ hi)
theorem a9i:∀{l:List Int},n∈l->∃j,ixI n l=some j
 |[],h=>by cases h
 |a::l,h=>by
  unfold ixI
  split
  ·exact⟨0,rfl⟩
  ·rename_i e
   rcases ar.mp h with h|h
   ·exact absurd h.symm e
   ·obtain⟨j,hj⟩:=a9i h;exact⟨j+1,by rw[hj];rfl⟩
def eqI(n:Int):Value->Bool
 |.int a _=>a == n
 |_=>false
def ad6(K:Fg):V->List V->Hp->VK->Prop:=λx vs H Q=>∃(l:Addr) (ns:List Int) (n:Int) (j:Nat),x=.ref l/\vs=[.int n]/\SqL K H l (ns.map V.int)/\ixI n ns=some j/\Q (.int (j:Nat)) H
theorem ad7:MtR X "list.index" (ad6 X.K):=by
 intro aA s σ H x vs v us Q I rx rv h
 obtain⟨l,ns,n,j,rfl,rfl,hq,hj,q⟩:=h;cases rx
 obtain⟨u,rfl,ru⟩:=rv.one;obtain⟨t,rfl⟩:=ru;obtain⟨its,r,⟨⟨cls,dict,data,slots⟩,m,e1,e2,e3,e4⟩,hz⟩:=I.list hq;have e2:cls=.type "list":=e2;have e3:dict=none:=e3;have e4:data=.seq its.toArray m:=e4;subst e2 e3 e4;have hl:its.length=ns.length:=by have:=r.length;simp at this;omega
 have each:∀i (h:i<its.length),∃a t,its[i]=.int a t/\ns[i]? = some a:=λi h=>by
  obtain⟨y,h1,h2⟩:=r.get (show(ns.map V.int)[i]? = some (V.int (ns[i]'(by omega))) by rw[aR,a6 (by omega)];rfl)
  obtain⟨t,rfl⟩:=h2;exact⟨_,t,(a7.mp h1).2,a6 _⟩
 obtain⟨p1,p2⟩:=ad5 hj;have jl:j<ns.length:=(a7.mp p1).1;rw[ai]at hz;rw[dk]at hz;refine cZ F.slot_list_index ⟨_,e1,rfl⟩ F.entry_list_index (F.args_list_index_2 _ _)
  (SeqAt.list_indexAt l its.toArray m none slots (.int n t) (eqI n) j (by simp;omega) (by omega) ?_ ?_) ⟨e1,λy hy=>?_,.int (j:Nat),H,I.tok _,⟨_,rfl⟩,q⟩
 ·obtain⟨a,t,h1,h2⟩:=each j (by omega)
  rw[p1]at h2;cases h2
  rw[List.getElem_toArray,h1];exact bX _
 ·intro i hi hij
  obtain⟨a,t,h1,h2⟩:=each i (by simpa using hi)
  rw[List.getElem_toArray,h1];exact bt.mpr λz=>p2 i hij (by rw[h2,z])
 ·obtain⟨i,hi,rfl⟩:=List.getElem_of_mem (List.mem_toArray.mp hy);obtain⟨a,t',h1,_⟩:=each i hi;rw[h1];exact SeqAt.EqAt.int_int a t' n t
end L2
namespace MI
open L2
def a3m(d:D)(ds:List D)(h:Hd):R D:=match a4s d h,ds with
 |some ns,[.int n]=>(match ixI n ns with|some j=>.ok (.int (j:Nat)) h|none=>.no)
 |_,_=>.no
theorem aai:afm K a3m (ad6 K):=by
 intro E ι H h x dx xs ds Q rx r hr o
 unfold a3m at o
 split at o
 ·rename_i ns n e
  cases r with
  |cons r rs =>
   cases r;cases rs
   split at o
   ·rename_i j hj;obtain⟨p,rfl,q⟩:=a7i rx hr e;exact⟨p,ns,n,j,rfl,rfl,q,hj,ans o (.int _) hr⟩
   ·exact o.elim
 ·exact o.elim
def asi:D->Option Key
 |.int i=>some (.inl i)
 |.str x=>some (.inr x)
 |_=>none
def au6:D->Option (List Key)
 |.tup xs=>xf asi xs
 |_=>none
def putD{κ:Type}[DecidableEq κ](kvs:List (κ×D))(k:κ)(d:D):List (κ×D):=if (kvs.any λkv=>decide (kv.1=k))=true then kvs.map λkv=>if kv.1=k then (kv.1,d) else kv else kvs++[(k,d)]
section
variable{K:Fg}{ι:List Addr}{H:Hp}{h:Hd}
variable{X:Cx}{E:XD}{a b e o i:Expr}{fa fb fc:SE}{pos:Pos}
def au7(o k v:D)(h:Hd):Option Hd:=match o with
 |.ref i=>(match h[i]? with
  |some (.dK kvs)=>(match asi k with|some kk=>if kvs.length<LINE then some (h.set i (.dK (putD kvs kk v))) else none|none=>none)
  |some (.dT kvs)=>(match au6 k with|some kk=>if kvs.length<LINE then some (h.set i (.dT (putD kvs kk v))) else none|none=>none)
  |_=>none)
 |_=>none
def ag0(fe fo fi:SE):SS:=λτ h=>(fe τ h).fl λv h1=>(fo τ h1).fl λo h2=>(fi τ h2).fl λk h3=>match au7 o k v h3 with|some h4=>.nx τ h4|none=>.no
end
end MI
namespace MI
open L2 ZP
def ak7(x:D)(h:Hd):R Itm:=match srcOf x h with
 |some (xs,c)=>.ok ⟨((List.range xs.length).zip xs).map λp=>.tup [.int (p.1:Nat),p.2],c⟩ h
 |none=>.no
def ao1(f:SE):SI:=λτ h=>(f τ h).bind ak7
end MI
namespace MI
open L2
def au8(lo:Int)(n:Nat):List D:=(List.range n).map λi=>D.int (lo-(i:Nat))
def ao2(ds:List D)(h:Hd):R Itm:=match ds with
 |[.int i,.int j,.int k]=>if k = -1/\B62 i/\B62 j then .ok ⟨au8 i (i-j).toNat,λ_=>True⟩ h else .no
 |_=>.no
theorem ad8:bootBuiltins "sorted" = some (.builtin "sorted"):=by decide +kernel
theorem bj{α β:Type}(a:α)(h:Hd)(k:α->Hd->R β):(R.ok a h).bind k=k a h:=rfl
theorem zq{α:Type}(a:α)(h:Hd)(k:α->Hd->Fl):(R.ok a h).fl k=k a h:=rfl
def thn(r:Fl)(g:SS):Fl:=match r with|.nx τ h=>g τ h|r=>r
theorem sr(f g:SS)(τ:Sd)(h:Hd):dz f g τ h=thn (f τ h) g:=by unfold dz thn;cases f τ h<;>rfl
theorem a0d(τ:Sd)(h:Hd)(g:SS):thn (.nx τ h) g=g τ h:=rfl
theorem a9j(d:D)(h:Hd)(g:SS):thn (.rt d h) g=.rt d h:=rfl
def toR(r:Fl):R D:=match r with|.rt d h1=>.ok d h1|.nx _ h1=>.ok .non h1|.ex c h1=>.ex c h1|_=>.no
theorem fu(b:SS)(n:Nat)(ds:List D)(h:Hd):jx b n ds h=toR (b (a3e n ds) h):=by unfold jx toR;cases b (a3e n ds) h<;>rfl
theorem a7j(d:D)(h:Hd):toR (.rt d h)=.ok d h:=rfl
theorem a9k(τ:Sd)(h:Hd):toR (.nx τ h)=.ok .non h:=rfl
theorem p8:∀{xs:List D},clos n xs↔∀x∈xs,clo n x
 |[]=>by simp[clos]
 |x::xs=>by simp[clos,p8 (xs:=xs)]
theorem di(i:Int):clo n (.int i):=by simp[clo]
theorem jy(i:Str):clo n (.str i):=by simp[clo]
theorem qi(i:Bool):clo n (.bl i):=by simp[clo]
theorem ad9:clo n .non:=by simp[clo]
theorem lz:clos n []:=by simp[clos]
theorem fj(a:clo n x)(b:clos n xs):clos n (x::xs):=by simp only[clos];exact⟨a,b⟩
theorem qb(h:clos n xs):clo n (.tup xs):=by simpa[clo] using h
theorem v6(h:clos n xs):clo n (.rol xs):=by simpa[clo] using h
theorem iu{α:Type}{n:Nat}{f:α->D}{l:List α}(h:∀a∈l,clo n (f a)):clos n (l.map f):=by
 rw[p8]
 intro x hx
 obtain⟨a,ha,rfl⟩:=bb.mp hx;exact h a ha
mutual
theorem a9l(hm:n<=m):∀{d:D},clo n d->clo m d
 |.non,_=>by simp[clo]
 |.bl _,_=>by simp[clo]
 |.int _,_=>by simp[clo]
 |.str _,_=>by simp[clo]
 |.ty _,_=>by simp[clo]
 |.tup xs,h=>by simp only[clo]at h ⊢;exact qz hm h
 |.rol xs,h=>by simp only[clo]at h ⊢;exact qz hm h
 |.scr xs,h=>by simp only[clo]at h ⊢;exact qz hm h
 |.rod _ xs,h=>by simp only[clo]at h ⊢;exact qz hm h
 |.rdT _ xs,h=>by simp only[clo]at h ⊢;exact qz hm h
 |.exc _,_=>by simp[clo]
 |.ins _ _ xs,h=>by simp only[clo]at h ⊢;exact qz hm h
 |.ref i,h=>by simp only[clo]at h ⊢;omega
theorem qz(hm:n<=m):∀{xs:List D},clos n xs->clos m xs
 |[],_=>by simp[clos]
 |x::xs,h=>by simp only[clos]at h ⊢;exact⟨a9l hm h.1,qz hm h.2⟩
end
theorem qd(hm:n<=m)(h:a0c n o):a0c m o:=by
 cases o with
 |lst xs=>exact qz hm h
 |dK kvs=>exact qz hm h
 |dT kvs=>exact qz hm h
 |ins _ _=>exact qz hm h
theorem a8e{α:Type}{f:α->Option α}:∀{xs:List α},(∀x∈xs,f x=some x)->xf f xs=some xs
 |[],_=>rfl
 |x::xs,h=>by
  unfold xf;rw[h x aT,a8e λy hy=>h y (aP _ hy)]
theorem a6a(c:clo n d):a09 n h (k+1) d=some d:=by unfold a09;rw[aI c]
theorem ag1(c:a0c n o):anr n h k o=some o:=by unfold anr;rw[aI c]
theorem a2j{n k i:Nat}{h:Hd}{xs:List D}(hi:n<=i)(e:h[i]? = some (.lst xs))(c:clos n xs):a09 n h (k+2) (.ref i)=some (.rol xs):=by
 unfold a09;rw[b9 (by simp only[clo];omega)]
 simp only[e];rw[a8e λx hx=>a6a (p8.mp c x hx)];rfl
theorem a9m(e:xf (a09 n h k) xs=some ys)(nc:¬ clos n xs):a09 n h (k+1) (.tup xs)=some (.tup ys):=by
 unfold a09;rw[b9 (by simpa only[clo] using nc)]
 simp only[e,Option.map_some]
theorem a3n{n:Nat}{d d':D}{h1:Hd}(e:a09 n h1 FU d=some d')(c:∀o∈h1.take n,a0c n o):a8b n (.ok d h1)=.ok d' (h1.take n):=by
 unfold a8b;simp only[e];rw[a8e λo ho=>ag1 (c o ho)]
theorem my{h1:Hd}(e:clo n d)(c:∀o∈h1.take n,a0c n o):a8b n (.ok d h1)=.ok d (h1.take n):=a3n (a6a e) c
theorem a03(hi:n<=i)(e:h1[i]? = some (.lst xs))(cx:clos n xs)(c:∀o∈h1.take n,a0c n o):a8b n (.ok (.ref i) h1)=.ok (.rol xs) (h1.take n):=a3n (a2j hi e cx) c
theorem a7k(e:f τ h=.ok (.ref h.length) (h++[.lst xs]))(cx:clos h.length xs)(c:∀o∈h,a0c h.length o):sZ f τ h=.ok (.rol xs) h:=by
 unfold sZ;rw[e,a03 (ag _) (by simp) cx (by simpa using c)]
 simp
def Pu(F:SF)(n:Nat)(ds:List D)(d:D):Prop:=∀h,iz false n F ds h=.ok d h
def Dr(F:SF)(n:Nat)(ds:List D)(o:O)(d:D)(o':O):Prop:=∀p h,h[p]? = some o->iz false n F (.ref p::ds) h=.ok d (h.set p o')
theorem a2k:∀{ds:List D},(∀d∈ds,clo 0 d)->a0m ds=[]/\zp 0 ds=ds/\∀k,zp k ds=ds
 |[],_=>⟨rfl,rfl,λ_=>rfl⟩
 |d::ds,h=>by
  obtain⟨a,b,c⟩:=a2k (ds:=ds) λx hx=>h x (aP _ hx);have hd:=h d aT;have nr:refOf d=none:=by cases d<;>first|rfl|(simp only[clo]at hd;omega)
  refine⟨?_,?_,λk=>?_⟩
  ·simpa[a0m,nr] using a
  ·cases d<;>first|(simp only[clo]at hd;omega)|(simp only[zp,b])
  ·cases d<;>first|(simp only[clo]at hd;omega)|(simp only[zp,c])
theorem Pu.of{ds:List D}(hn:ds.length=n)(cd:∀x∈ds,clo 0 x)(e:F ds []=r)(z:a8b 0 r=.ok d [])(c:clo 0 d):Pu F n ds d:=λh=>by
 obtain⟨p1,p2,_⟩:=a2k cd;unfold iz;rw[aI hn];unfold anu;rw[p1];simp only[xf,cU,cB,dD];rw[aI ⟨ei,λx hx=>.inl (cd x hx),λo ho=>by simp at ho⟩,p2,e,z]
 simp[c,qt]
theorem Dr.of{ds:List D}(hn:ds.length+1=n)(cd:∀x∈ds,clo 0 x)(co:a0c 0 o)(e:F (.ref 0::ds) [o]=r)(z:a8b 1 r=.ok d [o'])(c:clo 0 d)(co':a0c 0 o'):Dr F n ds o d o':=λp h hp=>by
 obtain⟨p1,_,p3⟩:=a2k cd;have e1:a0m (.ref p::ds)=[p]:=by
  have:a0m (.ref p::ds)=p::a0m ds:=rfl
  rw[this,p1]
 have e2:zp 0 (.ref p::ds)=.ref 0::ds:=by
  have:zp 0 (.ref p::ds)=.ref 0::zp 1 ds:=rfl
  rw[this,p3]
 unfold iz;rw[aI (by simpa using hn)]
 unfold anu;rw[e1];simp only[xf,hp,ay,cB,dD];have all:∀x∈(D.ref p::ds),clo 0 x\/isRef x:=λx hx=>by
  rcases ar.mp hx with rfl|hx
  ·exact .inr ⟨p,rfl⟩
  ·exact .inl (cd x hx)
 rw[aI ⟨by simp,all,λu hu=>by rw[aw.mp hu];exact co⟩,e2,e,z]
 simp[c,co',qt]
theorem ao3{ds:List D}(hn:ds.length=n)(cd:∀x∈ds,clo 0 x)(e:F ds []=.ok (.ref i) h1)(ho:h1[i]? = some o)(co:a0c 0 o)(h:Hd):iz true n F ds h=.ok (.ref h.length) (h++[o]):=by
 obtain⟨p1,p2,_⟩:=a2k cd;unfold iz;rw[aI hn];unfold anu;rw[p1];simp only[xf,cU,cQ];rw[aI ⟨ei,λx hx=>.inl (cd x hx),λo ho=>by simp at ho⟩,p2,e]
 unfold alc;simp only[ho];rw[aI ⟨bp _,co,by simp⟩]
 simp[co,qt]
theorem a9n(g:SG)(b:SS)(τ:Sd)(h:Hd):forL (λ_=>True) g b [] τ h=.nx τ h:=by rw[forL,aI True.intro]
def trn(r:Fl)(k:Sd->Hd->Fl):Fl:=match r with|.nx τ h=>k τ h|.ct τ h=>k τ h|.bk τ h=>.nx τ h|r=>r
theorem a7l(g:SG)(b:SS)(x:D)(xs:List D)(τ τ1:Sd)(h h1:Hd)(e:g x τ h=.nx τ1 h1):forL (λ_=>True) g b (x::xs) τ h=trn (b τ1 h1) (forL (λ_=>True) g b xs):=by
 rw[forL,aI True.intro,e];dsimp only;unfold trn
 cases b τ1 h1<;>rfl
theorem ahn(τ:Sd)(h:Hd)(k:Sd->Hd->Fl):trn (.nx τ h) k=k τ h:=rfl
theorem aho(d:D)(h:Hd)(k:Sd->Hd->Fl):trn (.rt d h) k=.rt d h:=rfl
theorem a9o{g:SG}{b:SS}{α:Type}(f:α->D)(I:List α->Sd->Hd->Prop)(Rt:D->Hd->Prop):∀(xs pre:List α) (τ:Sd) (h:Hd),
  (∀pre' x post τ h,pre++xs=pre'++x::post->I pre' τ h->∃τ1 h1,g (f x) τ h=.nx τ1 h1/\((∃τ2 h2,b τ1 h1=.nx τ2 h2/\I (pre'++[x]) τ2 h2)\/∃d h2,b τ1 h1=.rt d h2/\Rt d h2))->I pre τ h->
  (∃τ' h',forL (λ_=>True) g b (xs.map f) τ h=.nx τ' h'/\I (pre++xs) τ' h')\/∃d h',forL (λ_=>True) g b (xs.map f) τ h=.rt d h'/\Rt d h'
 |[],pre,τ,h,_,i0=>.inl ⟨τ,h,a9n ..,by simpa using i0⟩
 |x::xs,pre,τ,h,st,i0=>by
  obtain⟨τ1,h1,e1,q⟩:=st pre x xs τ h rfl i0;rw[bg,a7l _ _ _ _ _ _ _ _ e1]
  rcases q with⟨τ2,h2,e2,i2⟩|⟨d,h2,e2,r⟩
  ·rw[e2,ahn];have:=a9o f I Rt xs (pre++[x]) τ2 h2 (λpre' y post τ h e=>st pre' y post τ h (by simpa using e)) i2
   simpa using this
  ·rw[e2,aho];exact .inr ⟨d,h2,rfl,r⟩
theorem yg{g:SG}{b:SS}{α:Type}(f:α->D)(I:List α->Sd->Hd->Prop)(xs:List α)(τ:Sd)(h:Hd)
  (st:∀pre x post τ h,xs=pre++x::post->I pre τ h->∃τ1 h1,g (f x) τ h=.nx τ1 h1/\∃τ2 h2,b τ1 h1=.nx τ2 h2/\I (pre++[x]) τ2 h2) (i0:I [] τ h) :
  ∃τ' h',forL (λ_=>True) g b (xs.map f) τ h=.nx τ' h'/\I xs τ' h':=by
 rcases a9o f I (λ_ _=>False) xs [] τ h (λpre' x post τ h e i=>let ⟨τ1,h1,a,b⟩:=st pre' x post τ h e i; ⟨τ1,h1,a,.inl b⟩) i0 with⟨τ',h',a,b⟩|⟨_,_,_,z⟩
 ·exact⟨τ',h',a,b⟩
 ·exact z.elim
theorem a6b{f:D->Hd->R D}{α:Type}(g:α->D)(I:List α->List D->Hd->Prop):∀(xs pre:List α) (ys:List D) (h:Hd),
  (∀pre' x post ys h,pre++xs=pre'++x::post->I pre' ys h->∃y h',f (g x) h=.ok y h'/\I (pre'++[x]) (ys++[y]) h')->I pre ys h->∃zs h',mapR (λ_=>True) f (xs.map g) h=.ok zs h'/\I (pre++xs) (ys++zs) h'
 |[],pre,ys,h,_,i0=>⟨[],h,by rw[dn,mapR,aI True.intro],by simpa using i0⟩
 |x::xs,pre,ys,h,st,i0=>by
  obtain⟨y,h1,e1,i1⟩:=st pre x xs ys h rfl i0;obtain⟨zs,h',e2,i2⟩:=a6b g I xs (pre++[x]) (ys++[y]) h1 (λpre' z post ys h e=>st pre' z post ys h (by simpa using e)) i1
  refine⟨y::zs,h',?_,by simpa using i2⟩
  rw[bg,mapR,aI True.intro,e1];show(mapR _ f (xs.map g) h1).bind _=_;rw[e2];rfl
theorem a7m{f:D->Hd->R D}{α:Type}(g F:α->D){h:Hd}:∀{xs:List α},(∀x∈xs,f (g x) h=.ok (F x) h)->mapR (λ_=>True) f (xs.map g) h=.ok (xs.map F) h
 |[],_=>by rw[dn,mapR,aI True.intro];rfl
 |x::xs,st=>by
  rw[bg,mapR,aI True.intro,st x aT];show(mapR _ f (xs.map g) h).bind _=_;rw[a7m g F λy hy=>st y (aP _ hy)];rfl
theorem ak8(I:Nat->Sd->Hd->Prop)(N:Sd->Hd->Prop)(Rt:D->Hd->Prop)
  (st:∀m τ h,I m τ h->(∃h1,c τ h=.ok false h1/\N τ h1)\/∃h1,c τ h=.ok true h1/\((∃τ2 h2 m',f τ h1=.nx τ2 h2/\m'<m/\I m' τ2 h2)\/∃d h2,f τ h1=.rt d h2/\Rt d h2)) :
  ∀(m n:Nat) (τ:Sd) (h:Hd),m<n->I m τ h->(∃τ' h',sWh c f n τ h=.nx τ' h'/\N τ' h')\/∃d h',sWh c f n τ h=.rt d h'/\Rt d h':=by
 intro m
 induction m using Nat.strongRecOn with
 |ind m ih =>
  intro n τ h hn i0
  cases n with
  |zero=>omega
  |succ n =>
   rcases st m τ h i0 with⟨h1,e1,q⟩|⟨h1,e1,q⟩
   ·exact .inl ⟨τ,h1,by rw[sWh,e1];rfl,q⟩
   ·rcases q with⟨τ2,h2,m',e2,lt,i2⟩|⟨d,h2,e2,r⟩
    ·have e3:sWh c f (n+1) τ h=sWh c f n τ2 h2:=by
      rw[sWh,e1,zq,aI rfl,e2]
     rw[e3];exact ih m' lt n τ2 h2 (by omega) i2
    ·refine .inr ⟨d,h2,?_,r⟩;rw[sWh,e1,zq,aI rfl,e2]
structure KD (P:Program) (w:World) (K:Fg) (a:Addr) (kvs:List (Str×Str)):Prop where
 sys:(a == sysModules)=false
 ex:∃(o:Obj) (vs:List (Key×Value)),K.lookup a=some o/\KV (kvs.map λp=>((.inr p.1:Key),V.str p.2)) vs/\∀h:Heap,h.get? a=some o->h.DictOf (a0f P w) a vs
section
variable{X:Cx}{E:XD}{e:Expr}{fa:SE}{pos p:Pos}{a:Addr}{kvs:List (Str×Str)}{x:Str}
theorem KD.at(kd:KD X.prog X.w X.K a kvs)(I:Inv X aA σ H s):∃vs,KV (kvs.map λp=>((.inr p.1:Key),V.str p.2)) vs/\s.heap.DictOf (a0f X.prog X.w) a vs:=by
 obtain⟨o,vs,l,r,d⟩:=kd.ex;exact⟨vs,r,d _ (I.bk _ _ (I.mod.kin _ _ l))⟩
end
mutual
def toPy:D->Option PyData
 |.non=>some .none
 |.bl b=>some (.bool b)
 |.int i=>some (.int i)
 |.str x=>some (.str x)
 |.tup xs=>(ak9 xs).map .tuple
 |.rol xs=>(ak9 xs).map .list
 |.rod [] []=>some (.dict [])
 |_=>none
def ak9:List D->Option (List PyData)
 |[]=>some []
 |x::xs=>match toPy x,ak9 xs with|some p,some ps=>some (p::ps)|_,_=>none
end
mutual
def noL:D->Bool
 |.rol _=>false
 |.tup xs=>asj xs
 |_=>true
def asj:List D->Bool
 |[]=>true
 |x::xs=>noL x && asj xs
end
open Classical in
theorem j6:CallR X (.builtin "isinstance") (λxs H Q=>∃a o us T b,xs=[.ref a,.ty T]/\H a=some (.frz o (.dK us))/\PySem.W.kitOne X.K (.type "dict") (.type T)=some b/\Q (.bl b) H):=by
 intro aA s σ H xs us Q I r h
 obtain⟨a,o,kv,T,b,rfl,ea,e,q⟩:=h;obtain⟨u,w',rfl,rx,rt⟩:=vals2 r;cases rt
 obtain rfl:u=Value.ref a:=rx
 obtain⟨_,_,_,vs,_,p⟩:=(show ObjOk X.prog X.w H s.heap a (.frz o (.dK kv)) from I.hok a _ ea)
 obtain⟨o',es,ep,h1,h2,_⟩:=p;exact bE eE I.kIn ⟨o',h1,h2.1⟩ e (λz=>nomatch z) λtk=>⟨.bl b,H,I.tok tk,rfl,q⟩
def km:List D->Hd->R D
 |[.rod ks xs,.ty T],h=>(match a9c "dict" T with|some b=>.ok (.bl b) h|none=>.no)
 |ds,h=>aav ds h
theorem qp:a91 K km (λxs H Q=>(∃x T t b,xs=[x,.ty T]/\TyOf K H x t/\PySem.W.kitOne K t (.type T)=some b/\Q (.bl b) H)\/∃a o us T b,xs=[.ref a,.ty T]/\H a=some (.frz o (.dK us))/\PySem.W.kitOne K (.type "dict") (.type T)=some b/\Q (.bl b) H):=by
 intro E ι H h xs ds Q r hr o
 unfold km at o
 split at o
 ·split at o
  ·rename_i b hb
   cases r with
   |cons r1 rs =>
    cases rs with
    |cons r2 rs2 =>
     cases rs2
     cases r2
     cases r1 with
     |rod hp ek rr=>exact .inr ⟨_,_,_,_,b,rfl,hp,acg hb,ans o (.bl _) hr⟩
  ·exact o.elim
 ·exact .inl (ajp E ι H h xs _ Q r hr o)
end MI
namespace SRC
open L2 MI
noncomputable def v7:SE :=
 (s2 gf (s2 zb (sI 2) (sA aq1 (aj (sV 0) bw))) (sA ajn (aj (s2 gLt (sV 0) (sI 0)) bw)))
noncomputable def vy:SS :=
 (dz (j9 1 (sZ (m5 (sIt (sZ (a0n (sV 0) oN (oS (sI 63))))) t1 v7 [])))
 (p7 (sA a08 (aj (sV 1) (aj (sI 0) (aj (sI 0) (aj (sI 0) (aj (s2 a1x (sA ani (aj (sV 1) bw)) (sI 2147483647)) bw))))))))
noncomputable def a04:SS :=
 (dz (a0a a0l (sV 0) (sI 3) (sI 1))
 (dz (sIf (a78 (sT (s2 hEq (s2 gIx (sV 0) (sI 2)) (sI 0))) (sT (s2 gLt (s2 gIx (sV 0) (sI 1)) (sA yz (aj (s2 gIx (sV 0) (sI 0)) bw)))))
 (dz (j9 2 (s2 gIx (s2 gIx (sV 0) (sI 0)) (s2 gIx (sV 0) (sI 1))))
 (dz (a0a a0l (sV 0) (sI 1) (sI 1))
 (sIf (sT (s2 gGe (sV 2) (s2 a4p (sI 10) (sI 18))))
 (a93 (sV 2) (sV 0) (sI 2))
 (a93 (s2 a1x (s2 gf (s2 zb (s2 gIx (sV 0) (sI 4)) (sI 31)) (sV 2)) (sI 2147483647)) (sV 0) (sI 4)))))
 sNx)
 (dz (sIf (sT (s2 gGt (s2 gIx (sV 0) (sI 2)) (sI 0)))
 (dz (j9 3 (s2 a1x (s2 gIx (sV 0) (sI 2)) (sV 1)))
 (dz (a0a a4d (sV 0) (sI 2) (sV 1))
 (p7 (sV 3))))
 sNx)
 (dz (j9 3 (s2 a1x (s2 a4p (s2 gf (s2 gf (s2 gIx (sV 0) (sI 4)) (sI 1)) (s2 zb (s2 gIx (sV 0) (sI 3)) (sI 7919))) (sI 3)) (sI 2147483647)))
 (p7 (s2 a1x (s2 a4d (s2 a1x (s2 a4p (s2 gf (s2 zb (sV 3) (sI 48271)) (s2 gIx (sV 0) (sI 3))) (sI 2)) (sI 2147483629)) (sI 64)) (sV 1)))))))
noncomputable def v8:SS :=
 (dz (j9 0 (sC (.str " !\"#$&'()*+,-./0123456789:;<=>?@ABCDEFGHIJKLMNOPQRSTUVWXYZ[\\]^_`")))
 (p7 (s2 gf (sV 0) (sC (.str "abcdefghijklmnopqrstuvwxyz{|}~\n")))))
noncomputable def v9(ak:SF)(jb:SF):SS :=
 (dz (j9 4 (sA (iz false 2 ak) (aj (sV 0) (aj (sA yz (aj (sV 1) bw)) bw))))
 (dz (aen 2 a0l (s2 gIx (sV 1) (sV 4)))
 (j9 1 (s2 gf (a0n (sV 1) oN (oS (sV 4))) (a0n (sV 1) (oS (s2 gf (sV 4) (sI 1))) oN)))))
noncomputable def vz(ak:SF)(jb:SF):SS :=
 (dz (j9 1 (sA (iz false 0 jb) bw))
 (dz (j9 2 (sC (.str "")))
 (dz (a4o (sRg a0u (aj (s2 gf (sI 1) (sA (iz false 2 ak) (aj (sV 0) (aj (sI 6) bw)))) bw)) (kN 3) (v9 ak jb))
 (p7 (sV 2)))))
noncomputable def sy(ak:SF):SS :=
 (v5 (sML a5v (sV 3) (aj (a6q (sT (s2 gLt (sA (iz false 2 ak) (aj (sV 0) (aj (sI 5) bw))) (sI 2))) (sA (iz false 2 ak) (aj (sV 0) (aj (sI 6) bw))) (s1 a88 (sI 1))) bw)))
noncomputable def u5(ak:SF):SE :=
 (sA (iz false 2 ak) (aj (sV 1) (aj (sV 2) bw)))
noncomputable def a0e(ak:SF):SE :=
 (a6q (a78 (sT (s2 gLt (s2 gIx (sV 2) (sV 0)) (sI 0))) (sT (s2 gLe (sV 0) (sV 3)))) (s2 a3y (sV 1) (sI 1)) (sV 0))
noncomputable def wu(ak:SF):SE :=
 (sV 1)
noncomputable def o7(ak:SF):SS :=
 (dz (j9 7 (sZ (m5 (sIt (sV 1)) t1 (u5 ak) [0,2])))
 (dz (sIf (sT (s2 gGt (sV 5) (sI 0)))
 (j9 7 (sZ (m5 (sIt (sV 7)) t1 (a0e ak) [2,3,4])))
 sNx)
 (dz (sIf (a78 (sT (s2 hEq (sV 5) (sI 1))) (sT (s2 hEq (sV 4) (s2 a3y (sV 2) (sI 1)))))
 (j9 7 (sZ (m5 (sIt (sV 7)) t1 (wu ak) [4])))
 sNx)
 (v5 (sML a5v (sV 6) (aj (sV 7) bw))))))
noncomputable def a3o(ak:SF):SS :=
 (dz (j9 3 (sA a08 (aj (s1 a88 (sI 1)) bw)))
 (dz (a4o (sRg a4b (aj (sI 1) (aj (sV 2) bw))) (kN 4) (sy ak))
 (dz (j9 5 (sA (iz false 2 ak) (aj (sV 0) (aj (sI 3) bw))))
 (dz (j9 6 (sA a08 bw))
 (dz (a4o (sRg a0u (aj (sV 2) bw)) (kN 4) (o7 ak))
 (p7 (sA uy (aj (sV 6) (aj (sV 3) bw)))))))))
noncomputable def u6(ak:SF)(du:SF)(dg:SF):SS :=
 (sIf (sT (s2 (gIn true) (sV 8) (sV 6)))
 (v5 (sML a5v (sV 6) (aj (sV 8) bw)))
 sNx)
noncomputable def ww(ak:SF)(du:SF)(dg:SF):ST :=
 (sT (s2 gLt (sV 7) (sA yz (aj (sV 6) bw))))
noncomputable def u9(ak:SF)(du:SF)(dg:SF):SS :=
 (dz (a4o (sIt (s2 gIx (sV 4) (s2 gIx (sV 6) (sV 7)))) (kN 8) (u6 ak du dg))
 (aen 7 a0l (sI 1)))
noncomputable def wy(ak:SF)(du:SF)(dg:SF):SE :=
 (sML a3m (sV 1) (aj (sV 0) bw))
noncomputable def uc(ak:SF)(du:SF)(dg:SF):SE :=
 (sA o6 (aj (sZ (m5 (sIt (s2 gIx (sV 1) (sV 0))) t1 (wy ak du dg) [2])) bw))
noncomputable def ud(ak:SF)(du:SF)(dg:SF):SE :=
 (s2 gIx (sV 1) (sV 0))
noncomputable def yh(ak:SF)(du:SF)(dg:SF):SS :=
 (dz (j9 2 (sA (iz false 1 dg) (aj (sV 0) bw)))
 (dz (j9 3 (s2 gf (sI 2) (sA (iz false 2 ak) (aj (sV 0) (aj (sI 7) bw)))))
 (dz (sIf (sT (s2 hEq (sA (iz false 2 ak) (aj (sV 0) (aj (sI 6) bw))) (sI 0)))
 (j9 3 (s2 gf (sI 1) (sA (iz false 2 ak) (aj (sV 0) (aj (sV 1) bw)))))
 sNx)
 (dz (a6r (sA (iz false 3 du) (aj (sV 0) (aj (sV 2) (aj (sA a7c (aj (sV 3) (aj (sV 1) bw))) bw)))) (a4m 2 (jo (kN 4) (jo (kN 5) a5q))))
 (dz (j9 6 (sA a08 (aj (sI 0) bw)))
 (dz (j9 7 (sI 0))
 (dz (sWh (ww ak du dg) (u9 ak du dg) 100000)
 (dz (j9 6 (sA a0o (aj (sV 6) bw)))
 (dz (j9 9 (sA o6 (aj (sZ (m5 (sIt (sV 6)) t1 (uc ak du dg) [4,6])) bw)))
 (p7 (sA uy (aj (sV 2) (aj (sV 9) (aj (sA o6 (aj (sZ (m5 (sIt (sV 6)) t1 (ud ak du dg) [5])) bw)) bw))))))))))))))
noncomputable def yj(ak:SF):SE :=
 (s2 gIx (sV 2) (sA (iz false 2 ak) (aj (sV 1) (aj (sA yz (aj (sV 2) bw)) bw))))
noncomputable def a05(ak:SF):SS :=
 (dz (j9 2 (sA (iz false 2 ak) (aj (sV 0) (aj (sI 25) bw))))
 (dz (sIf (sT (s2 hEq (sA (iz false 2 ak) (aj (sV 0) (aj (sI 6) bw))) (sI 0)))
 (j9 2 (sA (iz false 2 ak) (aj (sV 0) (aj (sI 241) bw))))
 sNx)
 (p7 (sMS ack (sC (.str "")) (aj (sZ (m5 (sRg a0u (aj (sV 2) bw)) t1 (yj ak) [0,1])) bw)))))
noncomputable def ue:SS :=
 (dz (j9 3 (s2 gIx (s2 gIx (s2 gIx (sV 0) (sI 1)) (sV 3)) (sMS aci (s2 gIx (sV 0) (sI 0)) (aj (s2 gIx (sV 1) (sV 5)) bw))))
 (sIf (sT (s2 gGe (s2 gIx (s2 gIx (sV 0) (sI 2)) (sV 3)) (sI 0)))
 (j9 4 (sA uy (aj (s2 gIx (s2 gIx (sV 0) (sI 2)) (sV 3)) (aj (s2 gf (sV 5) (sI 1)) bw))))
 sNx))
noncomputable def ym:SS :=
 (dz (j9 3 (sI 0))
 (dz (j9 4 (sC .non))
 (dz (a4o (sRg a4b (aj (sV 2) (aj (sA yz (aj (sV 1) bw)) bw))) (kN 5) ue)
 (p7 (sV 4)))))
noncomputable def ph:SS :=
 (sIf (sOr (a4k (a2f (sA km (aj (sV 2) (aj (sC (.ty "int")) bw))))) (a2f (sA km (aj (sV 2) (aj (sC (.ty "bool")) bw)))))
 (p7 (sC (.bl false)))
 sNx)
noncomputable def jm:SS :=
 (dz (sIf (sOr (a4k (a2f (sA km (aj (sV 0) (aj (sC (.ty "tuple")) bw))))) (sT (s2 hNe (sA yz (aj (sV 0) bw)) (sV 1))))
 (p7 (sC (.bl false)))
 sNx)
 (dz (a4o (sIt (sV 0)) (kN 2) ph)
 (p7 (sC (.bl true)))))
end SRC
namespace L2
open PySem.W PyProof.Rows Builtin Builtin.ObjectAttr Builtin.Getset_descriptor
section
variable{prog:Program}{w:World}{A:Around}{E:Value->Shared->Prop}{s:Shared}{K:Frag}{x D:Addr}{ox:Obj}{odo:Option Obj}
structure XKit (K:Frag) (D:Addr):Prop where
 ga:findIn K (.ref D) "__getattribute__" = some (some (.builtin "BaseException.__getattribute__"))
 gn:findIn K (.ref D) "__getattr__" = some none
 cl:(clsIn K D).isSome=true
 ca:findIn K (.ref D) "__class__" = some (some (.builtin "object.__class__"))
 sp:specialIn K (.builtin "object.__class__") "__get__" = some (some (.builtin "getset_descriptor.__get__"))
 tk:takesIn K (.builtin "object.__class__")=some true
 ob:mroIn K D (.type "object")=some true
 be:subIn K (.ref D) (.type "BaseException")=some true
 kc:kitCls K (.ref D) (.ref D)=some true
abbrev ExAt(x D:Addr)(h:Heap):Prop:=∃o,h.get? x=some o/\o.cls=.ref D
theorem ExAt.ty(I:ExAt x D h):Looks M h (typeOf (.ref x)) (.ref D):=by
 obtain⟨o,q,c⟩:=I;exact c ▸ (Looks.ld q).andThen .now
theorem XKit.at(Z:XKit K D):∃c o cd sl,K.lookup D=some ⟨c,o,.cls cd,sl⟩:=by
 have:=Z.cl
 unfold clsIn at this
 split at this
 ·exact⟨_,_,_,_, ‹_›⟩
 ·cases this
theorem XKit.no(Z:XKit K D){its:List Value}(X:K.In h)(q:h.get? tp=some ⟨.type "tuple",dd,.seq its.toArray n,sl⟩):(Value.ref D == .ref tp)=false :=
 bt.mpr λe=>by
  obtain⟨_,_,_,_,lo⟩:=Z.at;rw[Value.ref.inj e]at lo;have:=X _ _ lo;rw[q]at this;cases this
end
end L2
namespace ZP
open PySem.Builtin PySem.Builtin.SmallTypes L2
def lq(it:Addr)(a:Int):Obj:={cls:=.type "enumerate",data:=.fields #[.none,.bool false,.ref it,rawInt a,.none,.none]}
theorem aaj(t:Tok)(k:Srk)(us:List Value)(a:Int)(u:Tok)(hf:fitsIndex a=true):Meets (Builtin.«enumerate.__new__» ⟨[.type "enumerate",val t k],[(Str.ofString "start",.int a u)]⟩)
  (λ_ R s=>cont s.heap k us/\R (.ok (.ret (.ref (s.heap.objs.size+1)))) {s with heap:=(s.heap.push (iob t k)).push (lq s.heap.objs.size a)}) :=
 .of_wp λprog w A R s h=>by
  obtain⟨hp,g,d,tk,os⟩:=s;obtain⟨c,h⟩:=h;have sub:=sub_enumerate;have c':cont (Shared.heap ⟨hp,g,d,tk,os⟩) k us:=c;have fin:R (.ok (.ret (.ref (hp.push (iob t k)).objs.size))) {heap:=(hp.push (iob t k)).push (lq hp.objs.size a),gens:=g,drawn:=d,toks:=tk,os:=os}:=by simpa[bO] using h
  have ks:((Str.ofString "start") == (Str.ofString "start"))=true:=bX _
  wp_walk
  refine wpAny_stack_any λst=>aJ ?_
  split
  ·rename_i cl _ _ _ _ _
   cases (cl == Value.type "enumerate")
   ·wp_walk using a1c (t:=t) c'
    exact⟨_,rfl,fin⟩
   ·wp_walk using a1c (t:=t) c'
    exact⟨_,rfl,fin⟩
  ·wp_walk using a1c (t:=t) c'
   exact⟨_,rfl,fin⟩
def Is2(r0:Result)(s0:Shared):Result->Shared->Prop:=λr s1=>r=r0/\s1=s0
theorem ada:Meets (Builtin.«object.__init__» ⟨[self,v],[(Str.ofString "start",.int a u)]⟩) (λ_ R s=>s.TypeIs self "enumerate"/\R (.ok (.ret .none)) s) :=
 .of_wp λprog w A R s h=>by
  obtain⟨hT,hq⟩:=h;have hl:=dY.init.lookup;have hm:=dY.made
  wp_walk
  exact⟨_,rfl,hq⟩
theorem a8f{s:Shared}(hf:fitsIndex a=true)(c:cont s.heap k us)
  (q:Q (.ref (s.heap.objs.size+1)) {s with heap:=(s.heap.push (iob t k)).push (lq s.heap.objs.size a)}):wpAny (model prog w) A (call (.type "enumerate") [val t k] [(Str.ofString "start",.int a u)]) Q E s:=by
 have hct:checkTypeCall "enumerate" ⟨[val t k],[(Str.ofString "start",.int a u)]⟩=pure ():=by kernel_rfl
 have hcn:checkBuiltinCall "enumerate.__new__" ⟨[.type "enumerate",val t k],[(Str.ofString "start",.int a u)]⟩=pure ():=by kernel_rfl
 have hok:∀obj,argsOk "object.__init__" ⟨[obj,val t k],[(Str.ofString "start",.int a u)]⟩:=λobj=>by unfold argsOk;kernel_rfl
 obtain⟨h1,h2,⟨c0,tl,hmro⟩,hmade,hpl,hsub,hini⟩:=dY;refine wpAny_call (codeAny_of_tree ?_);show wpAny _ _ (callAny (.type "enumerate") _) _ _ _;refine aJ ⟨Code.quiet_builtin _ (by decide +kernel),codeAny_builtin F.entry_type_call ?_⟩
 rw[Around.under_plain (weight_type_call_type _ _ _) (units_type_call_type _ _ _)]
 wp_walk
 have hT:Shared.TypeIs {s with heap:=(s.heap.push (iob t k)).push (lq s.heap.objs.size a)} (.ref (s.heap.objs.size+1)) "enumerate":=by
  refine⟨lq s.heap.objs.size a,?_,rfl⟩;have:=aN (o:=lq s.heap.objs.size a) (s.heap.push (iob t k)) rfl;rw[bO]at this;exact this
 have hli:=hini.lookup;have hbi:=hini.bind (.ref (s.heap.objs.size+1));have N1:codeAny (model prog w) A.in1 (Code.call (.builtin "enumerate.__new__") ⟨[.type "enumerate",val t k],[(Str.ofString "start",.int a u)]⟩) (Is2 (.ok (.ret (.ref (s.heap.objs.size+1)))) {s with heap:=(s.heap.push (iob t k)).push (lq s.heap.objs.size a)}) s :=
  codeAny_call_builtin hpl F.entry_enumerate_new (wpAny_of_eq hcn (aaj t k us a u hf prog w A.in1 (Is2 (.ok (.ret (.ref (s.heap.objs.size+1)))) {s with heap:=(s.heap.push (iob t k)).push (lq s.heap.objs.size a)}) s ⟨c,rfl,rfl⟩))
 have N2:codeAny (model prog w) A.in1 (Code.call (.builtin "object.__init__") ⟨[.ref (s.heap.objs.size+1),val t k],[(Str.ofString "start",.int a u)]⟩) (Is2 (.ok (.ret .none)) {s with heap:=(s.heap.push (iob t k)).push (lq s.heap.objs.size a)}) {s with heap:=(s.heap.push (iob t k)).push (lq s.heap.objs.size a)} :=
  codeAny_call_builtin hini.plain F.entry_object_init (hini.check _ _ _ _ _ _ _ _ hT (hok _) (ada prog w A.in1 (Is2 (.ok (.ret .none)) {s with heap:=(s.heap.push (iob t k)).push (lq s.heap.objs.size a)}) {s with heap:=(s.heap.push (iob t k)).push (lq s.heap.objs.size a)} ⟨hT,rfl,rfl⟩))
 refine dS N1 λr s1 hr=>?_;obtain⟨rfl,rfl⟩:=hr;dsimp only
 wp_walk
 refine dS N2 λr s1 hr=>?_;obtain⟨rfl,rfl⟩:=hr;dsimp only
 wp_walk
 exact q
theorem shifted{prog:Program}{w:World}{A:Around}{it:Addr}{fp:List Addr}{n:Nat}{P:Nat->Value->Prop}{St:Nat->Heap->Prop}(a:Nat)(D:Draws prog w A it fp n P St) :
  Draws prog w A it fp (a+n) (λi v=>P (i-a) v) (λi h=>a<=i/\St (i-a) h) where
 live:=λi h z=>D.live _ h z.2
 frame:=λi h h' z k=>⟨z.1,D.frame _ h h' z.2 k⟩
 item:=λi s Q E hi z hQ=>D.item (i-a) s Q E (by omega) z.2 λx h' tk p st sb=>hQ x h' tk p ⟨Nat.le_succ_of_le z.1,by rw[Nat.succ_sub z.1];exact st⟩ sb
 done:=λs Q E z hE=>D.done s Q E (by have:=z.2;rwa[cN]at this) hE
def arf(a:Nat)(k:Srk):It where
 go:=λi H=>∃xs x,its H k=some xs/\xs[i]? = some x
 yld:=λi H v H'=>∃xs x p,its H k=some xs/\xs[i]? = some x/\H p=none/\v=.ref p/\H'=upd H p (.tup [.int ((a+i:Nat):Int),x])
 stop:=λi H=>∃xs,its H k=some xs/\i=xs.length
def asl(a:Nat)(e it:Addr)(t:Tok)(k:Srk)(i:Nat)(h:Heap):Prop:=(∃old,IsEnum h e it ((a+i:Nat):Int) old)/\own it t k i h
theorem aak(ne:e≠it):Turn P w K (.Tuple elts x1 pos) (arf a k) [e,it] e (asl a e it t k) where
 mem:=by simp
 obj:=λi h st b hb=>by
  obtain⟨⟨old,h1⟩,h4⟩:=st;simp only[ar,aM,bC]at hb
  rcases hb with rfl|rfl
  ·exact⟨_,h1,λv z=>(by cases z)⟩
  ·exact a1m h4
 keep:=λi h h' st kk=>by
  obtain⟨⟨old,h1⟩,h4⟩:=st;exact⟨⟨old,kk e (by simp) _ h1⟩,a01 h4 λob q=>kk it (by simp) ob q⟩
 item:=by
  intro X hP hw hK hc i aA s σ H E I hf st hg
  subst hP hw hK;obtain⟨xs,x,e1,g1⟩:=hg;obtain⟨⟨old,h1⟩,h4⟩:=st;have n:∀c∈[e,it],H c=none:=λc hc=>(hf c hc).1;obtain⟨cs,P1,S1,D1,a1,b1,c1,d1⟩:=a1n I (t:=t) e1 (n it (by simp))
  have hd:=I.ok.hd hc;have ef:e∉it::cs:=by
   intro z
   rcases ar.mp z with z|z
   ·exact ne z
   ·exact c1 e z (n e (by simp))
  have li:a+i<a+xs.length:=Nat.add_lt_add_left (a7.mp g1).1 a;refine wpAny_pyNext_enum_itemD (shifted a (D1 X.A.in1 hd)) h1 ⟨Nat.le_add_right _ _,by rw[cN];exact a1 i h4⟩ li ne ef λu h' tk pu eo s1' pr sz kp=>?_
  obtain⟨_,s1'⟩:=s1';rw[ft,cN]at s1';rw[cN]at pu;obtain⟨x',q1,r1⟩:=d1 i u pu;rw[g1]at q1;cases q1
  refine⟨_,rfl,wpAny_letOwnedTupleGo_enum eo λh2' z2' sb=>?_⟩;have hp:H s.heap.objs.size=none:=I.hok.fresh (ag _);have lt:∀c∈[e,it],c<s.heap.objs.size:=λc hc=>by
   simp only[ar,aM,bC]at hc
   rcases hc with rfl|rfl
   ·exact aL h1
   ·obtain⟨_,q,_⟩:=a1m h4;exact aL q
  have nT:∀c∈[e,it],c≠s.heap.objs.size:=λc hc=>bq (lt c hc);have all:∀c o,c∉[e,it]->s.heap.get? c=some o->h2'.get? c=some o:=λc o nc q=>by
   simp only[ar,aM,bC,not_or]at nc;exact(sb.2 c nc.1).trans (kp c o nc.1 nc.2 q)
  have I0:Inv X aA σ (upd H s.heap.objs.size (.tup [.int ((a+i:Nat):Int),x])) {s with heap:=s.heap.push {cls:=.type "tuple",data:=.seq #[.int ((a+i:Nat):Int) tk,u]} } :=
   I.laid (t':=s.toks) (o:=.tup [.int ((a+i:Nat):Int),x]) (λb o q=>a8 _ q) (ag _) ⟨by show 2<=sizeLine;decide,[.int ((a+i:Nat):Int) tk,u],.cons ⟨tk,rfl⟩ (.cons r1 .nil),⟨_,aN _ rfl,rfl,_,rfl⟩⟩
  have I1:Inv X aA σ (upd H s.heap.objs.size (.tup [.int ((a+i:Nat):Int),x])) {s with heap:=h2',toks:=tk+1}:=by
   refine a66 (s:={s with heap:=s.heap.push {cls:=.type "tuple",data:=.seq #[.int ((a+i:Nat):Int) tk,u]} }) (ch:=[e,it]) I0 (λb hb=>?_) λc o nc q=>?_
   ·obtain⟨f0,f1⟩:=hf b hb;exact⟨by rw[j4 (nT b hb)];exact f0,f1⟩
   ·rcases Heap.get?_push_cases q with⟨rfl,rfl⟩|q
    ·exact(sb.2 _ (nT e (by simp)).symm).trans pr
    ·exact all c o nc q
  refine⟨.ref s.heap.objs.size,_,I1,rfl,⟨xs,x,_,e1,g1,hp,rfl,rfl⟩,⟨⟨u,by simpa[Int.add_assoc] using z2'⟩,a01 (b1 _ _ s1') λob q=>(sb.2 _ ne.symm).trans q⟩,λb hb=>?_⟩
  rw[j4 (nT b hb)];exact n b hb
 done:=by
  intro X hP hw hK hc i aA s σ H E I hf st hg
  subst hP hw hK;obtain⟨xs,e1,rfl⟩:=hg;obtain⟨⟨old,h1⟩,h4⟩:=st;have n:∀c∈[e,it],H c=none:=λc hc=>(hf c hc).1;obtain⟨cs,P1,S1,D1,a1,b1,c1,d1⟩:=a1n I (t:=t) e1 (n it (by simp))
  have hd:=I.ok.hd hc;refine wpAny_pyNext_enum_endD (D1 X.A.in1 hd) h1 (a1 _ h4) λh' ex=>⟨rfl,a66 (t':=s.toks) I hf λc o nc q=>?_⟩;simp only[ar,aM,bC,not_or]at nc;exact ex c o nc.2 q
 self:=λ_ _ _ _ _ st h=>by
  obtain⟨⟨old,h1⟩,_⟩:=st;exact wpAny_pyIter_enum h1 h
section
variable{X:Cx}{elts:List Expr}{x1:Nat}{tpos:Pos}
def ao4(ta tk:TA):TI:=λσ H R=>ta σ H λvs H1=>tk σ H1 λzs H2=>∃k xs,∃a:Nat,vs=[Srk.v k]/\its H2 k=some xs/\zs=[.int (a:Nat)]/\a<=16777216/\R (arf a k) H2
theorem ag2(hg:Gl X "enumerate")(hm:X.mg "enumerate" = none)(ha:PA X [e1] ta)(hkw:PK X [⟨some "start",e2,kpos⟩] tk)
  (h1:starEach [e1] X.env=[(false,eval e1 X.env)]:=by rfl):PI X (.Tuple elts x1 tpos) (.Call (.Name "enumerate" p) [e1] [⟨some "start",e2,kpos⟩] pos) (ao4 ta tk):=by
 intro aA s σ H R I h
 refine cy (a2s I hg hm PyProof.Rows.boot_enumerate ?_ (by decide) (by decide))
 have hpl:((backTo pos (starEach [e1] X.env)).any (·.1) || (backToKw pos (keywordEach [⟨some "start",e2,kpos⟩] X.env)).any (·.1.isNone))=false:=by rw[h1];rfl
 refine PySem.W.callWith_of (P:=λ_=>True) hpl (λh _=>⟨.machine,.inr (.inl rfl),PySem.W.Looks.of_pure rfl⟩) (PyProof.Rows.evalArgs_kw2 (by rfl) (thn (ha pos aA s σ H _ I h) λus s1 ⟨vs,H1,I1,r,q⟩=>?_) (by rw[h1];rfl))
 refine thn (hkw pos aA s1 σ H1 _ I1 q) λws s2 ⟨zs,H2,I2,rz,q2⟩=>⟨trivial,?_⟩;obtain⟨k,xs,a,rfl,e1,rfl,la,q⟩:=q2;obtain⟨v1,rfl,rv1⟩:=vals1 r;obtain⟨v2,rfl,u,rfl⟩:=vals1 rz;obtain⟨t,rfl⟩:=acv rv1;obtain⟨us1,c1,_⟩:=a3j I2 e1;refine a8f (us:=us1) (by unfold fitsIndex;simp;omega) c1 ?_
 have at0:((s2.heap.push (iob t k)).push (lq s2.heap.objs.size a)).get? s2.heap.objs.size=some (iob t k):=a8 _ (aN _ (by cases k<;>rfl))
 have at1:IsEnum ((s2.heap.push (iob t k)).push (lq s2.heap.objs.size a)) (s2.heap.objs.size+1) s2.heap.objs.size (a:Nat) .none:=by
  have:=aN (o:=lq s2.heap.objs.size a) (s2.heap.push (iob t k)) rfl
  rw[bO]at this;exact this
 have keepA:∀b o,s2.heap.get? b=some o->((s2.heap.push (iob t k)).push (lq s2.heap.objs.size a)).get? b=some o:=λb o q=>a8 _ (a8 _ q);have I3:Inv X aA σ H2 {s2 with heap:=(s2.heap.push (iob t k)).push (lq s2.heap.objs.size a)}:=I2.kept (t':=s2.toks) keepA
 refine wpAny_pyIter_enum (s:={s2 with heap:=(s2.heap.push (iob t k)).push (lq s2.heap.objs.size a)}) at1 ?_
 refine⟨s2.heap.objs.size+1,[s2.heap.objs.size+1,s2.heap.objs.size],asl a _ _ t k,arf a k,H2,rfl,I3,aak (by intro z;have z:(_:Nat)=_:=z;omega),⟨⟨.none,at1⟩,arb at0⟩,λb hb=>?_,q⟩
 have:s2.heap.objs.size<=b:=by
  simp only[ar,aM,bC]at hb
  rcases hb with rfl|rfl
  ·exact eN _
  ·exact ag _
 exact I2.fpOk this (I2.hok.fresh this)
end
end ZP
namespace MI
open L2 ZP
def ahp(x y:D)(h:Hd):R Itm:=match srcOf x h,y with
 |some (xs,c),.int n=>if 0<=n/\n<=16777216 then .ok ⟨((List.range xs.length).zip xs).map λp=>.tup [.int ((n.toNat+p.1:Nat):Int),p.2],c⟩ h else .no
 |_,_=>.no
def a7n(f g:SE):SI:=λτ h=>(f τ h).bind λx h1=>(g τ h1).bind λy h2=>ahp x y h2
theorem ag3(hg:Gl X "enumerate")(hm:X.mg "enumerate" = none)(ha:ME X E e1 f)(hb:ME X E e2 g)
  (h1:starEach [e1] X.env=[(false,eval e1 X.env)]:=by rfl):MI X E (.Tuple elts x1 tpos) (.Call (.Name "enumerate" p) [e1] [⟨some "start",e2,kpos⟩] pos) (a7n f g):=by
 rintro aA s σ H Rr I ⟨ι,τ,h,S,Rh,o⟩
 refine ag2 hg hm (a5f ha abf (by rw[h1];rfl)) (ais hb aml) h1 aA s σ H Rr I ?_
 refine⟨ι,τ,h,S,Rh,dh o λd h1 ι1 H1 v g1 r1 hr1 o1=>?_⟩;refine⟨ι1,τ,h1,S.mono g1,hr1,dh o1 λd2 h2 ι2 H2 v2 g2 r2 hr2 o2=>?_⟩;have r1:=r1.mono g2;unfold ahp at o2
 split at o2
 ·rename_i xs c n q1
  split at o2
  ·rename_i hn;obtain⟨k,rfl,kc,kf⟩:=acw r1 hr2 q1;obtain⟨vs,w1,w2⟩:=kf ι2 H2 h2 (.refl _ _) hr2 kc;cases r2
   obtain⟨m,rfl⟩:=aX hn.1;refine⟨k,vs,m,rfl,w1,rfl,by omega,o2 ι2 H2 _ (.refl _ _) ?_ hr2⟩
   intro ι3 H3 h3 g3 hr3 c3
   obtain⟨us,a1,a2⟩:=kf ι3 H3 h3 g3 hr3 c3;refine⟨λi d ed=>?_,us,a1,?_⟩
   ·simp only[aR,ax]at ed;obtain⟨⟨j,y⟩,ez,rfl⟩:=ed;obtain⟨ex,ey⟩:=bU.mp ez;have hj:j=i:=by
     obtain⟨_,q⟩:=a7.mp ex;simpa using q.symm
    subst hj;obtain⟨v2,b3,b4⟩:=a2.get ey;refine⟨⟨us,v2,a1,b3⟩,λx H' yl=>?_⟩;obtain⟨xs',x',p,c1,c3,c5,rfl,rfl⟩:=yl;rw[a1]at c1;cases c1
    rw[b3]at c3;cases c3
    exact⟨yt c5 _,.tup p6 (.cons (.int _) (.cons (b4.mono (yt c5 _)) .nil)),hr3.aside c5 _⟩
   ·rw[ai,ff,bK,a2.len];omega
  ·exact o2.elim
 ·exact o2.elim
end MI
namespace AT
open L2
theorem ag4{α:Type}(x0:α)(xs:List α):atI (x0::xs) 0=some x0:=qw (j:=0) rfl
theorem ag5{α:Type}(x0 x1:α)(xs:List α):atI (x0::x1::xs) 1=some x1:=qw (j:=1) rfl
theorem ag6{α:Type}(x0 x1 x2:α)(xs:List α):atI (x0::x1::x2::xs) 2=some x2:=qw (j:=2) rfl
theorem ag7{α:Type}(x0 x1 x2 x3:α)(xs:List α):atI (x0::x1::x2::x3::xs) 3=some x3:=qw (j:=3) rfl
theorem ag8{α:Type}(x0 x1 x2 x3 x4:α)(xs:List α):atI (x0::x1::x2::x3::x4::xs) 4=some x4:=qw (j:=4) rfl
theorem ag9{α:Type}(x0 x1 x2 x3 x4 x5:α)(xs:List α):atI (x0::x1::x2::x3::x4::x5::xs) 5=some x5:=qw (j:=5) rfl
theorem aga{α:Type}(x0 x1 x2 x3 x4 x5 x6:α)(xs:List α):atI (x0::x1::x2::x3::x4::x5::x6::xs) 6=some x6:=qw (j:=6) rfl
theorem agb{α:Type}(x0 x1 x2 x3 x4 x5 x6 x7:α)(xs:List α):atI (x0::x1::x2::x3::x4::x5::x6::x7::xs) 7=some x7:=qw (j:=7) rfl
theorem x10:ixN 1 0=some 0:=rfl
theorem x20:ixN 2 0=some 0:=rfl
theorem x21:ixN 2 1=some 1:=rfl
theorem x30:ixN 3 0=some 0:=rfl
theorem x31:ixN 3 1=some 1:=rfl
theorem x32:ixN 3 2=some 2:=rfl
theorem x40:ixN 4 0=some 0:=rfl
theorem x41:ixN 4 1=some 1:=rfl
theorem x42:ixN 4 2=some 2:=rfl
theorem x43:ixN 4 3=some 3:=rfl
theorem x50:ixN 5 0=some 0:=rfl
theorem x51:ixN 5 1=some 1:=rfl
theorem x52:ixN 5 2=some 2:=rfl
theorem x53:ixN 5 3=some 3:=rfl
theorem x54:ixN 5 4=some 4:=rfl
theorem x60:ixN 6 0=some 0:=rfl
theorem x61:ixN 6 1=some 1:=rfl
theorem x62:ixN 6 2=some 2:=rfl
theorem x63:ixN 6 3=some 3:=rfl
theorem x64:ixN 6 4=some 4:=rfl
theorem x65:ixN 6 5=some 5:=rfl
theorem x70:ixN 7 0=some 0:=rfl
theorem x71:ixN 7 1=some 1:=rfl
theorem x72:ixN 7 2=some 2:=rfl
theorem x73:ixN 7 3=some 3:=rfl
theorem x74:ixN 7 4=some 4:=rfl
theorem x75:ixN 7 5=some 5:=rfl
theorem x76:ixN 7 6=some 6:=rfl
def asm(x:Int):Int:=if x<0 then -x else x
theorem adb(x:Int)(h:MI.Hd):MI.aq1 [.int x] h=.ok (.int (asm x)) h:=rfl
theorem p18(h:MI.Hd):MI.a4p (.int 10) (.int 18) h=.ok (.int 1000000000000000000) h:=by rw[MI.a4p,aI (by decide)];rfl
theorem ao5{i:Int}(c:0<=j/\j<=1000000/\i.natAbs<2^64):MI.a4p (.int i) (.int j) h=.ok (.int (i^j.toNat)) h:=by rw[MI.a4p,aI c]
end AT
namespace MI
open L2 SeqAt
def asn(neg:Bool)(K:Fg):R2:=λx y H Q=>∃(ι:List Addr) (p q:Addr) (vs us:List V) (xs ys:List D),x=.ref p/\y=.ref q/\Rd H p (.lst vs)/\Rd H q (.lst us)/\Reps K ι H vs xs/\Reps K ι H us ys/\xs.all (pur 59)=true/\ys.all (pur 59)=true/\Q (.bl (if neg then !a4r xs ys else a4r xs ys)) H
theorem agc(I:Inv X aA σ H s)(hu:X.A.units+64<cLine)(h1:Rd H p (.lst vs))(h2:Rd H q (.lst us))(rs:Reps X.K ι H vs xs)(qs:Reps X.K ι H us ys)(p1:xs.all (pur 59)=true)(p2:ys.all (pur 59)=true) :
  RcAt X.A s (.ref p) (.ref q) (a4r xs ys)/\RcNeAt X.A s (.ref p) (.ref q) (!a4r xs ys):=by
 obtain⟨its,r1,pl1,z1⟩:=I.list (.inl h1);obtain⟨its2,r2,pl2,z2⟩:=I.list (.inl h2);have l1:its.toArray.size=xs.length:=by rw[ae,<-r1.length,rs.len]
 have l2:its2.toArray.size=ys.length:=by rw[ae,<-r2.length,qs.len]
 by_cases hl:xs.length=ys.length
 ·have step:∀j (h1:j<its.toArray.size) (h2:j<its2.toArray.size),EqAt X.A.in1 s its.toArray[j] its2.toArray[j] (pairE xs ys j):=λj h1 h2=>by
   have j1:j<xs.length:=by omega
   have j2:j<ys.length:=by omega
   obtain⟨v1,e1,q1⟩:=rs.get (a6 j1);obtain⟨v2,e2,q2⟩:=qs.get (a6 j2);obtain⟨u1,e3,q3⟩:=r1.get e1;obtain⟨u2,e4,q4⟩:=r2.get e2;have f1:its.toArray[j]=u1:=by simpa using (a7.mp e3).2
   have f2:its2.toArray[j]=u2:=by simpa using (a7.mp e4).2
   have pe:pairE xs ys j=eqD xs[j] ys[j]:=by simp[pairE,a6 j1,a6 j2]
   rw[f1,f2,pe];rw[aO]at p1 p2;exact ahl I.hok 59 X.A.in1 q1 q2 q3 q4 (p1 _ (aU j1)) (p2 _ (aU j2)) (by rw[cv];omega)
  have c1:=RcAt.lists (A:=X.A) (s:=s) (e:=pairE xs ys) pl1.isList pl2.isList (by omega) (by omega) step
  have c2:=RcNeAt.lists (A:=X.A) (s:=s) (e:=pairE xs ys) pl1.isList pl2.isList (by omega) (by omega) step
  have ea:=a1b xs ys;rw[hl,Nat.min_self,bX,Bool.and_true,<-hl]at ea;rw[l1,ea]at c1 c2;exact⟨c1,c2⟩
 ·have ne:(its.toArray.size != its2.toArray.size)=true:=by rw[l1,l2];simpa using hl
  have ea:=a1b xs ys;rw[bt.mpr hl,fk]at ea;rw[<-ea];exact⟨RcAt.lists_lengths pl1.isList pl2.isList ne (by omega),RcNeAt.lists_lengths pl1.isList pl2.isList ne (by omega)⟩
theorem ao6{X:Cx}(hu:X.A.units+64<cLine):OpR X (compareOp .Eq) (asn false X.K):=by
 intro aA s σ H x y v u Q I rx ry h
 obtain⟨ι,p,q,vs,us,xs,ys,rfl,rfl,h1,h2,r1,r2,p1,p2,hq⟩:=h
 cases rx;cases ry
 exact(agc I hu h1 h2 r1 r2 p1 p2).1 X.prog X.w X.xe _ ⟨.bl _,H,I,rfl,hq⟩
def ahq(neg:Bool)(x y:D)(h:Hd):R D:=match wk x h,wk y h with
 |some xs,some ys=>if xs.all (pur 59)=true/\ys.all (pur 59)=true then .ok (.bl (if neg then !a4r xs ys else a4r xs ys)) h else .no
 |_,_=>.no
theorem aka(neg:Bool):a00 K (ahq neg) (asn neg K):=by
 intro E ι H h x y dx dy Q rx ry hr o
 unfold ahq at o
 split at o
 ·rename_i xs ys e1 e2
  split at o
  ·rename_i hc;obtain⟨a,vs,rfl,h1,r1⟩:=a1d rx hr e1;obtain⟨b,us,rfl,h2,r2⟩:=a1d ry hr e2;exact⟨ι,a,b,vs,us,xs,ys,rfl,rfl,h1,h2,r1,r2,hc.1,hc.2,ans o (.bl _) hr⟩
  ·exact o.elim
 ·exact o.elim
end MI
namespace SETH
def it:Nat->Nat->Nat
 |0,x=>x
 |n+1,x=>it n (5*x+1)
theorem adc(m:Nat):∀(n x:Nat),it (n+m) x=it m (it n x)
 |0,x=>by rw[Nat.zero_add];rfl
 |n+1,x=>by rw[show n+1+m=(n+m)+1 by omega];exact adc m n _
theorem ahr:∀k:Nat,∃c,∀x,it (2^k) x=(4*(2^k*(2*c+1))+1)*x+2^k*(2*c+1)
 |0=>⟨0,λx=>by show 5*x+1=_;omega⟩
 |k+1=>by
  obtain⟨c,h⟩:=ahr k;refine⟨2*c*(2^k*(2*c+1))+c+2^k*(2*c+1),λx=>?_⟩;have e:2^(k+1)=2^k+2^k:=by rw[Nat.pow_succ];omega
  rw[e,adc,h,h]
  generalize 2^k=P
  grind
theorem full:∀(k x y:Nat),∃n,n<2^k/\it n x%2^k=y%2^k
 |0,x,y=>⟨0,by decide,by rw[Nat.pow_zero,Nat.mod_one,Nat.mod_one]⟩
 |k+1,x,y=>by
  obtain⟨n,hn,e⟩:=full k x y;obtain⟨c,h⟩:=ahr k;have hp:0<2^k:=Nat.pow_pos (by decide)
  rw[Nat.pow_succ]
  by_cases q:it n x / 2^k%2=y / 2^k%2
  ·exact⟨n,by omega,by rw[fq,fq,e,q]⟩
  ·refine⟨n+2^k,by omega,?_⟩
   rw[adc,h]
   generalize 2^k=P at *
   generalize it n x=z at *
   have:(4*(P*(2*c+1))+1)*z+P*(2*c+1)=(z+P)+P*2*(2*(2*c+1)*z+c):=by grind
   rw[this,Nat.add_mul_mod_self_left,fq,fq,Nat.add_mod_right,e,Nat.add_div_right _ hp]
   congr 2
   omega
def im(M:Nat):Nat->Nat->Nat
 |0,x=>x
 |n+1,x=>im M n ((x*5+1)%M)
theorem ao7(M:Nat):∀(n x:Nat),im M n x%M=it n x%M
 |0,x=>rfl
 |n+1,x=>by
  show im M n _%M=it n _%M;rw[ao7 M n];have:∀n a b,a%M=b%M->it n a%M=it n b%M:=by
   intro n
   induction n with
   |zero=>exact λa b h=>h
   |succ n ih=>exact λa b h=>ih _ _ (by rw[Nat.add_mod,Nat.mul_mod,h,<-Nat.mul_mod,<-Nat.add_mod])
  exact this n _ _ (by rw[Nat.mod_mod,Nat.mul_comm])
theorem ao8(hM:0<M):∀(n x:Nat),x<M->im M n x<M
 |0,x,h=>h
 |n+1,x,h=>ao8 hM n _ (Nat.mod_lt _ hM)
theorem akb(hx:x<2^k)(hy:y<2^k):∃n,n<2^k/\im (2^k) n x=y:=by
 obtain⟨n,hn,e⟩:=full k x y;refine⟨n,hn,?_⟩;rw[<-ao7,Nat.mod_eq_of_lt hy,Nat.mod_eq_of_lt (ao8 (by omega) n x hx)]at e
 exact e
open PySem.SetTable
def ls(mask:Nat):Nat->Nat×Nat->Nat×Nat
 |0,x=>x
 |n+1,x=>ls mask n (leap mask x.1 x.2)
theorem ahs(mask m:Nat):∀(n:Nat) (x:Nat×Nat),ls mask (n+m) x=ls mask m (ls mask n x)
 |0,x=>by rw[Nat.zero_add];rfl
 |n+1,x=>by rw[show n+1+m=(n+m)+1 by omega];exact ahs mask m n _
theorem a4u(mask:Nat):∀(n:Nat) (x:Nat×Nat),(ls mask n x).2=x.2 / 32^n
 |0,x=>by rw[Nat.pow_zero,Nat.div_one];rfl
 |n+1,x=>by
  show(ls mask n _).2=_;rw[a4u mask n,Nat.pow_succ,Nat.mul_comm,<-Nat.div_div_eq_div_mul];rfl
theorem ao9(mask:Nat):∀(n:Nat) (x:Nat×Nat),x.1<=mask->(ls mask n x).1<=mask
 |0,x,h=>h
 |n+1,x,h=>ao9 mask n _ (Nat.le_of_lt_succ (Nat.mod_lt _ (dv _)))
theorem aoa(mask:Nat):∀(n i:Nat),ls mask n (i,0)=(im (mask+1) n i,0)
 |0,i=>rfl
 |n+1,i=>by
  show ls mask n (leap mask i 0)=(im (mask+1) n _,0);rw[<-aoa mask n];rfl
theorem hit{mask k i p y:Nat}(hk:mask+1=2^k)(hi:i<=mask)(hp:p<2^64)(hy:y<=mask):∃m,m<mask+14/\(ls mask m (i,p)).1=y:=by
 have e:ls mask 13 (i,p)=((ls mask 13 (i,p)).1,0):=by
  refine Prod.ext rfl ?_;rw[a4u];show p / 32^13=0;exact Nat.div_eq_of_lt (by omega)
 have h13:=ao9 mask 13 (i,p) hi;obtain⟨n,hn,en⟩:=akb (k:=k) (x:=(ls mask 13 (i,p)).1) (y:=y) (by omega) (by omega)
 refine⟨13+n,by omega,?_⟩
 rw[ahs,e,aoa];show im (mask+1) n _=y;rw[hk];exact en
end SETH
namespace MI
open L2
def Bz(j:Int):Prop:=0<=j/\j<2^62
instance (j:Int):Decidable (Bz j):=by unfold Bz;exact inferInstance
end MI
namespace STP
open L2 MI
noncomputable def ug:SE :=
 (s2 (gIn false) (sV 0) (sV 1))
noncomputable def o8:SS :=
 (p7 (yc (sA km (aj (sV 1) (aj (sC (.ty "str")) bw))) (sA acl (aj (sZ (m5 (sIt (sV 1)) t1 ug [0])) bw))))
noncomputable def gq:SS :=
 (v5 (sML a5v (sV 6) (aj (s2 gIx (s2 gIx (sV 4) (s2 gIx (sV 6) (s1 a88 (sI 1)))) (sMS a3h (sV 3) (aj (sV 7) bw))) bw)))
noncomputable def j5:SS :=
 (dz (a6r (sV 0) (a4m 3 (jo (kN 3) (jo (kN 4) (jo (kN 5) a5q)))))
 (dz (j9 6 (sA a08 (aj (sV 1) bw)))
 (dz (a4o (sIt (sV 2)) (kN 7) gq)
 (p7 (sV 6)))))
noncomputable def a06:SS :=
 (dz (sIf (a2f (sV 1))
 (p7 (s2 gIs (sV 0) (sC (.bl true))))
 sNx)
 (p7 (s2 gIs (sV 0) (sC (.bl false)))))
end STP
namespace K35
open L2 MI
noncomputable def gq:SS :=
 (v5 (sML a5v (sV 6) (aj (s2 gIx (s2 gIx (sV 4) (s2 gIx (sV 6) (s1 a88 (sI 1)))) (sMS a3h (sV 3) (aj (sV 7) bw))) bw)))
noncomputable def j5:SS :=
 (dz (a6r (sV 0) (a4m 3 (jo (kN 3) (jo (kN 4) (jo (kN 5) a5q)))))
 (dz (j9 6 (sA a08 (aj (sV 1) bw)))
 (dz (a4o (sIt (sV 2)) (kN 7) gq)
 (p7 (sV 6)))))
noncomputable def mz(cj:SF):SS :=
 (sIf (sT (s2 hNe (s2 gIx (sV 3) (sV 6)) (s1 a88 (sI 1))))
 (j9 4 (sA uy (aj (s2 gIx (sV 3) (sV 6)) (aj (sV 5) bw))))
 sNx)
noncomputable def uz(cj:SF):SS :=
 (dz (j9 3 (s2 gIx (sV 0) (sI 2)))
 (dz (j9 4 (sC .non))
 (dz (a4o (a7n (sA (iz false 3 cj) (aj (sV 0) (aj (sI 0) (aj (a0n (sV 1) (oS (sV 2)) oN) bw)))) (sV 2)) (a4m 2 (jo (kN 5) (jo (kN 6) a5q))) (mz cj))
 (p7 (sV 4)))))
noncomputable def a1z(gw:SF):ST :=
 (sT (s2 a1y (sV 4) (sC .non)))
noncomputable def zr(gw:SF):SS :=
 (dz (v5 (sML a5v (sV 2) (aj (sA uy (aj (s2 gIx (sV 4) (sI 0)) (aj (sV 3) (aj (s2 gIx (sV 4) (sI 1)) bw)))) bw)))
 (dz (j9 3 (s2 gIx (sV 4) (sI 1)))
 (j9 4 (sA (iz false 3 gw) (aj (sV 0) (aj (sV 1) (aj (sV 3) bw)))))))
noncomputable def a1e(gw:SF):SS :=
 (dz (j9 2 (sA a08 bw))
 (dz (j9 3 (sI 0))
 (dz (j9 4 (sA (iz false 3 gw) (aj (sV 0) (aj (sV 1) (aj (sV 3) bw)))))
 (dz (sWh (a1z gw) (zr gw) 100000)
 (p7 (sA uy (aj (sV 2) (aj (sV 3) bw))))))))
end K35
namespace MI
open L2
abbrev S(l:List Nat):Str:=⟨l.toArray⟩
theorem a1q(l:List Nat):(S l).cps.toList=l:=by simp
theorem a8g(l:List Nat):(S l).length=l.length:=by simp[Str.length]
theorem agd(x:Str):S x.cps.toList=x:=by cases x;simp
theorem akc(a b:List Nat):S a++S b=S (a++b):=by rw[<-agd (S a++S b),ar7]
section
variable{h:Hd}{a b l:List Nat}{i:Nat}{c:Nat}
theorem arh(hl:l.length<=LINE)(e:l[i]? = some c):gIx (.str (S l)) (.int (i:Nat)) h=.ok (.str (S [c])) h:=by
 unfold gIx;simp only[a8g,aI hl,a1q,qw e]
theorem akd(hl:a.length+b.length<=LINE):gf (.str (S a)) (.str (S b)) h=.ok (.str (S (a++b))) h:=by
 unfold gf;simp only[a8g,aI hl,akc]
theorem ake(hl:l.length<=LINE):yz [.str (S l)] h=.ok (.int l.length) h:=by
 unfold yz;simp only[a8g,aI hl]
theorem aua(k:Nat)(hl:l.length<=LINE):a8c (.str (S l)) none (some (k:Int)) h=.ok (.str (S (l.take k))) h:=by
 show gSl (.str (S l)) none (some (k:Int)) h=_;unfold gSl;simp only[a8g,aI hl,a1q,a83]
theorem aht(k:Nat)(hl:l.length<=LINE):a8c (.str (S l)) (some (k:Int)) none h=.ok (.str (S (l.drop k))) h:=by
 show gSl (.str (S l)) (some (k:Int)) none h=_;unfold gSl;simp only[a8g,aI hl,a1q,a77]
end
section
variable{h:Hd}{i j:Int}{xs ys:List D}
theorem a2v:gIx (.tup xs) (.int i) h=(match atI xs i with|some d=>.ok d h|none=>.no):=rfl
theorem a7o:gIx (.rol xs) (.int i) h=(match atI xs i with|some d=>.ok d h|none=>.no):=rfl
theorem a4v:gIx (.ref k) (.int i) h=(match vo (.ref k) h with|some xs=>(match atI xs i with|some d=>.ok d h|none=>.no)|none=>.no):=rfl
theorem a1r:yz [.tup xs] h=.ok (.int xs.length) h:=rfl
theorem vf:yz [.rol xs] h=.ok (.int xs.length) h:=rfl
theorem a3p:yz [.ref k] h=(match vo (.ref k) h with|some xs=>.ok (.int xs.length) h|none=>.no):=rfl
theorem m9:gf (.int i) (.int j) h=.ok (.int (i+j)) h:=rfl
theorem a0p:a0l (.int i) (.int j) h=.ok (.int (i+j)) h:=rfl
open Classical in
theorem a2a:zb (.int i) (.int j) h=if CMul i j then .ok (.int (i*j)) h else .no:=by unfold zb;rfl
theorem ju(b:Bool):tru (.bl b) h=.ok b h:=rfl
theorem a6c:tru (.int i) h=.ok (i != 0) h:=rfl
theorem a6d:tru (.rol xs) h=.ok (!xs.isEmpty) h:=rfl
theorem a6e:tru (.tup xs) h=.ok (!xs.isEmpty) h:=rfl
theorem a6f:tru .non h=.ok false h:=rfl
theorem a6g:hEq (.int i) (.int j) h=.ok (.bl (i == j)) h:=rfl
theorem aal:hNe (.int i) (.int j) h=.ok (.bl (!(i == j))) h:=rfl
theorem age(a b:Bool):hEq (.bl a) (.bl b) h=.ok (.bl (a == b)) h:=rfl
theorem agf(a b:Bool):hNe (.bl a) (.bl b) h=.ok (.bl (!(a == b))) h:=rfl
theorem a9p(x:D):gIs x .non h=.ok (.bl (a2g x)) h:=by cases x<;>rfl
theorem uh(x:D):a1y x .non h=.ok (.bl (!a2g x)) h:=by cases x<;>rfl
theorem agg(a b:Bool):gIs (.bl a) (.bl b) h=.ok (.bl (a == b)) h:=rfl
theorem a2l(a b:Bool):a1y (.bl a) (.bl b) h=.ok (.bl (a != b)) h:=rfl
theorem aq3:a2g (.int i)=false:=rfl
theorem aq4(x:Str):a2g (.str x)=false:=rfl
theorem aq5:a2g .non=true:=rfl
theorem aq6:a2g (.tup xs)=false:=rfl
end
theorem ari(n:Nat):rng 0 n=(List.range n).map λi:Nat=>D.int (i:Nat):=by
 unfold rng;exact cY λi _=>by rw[Int.zero_add]
theorem arj(a:Int)(n:Nat):rng a n=(List.range n).map λi:Nat=>D.int (a+(i:Nat)):=rfl
theorem a8h(h:n<=LINE):B62 (n:Int):=by
 have:n<=16777216:=h
 unfold B62;omega
theorem aob(h:Hd)(z:n<=LINE):a0u [.int (n:Nat)] h=.ok ⟨(List.range n).map λi:Nat=>D.int (i:Nat),λ_=>True⟩ h:=by
 unfold a0u;simp only[a8h z,cQ,cW,ari]
theorem aoc(h:Hd)(za:a<=LINE)(z:n<=LINE):a4b [.int (a:Nat),.int (n:Nat)] h=.ok ⟨(List.range (n-a)).map λi:Nat=>D.int ((a+i:Nat)),λ_=>True⟩ h:=by
 unfold a4b;simp only[a8h z,a8h za,and_self,cQ,arj];rw[show((n:Int)-(a:Int)).toNat=n-a by omega]
 congr 2
theorem ark(e:f τ h=.ok d h):aj f bw τ h=.ok [d] h:=by unfold aj bw;rw[e];rfl
theorem a3q(e:f τ h=.ok c h)(e':g τ h=.ok d h):aj f (aj g bw) τ h=.ok [c,d] h:=by unfold aj;rw[e,bj,e',bj];rfl
theorem a8i(e:f τ h=.ok (.int (n:Nat)) h)(z:n<=LINE):sRg a0u (aj f bw) τ h=.ok ⟨(List.range n).map λi:Nat=>D.int (i:Nat),λ_=>True⟩ h:=by
 unfold sRg;rw[ark e,bj];exact aob h z
theorem ade(e':g τ h=.ok (.int (a:Nat)) h)(e:f τ h=.ok (.int (n:Nat)) h)(za:a<=LINE)(z:n<=LINE):sRg a4b (aj g (aj f bw)) τ h=.ok ⟨(List.range (n-a)).map λi:Nat=>D.int ((a+i:Nat)),λ_=>True⟩ h:=by
 unfold sRg;rw[a3q e' e,bj];exact aoc h za z
theorem bc(e:τ[i]? = some (some d)):sV i τ h=.ok d h:=by unfold sV;rw[e]
theorem xu{fi:SI}{t:D->Option Sd}{fe:SE}{ix:List Nat}{τ:Sd}{h:Hd}{α:Type}(g F:α->D)(xs:List α)(e:fi τ h=.ok ⟨xs.map g,λ_=>True⟩ h)(z:xs.length<=LINE)
  (st:∀x∈xs,a4c t fe (frs' ix τ) (g x) h=.ok (F x) h):m5 fi t fe ix τ h=.ok (.ref h.length) (h++[.lst (xs.map F)]):=by
 unfold m5;rw[e,bj];dsimp only;rw[aI (by rw[ai];exact z),a7m g F st]
 rfl
theorem yo(fe:SE)(r:Sd)(x:D)(h:Hd):a4c t1 fe r x h=fe (some x::r) h:=rfl
theorem agh(i:Nat)(ix:List Nat)(τ:Sd):frs' (i::ix) τ=(τ[i]?).join::frs' ix τ:=rfl
theorem akf(τ:Sd):frs' [] τ=[]:=rfl
section
variable{f k f1 f2 f3:SE}{c c1 c2:ST}{g p q:SS}{τ τ1:Sd}{h h1 h2 h3 h4:Hd}{a b d v:D}{i:Nat}{t u:Bool}
theorem aso(d:D)(τ:Sd)(h:Hd):sC d τ h=.ok d h:=rfl
theorem aub(e3:G [] h=.ok v h1):sA G bw τ h=.ok v h1:=e3
theorem uw(e1:f τ h=.ok a h1)(e3:G [a] h1=.ok v h2):sA G (aj f bw) τ h=.ok v h2:=by
 have:aj f bw τ h=.ok [a] h1:=by unfold aj;rw[e1];rfl
 unfold sA;rw[this,bj,e3]
theorem nq(e1:f τ h=.ok a h1)(e2:k τ h1=.ok b h2)(e3:G [a,b] h2=.ok v h3):sA G (aj f (aj k bw)) τ h=.ok v h3:=by
 have:aj f (aj k bw) τ h=.ok [a,b] h2:=by unfold aj;rw[e1,bj,e2];rfl
 unfold sA;rw[this,bj,e3]
theorem a4e(e0:f1 τ h=.ok d h1)(e1:f τ h1=.ok a h2)(e2:k τ h2=.ok b h3)(e3:G [d,a,b] h3=.ok v h4):sA G (aj f1 (aj f (aj k bw))) τ h=.ok v h4:=by
 have:aj f1 (aj f (aj k bw)) τ h=.ok [d,a,b] h3:=by unfold aj;rw[e0,bj,e1,bj,e2];rfl
 unfold sA;rw[this,bj,e3]
theorem nu(e:f τ h=.ok d h1):dz (j9 i f) g τ h=g (τ.set i (some d)) h1:=by
 rw[sr];unfold j9;rw[e];rfl
theorem aaw(e:f τ h=.ok d h1):j9 i f τ h=.nx (τ.set i (some d)) h1:=by
 unfold j9;rw[e];rfl
theorem qe(e:p τ h=.nx τ1 h1):dz p g τ h=g τ1 h1:=by rw[sr,e];rfl
theorem zc(e:p τ h=.rt d h1):dz p g τ h=.rt d h1:=by rw[sr,e];rfl
theorem ifT(e:c τ h=.ok true h1):sIf c p q τ h=p τ h1:=by unfold sIf;rw[e];rfl
theorem ifF(e:c τ h=.ok false h1):sIf c p q τ h=q τ h1:=by unfold sIf;rw[e];rfl
theorem ifN(e:c τ h=.ok false h1):dz (sIf c p sNx) g τ h=g τ h1:=by rw[sr,ifF e];rfl
theorem tof(e:f τ h=.ok (.bl t) h1):sT f τ h=.ok t h1:=by unfold sT;rw[e];rfl
theorem vp(e:f τ h=.ok d h1)(e':tru d h1=.ok t h2):a2f f τ h=.ok t h2:=by unfold a2f;rw[e,bj,e']
theorem ahu(e:c1 τ h=.ok true h1)(e':c2 τ h1=.ok t h2):a78 c1 c2 τ h=.ok t h2:=by unfold a78;rw[e,bj,aI rfl,e']
theorem aod(e:c1 τ h=.ok false h1):a78 c1 c2 τ h=.ok false h1:=by unfold a78;rw[e,bj,b9 (by simp)]
theorem orT(e:c1 τ h=.ok true h1):sOr c1 c2 τ h=.ok true h1:=by unfold sOr;rw[e,bj,aI rfl]
theorem orF(e:c1 τ h=.ok false h1)(e':c2 τ h1=.ok t h2):sOr c1 c2 τ h=.ok t h2:=by unfold sOr;rw[e,bj,b9 (by simp),e']
theorem aoe(e:c τ h=.ok t h1):a4k c τ h=.ok (!t) h1:=by unfold a4k;rw[e];rfl
theorem aam(e:c τ h=.ok true h1):a4k c τ h=.ok false h1:=aoe e
theorem akg(e:c τ h=.ok false h1):a4k c τ h=.ok true h1:=aoe e
theorem jg(e:f τ h=.ok d h1):p7 f τ h=.rt d h1:=by unfold p7;rw[e];rfl
theorem a8j(e:f τ h=.ok (.bl true) h1)(e':k τ h1=.ok d h2):yc f k τ h=.ok d h2:=by unfold yc;rw[e,bj];exact e'
theorem a1f(e1:f τ h=.ok d h1)(l:isL d h1=true)(e2:A τ h1=.ok ds h2)(e3:G d ds h2=.ok v h3):v5 (sML G f A) τ h=.nx τ h3:=by
 unfold v5 sML;rw[e1,bj,aI l,e2,bj,e3];rfl
theorem arl(e1:f τ h=.ok d h1)(l:isL d h1=true)(e2:A τ h1=.ok ds h2)(e3:G d ds h2=.ok v h3):sML G f A τ h=.ok v h3:=by
 unfold sML;rw[e1,bj,aI l,e2,bj,e3]
theorem arg1(e:f τ h=.ok d h1):aj f bw τ h=.ok [d] h1:=by unfold aj bw;rw[e];rfl
theorem jt(e1:f τ h=.ok a h1)(e2:k τ h1=.ok b h2)(e3:G a b h2=.ok v h3):s2 G f k τ h=.ok v h3:=by
 unfold s2;rw[e1,bj,e2,bj,e3]
theorem vg(e:τ[i]? = some (some a))(e3:G a d h=.ok v h3):s2 G (sV i) (sC d) τ h=.ok v h3:=jt (bc e) (aso _ _ _) e3
theorem ckk:sC d τ h=.ok d h:=rfl
theorem tvc(e:τ[i]? = some (some a))(e3:G a d h=.ok (.bl t) h3):sT (s2 G (sV i) (sC d)) τ h=.ok t h3:=tof (jt (bc e) (aso _ _ _) e3)
theorem t2s(e1:f τ h=.ok a h1)(e2:k τ h1=.ok b h2)(e3:G a b h2=.ok (.bl t) h3):sT (s2 G f k) τ h=.ok t h3:=tof (jt e1 e2 e3)
theorem ifr(e:c τ h=.ok true h1)(e2:f τ h1=.ok d h2):sIf c (p7 f) q τ h=.rt d h2:=af (ifT e) (jg e2)
theorem ets{rr:R D}(e:f τ h=.ok d h1)(e2:toR (g (τ.set i (some d)) h1)=rr):toR (dz (j9 i f) g τ h)=rr:=by rw[nu e,e2]
theorem eti{rr:R D}(e:c τ h=.ok false h1)(e2:toR (g τ h1)=rr):toR (dz (sIf c p sNx) g τ h)=rr:=by rw[ifN e,e2]
theorem etr{fa fb:Fl}{rr:R D}(e:fa=fb)(e2:toR fb=rr):toR fa=rr:=by rw[e,e2]
theorem aq7(e1:f τ h=.ok a h1)(e3:G a h1=.ok v h2):s1 G f τ h=.ok v h2:=by
 unfold s1;rw[e1,bj,e3]
theorem aog(ht:τ[i]? = some (some a))(e:f τ h=.ok b h1)(e2:G a b h1=.ok d h2):aen i G f τ h=.nx (τ.set i (some d)) h2:=by
 unfold aen;rw[ht];dsimp only;rw[e,zq,e2];rfl
theorem adf(e:f τ h=.ok d h1)(e2:G d τ h1=.nx τ1 h2):a6r f G τ h=.nx τ1 h2:=by
 unfold a6r;rw[e,zq,e2]
theorem akh(e1:f1 τ h=.ok v h1)(e2:f2 τ h1=.ok a h2)(e3:f3 τ h2=.ok b h3)(e4:put a b v h3=some h4):a93 f1 f2 f3 τ h=.nx τ h4:=by
 unfold a93;rw[e1,zq,e2,zq,e3,zq,e4]
theorem a6h{fi:SI}{G:SG}{b:SS}{xs:List D}{ck:Hd->Prop}(e:fi τ h=.ok ⟨xs,ck⟩ h1):dz (a4o fi G b) g τ h=thn (forL ck G b xs τ h1) g:=by
 rw[sr];unfold a4o;rw[e];rfl
theorem adg(e:f τ h=.ok d h1)(e2:afh d h1=.ok ⟨xs,ck⟩ h1):sIt f τ h=.ok ⟨xs,ck⟩ h1:=by
 unfold sIt;rw[e,bj,e2]
theorem a3r(e:h[i]? = some (.lst xs))(z:xs.length<LINE):a5v (.ref i) [a] h=.ok .non (h.set i (.lst (xs++[a]))):=by
 unfold a5v;simp only[e,aI z]
theorem aki(e:h[i]? = some (.lst xs))(hj:xs[j]? = some y)(z:xs.length<=LINE):a7d (.ref i) [.int (j:Nat)] h=.ok y (h.set i (.lst (xs.eraseIdx j))):=by
 have lt:j<xs.length:=(a7.mp hj).1;have:ixN xs.length (j:Int)=some j:=by unfold ixN;rw[aI (by omega),aI (by omega)];simp
 unfold a7d;simp only[e,this,hj,aI z]
theorem a1g(e:h[i]? = some (.lst xs))(hj:xs[j]? = some y):gIx (.ref i) (.int (j:Nat)) h=.ok y h:=by
 rw[a4v];unfold vo;simp only[e,qw hj]
theorem ald(hj:xs[j]? = some y):gIx (.rol xs) (.int (j:Nat)) h=.ok y h:=by
 rw[a7o];simp only[qw hj]
theorem a4f(hj:xs[j]? = some y):gIx (.tup xs) (.int (j:Nat)) h=.ok y h:=by
 rw[a2v];simp only[qw hj]
theorem a8k(e:h[i]? = some (.lst xs)):yz [.ref i] h=.ok (.int (xs.length:Nat)) h:=by
 rw[a3p];unfold vo;simp only[e]
theorem akj(e:h[i]? = some (.lst xs)):o6 [.ref i] h=.ok (.tup xs) h:=by
 unfold o6 vo;simp only[e]
theorem div_ii(c:0<y/\y<1073741824):a4d (.int x) (.int y) h=.ok (.int (x / y)) h:=by unfold a4d;exact aI c
theorem a4w(c:0<y):a1x (.int x) (.int y) h=.ok (.int (x%y)) h:=by unfold a1x;exact aI c
theorem asp(c:y<x):gGt (.int x) (.int y) h=.ok (.bl true) h:=by unfold gGt;simp only[c,decide_true]
theorem asq(c:¬ y<x):gGt (.int x) (.int y) h=.ok (.bl false) h:=by unfold gGt;simp only[c,decide_false]
theorem ahv(c:x<y):gLt (.int x) (.int y) h=.ok (.bl true) h:=by unfold gLt;simp only[c,decide_true]
theorem a7y(c:¬ x<y):gLt (.int x) (.int y) h=.ok (.bl false) h:=by unfold gLt;simp only[c,decide_false]
theorem wz(c:x=y):hEq (.int x) (.int y) h=.ok (.bl true) h:=by rw[a6g,c,bX]
theorem jh(c:¬ x=y):hEq (.int x) (.int y) h=.ok (.bl false) h:=by rw[a6g,bt.mpr c]
theorem agi(c:x=y):hNe (.int x) (.int y) h=.ok (.bl false) h:=by rw[aal,c,bX];rfl
theorem agj(c:¬ x=y):hNe (.int x) (.int y) h=.ok (.bl true) h:=by rw[aal,bt.mpr c];rfl
theorem agk(x:Int):a88 (.int x) h=.ok (.int (-x)) h:=rfl
theorem a3s(x y:Int):MI.a3y (.int x) (.int y) h=.ok (.int (x-y)) h:=rfl
theorem jc(h:n<=1000000):n<=LINE:=by show n<=16777216;omega
theorem a2b(h:n<=1000000):n<LINE:=by show n<16777216;omega
theorem aoh:MI.uy [a,b] h=.ok (.tup [a,b]) h:=by unfold MI.uy;rw[aI (jc (by simp))]
theorem aep:MI.uy [a,b,v] h=.ok (.tup [a,b,v]) h:=by unfold MI.uy;rw[aI (jc (by simp))]
end
end MI
namespace K55
open L2 MI
noncomputable def vh:SS :=
 (p7 (yc (sA km (aj (sV 0) (aj (sC (.ty "int")) bw))) (a79 (sA km (aj (sV 0) (aj (sC (.ty "bool")) bw))))))
noncomputable def a2m:SS :=
 (p7 (yc (sA km (aj (sV 0) (aj (sC (.ty "tuple")) bw))) (sCh gLe gLe (sV 1) (sA yz (aj (sV 0) bw)) (sV 2))))
noncomputable def w6(ji:SF)(pq:SF)(j8:SF):SE :=
 (sA (iz false 2 j8) (aj (sV 0) (aj (sV 1) bw)))
noncomputable def zu(ji:SF)(pq:SF)(j8:SF):SS :=
 (dz (sIf (a4k (a2f (sA km (aj (sV 1) (aj (sC (.ty "tuple")) bw)))))
 (p7 (yc (sA (iz false 1 ji) (aj (sV 0) bw)) (s2 hEq (sV 0) (sV 1))))
 sNx)
 (dz (sIf (a4k (a2f (sA (iz false 3 pq) (aj (sV 0) (aj (sA yz (aj (sV 1) bw)) (aj (sA yz (aj (sV 1) bw)) bw))))))
 (p7 (sC (.bl false)))
 sNx)
 (p7 (sA acl (aj (sZ (m5 (ajw (sV 0) (sV 1)) (tN 2) (w6 ji pq j8) [])) bw)))))
end K55
namespace L2
def adh:V->List V->Hp->VK->Prop:=λx vs H Q=>∃l xs i y,x=.ref l/\vs=[.int (i:Nat),y]/\H l=some (.lst xs)/\xs.length<sizeLine/\i<=xs.length/\Q .non (upd H l (.lst (xs.take i++y::xs.drop i)))
def adi(l:Addr)(its:Array Value)(n:Nat)(x:Int)(t:Tok)(u:Value)(h:Builtin.List.listFitsIndex x=true)(hz:its.size<=sizeLine):=AutoSeq1.list_insert_list_int_val_1 l its n x t u (by simp[h]) hz
theorem adk{X:Cx}:MtM X "list.insert" adh:=by
 intro aA s σ H x vs v us Q I rx rv h
 obtain⟨l,xs,i,y,rfl,rfl,hH,hz,hi,q⟩:=h;cases rx
 obtain⟨u1,u2,rfl,⟨t,rfl⟩,r2⟩:=rv.two;obtain⟨z,its,n,r,hl,e⟩:=I.lstM hH;have sz:its.toArray.size<=sizeLine:=by rw[ae];omega
 have I2:∀(f:Array Value->Array Value),f its.toArray=(its.take i++u2::its.drop i).toArray->Inv X aA σ (upd H l (.lst (xs.take i++y::xs.drop i))) {s with heap:=s.heap.update l (Obj.mapSeq f),toks:=s.toks}:=λf hf =>
  I.lset hH e hf ((r.take i).append (.cons r2 (r.drop i))) (by simp;omega)
 have hs:=dk;obtain⟨x,hx⟩:∃x:Int,x=i:=⟨_,rfl⟩;rw[<-hx];have hf:Builtin.List.listFitsIndex x=true:=by
  unfold Builtin.List.listFitsIndex;simp only[bI,decide_eq_true_eq];omega
 refine cZ F.slot_list_insert ⟨_,e,rfl⟩ F.entry_list_insert (F.args_list_insert_3 _ _ _) (adi l its.toArray n x t u2 hf sz) ⟨e,?_⟩;refine⟨.non,_,I2 _ ?_,rfl,q⟩;have m:min i its.length=i:=eY (by omega)
 subst hx;simp[m,show ¬ ((i:Int)<0) by omega]
 exact aZ (by simp)
end L2
namespace MI
open L2
def aq8:D->List D->Hd->R D
 |.ref a,[.int (.ofNat i),y],h=>(match h[a]? with|some (.lst xs)=>if xs.length<LINE/\i<=xs.length then .ok .non (h.set a (.lst (xs.take i++y::xs.drop i))) else .no|_=>.no)
 |_,_,_=>.no
theorem akk:afm K aq8 adh:=by
 intro E ι H h x dx xs ds Q rx r hr o
 unfold aq8 at o
 split at o
 ·rename_i a i y
  cases rx with
  |@ref p _ hp =>
   cases r with
   |cons r1 rs =>
    cases r1
    cases rs with
    |cons r2 rs =>
     cases rs
     split at o
     ·rename_i xs hx;obtain⟨vs,h3,h4⟩:=hr.lst hp hx
      split at o
      ·rename_i hc;exact⟨p,vs,i,_,rfl,rfl,h3,by rw[h4.len,aj3];exact hc.1,by rw[h4.len];exact hc.2,a87 ((h4.take i).app (.cons r2 (h4.drop i))) hr hp .non o⟩
      ·exact o.elim
     ·exact o.elim
 ·exact o.elim
end MI
namespace L2
def adl(x:V)(lo hi:Option Int)(y:V)(H:Hp)(Q:Hp->Prop):Prop:=∃(l b:Addr) (xs ys:List V) (a c:Nat),x=.ref l/\y=.ref b/\lo=some (a:Int)/\hi=some (c:Int)/\H l=some (.lst xs)/\H b=some (.lst ys)/\l≠b/\a<=c/\c<=xs.length/\xs.length+ys.length<=sizeLine/\Q (upd H l (.lst (xs.take a++ys++xs.drop c)))
theorem aoi{X:Cx}{Q:Hp->Prop}(I:Inv X aA σ H s)(rx:RelV x ov)(ry:RelV y yv)(hs:s.heap.IsSliceOf sl vl vu .none)(pl:IsPart vl lo)(pu:IsPart vu hi)(h:adl x lo hi y H Q) :
  wpAny (model X.prog X.w) X.A (setItem ov (.ref sl) yv) (λ_ s'=>∃H',Inv X aA σ H' s'/\Q H') X.xe s:=by
 obtain⟨l,b,xs,ys,a,c,rfl,rfl,rfl,rfl,h1,h2,hne,hac,hc,hz,q⟩:=h
 cases rx;cases ry
 obtain⟨z,its,n,r,hl,e⟩:=I.lstM h1;obtain⟨z2,its2,n2,r2,hl2,e2⟩:=I.lstM h2;refine a5k (a:=a) (c:=c) e e2 hne hs pl pu hac (by rw[ae];omega) (by rw[ae,ae];omega) ⟨_,?_,q⟩
 refine I.lset (its':=its.take a++its2++its.drop c) (t':=s.toks) h1 e ?_ (Vals.append (Vals.append (r.take _) r2) (r.drop _)) ?_
 ·exact abo its its2 a c
 ·rw[ah,ah,bP,bW];omega
theorem akl{X:Cx}{o:Expr}{lo hi:Option Expr}{to:TE}{tl th:TO}(ho:PE X o to)(hl:PO X lo tl)(hu:PO X hi th)
  (ha:∀v,assign (.Subscript o (.Slice lo hi none p2) pos) X.env v=(do
   let ov <-holding [v] (eval o X.env)
   let iv <-holding [v,ov] (eval (.Slice lo hi none p2) X.env)
   standAt pos
   holding [v,ov,iv] (setItem ov iv v)
   release [iv,v,ov] []):=by intro _;rfl):PG X (.Subscript o (.Slice lo hi none p2) pos) (λv σ H Q=>to σ H λx H1=>tl σ H1 λl H2=>th σ H2 λu H3=>adl x l u v H3 λH4=>Q σ H4):=by
 intro aA s σ H v u Q I r h
 rw[ha];refine a9 (cw (thn (ho aA s σ H _ I h) λov s1 ⟨x,H1,I1,r1,q1⟩=>?_));refine a9 (cw (wpAny_Slice (thn (hl aA s1 σ H1 _ I1 q1) λvl s2 ⟨l,H2,I2,pl,q2⟩=>thn (hu aA s2 σ H2 _ I2 q2) λvu s3 ⟨u',H3,I3,pu,q3⟩=>?_)));rw[evalPart_none];refine aJ ?_;have I4:Inv X aA σ H3 {s3 with heap:=s3.heap.push {cls:=.type "slice",data:=.fields #[vl,vu,.none]} }:=I3.kept (t':=s3.toks) λb ob q=>a8 _ q
 refine a9 (dC (a9 (cw (thn (aoi I4 r1 r (Heap.IsSliceOf.new ..) pl pu q3) λ_ s4 ⟨H5,I5,q5⟩=>?_))));exact wpAny_release ⟨σ,H5,I5,q5⟩
end L2
namespace MI
open L2
def a8l(o:D)(lo hi:Option Int)(v:D)(h:Hd):Option Hd:=match o,lo,hi,v with
 |.ref i,some (.ofNat a),some (.ofNat c),.ref j=>match h[i]?,h[j]? with
  |some (.lst xs),some (.lst ys)=>if i≠j/\a<=c/\c<=xs.length/\xs.length+ys.length<=LINE then some (h.set i (.lst (xs.take a++ys++xs.drop c))) else none
  |_,_=>none
 |_,_,_,_=>none
theorem akm{ι:List Addr}(nd:ι.Nodup){i j:Nat}{a:Addr}(h1:ι[i]? = some a)(h2:ι[j]? = some a):i=j:=by
 obtain⟨l1,g1⟩:=a7.mp h1;obtain⟨l2,g2⟩:=a7.mp h2;have np:=bV.mp nd
 rcases Nat.lt_trichotomy i j with l|l|l
 ·exact absurd (g1.trans g2.symm) (np i j l1 l2 l)
 ·exact l
 ·exact absurd (g2.trans g1.symm) (np j i l2 l1 l)
theorem adm{K:Fg}{ι:List Addr}{H:Hp}{h h':Hd}{o v:V}{od vd:D}{lo hi:Option Int}{Q:Hp->Prop}(r1:Rep K ι H o od)(r3:Rep K ι H v vd)(hr:HRep K ι H h)(e:a8l od lo hi vd h=some h')
  (q:∀H',Gr ι H ι H'->HRep K ι H' h'->Q H'):adl o lo hi v H Q:=by
 unfold a8l at e
 split at e
 ·rename_i i a c j
  split at e
  ·rename_i xs ys e1 e2
   split at e
   ·rename_i hc;cases e
    cases r1 with
    |@ref p _ hp =>
     cases r3 with
     |@ref p2 _ hp2 =>
      obtain⟨vs,h3,h4⟩:=hr.lst hp e1;obtain⟨us,h5,h6⟩:=hr.lst hp2 e2;exact⟨p,p2,vs,us,a,c,rfl,rfl,rfl,rfl,h3,h5,λz=>hc.1 (by subst z;exact akm hr.nd hp hp2),hc.2.1,by rw[h4.len];exact hc.2.2.1,by rw[h4.len,h6.len,aj3];exact hc.2.2.2,
       q _ (a1v hr hp _) (hr.put hp ⟨_,p6,(((h4.take a).app h6).app (h4.drop c)).mono (a1v hr hp _)⟩)⟩
   ·cases e
  ·cases e
 ·cases e
def a7p(fe fo:SE)(l u:SO):SS:=λτ h=>(fe τ h).fl λv h1=>(fo τ h1).fl λo h2=>(l τ h2).fl λlo h3=>(u τ h3).fl λhi h4=>match a8l o lo hi v h4 with|some h5=>.nx τ h5|none=>.no
theorem a9q{X:Cx}(he:ME X E e fa)(ho:ME X E o fb)(hl:MO X E lo l)(hu:MO X E hi u)
  (hs:swapsWithSole [.Subscript o (.Slice lo hi none p2) pos'] e pos.line X.env=pure false:=by rfl) (hw:swappedStores [.Subscript o (.Slice lo hi none p2) pos'] e X.env=pure none:=by rfl)
  (h1:(assignEach [.Subscript o (.Slice lo hi none p2) pos'] X.env).map (·.2)=[assign (.Subscript o (.Slice lo hi none p2) pos') X.env]:=by rfl)
  (ha:∀v,assign (.Subscript o (.Slice lo hi none p2) pos') X.env v=(do
   let ov <-holding [v] (eval o X.env)
   let iv <-holding [v,ov] (eval (.Slice lo hi none p2) X.env)
   standAt pos'
   holding [v,ov,iv] (setItem ov iv v)
   release [iv,v,ov] []):=by intro _;rfl):MS X E (.Assign [.Subscript o (.Slice lo hi none p2) pos'] e pos) (a7p fa fb l u):=by
 refine PS.weak (ab1 he (akl ho hl hu ha) hs hw h1) ?_
 rintro N σ H ⟨ι,τ,h,S,Rh,oo⟩
 refine⟨ι,τ,h,S,Rh,n8 oo λd h1 ι1 H1 v g1 r1 hr1 o1=>?_⟩;refine⟨ι1,τ,h1,S.mono g1,hr1,n8 o1 λd2 h2 ι2 H2 u g2 r2 hr2 o2=>?_⟩;refine⟨ι2,τ,h2,(S.mono g1).mono g2,hr2,n8 o2 λd3 h3 ι3 H3 w g3 r3 hr3 o3=>?_⟩;refine⟨ι3,τ,h3,((S.mono g1).mono g2).mono g3,hr3,n8 o3 λd4 h4 ι4 H4 w4 g4 r4 hr4 o4=>?_⟩
 cases r3;cases r4
 cases hp:a8l d2 d3 d4 d h4 with
 |none=>rw[hp]at o4;exact o4.elim
 |some h5 =>
  rw[hp]at o4;exact adm ((r2.mono g3).mono g4) (((r1.mono g2).mono g3).mono g4) hr4 hp λH' g5 hr5=>o4 ι4 H' σ g5 (((((S.mono g1).mono g2).mono g3).mono g4).mono g5) hr5
end MI
namespace MI
open L2 SeqAt
def sq:Nat->D->Bool
 |_,.non=>true
 |_,.bl _=>true
 |_,.int _=>true
 |_,.str _=>true
 |n+1,.tup xs=>xs.all (sq n)
 |n+1,.rol xs=>xs.all (sq n)
 |_,.rod [] []=>true
 |_,_=>false
theorem aan{P P':Program}{w w':World}{h:Heap}{a:Addr}{kvs:List (Key×V)}{vs:List (Key×Value)}(e:kvs=[])(r:KV kvs vs)(d:h.DictOf (a0f P w) a vs):h.DictOf (a0f P' w') a []:=by
 subst e;cases r
 obtain⟨o,es,ep,ho,hx,hd,hk,hp,hn⟩:=d;have e0:es.toList=[]:=by generalize es.toList=l at hp;cases hp;rfl
 have e1:es = #[]:=by cases es;simp at e0;subst e0;rfl
 subst e1;exact⟨o, #[],ep,ho,hx,hd,λe he=>by simp at he,.nil,hn⟩
theorem a6i{s:Shared}{A:Around}{vs us:List V}{ds:List D}{its its2:List Value}(rs:Reps K ι H vs ds)(qs:Reps K ι H us ds)(r1:Vals vs its)(r2:Vals us its2)
  (h:∀{x y:V} {u v:Value} {d:D},d∈ds->Rep K ι H x d->Rep K ι H y d->RelV x u->RelV y v->EqAt A s u v true) :
  its.toArray.size=its2.toArray.size/\∀j (h1:j<its.toArray.size) (h2:j<its2.toArray.size),EqAt A s its.toArray[j] its2.toArray[j] true:=by
 have l1:its.toArray.size=ds.length:=by rw[ae,<-r1.length,rs.len]
 have l2:its2.toArray.size=ds.length:=by rw[ae,<-r2.length,qs.len]
 refine⟨l1.trans l2.symm,λj h1 h2=>?_⟩;have j1:j<ds.length:=by omega
 obtain⟨v1,e1,q1⟩:=rs.get (a6 j1);obtain⟨v2,e2,q2⟩:=qs.get (a6 j1);obtain⟨u1,e3,q3⟩:=r1.get e1;obtain⟨u2,e4,q4⟩:=r2.get e2;have f1:its.toArray[j]=u1:=by simpa using (a7.mp e3).2
 have f2:its2.toArray[j]=u2:=by simpa using (a7.mp e4).2
 rw[f1,f2];exact h (aU j1) q1 q2 q3 q4
theorem aq9(n:Nat):((List.range n).all λ_=>true)=true:=by simp
theorem ahw{s:Shared}(hok:HOk P w H s.heap):∀(n:Nat) (A:Around) {x y:V} {u v:Value} {d:D},Rep K ι H x d->Rep K ι H y d->RelV x u->RelV y v->sq n d=true->A.units+n<cLine->EqAt A s u v true:=by
 intro n
 induction n with
 |zero =>
  intro A x y u v d r q rx ry hs hu
  cases r with
  |non=>cases q;cases rx;cases ry;exact EqAt.same _
  |bl b=>cases q;cases rx;cases ry;exact EqAt.same _
  |int i=>cases q;obtain⟨t,rfl⟩:=rx;obtain⟨t',rfl⟩:=ry;simpa using EqAt.int_int i t i t' (A:=A) (s:=s)
  |str i=>cases q;obtain⟨t,rfl⟩:=rx;obtain⟨t',rfl⟩:=ry;simpa using EqAt.str_str i t i t' (A:=A) (s:=s)
  |@rod a o us ks xs ha e rs =>
   cases q with
   |@rod b o2 us2 _ _ hb e2 rs2 =>
    cases ks with
    |cons _ _=>cases hs
    |nil =>
     have z1:us=[]:=by simpa using e
     have z2:us2=[]:=by simpa using e2
     cases rx;cases ry
     by_cases hab:a=b
     ·subst hab;exact EqAt.same _
     ·refine EqAt.of_refs hab λprog w' E Q h=>?_;obtain⟨_,n1,vs1,k1,d1⟩:=(show Rd H a (.dK us) from .inr ⟨_,ha⟩).ok hok
      obtain⟨_,n2,vs2,k2,d2⟩:=(show Rd H b (.dK us2) from .inr ⟨_,hb⟩).ok hok
      exact PySem.W.keq_eq n1 n2 (aan (P':=prog) (w':=w') z1 k1 d1) (aan z2 k2 d2) (by omega) (λ_=>.nil) h
  |_=>cases hs
 |succ n ih =>
  intro A x y u v d r q rx ry hs hu
  cases r with
  |non=>cases q;cases rx;cases ry;exact EqAt.same _
  |bl b=>cases q;cases rx;cases ry;exact EqAt.same _
  |int i=>cases q;obtain⟨t,rfl⟩:=rx;obtain⟨t',rfl⟩:=ry;simpa using EqAt.int_int i t i t' (A:=A) (s:=s)
  |str i=>cases q;obtain⟨t,rfl⟩:=rx;obtain⟨t',rfl⟩:=ry;simpa using EqAt.str_str i t i t' (A:=A) (s:=s)
  |@tup a vs ds ha rs =>
   cases q with
   |@tup b us _ hb qs =>
    cases rx;cases ry
    by_cases hab:a=b
    ·subst hab;exact EqAt.same _
    ·obtain⟨_,its,r1,t1⟩:=(Rd.of ha).ok hok;obtain⟨_,its2,r2,t2⟩:=(Rd.of hb).ok hok;simp only[sq,aO]at hs;obtain⟨l,st⟩:=a6i (A:=A.in1) rs qs r1 r2 λhd q1 q2 q3 q4=>ih A.in1 q1 q2 q3 q4 (hs _ hd) (by rw[cv];omega)
     have c:=RcAt.tuples (A:=A) (s:=s) (e:=λ_=>true) t1 t2 (by omega) st
     rw[aq9,l,bX]at c;exact EqAt.of_refs hab c
  |@rol a vs ds ha rs =>
   cases q with
   |@rol b us _ hb qs =>
    cases rx;cases ry
    by_cases hab:a=b
    ·subst hab;exact EqAt.same _
    ·obtain⟨o1,ha⟩:=ha;obtain⟨o2,hb⟩:=hb;obtain⟨_,its,n1,r1,e1⟩:=(show Rd H a (.lst vs) from .inr ⟨_,ha⟩).ok hok
     obtain⟨_,its2,n2,r2,e2⟩:=(show Rd H b (.lst us) from .inr ⟨_,hb⟩).ok hok
     simp only[sq,aO]at hs;obtain⟨l,st⟩:=a6i (A:=A.in1) rs qs r1 r2 λhd q1 q2 q3 q4=>ih A.in1 q1 q2 q3 q4 (hs _ hd) (by rw[cv];omega)
     have c:=RcAt.lists (A:=A) (s:=s) (e:=λ_=>true) (cO e1) (cO e2) l (by omega) st
     rw[aq9]at c;exact EqAt.of_refs hab c
  |@rod a o us ks xs ha e rs =>
   cases q with
   |@rod b o2 us2 _ _ hb e2 rs2 =>
    cases ks with
    |cons _ _=>cases hs
    |nil =>
     have z1:us=[]:=by simpa using e
     have z2:us2=[]:=by simpa using e2
     cases rx;cases ry
     by_cases hab:a=b
     ·subst hab;exact EqAt.same _
     ·refine EqAt.of_refs hab λprog w' E Q h=>?_;obtain⟨_,n1,vs1,k1,d1⟩:=(show Rd H a (.dK us) from .inr ⟨_,ha⟩).ok hok
      obtain⟨_,n2,vs2,k2,d2⟩:=(show Rd H b (.dK us2) from .inr ⟨_,hb⟩).ok hok
      exact PySem.W.keq_eq n1 n2 (aan (P':=prog) (w':=w') z1 k1 d1) (aan z2 k2 d2) (by omega) (λ_=>.nil) h
  |_=>cases hs
def sqT:D->Bool
 |.rol xs=>xs.all (sq 50)
 |.rod [] []=>true
 |.non=>true
 |.str _=>true
 |.tup xs=>xs.all (sq 50)
 |_=>false
theorem aud{s:Shared}(hok:HOk P w H s.heap){A:Around}{x y:V}{u v:Value}{d:D}(r:Rep K ι H x d)(q:Rep K ι H y d)(rx:RelV x u)(ry:RelV y v)(hs:sqT d=true)(hu:A.units+64<cLine):RcNeAt A s u v false:=by
 cases r with
 |non=>cases q;cases rx;cases ry;exact RcNeAt.none_none
 |str i=>cases q;obtain⟨t,rfl⟩:=rx;obtain⟨t',rfl⟩:=ry;simpa using RcNeAt.str_str i t i t' (A:=A) (s:=s)
 |@tup a vs ds ha rs =>
  cases q with
  |@tup b us _ hb qs =>
   cases rx;cases ry
   obtain⟨_,its,r1,t1⟩:=(Rd.of ha).ok hok;obtain⟨_,its2,r2,t2⟩:=(Rd.of hb).ok hok;simp only[sqT,aO]at hs;obtain⟨l,st⟩:=a6i (A:=A.in1) rs qs r1 r2 λhd q1 q2 q3 q4=>ahw hok 50 A.in1 q1 q2 q3 q4 (hs _ hd) (by rw[cv];omega)
   have c:=RcNeAt.tuples (A:=A) (s:=s) (e:=λ_=>true) t1 t2 (by omega) st
   rw[aq9,l,bX]at c;exact c
 |@rol a vs ds ha rs =>
  cases q with
  |@rol b us _ hb qs =>
   cases rx;cases ry
   obtain⟨o1,ha⟩:=ha;obtain⟨o2,hb⟩:=hb;obtain⟨_,its,n1,r1,e1⟩:=(show Rd H a (.lst vs) from .inr ⟨_,ha⟩).ok hok
   obtain⟨_,its2,n2,r2,e2⟩:=(show Rd H b (.lst us) from .inr ⟨_,hb⟩).ok hok
   simp only[sqT,aO]at hs;obtain⟨l,st⟩:=a6i (A:=A.in1) rs qs r1 r2 λhd q1 q2 q3 q4=>ahw hok 50 A.in1 q1 q2 q3 q4 (hs _ hd) (by rw[cv];omega)
   have c:=RcNeAt.lists (A:=A) (s:=s) (e:=λ_=>true) (cO e1) (cO e2) l (by omega) st
   rw[aq9]at c;exact c
 |@rod a o us ks xs ha e rs =>
  cases q with
  |@rod b o2 us2 _ _ hb e2 rs2 =>
   cases ks with
   |cons _ _=>cases hs
   |nil =>
    have z1:us=[]:=by simpa using e
    have z2:us2=[]:=by simpa using e2
    cases rx;cases ry
    intro prog w' E Q h
    obtain⟨_,n1,vs1,k1,d1⟩:=(show Rd H a (.dK us) from .inr ⟨_,ha⟩).ok hok
    obtain⟨_,n2,vs2,k2,d2⟩:=(show Rd H b (.dK us2) from .inr ⟨_,hb⟩).ok hok
    exact PySem.W.keq_ne n1 n2 (aan (P':=prog) (w':=w') z1 k1 d1) (aan z2 k2 d2) (by omega) (λ_=>.nil) h
 |_=>cases hs
def asr(K:Fg):R2:=λx y H Q=>∃ι d,Rep K ι H x d/\Rep K ι H y d/\sqT d=true/\Q (.bl false) H
theorem aoj{X:Cx}(hu:X.A.units+64<cLine):OpR X (compareOp .NotEq) (asr X.K):=by
 intro aA s σ H x y v u Q I rx ry h
 obtain⟨ι,d,r1,r2,p,hq⟩:=h;exact aud I.hok r1 r2 rx ry p hu X.prog X.w X.xe _ ⟨.bl _,H,I,rfl,hq⟩
open Classical in
noncomputable def ale(x y:D)(h:Hd):R D:=if x=y/\sqT x=true then .ok (.bl false) h else .no
theorem akn:a00 K ale (asr K):=by
 intro E ι H h x y dx dy Q rx ry hr o
 unfold ale at o
 split at o
 ·rename_i hc;obtain⟨rfl,hc⟩:=hc;exact⟨ι,dx,rx,ry,hc,ans o (.bl _) hr⟩
 ·exact o.elim
end MI
namespace K36
open L2 MI
noncomputable def ux(jr:SF):SS :=
 (dz (sIf (a4k (a2f (sA (iz false 2 jr) (aj (sV 0) (aj (sV 1) bw)))))
 ajy
 sNx)
 (p7 (sV 1)))
noncomputable def a9r(g8:SF)(iy:SF):ST :=
 (sT (s2 a1y (sV 4) (sC .non)))
noncomputable def a6j(g8:SF)(iy:SF):SS :=
 (dz (a6r (sV 4) (a4m 2 (jo (kN 5) (jo (kN 6) a5q))))
 (dz (v5 (sML a5v (sV 2) (aj (sA uy (aj (sV 5) (aj (sV 3) (aj (sV 6) bw)))) bw)))
 (dz (j9 3 (sV 6))
 (j9 4 (sA (iz false 3 iy) (aj (sV 0) (aj (sV 1) (aj (sV 3) bw))))))))
noncomputable def agl(g8:SF)(iy:SF):SS :=
 (dz (v5 (sA (iz false 2 g8) (aj (s2 gIx (sV 0) (sI 0)) (aj (sV 1) bw))))
 (dz (j9 2 (sA a08 bw))
 (dz (j9 3 (sI 0))
 (dz (j9 4 (sA (iz false 3 iy) (aj (sV 0) (aj (sV 1) (aj (sV 3) bw)))))
 (dz (sWh (a9r g8 iy) (a6j g8 iy) 100000)
 (p7 (sA uy (aj (sV 2) (aj (sV 3) bw)))))))))
noncomputable def yp(a6p:SF)(j8:SF):SS :=
 (dz (a6r (sA (iz false 2 a6p) (aj (sV 0) (aj (sV 1) bw))) (a4m 2 (jo (kN 4) (jo (kN 5) a5q))))
 (p7 (yc (sA km (aj (sV 2) (aj (sC (.ty "list")) bw))) (yc (sA (iz false 2 j8) (aj (sA o6 (aj (sV 2) bw)) (aj (sA o6 (aj (sV 4) bw)) bw))) (sA (iz false 2 j8) (aj (sV 3) (aj (sV 5) bw)))))))
noncomputable def ul(ak:SF):SE :=
 (sV 0)
noncomputable def dq(ak:SF):SS :=
 (dz (j9 3 (sA (iz false 2 ak) (aj (sV 0) (aj (sI 3) bw))))
 (dz (sIf (sT (s2 hEq (sV 2) (sI 0)))
 (p7 (s2 gf (s2 gf (a0n (sV 1) oN (oS (sV 3))) (sA uy (aj (s2 gf (s2 gIx (sV 1) (sV 3)) (sI 1)) bw))) (a0n (sV 1) (oS (s2 gf (sV 3) (sI 1))) oN)))
 sNx)
 (dz (sIf (sT (s2 hEq (sV 2) (sI 1)))
 (p7 (s2 gf (s2 gf (a0n (sV 1) oN (oS (sV 3))) (sA uy (aj (s2 a3y (s2 gIx (sV 1) (sV 3)) (sI 1)) bw))) (a0n (sV 1) (oS (s2 gf (sV 3) (sI 1))) oN)))
 sNx)
 (dz (sIf (sT (s2 hEq (sV 2) (sI 2)))
 (p7 (s2 gf (s2 gf (a0n (sV 1) oN (oS (sV 3))) (sA uy (aj (s2 hEq (s2 gIx (sV 1) (sV 3)) (sI 1)) bw))) (a0n (sV 1) (oS (s2 gf (sV 3) (sI 1))) oN)))
 sNx)
 (dz (sIf (sT (s2 hEq (sV 2) (sI 3)))
 (p7 (s2 gf (s2 gf (a0n (sV 1) oN (oS (sV 3))) (sA uy (aj (s2 gIx (sA uy (aj (sC .non) (aj (sZ (sA a08 (aj (s2 gIx (sV 1) (sV 3)) bw))) (aj (sZ aco) bw)))) (sA (iz false 2 ak) (aj (sV 0) (aj (sI 3) bw)))) bw))) (a0n (sV 1) (oS (s2 gf (sV 3) (sI 1))) oN)))
 sNx)
 (dz (sIf (sT (s2 hEq (sV 2) (sI 4)))
 (p7 (s2 gf (sV 1) (sA uy (aj (sI 0) bw))))
 sNx)
 (dz (sIf (sT (s2 hEq (sV 2) (sI 5)))
 (p7 (m5 (sIt (sV 1)) t1 (ul ak) []))
 sNx)
 (p7 (s2 gIx (sA uy (aj (a0n (sV 1) oN (oS (sI 2))) (aj (sC .non) (aj (sI 7) bw)))) (sV 3))))))))))
noncomputable def bx(ak:SF)(dj:SF):SS :=
 (dz (j9 3 (sA uv (aj (sV 1) bw)))
 (dz (j9 4 (sA (iz false 2 ak) (aj (sV 0) (aj (sA a5t (aj (sI 1) (aj (sA yz (aj (sV 3) bw)) bw))) bw))))
 (dz (sIf (sOr (sT (s2 hEq (sV 2) (sI 12))) (sT (s2 (ahq false) (sV 3) (sZ (sA a08 bw)))))
 (p7 (s2 gf (sV 3) (sZ (sA a08 (aj (sA uy (aj (sI 0) (aj (sI 0) (aj (sI 1) bw)))) bw)))))
 sNx)
 (dz (sIf (sT (s2 gLt (sV 2) (sI 7)))
 (a93 (sA (iz false 3 dj) (aj (sV 0) (aj (s2 gIx (sV 3) (sV 4)) (aj (sV 2) bw)))) (sV 3) (sV 4))
 (sIf (sT (s2 hEq (sV 2) (sI 7)))
 (v5 (sML a7d (sV 3) (aj (sV 4) bw)))
 (sIf (sT (s2 hEq (sV 2) (sI 8)))
 (v5 (sML aq8 (sV 3) (aj (sV 4) (aj (s2 gIx (sV 3) (sV 4)) bw))))
 (sIf (sT (s2 hEq (sV 2) (sI 9)))
 (dz (a6r (s2 gIx (sV 3) (sV 4)) (a4m 3 (jo (kN 5) (jo (kN 6) (jo (kN 7) a5q)))))
 (a7p (sA a08 (aj (sA uy (aj (sV 5) (aj (sV 6) (aj (s2 gf (sV 6) (s2 a4d (s2 a3y (sV 7) (sV 6)) (sI 2))) bw)))) (aj (sA uy (aj (sV 5) (aj (s2 gf (sV 6) (s2 a4d (s2 a3y (sV 7) (sV 6)) (sI 2))) (aj (sV 7) bw)))) bw))) (sV 3) (oS (sV 4)) (oS (s2 gf (sV 4) (sI 1)))))
 (sIf (a78 (sT (s2 hEq (sV 2) (sI 10))) (sT (s2 gLt (s2 gf (sV 4) (sI 1)) (sA yz (aj (sV 3) bw)))))
 (a7p (sA a08 (aj (sA uy (aj (s2 gIx (s2 gIx (sV 3) (sV 4)) (sI 0)) (aj (s2 gIx (s2 gIx (sV 3) (sV 4)) (sI 1)) (aj (s2 gIx (s2 gIx (sV 3) (s2 gf (sV 4) (sI 1))) (sI 2)) bw)))) bw)) (sV 3) (oS (sV 4)) (oS (s2 gf (sV 4) (sI 2))))
 (sIf (sT (s2 hEq (sV 2) (sI 11)))
 (p7 (sA o6 (aj (sV 3) bw)))
 sNx))))))
 (p7 (sV 3))))))
noncomputable def o9(dw:SF):SS :=
 (sIf (sOr (a4k (a2f (sA (iz false 2 dw) (aj (s2 gIx (sV 0) (sV 3)) (aj (sI 3) bw))))) (sT (s2 hNe (s2 gIx (sV 0) (sV 3)) (s2 gIx (s2 gIx (sV 2) (sI 0)) (sV 3)))))
 (p7 (sC (.bl false)))
 sNx)
noncomputable def yq(dw:SF):SS :=
 (dz (sIf (sOr (a4k (a2f (sA (iz false 2 dw) (aj (sA uy (aj (sV 1) bw)) (aj (sI 1) bw))))) (sT (s2 hNe (sV 1) (s2 gIx (sV 2) (sI 1)))))
 (p7 (sC (.bl false)))
 sNx)
 (dz (sIf (sOr (a4k (a2f (sA km (aj (sV 0) (aj (sC (.ty "list")) bw))))) (sT (s2 hNe (sA yz (aj (sV 0) bw)) (sA yz (aj (s2 gIx (sV 2) (sI 0)) bw)))))
 (p7 (sC (.bl false)))
 sNx)
 (dz (a4o (sRg a0u (aj (sA yz (aj (sV 0) bw)) bw)) (kN 3) (o9 dw))
 (p7 (sC (.bl true))))))
noncomputable def a8m(ou:SF)(ak:SF)(kh:SF)(dm:SF)(qj:SF)(jn:SF)(jz:SF)(n6:SF)(iw:SF):SS :=
 (dz (j9 1 (sA (iz true 1 jn) (aj (sV 0) bw)))
 (dz (j9 2 (sA (iz false 2 ak) (aj (sV 1) (aj (sI 20) bw))))
 (dz (j9 3 (sA (iz false 2 jz) (aj (sV 1) (aj (sI 32) bw))))
 (dz (j9 4 (sA (iz false 2 n6) (aj (sV 1) (aj (s2 gIx (sV 3) (sI 0)) bw))))
 (dz (j9 5 (sA (iz false 2 ou) (aj (sV 3) (aj (sV 4) bw))))
 (dz (sIf (sT (s2 a1y (sA (iz false 4 iw) (aj (sV 3) (aj (sV 4) (aj (sZ (sA uv (aj (s2 gIx (sV 5) (sI 0)) bw))) (aj (s2 gIx (sV 5) (sI 1)) bw))))) (sC (.bl true))))
 ajy
 sNx)
 (dz (j9 6 (sZ (sA uv (aj (s2 gIx (sV 5) (sI 0)) bw))))
 (dz (j9 7 (s2 gIx (sV 5) (sI 1)))
 (dz (sIf (sT (s2 gLt (sV 2) (sI 13)))
 (j9 6 (sA (iz false 3 dm) (aj (sV 1) (aj (sV 6) (aj (sV 2) bw)))))
 (sIf (sT (s2 gLt (sV 2) (sI 18)))
 (j9 7 (s2 gIx (sA uy (aj (s2 gf (sV 7) (sI 1)) (aj (s2 a3y (sV 7) (sI 1)) (aj (sC .non) (aj (s2 hEq (sV 7) (sI 1)) (aj (sC (.str "0")) bw)))))) (s2 a3y (sV 2) (sI 13))))
 (sIf (sT (s2 hEq (sV 2) (sI 18)))
 (j9 6 (s2 gIx (sA uy (aj (sC .non) (aj (sZ aco) (aj (sC (.str "")) bw)))) (sA (iz false 2 ak) (aj (sV 1) (aj (sI 3) bw)))))
 sNx)))
 (dz (j9 8 (a6q (a2f (sA km (aj (sV 6) (aj (sC (.ty "list")) bw)))) (sZ (sA uv (aj (sV 6) bw))) (sV 6)))
 (dz (j9 9 (sA (iz false 3 kh) (aj (sV 6) (aj (sV 7) (aj (sV 5) bw)))))
 (dz (sIf (sOr (a4k (a2f (sA (iz false 2 qj) (aj (sA (iz false 4 iw) (aj (sV 3) (aj (sV 4) (aj (sV 6) (aj (sV 7) bw))))) (aj (sV 9) bw))))) (sT (s2 ale (sV 6) (sV 8))))
 ajy
 sNx)
 (p7 (s2 gIs (sA (iz false 4 iw) (aj (sV 3) (aj (sV 4) (aj (sZ (sA uv (aj (s2 gIx (sV 5) (sI 0)) bw))) (aj (s2 gIx (sV 5) (sI 1)) bw))))) (sC (.bl true))))))))))))))))
end K36
namespace MI
open L2
theorem cu(ha:ME X E a fa)(hb:ME X E b fb)(hp:a5h b:=by with_unfolding_all exact λ_ _=>rfl):ME X E (.Subscript a b pos) (s2 gIx fa fb):=aji ha hb hp
theorem j7(i:Nat)(hN:X.N.Nodup)(he:ME X E e fa)(hi:X.N[i]? = some x:=by rfl)(hx:Loc X.env.scope x:=by with_unfolding_all first|exact Or.inl rfl|exact Or.inr rfl)(hs:swapsWith e (some (.Name x pos')) pos.line X.env=pure false:=by rfl)(hf:Hf X x:=by with_unfolding_all first|exact .inl rfl|exact .inr rfl|assumption) :
  MS X E (.Assign [.Name x pos'] e pos) (j9 i fa):=an5 hN hi hx he hs hf
theorem jk{X:Cx}(G:Dn X.prog X.w X.K X.mg X.base k x ps (wj X.K n F) f fd)(hr:Room k' X.A)(hk:k<=k')(ha:MA X X0 (e::es) ka)(hg:Gl X x:=by rfl)
  (hdb:(x == ("__debug__" : Str))=false:=by decide) (he:starEach (e::es) X.env=(false,eval e X.env)::starEach es X.env:=by rfl) (hpl:(backTo pos (starEach es X.env)).any (·.1)=false:=by rfl):ME X X0 (.Call (.Name x p) (e::es) [] pos) (sA (iz false n F) ka):=a9h false G (hr.mono hk) hg ha hdb he hpl
theorem wg(hm:X.mg "len" = none)(ha:MA X E [e] ka)(hg:Gl X "len":=by rfl)(he:starEach [e] X.env=(false,eval e X.env)::starEach [] X.env:=by rfl)(hpl:(backTo pos (starEach [] X.env)).any (·.1)=false:=by rfl):ME X E (.Call (.Name "len" p) [e] [] pos) (sA yz ka) :=
 ye (L2.CallR.or a72 a73) ajl hg hm amy ha (by decide) (by decide) he hpl
theorem mj(ho:OpR X (compareOp op) r)(hs:a00 X.K g r)(ha:ME X E a fa)(hb:ME X E b fb)(hm:behindInMarks op b=false:=by exact a0q _):MT X E (.Compare a [op] [b] pos) (sT (s2 g fa fb)):=a85 ho hs ha hb hm
theorem qu(hu:X.A.units+64<cLine)(ha:ME X E a fa)(hb:ME X E b fb):MT X E (.Compare a [.Eq] [b] pos) (sT (s2 hEq fa fb)):=a85 (a9e hu) a65 ha hb (a0q _)
theorem pgn(i:Nat)(hN:N.Nodup:=by decide +kernel)(hi:N[i]? = some x:=by rfl)(hx:∀C fp s H,Loc (cxC X N aB cl C fp s H).env.scope x:=by with_unfolding_all exact λ_ _ _ _=>Or.inl rfl)(hf:∀C fp s H,(cxC X N aB cl C fp s H).fn x=true\/(cxC X N aB cl C fp s H).env.scope.names.lookup x=some .local:=by with_unfolding_all exact λ_ _ _ _=>.inr rfl) :
  ∀C fp s H,PG (cxC X N aB cl C fp s H) (.Name x pos) (a5b i):=λC fp s H=>a7z (X:=cxC X N aB cl C fp s H) hN hi (hx C fp s H) (hf C fp s H)
theorem pgm(i:Nat)(hN:N.Nodup:=by decide +kernel)(hi:N[i]? = some x:=by rfl)(hx:Loc (cxC X N aB cl C fp s H).env.scope x:=by with_unfolding_all exact Or.inl rfl)(hf:(cxC X N aB cl C fp s H).fn x=true\/(cxC X N aB cl C fp s H).env.scope.names.lookup x=some .local:=by with_unfolding_all exact .inr rfl) :
  PG (cxC X N aB cl C fp s H) (.Name x pos) (a5b i):=a7z (X:=cxC X N aB cl C fp s H) hN hi hx hf
def allP(P:α->Prop):List α->Prop
 |[]=>True
 |a::l=>P a/\allP P l
theorem allP.mem{P:α->Prop}:∀{l:List α},allP P l->∀a∈l,P a
 |b::l,h,a,m=>by
  rcases ar.mp m with rfl|m
  ·exact h.1
  ·exact h.2.mem a m
theorem a7q{X:Cx}(ts fr:List Str)(ix:List Nat)(clos:closureFor aB X.env=pure cl:=by rfl)(kind:aB.kind=.function:=by rfl)
  (nocell:(aB.names.all λp=>p.2 != .cell)=true:=by rfl) (names:(aB.names.all λp=>p.2 != .local || aB.names.lookup p.1 == some .local)=true:=by rfl) (sub:allP (λp=>X.env.cells.lookup p.1=some p.2) cl:=by with_unfolding_all repeat' constructor)
  (has:((relabel aB X.env).names.all λp => !(p.2 == .cell || p.2 == .free) || (cl.lookup p.1).isSome)=true:=by rfl) (nofn:(ts.all λy=>(relabel aB X.env).names.lookup y == some .local)=true:=by rfl)
  (len:ix.length=fr.length:=by rfl) (vis:((fr.zip ix).all λp=>X.N[p.2]? == some p.1 && (X.env.kindOf p.1 == some .cell || X.env.kindOf p.1 == some .free) && ((relabel aB X.env).names.lookup p.1 == some .cell || (relabel aB X.env).names.lookup p.1 == some .free))=true:=by rfl) :
  CSc X aB cl ts fr ix:=.of clos kind nocell names sub.mem has nofn len vis
theorem ako{aB:Scope}(ts:List Str)(kind:aB.kind=.function:=by rfl)(h:∀y∈aB.names,y.2≠.cell/\y.2≠.free:=by decide +kernel)(names:∀y∈aB.names,y.2=.local->aB.names.lookup y.1=some .local:=by decide +kernel)
  (ht:∀y∈ts,aB.names.lookup y=some .local:=by decide +kernel):CSc X aB [] ts [] []:=.noFree kind h names ht
section
variable{α:Type}{us:List α}
theorem len0{P:List α->Prop}(h:us.length=0)(k:P []):P us:=by cases us with|nil=>exact k|cons _ _=>cases h
theorem aao{P:List α->Prop}(h:us.length=n+1)(k:∀a vs,vs.length=n->P (a::vs)):P us:=by cases us with|nil=>cases h|cons a vs=>exact k a vs (eZ h)
theorem ass{P:List α->Prop}(h:us.length=1)(k:∀a,P [a]):P us:=aao h λa _ h=>len0 (P:=λus=>P (a::us)) h (k a)
theorem asu{P:List α->Prop}(h:us.length=2)(k:∀a b,P [a,b]):P us:=aao h λa _ h=>ass (P:=λus=>P (a::us)) h (k a)
theorem akp{P:List α->Prop}(h:us.length=3)(k:∀a b c,P [a,b,c]):P us:=aao h λa _ h=>asu (P:=λus=>P (a::us)) h (k a)
theorem asv{P:List α->Prop}(h:us.length=4)(k:∀a b c d,P [a,b,c,d]):P us:=aao h λa _ h=>akp (P:=λus=>P (a::us)) h (k a)
theorem asw{P:List α->Prop}(h:us.length=5)(k:∀a b c d e,P [a,b,c,d,e]):P us:=aao h λa _ h=>asv (P:=λus=>P (a::us)) h (k a)
theorem aue{P:List α->Prop}(h:us.length=6)(k:∀a b c d e f,P [a,b,c,d,e,f]):P us:=aao h λa _ h=>asw (P:=λus=>P (a::us)) h (k a)
end
end MI
namespace K36
open L2 MI
def top(i:Nat):Stmt:=PySem.Challenge.pw_nearreach_k36_cuts_looked_at.main.body.getD i (.Pass ⟨0,0,0,0⟩)
structure Nm (mg:Str->Option Value):Prop where
 abs:mg "abs" = none
 all:mg "all" = none
 bool:mg "bool" = none
 enumerate:mg "enumerate" = none
 int:mg "int" = none
 isinstance:mg "isinstance" = none
 len:mg "len" = none
 list:mg "list" = none
 max:mg "max" = none
 min:mg "min" = none
 range:mg "range" = none
 sorted:mg "sorted" = none
 str:mg "str" = none
 sum:mg "sum" = none
 tuple:mg "tuple" = none
 zip:mg "zip" = none
section
variable{P:Program}{w:World}{K:Fg}{mg:Str->Option Value}{base:Heap}{f:Addr}
def MD(P:Program)(w:World)(K:Fg)(mg:Str->Option Value)(base:Heap)(f:Addr)(k:Nat)(N:List Str)(x:Str)(t:Stmt)(b:SS):Prop:=∀(cdv:Value) (A:Around) (outer:List Env) (s:Shared) (H:Hp) (E:XK),Room k (A.deeper (PyProof.Rows.envOfC x (bz t) s.heap.objs.size f cdv))->MSs (ael CX0 P w K mg base N x (bz t) f cdv A outer s H E).nox X0 (um t) b
local macro_rules|`(tactic|walk_at "sc") => `(tactic|exact⟨rfl,rfl,rfl,by decide +kernel,rfl,by decide +kernel,by decide +kernel⟩)
theorem asx:FnScope ["thing"] ["thing"] (bz (top 1)):=by walk_at "sc"
theorem m_0(M:Nm mg):MD P w K mg base f k ["thing"] "is_number" (top 1) (K55.vh):=λcdv A outer s H E hr =>
 have SC:=asx
 (bf (ie (a4l (ye (L2.CallR.or jd j6) qp rfl M.isinstance ig (aa (az 0) (aa (a3c rfl M.int aby) au))) (a7a (an3 (ye (L2.CallR.or jd j6) qp rfl M.isinstance ig (aa (az 0) (aa (a3c rfl M.bool acq) au))))))))
theorem asy:FnScope ["thing","low","high"] ["thing","low","high"] (bz (top 2)):=by walk_at "sc"
theorem m_1(M:Nm mg):MD P w K mg base f k ["thing","low","high"] "is_row" (top 2) (K55.a2m):=λcdv A outer s H E hr =>
 have SC:=asy
 (bf (ie (a4l (ye (L2.CallR.or jd j6) qp rfl M.isinstance ig (aa (az 0) (aa (a3c rfl M.tuple ut) au))) (a7a (afe (ain.or a2z) (ain.or a2z) aca aca (az 1) (wg M.len (aa (az 0) au)) (az 2))))))
theorem asz:FnScope ["thing","told"] ["thing","told"] (bz (top 3)):=by walk_at "sc"
theorem m_2(M:Nm mg)(D_0:Dn P w K mg base k_0 "is_number" ["thing"] (wj K 1 F_0) a_0 d_0)(h_0:k_0<=k)(D_1:Dn P w K mg base k_1 "is_row" ["thing","low","high"] (wj K 3 F_1) a_1 d_1)(h_1:k_1<=k)(D_2:Dn P w K mg base k_2 "is_same" ["thing","told"] (wj K 2 F_2) a_2 d_2)(h_2:k_2<=k):MD P w K mg base f k ["thing","told"] "is_same" (top 3) (K55.zu F_0 F_1 F_2):=λcdv A outer s H E hr =>
 have SC:=asz
 (ao (kj (a0t (yu (ye (L2.CallR.or jd j6) qp rfl M.isinstance ig (aa (az 1) (aa (a3c rfl M.tuple ut) au)))))
 (bf (ie (a4l (jk D_0 hr h_0 (aa (az 0) au)) (a7a (zj (a9e hr.u) a65 (az 0) (az 1) (a0q _))))))
 ik)
 (ao (kj (a0t (yu (jk D_1 hr h_1 (aa (az 0) (aa (wg M.len (aa (az 1) au)) (aa (wg M.len (aa (az 1) au)) au))))))
 (bf (ie a2e))
 ik)
 (bf (ie (ye (a3a rfl) acn rfl M.all ahb (aa (a7x (a0k rfl (ako ["one","other"]) (anp rfl M.zip anq (az 0) (az 1)) (λ_ _ _ _=>ah3 rfl (a5c (pgm 0) (a5c (pgm 1) ab0))) an9 (λ_ _ _ _=>(jk D_2 hr h_2 (aa (az 0) (aa (az 1) au)))))) au))))))
theorem at5:FnScope ["tongue","thing"] ["tongue","thing"] (bz (top 8)):=by walk_at "sc"
theorem m_3(M:Nm mg):MD P w K mg base f k ["tongue","thing"] "is_text" (top 8) (STP.o8):=λcdv A outer s H E hr =>
 have SC:=at5
 (bf (ie (a4l (ye (L2.CallR.or jd j6) qp rfl M.isinstance ig (aa (az 1) (aa (a3c rfl M.str amz) au))) (a7a (ye (a3a rfl) acn rfl M.all ahb (aa (a7x (a0k rfl (a7q ["sign"] ["tongue"] [0]) (yx (az 1)) (pgn 0) a0b (λ_ _ _ _=>(zj (aj5.or abm) ajj (az 0) (az 1) (by with_unfolding_all rfl))))) au))))))
theorem at6:FnScope ["tongue","thing"] ["tongue","thing"] (bz (top 10)):=by walk_at "sc"
theorem m_4(D_3:Dn P w K mg base k_3 "is_text" ["tongue","thing"] (wj K 2 F_3) a_3 d_3)(h_3:k_3<=k):MD P w K mg base f k ["tongue","thing"] "looked_text" (top 10) (ux F_3):=λcdv A outer s H E hr =>
 have SC:=at6
 (ao (kj (a0t (yu (jk D_3 hr h_3 (aa (az 0) (aa (az 1) au)))))
 ad2
 ik)
 (bf (ie (az 1))))
theorem at7:FnScope ["table","room","word","tongue","goes","kinds","rooms","sign"] ["table","room","word"] (bz (top 11)):=by walk_at "sc"
theorem m_5:MD P w K mg base f k ["table","room","word","tongue","goes","kinds","rooms","sign"] "rooms_along" (top 11) (STP.j5):=λcdv A outer s H E hr =>
 have SC:=at7
 (ao (a7b (az 0) (a4n rfl (lw (jj (i:=3) SC.nd rfl (Or.inl rfl)) (lw (jj (i:=4) SC.nd rfl (Or.inl rfl)) (lw (jj (i:=5) SC.nd rfl (Or.inl rfl)) a1j)))))
 (ao (j7 6 SC.nd (yw (aa (az 1) au)))
 (ao (a0v bH rfl (yx (az 2)) (jj (i:=7) SC.nd rfl (Or.inl rfl)) (bf (yf (a5u bM bN xg a1k (az 6) (aa (cu (cu (az 4) (cu (az 6) (a97 aq))) (ajq PySem.F.slot_str_index PySem.F.type_str_index afd acj (az 3) (aa (az 7) au))) au)))))
 (bf (ie (az 6))))))
theorem at8:FnScope ["table","text","at","kinds","found","end","room"] ["table","text","at"] (bz (top 13)):=by walk_at "sc"
theorem m_6(M:Nm mg)(D_5:Dn P w K mg base k_5 "rooms_along" ["table","room","word"] (wj K 3 F_5) a_5 d_5)(h_5:k_5<=k):MD P w K mg base f k ["table","text","at","kinds","found","end","room"] "piece_at" (top 13) (K35.uz F_5):=λcdv A outer s H E hr =>
 have SC:=at8
 (ao (j7 3 SC.nd (cu (az 0) aq))
 (ao (j7 4 SC.nd a1w)
 (ao (a0v bH rfl (ag3 rfl M.enumerate (jk D_5 hr h_5 (aa (az 0) (aa aq (aa (jq (az 1) (m8 (az 2)) qy) au)))) (az 2)) (a4n rfl (lw (jj (i:=5) SC.nd rfl (Or.inl rfl)) (lw (jj (i:=6) SC.nd rfl (Or.inl rfl)) a1j))) (bf (kj (mj (a7e hr.u) a3i (cu (az 3) (az 6)) (a97 aq))
 (bf (j7 4 SC.nd (nj (aa (cu (az 3) (az 6)) (aa (az 5) au)))))
 ik)))
 (bf (ie (az 4))))))
theorem at9:FnScope ["table","text","pieces","place","found","kind","end"] ["table","text"] (bz (top 14)):=by walk_at "sc"
theorem m_7(D_4:Dn P w K mg base k_4 "looked_text" ["tongue","thing"] (wj K 2 F_4) a_4 d_4)(h_4:k_4<=k)(D_6:Dn P w K mg base k_6 "piece_at" ["table","text","at"] (wj K 3 F_6) a_6 d_6)(h_6:k_6<=k):MD P w K mg base f k ["table","text","pieces","place","found","kind","end"] "cut" (top 14) (agl F_4 F_6):=λcdv A outer s H E hr =>
 have SC:=at9
 (ao (yf (jk D_4 hr h_4 (aa (cu (az 0) aq) (aa (az 1) au))))
 (ao (j7 2 SC.nd (yw au))
 (ao (j7 3 SC.nd aq)
 (ao (j7 4 SC.nd (jk D_6 hr h_6 (aa (az 0) (aa (az 1) (aa (az 3) au)))))
 (ao (a5p 100000 bH (mj (a80.or a0i) a3g (az 4) a1w) (ao (a7b (az 4) (a4n rfl (lw (jj (i:=5) SC.nd rfl (Or.inl rfl)) (lw (jj (i:=6) SC.nd rfl (Or.inl rfl)) a1j))))
 (ao (yf (a5u bM bN xg a1k (az 2) (aa (nj (aa (az 5) (aa (az 3) (aa (az 6) au)))) au)))
 (ao (j7 3 SC.nd (az 6))
 (bf (j7 4 SC.nd (jk D_6 hr h_6 (aa (az 0) (aa (az 1) (aa (az 3) au))))))))))
 (bf (ie (nj (aa (az 2) (aa (az 3) au))))))))))
theorem ata:FnScope ["table","text","pieces","place","told","end"] ["table","text","pieces","place"] (bz (top 15)):=by walk_at "sc"
theorem m_8(M:Nm mg)(D_7:Dn P w K mg base k_7 "cut" ["table","text"] (wj K 2 F_7) a_7 d_7)(h_7:k_7<=k)(D_2:Dn P w K mg base k_2 "is_same" ["thing","told"] (wj K 2 F_2) a_2 d_2)(h_2:k_2<=k):MD P w K mg base f k ["table","text","pieces","place","told","end"] "cut_holds" (top 15) (yp F_7 F_2):=λcdv A outer s H E hr =>
 have SC:=ata
 (ao (a7b (jk D_7 hr h_7 (aa (az 0) (aa (az 1) au))) (a4n rfl (lw (jj (i:=4) SC.nd rfl (Or.inl rfl)) (lw (jj (i:=5) SC.nd rfl (Or.inl rfl)) a1j))))
 (bf (ie (a4l (ye (L2.CallR.or jd j6) qp rfl M.isinstance ig (aa (az 2) (aa (a3c rfl M.list zg) au))) (a4l (jk D_2 hr h_2 (aa (uq (L2.CallR.or mq (qg rfl)) xn rfl M.tuple ut (aa (az 2) au)) (aa (uq (L2.CallR.or mq (qg rfl)) xn rfl M.tuple ut (aa (az 4) au)) au))) (a7a (jk D_2 hr h_2 (aa (az 3) (aa (az 5) au)))))))))
theorem atb:FnScope ["_law_found","_law_wanted"] ["_law_found","_law_wanted"] (bz (top 17)):=by walk_at "sc"
theorem m_9:MD P w K mg base f k ["_law_found","_law_wanted"] "_law_said" (top 17) (STP.a06):=λcdv A outer s H E hr =>
 have SC:=atb
 (ao (kj (yu (az 1))
 (bf (ie (zj (ab8.or a5l) ace (az 0) a2e (a0q _))))
 ik)
 (bf (ie (zj (ab8.or a5l) ace (az 0) a2e (a0q _)))))
theorem aok:FnScope ["_law_script","_law_cells"] ["_law_script"] (bz (top 18)):=by walk_at "sc"
theorem auf(M:Nm mg):MD P w K mg base f k ["_law_script","_law_cells"] "_law_source" (top 18) (SRC.vy):=λcdv A outer s H E hr =>
 have SC:=aok
 (ao (a2i (i:=1) SC.nd rfl (Or.inl rfl) rfl (ako ["_law_cell"]) (yx (a7x (jq (az 0) qy (m8 aq)))) (pgn 0) a0b (λ_ _ _ _=>(gj (a68 aq (ye af0 ajm rfl M.abs an0 (aa (az 0) au))) (uq abb ajo rfl M.int aby (aa (zj (a5e.or ql) a0x (az 0) aq (a0q _)) au)))))
 (bf (ie (yw (aa (az 1) (aa aq (aa aq (aa aq (aa (a4q (ye (aab rfl) ajs rfl M.sum anm (aa (az 1) au)) aq) au)))))))))
theorem aol:FnScope ["_law_left","_law_many","_law_cell","_law_told"] ["_law_left","_law_many"] (bz (top 19)):=by walk_at "sc"
theorem auh(M:Nm mg):MD P w K mg base f k ["_law_left","_law_many","_law_cell","_law_told"] "_law_draw" (top 19) (SRC.a04):=λcdv A outer s H E hr =>
 have SC:=aol
 (ao (a8d (az 0) aq aq (a5d.or xx) a2h)
 (ao (kj (PW.pt (a92 (qu hr.u (cu (az 0) aq) aq) (a5o (mj (a5e.or ql) a0x (cu (az 0) aq) (wg M.len (aa (cu (az 0) aq) au))))))
 (ao (j7 2 SC.nd (cu (cu (az 0) aq) (cu (az 0) aq)))
 (ao (a8d (az 0) aq aq (a5d.or xx) a2h)
 (bf (kj (mj ame ahi (az 2) (ac8 aq aq))
 (bf (ac1 (az 2) (az 0) aq))
 (bf (ac1 (a4q (gj (a68 (cu (az 0) aq) aq) (az 2)) aq) (az 0) aq))))))
 ik)
 (ao (kj (mj amd ahh (cu (az 0) aq) aq)
 (ao (j7 3 SC.nd (a4q (cu (az 0) aq) (az 1)))
 (ao (a8d (az 0) aq (az 1) aex ac4)
 (bf (ie (az 3)))))
 ik)
 (ao (j7 3 SC.nd (a4q (ac8 (gj (gj (cu (az 0) aq) aq) (a68 (cu (az 0) aq) aq)) aq) aq))
 (bf (ie (a4q (ac6 (a4q (ac8 (gj (a68 (az 3) aq) (cu (az 0) aq)) aq) aq) aq) (az 1))))))))
theorem aom:FnScope ["_law_some"] [] (bz (top 20)):=by walk_at "sc"
theorem aui:MD P w K mg base f k ["_law_some"] "_law_signs" (top 20) (SRC.v8):=λcdv A outer s H E hr =>
 have SC:=aom
 (ao (j7 0 SC.nd a4j)
 (bf (ie (gj (az 0) a4j))))
theorem aon:FnScope ["_law_left","_law_rest","_law_told","_law_k","_law_at"] ["_law_left"] (bz (top 21)):=by walk_at "sc"
theorem auj(M:Nm mg)(D_11:Dn P w K mg base k_11 "_law_draw" ["_law_left","_law_many"] (wj K 2 F_11) a_11 d_11)(h_11:k_11<=k)(D_12:Dn P w K mg base k_12 "_law_signs" [] (wj K 0 F_12) a_12 d_12)(h_12:k_12<=k):MD P w K mg base f k ["_law_left","_law_rest","_law_told","_law_k","_law_at"] "_law_tongue" (top 21) (SRC.vz F_11 F_12):=λcdv A outer s H E hr =>
 have SC:=aon
 (ao (j7 1 SC.nd (ad1 false D_12 (hr.mono h_12) rfl))
 (ao (j7 2 SC.nd a4j)
 (ao (a0v bH rfl (a5r rfl M.range (aa (gj aq (jk D_11 hr h_11 (aa (az 0) (aa aq au)))) au)) (jj (i:=3) SC.nd rfl (Or.inl rfl)) (ao (j7 4 SC.nd (jk D_11 hr h_11 (aa (az 0) (aa (wg M.len (aa (az 1) au)) au))))
 (ao (ahc (i:=2) SC.nd rfl (Or.inl rfl) (a5d.or xx) a2h (cu (az 1) (az 4)))
 (bf (j7 1 SC.nd (gj (jq (az 1) qy (m8 (az 4))) (jq (az 1) (m8 (gj (az 4) aq)) qy)))))))
 (bf (ie (az 2))))))
theorem aoo:FnScope ["_law_left","_law_tongue_here","_law_many","_law_kinds","_law_room","_law_manner","_law_goes","_law_row"] ["_law_left","_law_tongue_here","_law_many"] (bz (top 22)):=by walk_at "sc"
theorem auk(M:Nm mg)(D_11:Dn P w K mg base k_11 "_law_draw" ["_law_left","_law_many"] (wj K 2 F_11) a_11 d_11)(h_11:k_11<=k):MD P w K mg base f k ["_law_left","_law_tongue_here","_law_many","_law_kinds","_law_room","_law_manner","_law_goes","_law_row"] "_law_rooms" (top 22) (SRC.a3o F_11):=λcdv A outer s H E hr =>
 have SC:=aoo
 (ao (j7 3 SC.nd (yw (aa (a97 aq) au)))
 (ao (a0v bH rfl (ac3 rfl M.range (aa aq (aa (az 2) au))) (jj (i:=4) SC.nd rfl (Or.inr rfl)) (bf (yf (a5u bM bN xg a1k (az 3) (aa (abz (mj (a5e.or ql) a0x (jk D_11 hr h_11 (aa (az 0) (aa aq au))) aq) (jk D_11 hr h_11 (aa (az 0) (aa aq au))) (a97 aq)) au)))))
 (ao (j7 5 SC.nd (jk D_11 hr h_11 (aa (az 0) (aa aq au))))
 (ao (j7 6 SC.nd (yw au))
 (ao (a0v bH rfl (a5r rfl M.range (aa (az 2) au)) (jj (i:=4) SC.nd rfl (Or.inr rfl)) (ao (a2i (i:=7) SC.nd rfl (Or.inl rfl) rfl (a7q ["_law_sign"] ["_law_left","_law_many"] [0,2]) (yx (az 1)) (pgn 0) a0b (λ_ _ _ _=>(jk D_11 hr h_11 (aa (az 1) (aa (az 2) au)))))
 (ao (kj (mj amd ahh (az 5) aq)
 (bf (a2i (i:=7) SC.nd rfl (Or.inl rfl) rfl (a7q ["_law_to"] ["_law_many","_law_kinds","_law_room"] [2,3,4]) (yx (az 7)) (pgn 0) a0b (λ_ _ _ _=>(abz (PW.pt (a92 (mj (a5e.or ql) a0x (cu (az 2) (az 0)) aq) (a5o (mj (ain.or a2z) aca (az 0) (az 3))))) (a3f (az 1) aq) (az 0)))))
 ik)
 (ao (kj (PW.pt (a92 (qu hr.u (az 5) aq) (a5o (qu hr.u (az 4) (a3f (az 2) aq)))))
 (bf (a2i (i:=7) SC.nd rfl (Or.inl rfl) rfl (a7q ["_law_to"] ["_law_room"] [4]) (yx (az 7)) (pgn 0) a0b (λ_ _ _ _=>(az 1))))
 ik)
 (bf (yf (a5u bM bN xg a1k (az 6) (aa (az 7) au))))))))
 (bf (ie (nj (aa (az 6) (aa (az 3) au))))))))))
theorem aop:FnScope ["_law_left","_law_most","_law_tongue_here","_law_many","_law_goes","_law_kinds","_law_met","_law_at","_law_to","_law_rows"] ["_law_left","_law_most"] (bz (top 23)):=by walk_at "sc"
theorem aul(M:Nm mg)(D_11:Dn P w K mg base k_11 "_law_draw" ["_law_left","_law_many"] (wj K 2 F_11) a_11 d_11)(h_11:k_11<=k)(D_14:Dn P w K mg base k_14 "_law_rooms" ["_law_left","_law_tongue_here","_law_many"] (wj K 3 F_14) a_14 d_14)(h_14:k_14<=k)(D_13:Dn P w K mg base k_13 "_law_tongue" ["_law_left"] (wj K 1 F_13) a_13 d_13)(h_13:k_13<=k):MD P w K mg base f k ["_law_left","_law_most","_law_tongue_here","_law_many","_law_goes","_law_kinds","_law_met","_law_at","_law_to","_law_rows"] "_law_table" (top 23) (SRC.yh F_11 F_14 F_13):=λcdv A outer s H E hr =>
 have SC:=aop
 (ao (j7 2 SC.nd (jk D_13 hr h_13 (aa (az 0) au)))
 (ao (j7 3 SC.nd (gj aq (jk D_11 hr h_11 (aa (az 0) (aa aq au)))))
 (ao (kj (qu hr.u (jk D_11 hr h_11 (aa (az 0) (aa aq au))) aq)
 (bf (j7 3 SC.nd (gj aq (jk D_11 hr h_11 (aa (az 0) (aa (az 1) au))))))
 ik)
 (ao (a7b (jk D_14 hr h_14 (aa (az 0) (aa (az 2) (aa (ye (aba rfl) afl rfl M.min anl (aa (az 3) (aa (az 1) au))) au)))) (a4n rfl (lw (jj (i:=4) SC.nd rfl (Or.inr rfl)) (lw (jj (i:=5) SC.nd rfl (Or.inr rfl)) a1j))))
 (ao (j7 6 SC.nd (yw (aa aq au)))
 (ao (j7 7 SC.nd aq)
 (ao (a5p 100000 bH (mj (a5e.or ql) a0x (az 7) (wg M.len (aa (az 6) au))) (ao (a0v bH rfl (yx (cu (az 4) (cu (az 6) (az 7)))) (jj (i:=8) SC.nd rfl (Or.inl rfl)) (bf (kj (a85 (aaa.or a71) ajk (az 8) (az 6) (by with_unfolding_all rfl))
 (bf (yf (a5u bM bN xg a1k (az 6) (aa (az 8) au))))
 ik)))
 (bf (ahc (i:=7) SC.nd rfl (Or.inl rfl) (a5d.or xx) a2h aq))))
 (ao (j7 6 SC.nd (ye a69 aah rfl M.sorted ad8 (aa (az 6) au)))
 (ao (j7 9 SC.nd (uq (L2.CallR.or mq (qg rfl)) xn rfl M.tuple ut (aa (a7x (a0k rfl (a7q ["_law_room"] ["_law_goes","_law_met"] [4,6]) (yx (az 6)) (pgn 0) a0b (λ_ _ _ _=>(uq (L2.CallR.or mq (qg rfl)) xn rfl M.tuple ut (aa (a7x (a0k rfl (a7q ["_law_to"] ["_law_met"] [2]) (yx (cu (az 1) (az 0))) (pgn 0) a0b (λ_ _ _ _=>(a5u PySem.F.slot_list_index PySem.F.type_list_index ad7 aai (az 1) (aa (az 0) au))))) au))))) au)))
 (bf (ie (nj (aa (az 2) (aa (az 9) (aa (uq (L2.CallR.or mq (qg rfl)) xn rfl M.tuple ut (aa (a7x (a0k rfl (a7q ["_law_room"] ["_law_kinds"] [5]) (yx (az 6)) (pgn 0) a0b (λ_ _ _ _=>(cu (az 1) (az 0))))) au)) au)))))))))))))))
theorem aoq:FnScope ["_law_left","_law_tongue_here","_law_many"] ["_law_left","_law_tongue_here"] (bz (top 24)):=by walk_at "sc"
theorem aum(M:Nm mg)(D_11:Dn P w K mg base k_11 "_law_draw" ["_law_left","_law_many"] (wj K 2 F_11) a_11 d_11)(h_11:k_11<=k):MD P w K mg base f k ["_law_left","_law_tongue_here","_law_many"] "_law_text" (top 24) (SRC.a05 F_11):=λcdv A outer s H E hr =>
 have SC:=aoq
 (ao (j7 2 SC.nd (jk D_11 hr h_11 (aa (az 0) (aa aq au))))
 (ao (kj (qu hr.u (jk D_11 hr h_11 (aa (az 0) (aa aq au))) aq)
 (bf (j7 2 SC.nd (jk D_11 hr h_11 (aa (az 0) (aa aq au)))))
 ik)
 (bf (ie (ajq PySem.F.slot_str_join PySem.F.type_str_join aj8 afo a4j (aa (a7x (a0k rfl (a7q ["_law_k"] ["_law_left","_law_tongue_here"] [0,1]) (a5r rfl M.range (aa (az 2) au)) (pgn 0) a0b (λ_ _ _ _=>(cu (az 2) (jk D_11 hr h_11 (aa (az 1) (aa (wg M.len (aa (az 2) au)) au))))))) au))))))
theorem aor:FnScope ["_law_table_here","_law_text_here","_law_at","_law_room","_law_due","_law_place"] ["_law_table_here","_law_text_here","_law_at"] (bz (top 25)):=by walk_at "sc"
theorem aun(M:Nm mg):MD P w K mg base f k ["_law_table_here","_law_text_here","_law_at","_law_room","_law_due","_law_place"] "_law_first" (top 25) (SRC.ym):=λcdv A outer s H E hr =>
 have SC:=aor
 (ao (j7 3 SC.nd aq)
 (ao (j7 4 SC.nd a1w)
 (ao (a0v bH rfl (ac3 rfl M.range (aa (az 2) (aa (wg M.len (aa (az 1) au)) au))) (jj (i:=5) SC.nd rfl (Or.inl rfl)) (ao (j7 3 SC.nd (cu (cu (cu (az 0) aq) (az 3)) (ajq PySem.F.slot_str_find PySem.F.type_str_find aj6 afn (cu (az 0) aq) (aa (cu (az 1) (az 5)) au))))
 (bf (kj (mj ame ahi (cu (cu (az 0) aq) (az 3)) aq)
 (bf (j7 4 SC.nd (nj (aa (cu (cu (az 0) aq) (az 3)) (aa (gj (az 5) aq) au)))))
 ik))))
 (bf (ie (az 4))))))
theorem aos:FnScope ["_law_table_here","_law_text_here","_law_told","_law_place","_law_found"] ["_law_table_here","_law_text_here"] (bz (top 26)):=by walk_at "sc"
theorem auo(D_17:Dn P w K mg base k_17 "_law_first" ["_law_table_here","_law_text_here","_law_at"] (wj K 3 F_17) a_17 d_17)(h_17:k_17<=k):MD P w K mg base f k ["_law_table_here","_law_text_here","_law_told","_law_place","_law_found"] "_law_cut" (top 26) (K35.a1e F_17):=λcdv A outer s H E hr =>
 have SC:=aos
 (ao (j7 2 SC.nd (yw au))
 (ao (j7 3 SC.nd aq)
 (ao (j7 4 SC.nd (jk D_17 hr h_17 (aa (az 0) (aa (az 1) (aa (az 3) au)))))
 (ao (a5p 100000 bH (mj (a80.or a0i) a3g (az 4) a1w) (ao (yf (a5u bM bN xg a1k (az 2) (aa (nj (aa (cu (az 4) aq) (aa (az 3) (aa (cu (az 4) aq) au)))) au)))
 (ao (j7 3 SC.nd (cu (az 4) aq))
 (bf (j7 4 SC.nd (jk D_17 hr h_17 (aa (az 0) (aa (az 1) (aa (az 3) au)))))))))
 (bf (ie (nj (aa (az 2) (aa (az 3) au)))))))))
theorem aot:FnScope ["_law_found","_law_many","_law_one"] ["_law_found","_law_many"] (bz (top 27)):=by walk_at "sc"
theorem aup(M:Nm mg):MD P w K mg base f k ["_law_found","_law_many","_law_one"] "_law_numbers" (top 27) (SRC.jm):=λcdv A outer s H E hr =>
 have SC:=aot
 (ao (kj (PW.pt (a86 (a0t (yu (ye (L2.CallR.or jd j6) qp rfl M.isinstance ig (aa (az 0) (aa (a3c rfl M.tuple ut) au))))) (a3d (mj (a7e hr.u) a3i (wg M.len (aa (az 0) au)) (az 1)))))
 (bf (ie a2e))
 ik)
 (ao (a0v bH rfl (yx (az 0)) (jj (i:=2) SC.nd rfl (Or.inl rfl)) (bf (kj (PW.pt (a86 (a0t (yu (ye (L2.CallR.or jd j6) qp rfl M.isinstance ig (aa (az 2) (aa (a3c rfl M.int aby) au))))) (a3d (yu (ye (L2.CallR.or jd j6) qp rfl M.isinstance ig (aa (az 2) (aa (a3c rfl M.bool acq) au)))))))
 (bf (ie a2e))
 ik)))
 (bf (ie a2e))))
theorem aou:FnScope ["_law_left","_law_piece","_law_which","_law_at"] ["_law_left","_law_piece","_law_which"] (bz (top 28)):=by walk_at "sc"
theorem auq(D_11:Dn P w K mg base k_11 "_law_draw" ["_law_left","_law_many"] (wj K 2 F_11) a_11 d_11)(h_11:k_11<=k):MD P w K mg base f k ["_law_left","_law_piece","_law_which","_law_at"] "_law_piece_spoilt" (top 28) (dq F_11):=λcdv A outer s H E hr =>
 have SC:=aou
 (ao (j7 3 SC.nd (jk D_11 hr h_11 (aa (az 0) (aa aq au))))
 (ao (kj (qu hr.u (az 2) aq)
 (bf (ie (gj (gj (jq (az 1) qy (m8 (az 3))) (nj (aa (gj (cu (az 1) (az 3)) aq) au))) (jq (az 1) (m8 (gj (az 3) aq)) qy))))
 ik)
 (ao (kj (qu hr.u (az 2) aq)
 (bf (ie (gj (gj (jq (az 1) qy (m8 (az 3))) (nj (aa (a3f (cu (az 1) (az 3)) aq) au))) (jq (az 1) (m8 (gj (az 3) aq)) qy))))
 ik)
 (ao (kj (qu hr.u (az 2) aq)
 (bf (ie (gj (gj (jq (az 1) qy (m8 (az 3))) (nj (aa (zj (a9e hr.u) a65 (cu (az 1) (az 3)) aq (a0q _)) au))) (jq (az 1) (m8 (gj (az 3) aq)) qy))))
 ik)
 (ao (kj (qu hr.u (az 2) aq)
 (bf (ie (gj (gj (jq (az 1) qy (m8 (az 3))) (nj (aa (cu (nj (aa a1w (aa (a7x (yw (aa (cu (az 1) (az 3)) au))) (aa (a7x acp) au)))) (jk D_11 hr h_11 (aa (az 0) (aa aq au)))) au))) (jq (az 1) (m8 (gj (az 3) aq)) qy))))
 ik)
 (ao (kj (qu hr.u (az 2) aq)
 (bf (ie (gj (az 1) (nj (aa aq au)))))
 ik)
 (ao (kj (qu hr.u (az 2) aq)
 (bf (ie (a0k rfl (ako ["_law_part"]) (yx (az 1)) (pgn 0) a0b (λ_ _ _ _=>(az 0)))))
 ik)
 (bf (ie (cu (nj (aa (jq (az 1) qy (m8 aq)) (aa a1w (aa aq au)))) (az 3)))))))))))
theorem aov:FnScope ["_law_left","_law_pieces","_law_which","_law_told","_law_at","_law_kind","_law_start","_law_end"] ["_law_left","_law_pieces","_law_which"] (bz (top 29)):=by walk_at "sc"
theorem aur(M:Nm mg)(D_11:Dn P w K mg base k_11 "_law_draw" ["_law_left","_law_many"] (wj K 2 F_11) a_11 d_11)(h_11:k_11<=k)(D_20:Dn P w K mg base k_20 "_law_piece_spoilt" ["_law_left","_law_piece","_law_which"] (wj K 3 F_20) a_20 d_20)(h_20:k_20<=k):MD P w K mg base f k ["_law_left","_law_pieces","_law_which","_law_told","_law_at","_law_kind","_law_start","_law_end"] "_law_pieces_spoilt" (top 29) (bx F_11 F_20):=λcdv A outer s H E hr =>
 have SC:=aov
 (ao (j7 3 SC.nd (uq (L2.CallR.or uf (v4 rfl)) a0z rfl M.list zg (aa (az 1) au)))
 (ao (j7 4 SC.nd (jk D_11 hr h_11 (aa (az 0) (aa (ye (ab9 rfl) afk rfl M.max ank (aa aq (aa (wg M.len (aa (az 3) au)) au))) au))))
 (ao (kj (PW.pt (a86 (qu hr.u (az 2) aq) (a3d (mj (ao6 hr.u) (aka false) (az 3) (a7x (yw au))))))
 (bf (ie (gj (az 3) (a7x (yw (aa (nj (aa aq (aa aq (aa aq au)))) au))))))
 ik)
 (ao (kj (mj (a5e.or ql) a0x (az 2) aq)
 (bf (ac1 (jk D_20 hr h_20 (aa (az 0) (aa (cu (az 3) (az 4)) (aa (az 2) au)))) (az 3) (az 4)))
 (bf (kj (qu hr.u (az 2) aq)
 (bf (yf (a5u PySem.F.slot_list_pop PySem.F.type_list_pop af5 ach (az 3) (aa (az 4) au))))
 (bf (kj (qu hr.u (az 2) aq)
 (bf (yf (a5u PySem.F.slot_list_insert PySem.F.type_list_insert adk akk (az 3) (aa (az 4) (aa (cu (az 3) (az 4)) au)))))
 (bf (kj (qu hr.u (az 2) aq)
 (ao (a7b (cu (az 3) (az 4)) (a4n rfl (lw (jj (i:=5) SC.nd rfl (Or.inl rfl)) (lw (jj (i:=6) SC.nd rfl (Or.inl rfl)) (lw (jj (i:=7) SC.nd rfl (Or.inl rfl)) a1j)))))
 (bf (a9q (yw (aa (nj (aa (az 5) (aa (az 6) (aa (gj (az 6) (ac6 (a3f (az 7) (az 6)) aq)) au)))) (aa (nj (aa (az 5) (aa (gj (az 6) (ac6 (a3f (az 7) (az 6)) aq)) (aa (az 7) au)))) au))) (az 3) (m8 (az 4)) (m8 (gj (az 4) aq)))))
 (bf (kj (PW.pt (a92 (qu hr.u (az 2) aq) (a5o (mj (a5e.or ql) a0x (gj (az 4) aq) (wg M.len (aa (az 3) au))))))
 (bf (a9q (yw (aa (nj (aa (cu (cu (az 3) (az 4)) aq) (aa (cu (cu (az 3) (az 4)) aq) (aa (cu (cu (az 3) (gj (az 4) aq)) aq) au)))) au)) (az 3) (m8 (az 4)) (m8 (gj (az 4) aq))))
 (bf (kj (qu hr.u (az 2) aq)
 (bf (ie (uq (L2.CallR.or mq (qg rfl)) xn rfl M.tuple ut (aa (az 3) au))))
 ik)))))))))))
 (bf (ie (az 3)))))))
theorem aow:FnScope ["_law_pieces","_law_place","_law_due","_law_k"] ["_law_pieces","_law_place","_law_due"] (bz (top 30)):=by walk_at "sc"
theorem aus(M:Nm mg)(D_19:Dn P w K mg base k_19 "_law_numbers" ["_law_found","_law_many"] (wj K 2 F_19) a_19 d_19)(h_19:k_19<=k):MD P w K mg base f k ["_law_pieces","_law_place","_law_due","_law_k"] "_law_holds" (top 30) (yq F_19):=λcdv A outer s H E hr =>
 have SC:=aow
 (ao (kj (PW.pt (a86 (a0t (yu (jk D_19 hr h_19 (aa (nj (aa (az 1) au)) (aa aq au))))) (a3d (mj (a7e hr.u) a3i (az 1) (cu (az 2) aq)))))
 (bf (ie a2e))
 ik)
 (ao (kj (PW.pt (a86 (a0t (yu (ye (L2.CallR.or jd j6) qp rfl M.isinstance ig (aa (az 0) (aa (a3c rfl M.list zg) au))))) (a3d (mj (a7e hr.u) a3i (wg M.len (aa (az 0) au)) (wg M.len (aa (cu (az 2) aq) au))))))
 (bf (ie a2e))
 ik)
 (ao (a0v bH rfl (a5r rfl M.range (aa (wg M.len (aa (az 0) au)) au)) (jj (i:=3) SC.nd rfl (Or.inl rfl)) (bf (kj (PW.pt (a86 (a0t (yu (jk D_19 hr h_19 (aa (cu (az 0) (az 3)) (aa aq au))))) (a3d (mj (a7e hr.u) a3i (cu (az 0) (az 3)) (cu (cu (az 2) aq) (az 3))))))
 (bf (ie a2e))
 ik)))
 (bf (ie a2e)))))
theorem aox:FnScope ["_law_script","_law_left","_law_which","_law_table_here","_law_text_here","_law_due","_law_pieces","_law_place","_law_kept","_law_wanted"] ["_law_script"] (bz (top 31)):=by walk_at "sc"
theorem aut(M:Nm mg)(D_18:Dn P w K mg base k_18 "_law_cut" ["_law_table_here","_law_text_here"] (wj K 2 F_18) a_18 d_18)(h_18:k_18<=k)(D_11:Dn P w K mg base k_11 "_law_draw" ["_law_left","_law_many"] (wj K 2 F_11) a_11 d_11)(h_11:k_11<=k)(D_22:Dn P w K mg base k_22 "_law_holds" ["_law_pieces","_law_place","_law_due"] (wj K 3 F_22) a_22 d_22)(h_22:k_22<=k)(D_21:Dn P w K mg base k_21 "_law_pieces_spoilt" ["_law_left","_law_pieces","_law_which"] (wj K 3 F_21) a_21 d_21)(h_21:k_21<=k)(D_9:Dn P w K mg base k_9 "_law_said" ["_law_found","_law_wanted"] (wj K 2 F_9) a_9 d_9)(h_9:k_9<=k)(D_10:Dn P w K mg base k_10 "_law_source" ["_law_script"] (wj K 1 F_10) a_10 d_10)(h_10:k_10<=k)(D_15:Dn P w K mg base k_15 "_law_table" ["_law_left","_law_most"] (wj K 2 F_15) a_15 d_15)(h_15:k_15<=k)(D_16:Dn P w K mg base k_16 "_law_text" ["_law_left","_law_tongue_here"] (wj K 2 F_16) a_16 d_16)(h_16:k_16<=k)(D_8:Dn P w K mg base k_8 "cut_holds" ["table","text","pieces","place"] (wj K 4 F_8) a_8 d_8)(h_8:k_8<=k):MD P w K mg base f k ["_law_script","_law_left","_law_which","_law_table_here","_law_text_here","_law_due","_law_pieces","_law_place","_law_kept","_law_wanted"] "law" (top 31) (a8m F_18 F_11 F_22 F_21 F_9 F_10 F_15 F_16 F_8):=λcdv A outer s H E hr =>
 have SC:=aox
 (ao (j7 1 SC.nd (a9h true D_10 (hr.mono h_10) rfl (aa (az 0) au)))
 (ao (j7 2 SC.nd (jk D_11 hr h_11 (aa (az 1) (aa aq au))))
 (ao (j7 3 SC.nd (jk D_15 hr h_15 (aa (az 1) (aa aq au))))
 (ao (j7 4 SC.nd (jk D_16 hr h_16 (aa (az 1) (aa (cu (az 3) aq) au))))
 (ao (j7 5 SC.nd (jk D_18 hr h_18 (aa (az 3) (aa (az 4) au))))
 (ao (kj (mj (a80.or a0i) a3g (jk D_8 hr h_8 (aa (az 3) (aa (az 4) (aa (a7x (uq (L2.CallR.or uf (v4 rfl)) a0z rfl M.list zg (aa (cu (az 5) aq) au))) (aa (cu (az 5) aq) au))))) a2e)
 ad2
 ik)
 (ao (j7 6 SC.nd (a7x (uq (L2.CallR.or uf (v4 rfl)) a0z rfl M.list zg (aa (cu (az 5) aq) au))))
 (ao (j7 7 SC.nd (cu (az 5) aq))
 (ao (kj (mj (a5e.or ql) a0x (az 2) aq)
 (bf (j7 6 SC.nd (jk D_21 hr h_21 (aa (az 1) (aa (az 6) (aa (az 2) au))))))
 (bf (kj (mj (a5e.or ql) a0x (az 2) aq)
 (bf (j7 7 SC.nd (cu (nj (aa (gj (az 7) aq) (aa (a3f (az 7) aq) (aa a1w (aa (zj (a9e hr.u) a65 (az 7) aq (a0q _)) (aa a4j au)))))) (a3f (az 2) aq))))
 (bf (kj (qu hr.u (az 2) aq)
 (bf (j7 6 SC.nd (cu (nj (aa a1w (aa (a7x acp) (aa a4j au)))) (jk D_11 hr h_11 (aa (az 1) (aa aq au))))))
 ik)))))
 (ao (j7 8 SC.nd (abz (yu (ye (L2.CallR.or jd j6) qp rfl M.isinstance ig (aa (az 6) (aa (a3c rfl M.list zg) au)))) (a7x (uq (L2.CallR.or uf (v4 rfl)) a0z rfl M.list zg (aa (az 6) au))) (az 6)))
 (ao (j7 9 SC.nd (jk D_22 hr h_22 (aa (az 6) (aa (az 7) (aa (az 5) au)))))
 (ao (kj (PW.pt (a86 (a0t (yu (jk D_9 hr h_9 (aa (jk D_8 hr h_8 (aa (az 3) (aa (az 4) (aa (az 6) (aa (az 7) au))))) (aa (az 9) au))))) (a3d (mj (aoj hr.u) akn (az 6) (az 8)))))
 ad2
 ik)
 (bf (ie (zj (ab8.or a5l) ace (jk D_8 hr h_8 (aa (az 3) (aa (az 4) (aa (a7x (uq (L2.CallR.or uf (v4 rfl)) a0z rfl M.list zg (aa (cu (az 5) aq) au))) (aa (cu (az 5) aq) au))))) a2e (a0q _))))))))))))))))
end
end K36
namespace K34
open L2 MI
noncomputable def gq:SS :=
 (v5 (sML a5v (sV 6) (aj (s2 gIx (s2 gIx (sV 4) (s2 gIx (sV 6) (s1 a88 (sI 1)))) (sMS a3h (sV 3) (aj (sV 7) bw))) bw)))
noncomputable def j5:SS :=
 (dz (a6r (sV 0) (a4m 3 (jo (kN 3) (jo (kN 4) (jo (kN 5) a5q)))))
 (dz (j9 6 (sA a08 (aj (sV 1) bw)))
 (dz (a4o (sIt (sV 2)) (kN 7) gq)
 (p7 (sV 6)))))
noncomputable def mz(cj:SF):SS :=
 (sIf (sT (s2 hNe (s2 gIx (sV 3) (sV 6)) (s1 a88 (sI 1))))
 (j9 4 (sA uy (aj (s2 gIx (sV 3) (sV 6)) (aj (sV 5) bw))))
 sNx)
noncomputable def uz(cj:SF):SS :=
 (dz (j9 3 (s2 gIx (sV 0) (sI 2)))
 (dz (j9 4 (sC .non))
 (dz (a4o (a7n (sA (iz false 3 cj) (aj (sV 0) (aj (sI 0) (aj (a0n (sV 1) (oS (sV 2)) oN) bw)))) (sV 2)) (a4m 2 (jo (kN 5) (jo (kN 6) a5q))) (mz cj))
 (p7 (sV 4)))))
end K34
namespace HND
open L2 MI
noncomputable def v8:SS :=
 (dz (j9 0 (sC (.str " !\"#$&'()*+,-./0123456789:;<=>?@ABCDEFGHIJKLMNOPQRSTUVWXYZ[\\]^_`")))
 (p7 (s2 gf (sV 0) (sC (.str "abcdefghijklmnopqrstuvwxyz{|}~\n")))))
end HND
namespace HND
open L2 MI AT
def aqa:Str := " !\"#$&'()*+,-./0123456789:;<=>?@ABCDEFGHIJKLMNOPQRSTUVWXYZ[\\]^_`"
def aqb:Str := "abcdefghijklmnopqrstuvwxyz{|}~\n"
def sig:List Nat:=aqa.cps.toList++aqb.cps.toList
theorem akq:sig.length=95:=by decide +kernel
theorem aoy:sig.Nodup:=by decide +kernel
noncomputable def jb:SF:=jx v8 1
theorem lits{h:Hd}:gf (.str aqa) (.str aqb) h=.ok (.str (S sig)) h:=by
 rw[<-agd aqa,<-agd aqb,akd (by decide +kernel)]
 rfl
theorem a6k:Pu jb 0 [] (.str (S sig)):=by
 refine Pu.of rfl (by simp) (r:=.ok (.str (S sig)) []) ?_ (by rw[my (jy _) (by simp)];rfl) (jy _)
 unfold jb;rw[fu];unfold v8;have e:=@lits [];unfold aqa aqb at e;show toR (dz (j9 0 _) _ [none] [])=_;simp only[sr,j9,sC,zq,a0d,p7,s2,sV,List.set_cons_zero,eO,bj,e,a7j]
structure Tongue (l:List Nat):Prop where
 lo:1<=l.length
 hi:l.length<=6
 nd:l.Nodup
 sub:∀c∈l,c∈sig
theorem adn(a r:List Nat)(i:Nat)(c:Nat)(e:r[i]? = some c):List.Perm (a++r) ((a++[c])++(r.take i++r.drop (i+1))):=by
 obtain⟨hi,e⟩:=a7.mp e;have:r=r.take i++c::r.drop (i+1):=by rw[<-e];simp
 rw[eI];refine List.Perm.append_left a ?_;rw[List.singleton_append]
 conv=>lhs;rw[this]
 exact List.perm_middle
end HND
namespace SRC
open L2 MI AT
structure Src (o:O) (N:Nat):Prop where
 ex:∃(cells:List Int) (a l c s:Int),o=.lst [.rol (cells.map D.int),.int a,.int l,.int c,.int s]/\0<=a/\0<=l/\0<=s/\s<2147483647/\0<=c/\c<=N
theorem Src.clo(P:Src o N):a0c 0 o:=by
 obtain⟨cells,a,l,c,s,rfl,_⟩:=P.ex;exact fj (v6 (iu λx _=>di x)) (fj (di _) (fj (di _) (fj (di _) (fj (di _) lz))))
theorem Src.up(P:Src o N)(h:N<=M):Src o M:=by
 obtain⟨cells,a,l,c,s,e,h1,h2,h3,h4,h5,h6⟩:=P.ex;exact⟨cells,a,l,c,s,e,h1,h2,h3,h4,h5,by omega⟩
noncomputable def ak:SF:=jx a04 4
abbrev so(cells:List Int)(a l c s:Int):O:=.lst [.rol (cells.map D.int),.int a,.int l,.int c,.int s]
theorem ado(e:h[i]? = some (.lst xs))(hj:xs[j]? = some y):aeo (.ref i) (.int (j:Nat)) h=.ok y h:=by
 unfold aeo;simp only[e,qw hj]
theorem arn(e1:fo τ h=.ok o h)(e2:fi τ h=.ok i h)(e3:aeo o i h=.ok x h)(e4:fe τ h=.ok y h)(e5:G x y h=.ok z h)(e6:put o i z h=some h'):a0a G fo fi fe τ h=.nx τ h':=by
 unfold a0a;rw[e1,zq,e2,zq,e3,zq,e4,zq,e5,zq,e6]
theorem auu(c:y<=x):gGe (.int x) (.int y) h=.ok (.bl true) h:=by show R.ok (D.bl (decide (y<=x))) h=_;rw[bA c]
theorem auv(c:¬ y<=x):gGe (.int x) (.int y) h=.ok (.bl false) h:=by show R.ok (D.bl (decide (y<=x))) h=_;rw[b6 c]
theorem adp(P:Src o N)(hN:N<=1000000000)(m0:0<m)(m1:m<1073741824):∃r o',ak [.ref 0,.int m] [o]=.ok (.int r) [o']/\0<=r/\r<m/\Src o' (N+1):=by
 obtain⟨cells,a,l,c,s,rfl,a0,l0,s0,s1,c0,c1⟩:=P.ex;unfold ak;rw[fu];show ∃r o',toR (a04 [some (.ref 0),some (.int m),none,none] [so cells a l c s])=_/\_;unfold a04;have last:∀s':Int,0<=s'->s'<2147483647->∃r q,0<=r/\r<m/\(s'+1+(c+1)*7919)^(3:Int).toNat%2147483647=q/\(q*48271+(c+1))^(2:Int).toNat%2147483629 / 64%m=r/\CMul (c+1) 7919/\CMul q 48271 /\
   (∀h,a4p (.int (s'+1+(c+1)*7919)) (.int 3) h=.ok (.int ((s'+1+(c+1)*7919)^(3:Int).toNat)) h)/\∀h,a4p (.int (q*48271+(c+1))) (.int 2) h=.ok (.int ((q*48271+(c+1))^(2:Int).toNat)) h:=λs' h0 h1=>by
  have q0:0<=(s'+1+(c+1)*7919)^(3:Int).toNat%2147483647:=cV _ (by decide)
  have q1:(s'+1+(c+1)*7919)^(3:Int).toNat%2147483647<2147483647:=cC _ (by decide)
  refine⟨_,_,cV _ (by omega),cC _ m0,rfl,rfl,.inr ⟨by decide,by decide⟩,.inr ⟨by decide,by decide⟩,λh=>ao5 ⟨by decide,by decide,by omega⟩,λh=>ao5 ⟨by decide,by decide,?_⟩⟩
  generalize (s'+1+(c+1)*7919)^(3:Int).toNat%2147483647=q at q0 q1
  omega
 have x0:∀{a l c s:Int},gIx (.ref 0) (.int 0) [so cells a l c s]=.ok (.rol (cells.map D.int)) [so cells a l c s]:=λ{a l c s}=>a1g (j:=0) rfl rfl;have x1:∀{a l c s:Int},gIx (.ref 0) (.int 1) [so cells a l c s]=.ok (.int a) [so cells a l c s]:=λ{a l c s}=>a1g (j:=1) rfl rfl;have x2:∀{a l c s:Int},gIx (.ref 0) (.int 2) [so cells a l c s]=.ok (.int l) [so cells a l c s]:=λ{a l c s}=>a1g (j:=2) rfl rfl;have x3:∀{a l c s:Int},gIx (.ref 0) (.int 3) [so cells a l c s]=.ok (.int c) [so cells a l c s]:=λ{a l c s}=>a1g (j:=3) rfl rfl
 have x4:∀{a l c s:Int},gIx (.ref 0) (.int 4) [so cells a l c s]=.ok (.int s) [so cells a l c s]:=λ{a l c s}=>a1g (j:=4) rfl rfl;have u3:∀{a l c s:Int} {τ:Sd},τ[0]? = some (some (.ref 0))->a0a a0l (sV 0) (sI 3) (sI 1) τ [so cells a l c s]=.nx τ [so cells a l (c+1) s]:=λ{a l c s τ} h0=>arn (bc h0) ckk (ado (j:=3) rfl rfl) ckk a0p rfl;have u1:∀{a l c s:Int} {τ:Sd},τ[0]? = some (some (.ref 0))->a0a a0l (sV 0) (sI 1) (sI 1) τ [so cells a l c s]=.nx τ [so cells (a+1) l c s]:=λ{a l c s τ} h0=>arn (bc h0) ckk (ado (j:=1) rfl rfl) ckk a0p rfl
 have p18:∀{h:Hd},a4p (.int 10) (.int 18) h=.ok (.int 1000000000000000000) h:=λ{h}=>p18 h;have e1:∀{a l c s:Int} {t2:Option D},0<l->toR (dz (sIf (sT (s2 gGt (s2 gIx (sV 0) (sI 2)) (sI 0))) (dz (j9 3 (s2 a1x (s2 gIx (sV 0) (sI 2)) (sV 1))) (dz (a0a a4d (sV 0) (sI 2) (sV 1)) (p7 (sV 3)))) sNx) (dz (j9 3 (s2 a1x (s2 a4p (s2 gf (s2 gf (s2 gIx (sV 0) (sI 4)) (sI 1)) (s2 zb (s2 gIx (sV 0) (sI 3)) (sI 7919))) (sI 3)) (sI 2147483647))) (p7 (s2 a1x (s2 a4d (s2 a1x (s2 a4p (s2 gf (s2 zb (sV 3) (sI 48271)) (s2 gIx (sV 0) (sI 3))) (sI 2)) (sI 2147483629)) (sI 64)) (sV 1)))) [some (.ref 0),some (.int m),t2,none] [so cells a l c s])=.ok (.int (l%m)) [so cells a (l / m) c s]:=λ{a l c s t2} hl=>by
  refine aK toR (zc (af (ifT (t2s (vg rfl x2) ckk (asp hl))) ?_));refine af (nu (jt (vg rfl x2) (bc rfl) (a4w m0))) ?_;refine af (qe (arn (bc rfl) ckk (ado (j:=2) rfl rfl) (bc rfl) (div_ii ⟨m0,m1⟩) rfl)) ?_;exact jg (bc rfl)
 have e2:∀{a s':Int} {t2:Option D},0<=s'->s'<2147483647->∃r,0<=r/\r<m/\toR (dz (sIf (sT (s2 gGt (s2 gIx (sV 0) (sI 2)) (sI 0))) (dz (j9 3 (s2 a1x (s2 gIx (sV 0) (sI 2)) (sV 1))) (dz (a0a a4d (sV 0) (sI 2) (sV 1)) (p7 (sV 3)))) sNx) (dz (j9 3 (s2 a1x (s2 a4p (s2 gf (s2 gf (s2 gIx (sV 0) (sI 4)) (sI 1)) (s2 zb (s2 gIx (sV 0) (sI 3)) (sI 7919))) (sI 3)) (sI 2147483647))) (p7 (s2 a1x (s2 a4d (s2 a1x (s2 a4p (s2 gf (s2 zb (sV 3) (sI 48271)) (s2 gIx (sV 0) (sI 3))) (sI 2)) (sI 2147483629)) (sI 64)) (sV 1)))) [some (.ref 0),some (.int m),t2,none] [so cells a 0 (c+1) s'])=.ok (.int r) [so cells a 0 (c+1) s']:=λ{a s' t2} h0 h1=>by
  obtain⟨r,q,r0,r1,eq,er,d1,d2,d3,d4⟩:=last s' h0 h1;refine⟨r,r0,r1,?_⟩;refine eti (t2s (vg rfl x2) ckk (asq (by omega))) ?_
  refine ets (jt (jt (jt (jt (vg rfl x4) ckk m9) (jt (vg rfl x3) ckk (a2a.trans (aI d1))) m9) ckk (d3 _)) ckk (a4w (by decide))) ?_
  rw[eq];refine etr (jg (jt (jt (jt (jt (jt (vg rfl (a2a.trans (aI d2))) (vg rfl x3) m9) ckk (d4 _)) ckk (a4w (by decide))) ckk (div_ii ⟨by decide,by decide⟩)) (bc rfl) (a4w m0))) ?_
  rw[er];rfl
 by_cases hA:l=0/\a<(cells.length:Int)
 ·obtain⟨rfl,ha⟩:=hA;obtain⟨j,rfl⟩:=aX a0;have hj:j<cells.length:=by omega
  have gx:∀{h:Hd},gIx (.rol (cells.map D.int)) (.int (j:Nat)) h=.ok (.int cells[j]) h:=λ{h}=>ald (by rw[aR,a6 hj];rfl)
  have tt:∀{c s:Int} {t2 t3:Option D},a78 (sT (s2 hEq (s2 gIx (sV 0) (sI 2)) (sI 0))) (sT (s2 gLt (s2 gIx (sV 0) (sI 1)) (sA yz (aj (s2 gIx (sV 0) (sI 0)) bw)))) [some (.ref 0),some (.int m),t2,t3] [so cells (j:Nat) 0 c s]=.ok true [so cells (j:Nat) 0 c s]:=λ{c s t2 t3} =>
   ahu (t2s (vg rfl x2) ckk (wz rfl)) (t2s (vg rfl x1) (uw (vg rfl x0) (vf.trans (by rw[ai]))) (ahv ha))
  have s2':0<=(s*31+cells[j])%2147483647:=cV _ (by decide)
  have s3:(s*31+cells[j])%2147483647<2147483647:=cC _ (by decide)
  have go:∀{o':O} {g:SS},sIf (sT (s2 gGe (sV 2) (s2 a4p (sI 10) (sI 18)))) (a93 (sV 2) (sV 0) (sI 2)) (a93 (s2 a1x (s2 gf (s2 zb (s2 gIx (sV 0) (sI 4)) (sI 31)) (sV 2)) (sI 2147483647)) (sV 0) (sI 4)) [some (.ref 0),some (.int m),some (.int cells[j]),none] [so cells ((j:Nat)+1) 0 (c+1) s]=.nx [some (.ref 0),some (.int m),some (.int cells[j]),none] [o']->
    toR (dz (a0a a0l (sV 0) (sI 3) (sI 1)) (dz (sIf (a78 (sT (s2 hEq (s2 gIx (sV 0) (sI 2)) (sI 0))) (sT (s2 gLt (s2 gIx (sV 0) (sI 1)) (sA yz (aj (s2 gIx (sV 0) (sI 0)) bw))))) (dz (j9 2 (s2 gIx (s2 gIx (sV 0) (sI 0)) (s2 gIx (sV 0) (sI 1)))) (dz (a0a a0l (sV 0) (sI 1) (sI 1)) (sIf (sT (s2 gGe (sV 2) (s2 a4p (sI 10) (sI 18)))) (a93 (sV 2) (sV 0) (sI 2)) (a93 (s2 a1x (s2 gf (s2 zb (s2 gIx (sV 0) (sI 4)) (sI 31)) (sV 2)) (sI 2147483647)) (sV 0) (sI 4))))) sNx) g) [some (.ref 0),some (.int m),none,none] [so cells (j:Nat) 0 c s])=toR (g [some (.ref 0),some (.int m),some (.int cells[j]),none] [o']):=λ{o' g} e=>by
   refine etr (qe (u3 rfl)) ?_;refine aK toR (qe (af (ifT tt) ?_));refine af (nu (jt (vg rfl x0) (vg rfl x1) gx)) ?_;exact af (qe (u1 rfl)) e
  generalize cells[j]=x at *
  by_cases hB:(1000000000000000000:Int)<=x
  ·refine⟨x%m,_,(go (o':=so cells ((j:Nat)+1) x (c+1) s) (af (ifT (t2s (bc rfl) (jt ckk ckk p18) (auu hB))) (akh (bc rfl) (bc rfl) ckk rfl))).trans (e1 (by omega)),cV _ (by omega),cC _ m0,⟨cells,(j:Int)+1,x / m,c+1,s,rfl,by omega,Int.ediv_nonneg (by omega) (by omega),s0,s1,by omega,by omega⟩⟩
  ·obtain⟨r,r0,r1,e⟩:=e2 (a:=(j:Nat)+1) (t2:=some (.int x)) s2' s3;exact⟨r,_,(go (o':=so cells ((j:Nat)+1) 0 (c+1) ((s*31+x)%2147483647)) (af (ifF (t2s (bc rfl) (jt ckk ckk p18) (auv hB))) (akh (jt (jt (jt (vg rfl x4) ckk (a2a.trans (aI (.inr ⟨by decide,by decide⟩)))) (bc rfl) m9) ckk (a4w (by decide))) (bc rfl) ckk rfl))).trans e,r0,r1,⟨cells,(j:Int)+1,0,c+1,_,rfl,by omega,by omega,s2',s3,by omega,by omega⟩⟩
 ·have tt:a78 (sT (s2 hEq (s2 gIx (sV 0) (sI 2)) (sI 0))) (sT (s2 gLt (s2 gIx (sV 0) (sI 1)) (sA yz (aj (s2 gIx (sV 0) (sI 0)) bw)))) [some (.ref 0),some (.int m),none,none] [so cells a l (c+1) s]=.ok false [so cells a l (c+1) s]:=by
   by_cases hl:l=0
   ·exact ahu (t2s (vg rfl x2) ckk (wz hl)) (t2s (vg rfl x1) (uw (vg rfl x0) (vf.trans (by rw[ai]))) (a7y λz=>hA ⟨hl,z⟩))
   ·exact aod (t2s (vg rfl x2) ckk (jh hl))
  by_cases hC:0<l
  ·exact⟨l%m,_,(aK toR (qe (u3 rfl))).trans ((aK toR (ifN tt)).trans (e1 hC)),cV _ (by omega),cC _ m0,⟨cells,a,l / m,c+1,s,rfl,a0,Int.ediv_nonneg (by omega) (by omega),s0,s1,by omega,by omega⟩⟩
  ·have:l=0:=by omega
   subst this;obtain⟨r,r0,r1,e⟩:=e2 (a:=a) (t2:=none) s0 s1;exact⟨r,_,(aK toR (qe (u3 rfl))).trans ((aK toR (ifN tt)).trans e),r0,r1,⟨cells,a,0,c+1,s,rfl,a0,by omega,s0,s1,by omega,by omega⟩⟩
theorem lu(P:Src o N)(hN:N<=1000000000)(m0:0<m)(m1:m<1073741824):∃r o',Dr ak 2 [.int m] o (.int r) o'/\0<=r/\r<m/\Src o' (N+1):=by
 obtain⟨r,o',e,r0,r1,P'⟩:=adp P hN m0 m1;refine⟨r,o',Dr.of rfl (by simp[di]) P.clo e (my (di _) ?_) (di _) P'.clo,r0,r1,P'⟩
 intro u hu
 simp at hu
 subst hu;exact qd (by omega) P'.clo
end SRC
namespace EVX
open L2 MI
section
variable{i:Nat}{cs:Str->Bool}{fb fs p g:SS}{τ τ1 τ2:Sd}{h h1 h2:Hd}{c:Str}{f:SE}{ka:SA}{ds:List D}{F:SF}{n:Nat}
theorem a3t(e:f τ h=.ok d h1)(e2:ka τ h1=.ok ds h2):aj f ka τ h=.ok (d::ds) h2:=by
 unfold aj;rw[e,bj,e2];rfl
end
end EVX
namespace SRC
open L2 MI AT HND EVX
noncomputable def jn:SF:=jx vy 2
theorem ints_map:∀l:List Int,a5x (l.map D.int)=some l
 |[]=>rfl
 |a::l=>by rw[bg];simp only[a5x,ints_map l,Option.map_some]
theorem auw(e:k τ h=.ok ds h1)(eg:g ds h1=.ok d h2):sA g k τ h=.ok d h2:=by
 unfold sA;rw[e,bj,eg]
def cell(x:Int):Int:=2*asm x+(if decide (x<0)=true then 1 else 0)
theorem adq(ns:List Int)(h:Hd):∃o,Src o 0/\iz true 1 jn [.scr (ns.map D.int)] h=.ok (.ref h.length) (h++[o]):=by
 have cl:clos 0 ((ns.take 63).map D.int):=iu λx _=>di x;have z1:sZ (a0n (sV 0) oN (oS (sI 63))) [some (.scr (ns.map D.int)),none] []=.ok (.rol ((ns.take 63).map D.int)) []:=by
  refine a7k (by
   show gSl (.scr (ns.map D.int)) none (some ((63:Nat):Int)) []=_;unfold gSl;simp only[a83,List.map_take]) cl (by simp)
 have z2:sZ (m5 (sIt (sZ (a0n (sV 0) oN (oS (sI 63))))) t1 v7 []) [some (.scr (ns.map D.int)),none] []=.ok (.rol ((ns.take 63).map λx=>D.int (cell x))) []:=by
  refine a7k (xu D.int (λx=>D.int (cell x)) (ns.take 63) (adg z1 rfl) (jc (by simp;omega)) λx _=>?_) (iu λx _=>di _) (by simp)
  rw[yo];unfold v7;exact jt (jt ckk (uw (bc rfl) (adb _ _)) (a2a.trans (aI (.inl ⟨by decide,by decide⟩)))) (uw (vg rfl rfl) rfl) m9
 have em:((ns.take 63).map λx=>D.int (cell x))=((ns.take 63).map cell).map D.int:=by rw[cb];rfl
 rw[em]at z2
 generalize (ns.take 63).map cell=cs at z2
 have e:jn [.scr (ns.map D.int)] []=.ok (.ref 0) [.lst [.rol (cs.map D.int),.int 0,.int 0,.int 0,.int (cs.sum%2147483647)]]:=by
  unfold jn;rw[fu];show toR (vy [some (.scr (ns.map D.int)),none] [])=_;unfold vy;refine etr (nu z2) ?_;have su:ani [.rol (cs.map D.int)] []=.ok (.int cs.sum) []:=by unfold ani;simp only[ints_map]
  exact aK toR (jg (auw (a3t (bc rfl) (a3t ckk (a3t ckk (a3t ckk (a3t (jt (uw (bc rfl) su) ckk (a4w (by decide))) rfl))))) rfl))
 have P:Src (.lst [.rol (cs.map D.int),.int 0,.int 0,.int 0,.int (cs.sum%2147483647)]) 0:=⟨cs,0,0,0,_,rfl,by decide,by decide,cV _ (by decide),cC _ (by decide),by decide,by decide⟩
 exact⟨_,P,ao3 rfl (by simpa[MI.clo] using (iu λx _=>di x:clos 0 (ns.map D.int))) e rfl P.clo h⟩
noncomputable def jb:SF:=jx v8 1
theorem a6k:Pu jb 0 [] (.str (S sig)):=HND.a6k
noncomputable def dg:SF:=jx (vz ak jb) 5
theorem aoz{a b:List Nat}(l:a.length+b.length<=LINE):a0l (.str (S a)) (.str (S b)) h=.ok (.str (S (a++b))) h:=by
 have:=akd (h:=h) l
 simpa[a0l,gf,au1] using this
theorem ap0(e:f τ h=.ok (.int i) h1):oS f τ h=.ok (some i) h1:=by unfold oS;rw[e];rfl
theorem ap1(e:f τ h=.ok d h1)(e1:lo τ h1=.ok a h2)(e2:hi τ h2=.ok b h3)(e3:a8c d a b h3=.ok v h4):a0n f lo hi τ h=.ok v h4:=by
 unfold a0n;rw[e,bj,e1,bj,e2,bj,e3]
theorem adt(P:Src o N)(hN:N<=999999000):∃l o',Tongue l/\Dr dg 1 [] o (.str (S l)) o'/\Src o' (N+7):=by
 obtain⟨r0,o1,e1,r0a,r0b,P1⟩:=lu (m:=6) P (by omega) (by decide) (by decide)
 have lo:=yg (g:=kN 3) (b:=v9 ak jb) (λi:Nat=>D.int (0+(i:Nat)))
  (λpre τ h=>∃(aG told:List Nat) (u:O) (t3 t4:Option D),τ=[some (.ref 0),some (.str (S aG)),some (.str (S told)),t3,t4]/\h=[u]/\Src u (N+1+pre.length)/\told.length=pre.length/\(told++aG).length=95/\(told++aG).Nodup/\∀c∈told++aG,c∈sig)
  (List.range (1+r0).toNat) [some (.ref 0),some (.str (S sig)),some (.str (S [])),none,none] [o1] ?_
  ⟨sig,[],o1,none,none,rfl,rfl,P1,rfl,by simp[akq],by simpa using aoy,by simp⟩
 ·obtain⟨τ',h',e2,aG,told,u,t3,t4,rfl,rfl,P2,l1,l2,nd,sb⟩:=lo;rw[bK]at P2 l1;have T:Tongue told:=⟨by omega,by omega,(bL.mp nd).1,λc hc=>sb c (bY _ hc)⟩
  refine⟨told,u,T,Dr.of rfl (by simp) P.clo (r:=.ok (.str (S told)) [u]) ?_ (my (jy _) (by simpa using qd (by omega) P2.clo)) (jy _) P2.clo,P2.up (by omega)⟩
  unfold dg;rw[fu];show toR (vz ak jb [some (.ref 0),none,none,none,none] [o])=_;unfold vz;have c2:iz false 2 ak [.ref 0,.int 6] [o]=.ok (.int r0) [o1]:=e1 0 [o] rfl;have bd:B62 (1+r0):=by unfold B62;omega
  refine ets (aub (a6k _)) ?_;refine etr (nu ckk) ?_;have it:sRg a0u (aj (s2 gf (sI 1) (sA (iz false 2 ak) (aj (sV 0) (aj (sI 6) bw)))) bw) [some (.ref 0),some (.str (S sig)),some (.str ""),none,none] [o]=.ok ⟨rng 0 (1+r0).toNat,λ_=>True⟩ [o1]:=by
   unfold sRg;rw[arg1 (jt ckk (nq (bc rfl) ckk c2) m9),bj];exact aI bd
  refine etr (a6h it) ?_;refine af (aK (λz=>toR (MI.thn z _)) e2) ?_;exact aK toR (jg (bc rfl))
 ·rintro pre i post τ h all ⟨aG,told,u,t3,t4,rfl,rfl,P2,l1,l2,nd,sb⟩
  have aH:pre.length<(1+r0).toNat:=by
   have:=aK List.length all
   simp at this;omega
  rw[ah]at l2;obtain⟨r,u',e2,ra,rb,P3⟩:=lu (m:=(aG.length:Nat)) P2 (by omega) (by omega) (by omega)
  obtain⟨j,rfl⟩:=aX ra;have hj:j<aG.length:=by omega
  have gx:aG[j]? = some aG[j]:=a6 hj;have pp:=adn told aG j aG[j] gx;refine⟨_,_,rfl,_,_,?_,aG.take j++aG.drop (j+1),told++[aG[j]],u',some (.int (0+(i:Nat))),some (.int (j:Nat)),rfl,rfl,by simpa[ft] using P3,by simp[l1],?_,pp.nodup_iff.mp nd,λc hc=>sb c (pp.mem_iff.mpr hc)⟩
  ·unfold v9;have L:∀n:Nat,n<=95->n<=LINE:=λn hn=>by show n<=16777216;omega
   have c2:=e2 0 [u] rfl;have x1:∀h,gIx (.str (S aG)) (.int (j:Nat)) h=.ok (.str (S [aG[j]])) h:=λh=>arh (L _ (by omega)) gx
   have x2:∀h,yz [.str (S aG)] h=.ok (.int aG.length) h:=λh=>ake (L _ (by omega))
   have x3:∀h,a0l (.str (S told)) (.str (S [aG[j]])) h=.ok (.str (S (told++[aG[j]]))) h:=λh=>aoz (L _ (by simp;omega))
   have x4:∀h,a8c (.str (S aG)) none (some (j:Int)) h=.ok (.str (S (aG.take j))) h:=λh=>aua j (L _ (by omega))
   have x5:∀h,a8c (.str (S aG)) (some ((j:Int)+1)) none h=.ok (.str (S (aG.drop (j+1)))) h:=λh=>aht (j+1) (L _ (by omega))
   have x6:∀h,gf (.str (S (aG.take j))) (.str (S (aG.drop (j+1)))) h=.ok (.str (S (aG.take j++aG.drop (j+1)))) h:=λh=>akd (L _ (by simp;omega))
   have c2:iz false 2 ak [.ref 0,.int (aG.length:Nat)] [u]=.ok (.int (j:Nat)) [u']:=c2;refine af (nu (nq (bc rfl) (uw (bc rfl) (x2 _)) c2)) ?_;refine af (qe (aog rfl (jt (bc rfl) (bc rfl) (x1 _)) (x3 _))) ?_;exact aaw (jt (ap1 (bc rfl) rfl (ap0 (bc rfl)) (x4 _)) (ap1 (bc rfl) (ap0 (vg rfl m9)) rfl (x5 _)) (x6 _))
  ·rw[<-pp.length_eq];simpa using l2
end SRC
namespace HND
open L2 MI AT
theorem akr(h:k<n):ixN n (k:Int)=some k:=by unfold ixN;rw[aI (by omega),aI (by omega)];simp
theorem a1h(h:List.range k=pre++i::post):i=pre.length/\i<k:=by
 have h1:=aK (λl=>l[pre.length]?) h;have h2:=aK List.length h;simp at h1 h2;have:pre.length<k:=by omega
 rw[dO this]at h1;simp at h1;omega
abbrev KOk(k:Int):Prop := -1<=k/\k<=5
abbrev bu(i:Nat):D:=.int (i:Nat)
theorem oh(l:List Nat):clos k (l.map bu):=iu λx _=>di _
theorem all_map{α:Type}(f:α->D)(P:α->Prop):∀(l:List D),(∀x∈l,∃r,P r/\x=f r)->∃G:List α,l=G.map f/\∀r∈G,P r
 |[],_=>⟨[],rfl,by simp⟩
 |x::l,h=>by
  obtain⟨r,pr,rfl⟩:=h _ aT;obtain⟨G,rfl,pG⟩:=all_map f P l λy hy=>h y (aP _ hy);exact⟨r::G,rfl,λq hq=>by
   rcases ar.mp hq with rfl|h
   ·exact pr
   ·exact pG q h⟩
abbrev a6s(r:List Nat):D:=.tup (r.map bu)
abbrev aax(s n:Nat)(r:List Nat):Prop:=r.length=s/\∀x∈r,x<n
structure Table where
 tg:List Nat
 go:List (List Nat)
 ks:List Int
def Table.d(T:Table):D:=.tup [.str (S T.tg),.tup (T.go.map a6s),.tup (T.ks.map D.int)]
structure Table.Ok (T:Table):Prop where
 tong:Tongue T.tg
 n1:1<=T.go.length
 n32:T.go.length<=32
 row:∀r∈T.go,aax T.tg.length T.go.length r
 kl:T.ks.length=T.go.length
 k0:T.ks[0]? = some (-1)
 kk:∀k∈T.ks,KOk k
theorem Table.clo{T:Table}:clo 0 T.d:=qb (fj (jy _) (fj (qb (iu λx _=>qb (oh _))) (fj (qb (iu λx _=>di x)) lz)))
end HND
namespace MI
open L2
structure Sm (d:D) (q:PyData):Prop where
 sh:q.showable=true
 dp:q.depth<=2
 ln:q.shown.length<=4000
end MI
namespace PAP
open L2 MI AT HND
def Pln:D->Prop
 |.non=>True|.bl _=>True|.int _=>True|.str x=>x.cps.toList.length<=1000|.tup xs=>clos 0 xs|.rol xs=>clos 0 xs|.rod _ xs=>clos 0 xs|_=>False
def isTup:D->Bool|.tup _=>true|_=>false
theorem agm(p:Pln d):km [d,.ty "tuple"] h=.ok (.bl (isTup d)) h:=by
 cases d<;>first|(simp only[Pln]at p;done)|simp[km,aav,tyD,a9c,isTup]
theorem aqc(l:List Nat)(h:Hd):afh (.str (S l)) h=.ok ⟨l.map λc=>.str (S [c]),λ_=>True⟩ h:=by
 show R.ok (⟨xj (S l),λ_=>True⟩:Itm) _=_;unfold xj;rw[a1q]
theorem a8n(e:f τ h=.ok (.bl false) h1):yc f k τ h=.ok (.bl false) h1:=by unfold yc;rw[e,bj]
theorem adu(bs:List Bool)(h:Hd):acl [.rol (bs.map D.bl)] h=.ok (.bl (bs.all id)) h:=by
 unfold acl;simp only[a9d]
theorem aks(e:f τ h=.ok (.int i) h1):oS f τ h=.ok (some i) h1:=by unfold oS;rw[e];rfl
theorem aro(e:f τ h=.ok d h1)(e1:lo τ h1=.ok a h2)(e2:hi τ h2=.ok b h3)(e3:a8c d a b h3=.ok v h4):a0n f lo hi τ h=.ok v h4:=by
 unfold a0n;rw[e,bj,e1,bj,e2,bj,e3]
theorem atc(xs:List D)(lo hi:Option Int)(h:Hd):a8c (.tup xs) lo hi h=.ok (.tup (a3z xs lo hi)) h:=by
 unfold a8c;dsimp only
 split
 ·rename_i w;obtain⟨a,b⟩:=w
  congr 2
  unfold a3z;rw[a,b,fh,aZ (by omega)]
 ·rfl
theorem atd(xs:List D)(k:Nat)(h:Hd):a8c (.tup xs) none (some (k:Int)) h=.ok (.tup (xs.take k)) h:=by rw[atc,a83]
theorem ap2(xs:List D)(k:Nat)(h:Hd):a8c (.tup xs) (some (k:Int)) none h=.ok (.tup (xs.drop k)) h:=by rw[atc,a77]
theorem akt{xs ys:List D}(z:xs.length+ys.length<=1000000):gf (.tup xs) (.tup ys) h=.ok (.tup (xs++ys)) h:=by
 cases xs with
 |nil=>rfl
 |cons x xs =>
  show(if (x::xs).length+ys.length<=LINE then R.ok (D.tup (x::xs++ys)) h else .no)=_
  rw[aI (jc z)]
theorem ap3:MI.uy [a] h=.ok (.tup [a]) h:=by unfold MI.uy;rw[aI (jc (by simp))]
theorem a3t(e:f τ h=.ok d h1)(e2:k τ h1=.ok ds h2):aj f k τ h=.ok (d::ds) h2:=by
 unfold aj;rw[e,bj,e2,bj]
theorem aof(e:k τ h=.ok ds h1)(e2:G ds h1=.ok v h2):sA G k τ h=.ok v h2:=by
 unfold sA;rw[e,bj,e2]
theorem ahx{h h':Hd}(hl:h'.length=h.length)(e:f τ h=.ok (.ref h'.length) (h'++[.lst xs]))(cx:clos h.length xs)(c:∀o∈h',a0c h.length o):sZ f τ h=.ok (.rol xs) h':=by
 unfold sZ;rw[e,a03 (by omega) (by simp) cx (by rw[<-hl];simpa[hl] using c)]
 rw[<-hl];simp
end PAP
def cns:=@PAP.a3t
namespace SRC
open L2 MI AT HND EVX
theorem auy(c:x<=y):gLe (.int x) (.int y) h=.ok (.bl true) h:=by
 show R.ok (D.bl (decide (x<=y))) h=_;rw[bA c]
theorem auz(c:¬ x<=y):gLe (.int x) (.int y) h=.ok (.bl false) h:=by
 show R.ok (D.bl (decide (x<=y))) h=_;rw[b6 c]
theorem aqd(e1:c τ h=.ok true h1)(e2:f τ h1=r):a6q c f g τ h=r:=by unfold a6q;rw[e1,bj,aI rfl];exact e2
theorem ap4(e1:c τ h=.ok false h1)(e2:g τ h1=r):a6q c f g τ h=r:=by unfold a6q;rw[e1,bj,b9 (by simp)];exact e2
noncomputable def du:SF:=jx (a3o ak) 8
abbrev a3x(r:List Nat):D:=.rol (r.map bu)
theorem aap{ks:List Int}(P:Src o N)(hN:N<=999999000)(l:ks.length<=100) :
  ∃(u:O) (k:Int),sy ak [some (.ref 0),some t,some n,some (.ref 1),x,y,none,none] [o,.lst (ks.map D.int)]=.nx [some (.ref 0),some t,some n,some (.ref 1),x,y,none,none] [u,.lst ((ks++[k]).map D.int)]/\Src u (N+2)/\KOk k:=by
 obtain⟨a,o1,e1,a0,a1,P1⟩:=lu (m:=5) P (by omega) (by omega) (by omega)
 obtain⟨b,o2,e2,b0,b1,P2⟩:=lu (m:=6) P1 (by omega) (by omega) (by omega)
 have c1:iz false 2 ak [.ref 0,.int 5] [o,.lst (ks.map D.int)]=.ok (.int a) [o1,.lst (ks.map D.int)]:=e1 0 _ rfl;have c2:iz false 2 ak [.ref 0,.int 6] [o1,.lst (ks.map D.int)]=.ok (.int b) [o2,.lst (ks.map D.int)]:=e2 0 _ rfl;unfold sy
 by_cases ha:a<2
 ·refine⟨o2,b,?_,P2,by omega⟩
  rw[bG];exact a1f (bc rfl) rfl (arg1 (aqd (t2s (nq (bc rfl) ckk c1) ckk (ahv ha)) (nq (bc rfl) ckk c2))) (a3r (xs:=ks.map D.int) rfl (by rw[ai];exact a2b (by omega)))
 ·refine⟨o1,-1,?_,P1.up (by omega),by decide⟩
  rw[bG];exact a1f (bc rfl) rfl (arg1 (ap4 (t2s (nq (bc rfl) ckk c1) ckk (a7y ha)) (aq7 ckk (agk _)))) (a3r (xs:=ks.map D.int) rfl (by rw[ai];exact a2b (by omega)))
abbrev HR(u:O)(ks:List Int)(rows:List (List Nat)):Hd:=[u,.lst (ks.map D.int),.lst (rows.map a3x)]
abbrev τR(tg:List Nat)(n:Nat)(i m:Option D)(r:Option D):Sd:=[some (.ref 0),some (.str (S tg)),some (bu n),some (.ref 1),i,m,some (.ref 2),r]
theorem ahy(P:Src u N)(k:Nat):∀o∈HR u ks rows,a0c k o:=by
 intro o ho
 simp only[ar,aM,bC]at ho
 rcases ho with rfl|rfl|rfl
 ·exact qd (bp _) P.clo
 ·exact qd (bp _) (iu λx _=>di x)
 ·exact qd (bp _) (iu λx _=>v6 (oh _))
theorem adv{tg:List Nat}(P:Src u N)(hN:N<=999999000)(t6:tg.length<=6)(n1:1<=n)(n32:n<=32) :
  ∃(u':O) (row:List Nat),aax tg.length n row/\Src u' (N+6)/\sZ (m5 (sIt (sV 1)) t1 (u5 ak) [0,2]) (τR tg n i m r) (HR u ks rows)=.ok (a3x row) (HR u' ks rows):=by
 have mp:=a6b (f:=a4c t1 (u5 ak) (frs' [0,2] (τR tg n i m r))) (λc:Nat=>D.str (S [c]))
  (λpre ys h=>∃(u':O) (row:List Nat),h=HR u' ks rows/\Src u' (N+pre.length)/\ys=row.map bu/\row.length=pre.length/\∀x∈row,x<n)
  tg [] [] (HR u ks rows) ?_ ⟨u,[],rfl,P,rfl,rfl,by simp⟩
 ·obtain⟨zs,h',em,u',row,rfl,P',ez,rl,rx⟩:=mp;rw[dP]at ez rl P';subst ez;refine⟨u',row,⟨rl,rx⟩,P'.up (by omega),?_⟩
  refine PAP.ahx rfl ?_ (oh _) (ahy P' _);unfold m5;rw[adg (bc rfl) (PAP.aqc tg _),bj];dsimp only;rw[aI (by rw[ai];exact jc (by omega)),em]
  rfl
 ·rintro pre c post ys h all ⟨u',row,rfl,P',rfl,rl,rx⟩
  rw[dP]at all;have pl:pre.length<tg.length:=by rw[all];simp
  obtain⟨x,u2,e,x0,x1,P2⟩:=lu (m:=(n:Nat)) P' (by omega) (by omega) (by omega)
  obtain⟨j,rfl⟩:=aX x0;have c1:iz false 2 ak [.ref 0,bu n] (HR u' ks rows)=.ok (bu j) (HR u2 ks rows):=e 0 _ rfl;refine⟨bu j,HR u2 ks rows,?_,u2,row++[j],rfl,P2.up (by rw[ah,ay];omega),by rw[bG];rfl,by rw[ah,ah,ay,ay,rl],λy hy=>?_⟩
  ·rw[yo];unfold u5;exact nq (bc rfl) (bc rfl) c1
  ·rcases aW.mp hy with z|z
   ·exact rx y z
   ·rw[aw]at z;subst z;omega
theorem adw{row:List Nat}(P:Src u N)(rl:row.length<=100)(fx:∀x,x∈row->fe (some (bu x)::frs' ix (τR tg n i m (some (a3x row)))) (HR u ks rows)=.ok (bu (f x)) (HR u ks rows)) :
  sZ (m5 (sIt (sV 7)) t1 fe ix) (τR tg n i m (some (a3x row))) (HR u ks rows)=.ok (a3x (row.map f)) (HR u ks rows):=by
 unfold a3x;rw[cb];refine a7k (xu bu (bu ∘ f) row (adg (bc rfl) rfl) (jc (by omega)) λx hx=>?_) (iu λy _=>di _) (ahy P _)
 rw[yo];exact fx x hx
theorem aaq{tg:List Nat}{ks:List Int}{rows:List (List Nat)}(P:Src u N)(hN:N<=999999000)(t6:tg.length<=6)(n1:1<=n)(n32:n<=32)(lk:ks.length=n)(hi:i<n)(lr:rows.length<=100) :
  ∃(u':O) (row:List Nat) (r':Option D),aax tg.length n row/\Src u' (N+6)/\o7 ak (τR tg n (some (bu i)) (some (.int m)) r) (HR u ks rows)=.nx (τR tg n (some (bu i)) (some (.int m)) r') (HR u' ks (rows++[row])):=by
 obtain⟨u',row,⟨l1,x1⟩,P',e1⟩:=adv (i:=some (bu i)) (m:=some (.int m)) (r:=r) (ks:=ks) (rows:=rows) P hN t6 n1 n32;have fin:∀row:List Nat,v5 (sML a5v (sV 6) (aj (sV 7) bw)) (τR tg n (some (bu i)) (some (.int m)) (some (a3x row))) (HR u' ks rows)=.nx (τR tg n (some (bu i)) (some (.int m)) (some (a3x row))) (HR u' ks (rows++[row])):=λrow=>by
  unfold HR;rw[bG];exact a1f (bc rfl) rfl (arg1 (bc rfl)) (a3r (xs:=rows.map a3x) rfl (by rw[ai];exact a2b (by omega)))
 have third:∀row:List Nat,aax tg.length n row->∃row',aax tg.length n row'/\dz (sIf (a78 (sT (s2 hEq (sV 5) (sI 1))) (sT (s2 hEq (sV 4) (s2 a3y (sV 2) (sI 1)))))
   (j9 7 (sZ (m5 (sIt (sV 7)) t1 (wu ak) [4]))) sNx) (v5 (sML a5v (sV 6) (aj (sV 7) bw))) (τR tg n (some (bu i)) (some (.int m)) (some (a3x row))) (HR u' ks rows)=.nx (τR tg n (some (bu i)) (some (.int m)) (some (a3x row'))) (HR u' ks (rows++[row'])):=λrow ⟨l2,x2⟩=>by
  by_cases h1:m=1
  ·by_cases h2:(i:Int)=(n:Int)-1
   ·refine⟨row.map λ_=>i,⟨by rw[ai,l2],λx hx=>by obtain⟨_,_,rfl⟩:=bb.mp hx;exact hi⟩,?_⟩
    refine af (qe (af (ifT (ahu (tvc rfl (wz h1)) (t2s (bc rfl) (vg rfl (a3s _ _)) (wz h2)))) (aaw (adw (f:=λ_=>i) P' (by omega) λx _=>by unfold wu;exact bc rfl)))) ?_
    exact fin _
   ·refine⟨row,⟨l2,x2⟩,?_⟩;refine af (ifN (ahu (tvc rfl (wz h1)) (t2s (bc rfl) (vg rfl (a3s _ _)) (jh h2)))) ?_;exact fin _
  ·refine⟨row,⟨l2,x2⟩,?_⟩;refine af (ifN (aod (tvc rfl (jh h1)))) ?_;exact fin _
 unfold o7
 by_cases h0:0<m
 ·let g:Nat->Nat:=λx=>if (ks[x]?).getD 0<0/\x<=i then n-1 else x
  have gl:aax tg.length n (row.map g):=⟨by rw[ai,l1],λx hx=>by
   obtain⟨y,hy,rfl⟩:=bb.mp hx;have:=x1 y hy;show(if _ then n-1 else y)<n
   split
   ·exact Nat.sub_lt (by omega) (by decide)
   ·exact this⟩
  obtain⟨row',q,e3⟩:=third _ gl;refine⟨u',row',some (a3x row'),q,P',?_⟩;refine af (nu e1) ?_;refine af (qe (af (ifT (tvc rfl (asp h0))) (aaw (adw (f:=g) P' (by omega) λx hx=>?_)))) ?_
  ·unfold a0e;have hx':=x1 x hx;have kx:ks[x]? = some ((ks[x]?).getD 0):=by rw[a6 (by omega)];rfl
   have ki:∀h:Hd,h[1]? = some (.lst (ks.map D.int))->gIx (.ref 1) (bu x) h=.ok (.int ((ks[x]?).getD 0)) h:=λh hh=>a1g hh (by rw[aR,kx];rfl)
   have sb:s2 a3y (sV 1) (sI 1) (some (bu x)::frs' [2,3,4] (τR tg n (some (bu i)) (some (.int m)) (some (a3x row)))) (HR u' ks rows)=.ok (bu (n-1)) (HR u' ks rows) :=
    (vg rfl (a3s _ _)).trans (by show R.ok (D.int ((n:Int)-1)) _=R.ok (D.int ((n-1:Nat):Int)) _;congr 2;omega)
   by_cases hk:(ks[x]?).getD 0<0
   ·by_cases hx:x<=i
    ·show _=R.ok (bu (if _ then n-1 else x)) _
     rw[aI ⟨hk,hx⟩];exact aqd (ahu (t2s (jt (bc rfl) (bc rfl) (ki _ rfl)) ckk (ahv hk)) (t2s (bc rfl) (bc rfl) (auy (by omega)))) sb
    ·show _=R.ok (bu (if _ then n-1 else x)) _
     rw[b9 λz=>hx z.2];exact ap4 (ahu (t2s (jt (bc rfl) (bc rfl) (ki _ rfl)) ckk (ahv hk)) (t2s (bc rfl) (bc rfl) (auz (by omega)))) (bc rfl)
   ·show _=R.ok (bu (if _ then n-1 else x)) _
    rw[b9 λz=>hk z.1];exact ap4 (aod (t2s (jt (bc rfl) (bc rfl) (ki _ rfl)) ckk (a7y hk))) (bc rfl)
  ·exact e3
 ·obtain⟨row',q,e3⟩:=third _ ⟨l1,x1⟩;refine⟨u',row',some (a3x row'),q,P',?_⟩;refine af (nu e1) ?_;refine af (ifN (tvc rfl (asq h0))) ?_;exact e3
theorem adx:a09 1 (HR u ks rows) FU (.tup [.ref 2,.ref 1])=some (.tup [.rol (rows.map a3x),.rol (ks.map D.int)]):=by
 have oc:∀{k:Nat} {d d':D} {ds ds':List D},a09 1 (HR u ks rows) k d=some d'->xf (a09 1 (HR u ks rows) k) ds=some ds'->xf (a09 1 (HR u ks rows) k) (d::ds)=some (d'::ds'):=λe1 e2=>by unfold xf;rw[e1,e2]
 refine a9m (k:=19) (oc (a2j (k:=17) (by omega) rfl (iu λx _=>v6 (oh _))) (oc (a2j (k:=17) (by omega) rfl (iu λx _=>di x)) rfl)) ?_
 intro z
 have:=p8.mp z (.ref 2) aT
 simp only[MI.clo]at this;omega
noncomputable abbrev ahz(L0:SS):SS :=
 (dz (j9 3 (sA a08 (aj (s1 a88 (sI 1)) bw)))
 (dz (a4o (sRg a4b (aj (sI 1) (aj (sV 2) bw))) (kN 4) L0)
 (dz (j9 5 (sA (iz false 2 ak) (aj (sV 0) (aj (sI 3) bw))))
 (dz (j9 6 (sA a08 bw))
 (dz (a4o (sRg a0u (aj (sV 2) bw)) (kN 4) (o7 ak))
 (p7 (sA uy (aj (sV 6) (aj (sV 3) bw)))))))))
theorem ady{L0:SS}{tg:List Nat}(hk0:∀{u:O} {ks:List Int} {M:Nat} (x:Option D),Src u M->M<=999999000->ks.length<=100->∃(u':O) (k:Int),L0 [some (.ref 0),some (.str (S tg)),some (bu n),some (.ref 1),x,none,none,none] [u,.lst (ks.map D.int)]=.nx [some (.ref 0),some (.str (S tg)),some (bu n),some (.ref 1),x,none,none,none] [u',.lst ((ks++[k]).map D.int)]/\Src u' (M+2)/\KOk k)(P:Src o N)(hN:N<=999990000)(t6:tg.length<=6)(n1:1<=n)(n32:n<=32) :
  ∃(ks:List Int) (rows:List (List Nat)) (o':O),ks.length=n/\ks[0]? = some (-1)/\(∀k∈ks,KOk k)/\rows.length=n/\(∀r∈rows,aax tg.length n r) /\
   Dr (jx (ahz L0) 8) 3 [.str (S tg),bu n] o (.tup [.rol (rows.map a3x),.rol (ks.map D.int)]) o'/\Src o' (N+300):=by
 have lo:=yg (g:=kN 4) (b:=L0) (λi:Nat=>D.int ((1+i:Nat)))
  (λpre τ h=>∃(u:O) (ks:List Int) (t4:Option D),τ=[some (.ref 0),some (.str (S tg)),some (bu n),some (.ref 1),t4,none,none,none]/\h=[u,.lst (ks.map D.int)]/\Src u (N+2*pre.length)/\ks.length=1+pre.length/\ks[0]? = some (-1)/\∀k∈ks,KOk k)
  (List.range (n-1)) [some (.ref 0),some (.str (S tg)),some (bu n),some (.ref 1),none,none,none,none] [o,.lst ([-1].map D.int)] ?_
  ⟨o,[-1],none,rfl,rfl,P,rfl,rfl,by intro k hk;rw[aw]at hk;subst hk;decide⟩
 ·obtain⟨τ',h',e1,u,ks,t4,rfl,rfl,P1,l1,k0,kk⟩:=lo;rw[bK]at P1 l1;obtain⟨m,u1,e2,m0,m1,P2⟩:=lu (m:=3) P1 (by omega) (by omega) (by omega)
  have c2:iz false 2 ak [.ref 0,.int 3] [u,.lst (ks.map D.int)]=.ok (.int m) [u1,.lst (ks.map D.int)]:=e2 0 _ rfl;have lp:=yg (g:=kN 4) (b:=o7 ak) (λi:Nat=>D.int (i:Nat))
   (λpre τ h=>∃(u':O) (rows:List (List Nat)) (i r:Option D),τ=τR tg n i (some (.int m)) r/\h=HR u' ks rows/\Src u' (N+100+6*pre.length)/\rows.length=pre.length/\∀r∈rows,aax tg.length n r)
   (List.range n) (τR tg n t4 (some (.int m)) none) (HR u1 ks []) ?_ ⟨u1,[],_,_,rfl,rfl,P2.up (by omega),rfl,by simp⟩
  ·obtain⟨τ',h',e3,u',rows,i,r,rfl,rfl,P3,lr,rr⟩:=lp;rw[bK]at P3 lr;have ca:MI.clo 0 (.tup [.rol (rows.map a3x),.rol (ks.map D.int)]):=qb (fj (v6 (iu λx _=>v6 (oh _))) (fj (v6 (iu λy _=>di y)) lz));refine⟨ks,rows,u',by omega,k0,kk,lr,rr,Dr.of rfl ?_ P.clo (r:=.ok (.tup [.ref 2,.ref 1]) (HR u' ks rows)) ?_ (a3n adx (by intro x hx;rw[show List.take 1 (HR u' ks rows)=[u'] from rfl,aw]at hx;subst hx;exact qd (by omega) P3.clo)) ca P3.clo,P3.up (by omega)⟩
   ·intro x hx
    simp only[ar,aM,bC]at hx
    rcases hx with rfl|rfl
    ·exact jy _
    ·exact di _
   ·rw[fu];show toR (ahz L0 [some (.ref 0),some (.str (S tg)),some (bu n),none,none,none,none,none] [o])=_;refine etr (nu (d:=.ref 1) (h1:=[o,.lst ([-1].map D.int)]) rfl) ?_;refine etr (a6h (ade (a:=1) (n:=n) ckk (bc rfl) (jc (by omega)) (jc (by omega)))) ?_
    refine af (aK (λz=>toR (MI.thn z _)) e1) ?_;rw[a0d];refine ets (nq (bc rfl) ckk c2) ?_;refine etr (nu (d:=.ref 2) (h1:=HR u1 ks []) rfl) ?_;refine etr (a6h (a8i (n:=n) (bc rfl) (jc (by omega)))) ?_
    refine af (aK (λz=>toR (MI.thn z _)) e3) ?_;rw[a0d];exact aK toR (jg (nq (bc rfl) (bc rfl) aoh))
  ·rintro pre i post τ h all ⟨u',rows,i',r,rfl,rfl,P3,lr,rr⟩
   obtain⟨hi,hk⟩:=a1h all;obtain⟨u2,row,r',q,P4,e4⟩:=aaq (i:=i) (m:=m) (r:=r) (ks:=ks) (rows:=rows) P3 (by omega) t6 n1 n32 (by omega) hk (by omega)
   refine⟨_,_,rfl,_,_,e4,u2,rows++[row],_,_,rfl,rfl,P4.up (by rw[ah,ay];omega),by rw[ah,ah,ay,ay,lr],λx hx=>?_⟩
   rcases aW.mp hx with z|z
   ·exact rr x z
   ·rw[aw]at z;subst z;exact q
 ·rintro pre i post τ h all ⟨u,ks,t4,rfl,rfl,P2,l1,k0,kk⟩
  obtain⟨hi,hk⟩:=a1h all;obtain⟨u',k,e3,P3,hk3⟩:=hk0 (ks:=ks) (some (.int ((1+i:Nat):Int))) P2 (by omega) (by omega)
  refine⟨_,_,rfl,_,_,e3,u',ks++[k],_,rfl,rfl,P3.up (by rw[ah,ay];omega),by rw[ah,ah,ay,ay];omega,?_,λq hq=>?_⟩
  ·rw[aE (by omega)];exact k0
  ·rcases aW.mp hq with h|h
   ·exact kk q h
   ·rw[aw]at h;subst h;exact hk3
theorem agn{tg:List Nat}(P:Src o N)(hN:N<=999990000)(t6:tg.length<=6)(n1:1<=n)(n32:n<=32) :
  ∃(ks:List Int) (rows:List (List Nat)) (o':O),ks.length=n/\ks[0]? = some (-1)/\(∀k∈ks,KOk k)/\rows.length=n/\(∀r∈rows,aax tg.length n r) /\
   Dr du 3 [.str (S tg),bu n] o (.tup [.rol (rows.map a3x),.rol (ks.map D.int)]) o'/\Src o' (N+300) :=
 ady (L0:=sy ak) (λx P h l=>aap P h l) P hN t6 n1 n32
end SRC
namespace BF
def walk(step:Nat->Nat->Nat)(r:Nat):List Nat->Nat
 |[]=>r
 |c::p=>step (walk step r p) c
def Ok(s:Nat)(w:List Nat):Prop:=∀c∈w,c<s
theorem Ok.nil:Ok s []:=λ_ h=>by simp at h
theorem Ok.cons{s c:Nat}{p:List Nat}(hc:c<s)(h:Ok s p):Ok s (c::p):=λd hd=>by
 rcases ar.mp hd with rfl|hd
 ·exact hc
 ·exact h d hd
section
variable(s:Nat)(step:Nat->Nat->Nat)(K:Nat->Bool)
def fl:Nat->Nat->Bool
 |0,r=>K r
 |k+1,r=>(List.range s).any λc=>fl k (step r c)
variable{s step K}
end
theorem a2n:∀(n:Nat) (l:List Nat),l.Nodup->(∀x∈l,x<n)->l.length<=n
 |0,l,_,h=>by
  cases l with
  |nil=>exact ag _
  |cons x l=>exact absurd (h x aT) (by omega)
 |n+1,l,nd,h=>by
  have:=a2n n (l.erase n) (nd.erase n) λx hx=>by
   have h1:=h x (List.mem_of_mem_erase hx);have h2:x≠n:=λz=>by subst z;exact(List.Nodup.not_mem_erase nd) hx
   omega
  have:=List.length_erase (a:=n) (l:=l)
  split at this<;>omega
end BF
namespace SRC
open L2 MI AT HND EVX
theorem ate{ck:Hd->Prop}{f:D->Hd->R D}{α:Type}(g F:α->D){h:Hd}(c:ck h):∀{xs:List α},(∀x∈xs,f (g x) h=.ok (F x) h)->mapR ck f (xs.map g) h=.ok (xs.map F) h
 |[],_=>by rw[dn,mapR,aI c];rfl
 |x::xs,st=>by
  rw[bg,mapR,aI c,st x aT];show(mapR _ f (xs.map g) h).bind _=_;rw[ate g F c λy hy=>st y (aP _ hy)];rfl
theorem ap5{fi:SI}{t:D->Option Sd}{fe:SE}{ix:List Nat}{τ:Sd}{h:Hd}{α:Type}{ck:Hd->Prop}(g F:α->D)(xs:List α)(c:ck h)(e:fi τ h=.ok ⟨xs.map g,ck⟩ h)(z:xs.length<=LINE)
  (st:∀x∈xs,a4c t fe (frs' ix τ) (g x) h=.ok (F x) h):m5 fi t fe ix τ h=.ok (.ref h.length) (h++[.lst (xs.map F)]):=by
 unfold m5;rw[e,bj];dsimp only;rw[aI (by rw[ai];exact z),ate g F c st]
 rfl
theorem aku{l:List Nat}:inD (bu x) (l.map bu)=decide (x∈l):=by
 unfold inD;rw[List.any_map]
 by_cases h:x∈l
 ·rw[bA h,List.any_eq_true];exact⟨x,h,by show((x:Int) == (x:Int))=true;simp⟩
 ·rw[b6 h,List.any_eq_false]
  intro y hy
  have:x≠y:=λe=>h (e ▸ hy)
  show ¬ ((y:Int) == (x:Int))=true;rw[beq_iff_eq];omega
theorem a9s{l:List Nat}(e:h[i]? = some (.lst (l.map bu))):gIn true (bu x) (.ref i) h=.ok (.bl (!decide (x∈l))) h:=by
 have fl:xm (bu x)=true/\(l.map bu).all xm=true:=⟨rfl,by
  rw[aO]
  intro y hy
  obtain⟨n,_,rfl⟩:=bb.mp hy
  rfl⟩
 unfold gIn vo;simp only[e,aI fl,cQ,aku]
abbrev cst(l:List Nat):List Int:=l.map λx:Nat=>(x:Int)
theorem adz(l:List Nat):l.map bu=(cst l).map D.int:=by unfold cst;rw[cb];rfl
theorem a4x{l:List Nat}(e:h[i]? = some (.lst (l.map bu))):a4s (.ref i) h=some (cst l):=by
 unfold a4s;simp only[e];rw[adz,ints_map]
theorem aar(l:List Nat):∃m:List Nat,PySem.W.sortI (cst l)=cst m/\m.Perm l/\m.Pairwise (·<=·):=by
 have p:=PySem.W.sortI_perm (cst l);have s:=PySem.W.sortI_rises (cst l);refine⟨(PySem.W.sortI (cst l)).map Int.toNat,?_,?_,?_⟩
 ·unfold cst;rw[cb];have:∀x∈PySem.W.sortI (l.map λx:Nat=>(x:Int)),((λx:Nat=>(x:Int)) ∘ Int.toNat) x=x:=λx hx=>by
   have:=p.mem_iff.mp hx
   obtain⟨y,_,rfl⟩:=bb.mp this;simp
  rw[cY this];simp
 ·have:=p.map Int.toNat
  have e:(cst l).map Int.toNat=l:=by
   unfold cst;rw[cb];exact(cY λx _=>by simp).trans (List.map_id l)
  rwa[e]at this
 ·rw[List.pairwise_map];exact s.imp λh=>by omega
def pos(m:List Nat)(x:Nat):Nat:=(ixI (x:Int) (cst m)).getD 0
theorem ai0{m:List Nat}{x:Nat}(h:x∈m):ixI (x:Int) (cst m)=some (pos m x)/\pos m x<m.length:=by
 obtain⟨j,hj⟩:=a9i (n:=(x:Int)) (l:=cst m) (bb.mpr ⟨x,h,rfl⟩);unfold pos;rw[hj];refine⟨rfl,?_⟩;have:=(a7.mp (ad5 hj).1).1;simpa using this
noncomputable def jz:SF:=jx (yh ak du dg) 10
abbrev τT(most:Nat)(tg:List Nat)(many:Int)(rows:List (List Nat))(ks:List Int)(m:D)(i:Nat)(t8 t9:Option D):Sd:=[some (.ref 0),some (bu most),some (.str (S tg)),some (.int many),some (.rol (rows.map a3x)),some (.rol (ks.map D.int)),some m,some (bu i),t8,t9]
structure Met (n:Nat) (met:List Nat):Prop where
 nd:met.Nodup
 lt:∀x∈met,x<n
 z:0∈met
theorem Met.len(M:Met n met):met.length<=n:=BF.a2n n met M.nd M.lt
theorem Met.add(M:Met n met)(hx:x<n)(h:x∉met):Met n (met++[x]):=by
 refine⟨?_,λy hy=>?_,bY _ M.z⟩
 ·rw[bL];refine⟨M.nd,by simp,λa ha b hb=>?_⟩
  rw[aw]at hb;subst hb;exact λe=>h (e ▸ ha)
 ·rcases aW.mp hy with z|z
  ·exact M.lt y z
  ·rw[aw]at z;subst z;exact hx
section
variable{A B C:SF}{most n:Nat}{tg:List Nat}{many:Int}{rows:List (List Nat)}{ks:List Int}
theorem ago{i:Nat}{met row:List Nat}(n32:n<=32)(M:Met n met)(rx:∀x∈row,x<n) :
  ∃(met':List Nat) (t8':Option D),forL (λ_=>True) (kN 8) (u6 A B C) (row.map bu) (τT most tg many rows ks (.ref 1) i t8 none) [u,.lst (met.map bu)]=.nx (τT most tg many rows ks (.ref 1) i t8' none) [u,.lst (met'.map bu)]/\Met n met'/\(∃add,met'=met++add)/\∀x∈row,x∈met':=by
 have lp:=yg (g:=kN 8) (b:=u6 A B C) bu
  (λpre τ h=>∃(met':List Nat) (t8:Option D),τ=τT most tg many rows ks (.ref 1) i t8 none/\h=[u,.lst (met'.map bu)]/\Met n met'/\(∃add,met'=met++add)/\∀x∈pre,x∈met')
  row (τT most tg many rows ks (.ref 1) i t8 none) [u,.lst (met.map bu)] ?_ ⟨met,t8,rfl,rfl,M,⟨[],by simp⟩,by simp⟩
 ·obtain⟨τ',h',e,met',t8',rfl,rfl,M',ad,al⟩:=lp;exact⟨met',t8',e,M',ad,al⟩
 ·rintro pre x post τ h all ⟨met',t8,rfl,rfl,M',⟨add,rfl⟩,al⟩
  have hx:x<n:=rx x (by rw[all];simp)
  unfold u6
  by_cases h:x∈met++add
  ·refine⟨_,_,rfl,τT most tg many rows ks (.ref 1) i (some (bu x)) none,[u,.lst ((met++add).map bu)],?_,met++add,_,rfl,rfl,M',⟨add,rfl⟩,λy hy=>?_⟩
   ·refine af (ifF (t2s (bc rfl) (bc rfl) ((a9s (l:=met++add) rfl).trans (by rw[bA h];rfl)))) rfl
   ·rcases aW.mp hy with z|z
    ·exact al y z
    ·rw[aw]at z;subst z;exact h
  ·refine⟨_,_,rfl,τT most tg many rows ks (.ref 1) i (some (bu x)) none,[u,.lst ((met++add++[x]).map bu)],?_,met++add++[x],_,rfl,rfl,M'.add hx h,⟨add++[x],by simp⟩,λy hy=>?_⟩
   ·have ln:=M'.len;refine af (ifT (t2s (bc rfl) (bc rfl) ((a9s (l:=met++add) rfl).trans (by rw[b6 h];rfl)))) ?_
    rw[bG (l₁:=met++add)];exact a1f (bc rfl) rfl (arg1 (bc rfl)) (a3r (xs:=(met++add).map bu) rfl (by rw[ai];exact a2b (by omega)))
   ·rcases aW.mp hy with z|z
    ·exact bY _ (al y z)
    ·rw[aw]at z;subst z;simp
def Done(rows:List (List Nat))(met:List Nat)(i:Nat):Prop:=∀j,j<i->∀r,met[j]? = some r->∀x∈(rows[r]?).getD [],x∈met
theorem akv{s:Nat}(n1:1<=n)(n32:n<=32)(lr:rows.length=n)(rr:∀r∈rows,aax s n r) :
  ∃(met:List Nat) (i:Nat) (t8:Option D),sWh (ww A B C) (u9 A B C) 100000 (τT most tg many rows ks (.ref 1) 0 none none) [u,.lst ([0].map bu)]=.nx (τT most tg many rows ks (.ref 1) i t8 none) [u,.lst (met.map bu)]/\Met n met/\∀r∈met,∀x∈(rows[r]?).getD [],x∈met:=by
 have w:=ak8 (c:=ww A B C) (f:=u9 A B C)
  (λm τ h=>∃(met:List Nat) (i:Nat) (t8:Option D),τ=τT most tg many rows ks (.ref 1) i t8 none/\h=[u,.lst (met.map bu)]/\m=32-i/\i<=met.length/\Met n met/\Done rows met i)
  (λτ h=>∃(met:List Nat) (i:Nat) (t8:Option D),τ=τT most tg many rows ks (.ref 1) i t8 none/\h=[u,.lst (met.map bu)]/\Met n met/\Done rows met met.length)
  (λ_ _=>False) ?_ 32 100000 (τT most tg many rows ks (.ref 1) 0 none none) [u,.lst ([0].map bu)] (by omega)
  ⟨[0],0,none,rfl,rfl,rfl,by simp,⟨by simp,by simp;omega,by simp⟩,λj hj=>absurd hj (Nat.not_lt_zero j)⟩
 ·rcases w with⟨τ',h',e,met,i,t8,rfl,rfl,M,D⟩|⟨_,_,_,z⟩
  ·refine⟨met,i,t8,e,M,λr hr x hx=>?_⟩;obtain⟨j,hj,rfl⟩:=List.getElem_of_mem hr;exact D j hj _ (a6 hj) x hx
  ·exact z.elim
 ·rintro m τ h ⟨met,i,t8,rfl,rfl,rfl,il,M,D⟩
  have ln:=M.len;have lm:∀h:Hd,h[1]? = some (.lst (met.map bu))->yz [.ref 1] h=.ok (bu met.length) h:=λh e=>by rw[a8k e,ai]
  by_cases lt:i<met.length
  ·refine .inr ⟨_,t2s (bc rfl) (uw (bc rfl) (lm _ rfl)) (ahv (by omega)),.inl ?_⟩
   have rl:met[i]<n:=M.lt _ (aU lt);have gm:met[i]? = some met[i]:=a6 lt
   generalize met[i]=r at rl gm
   have gr:rows[r]? = some ((rows[r]?).getD []):=by rw[a6 (by omega)];rfl
   have rn:=rr _ (aQ gr);obtain⟨met',t8',e,M',⟨add,ea⟩,al⟩:=ago (A:=A) (B:=B) (C:=C) (u:=u) (i:=i) (t8:=t8) (most:=most) (tg:=tg) (many:=many) (rows:=rows) (ks:=ks) n32 M rn.2;refine⟨τT most tg many rows ks (.ref 1) (i+1) t8' none,[u,.lst (met'.map bu)],32-(i+1),?_,by omega,met',i+1,t8',rfl,rfl,rfl,by rw[ea,ah];omega,M',λj hj q hq x hx=>?_⟩
   ·unfold u9;refine af (a6h (adg (jt (bc rfl) (jt (bc rfl) (bc rfl) (a1g (xs:=met.map bu) rfl (y:=bu r) (by rw[aR,gm];rfl))) (ald (y:=a3x ((rows[r]?).getD [])) (by rw[aR,gr];rfl))) rfl)) ?_
    refine af (aK (λz=>MI.thn z _) e) ?_;rw[a0d];exact aog rfl ckk a0p
   ·by_cases je:j=i
    ·subst je;rw[ea,aE lt,gm]at hq;cases hq
     exact al x hx
    ·have jl:j<met.length:=by omega
     rw[ea,aE jl]at hq;rw[ea];exact bY _ (D j (by omega) q hq x hx)
  ·refine .inl ⟨_,t2s (bc rfl) (uw (bc rfl) (lm _ rfl)) (a7y (by omega)),met,i,t8,rfl,rfl,M,?_⟩
   rw[show met.length=i by omega];exact D
end
theorem ae0{l:List Nat}(e:h[i]? = some (.lst (l.map bu)))(z:l.length<64)(em:PySem.W.sortI (cst l)=cst m):a0o [.ref i] h=.ok (.ref h.length) (h++[.lst (m.map bu)]):=by
 have q:=a4x e;unfold a0o;simp only[q];rw[aI (by unfold cst;rw[ai];exact z),em,<-adz]
theorem ae1{m:List Nat}(e:h[i]? = some (.lst (m.map bu)))(hx:x∈m):a3m (.ref i) [bu x] h=.ok (bu (pos m x)) h:=by
 have q:=a4x e;unfold a3m;simp only[q,(ai0 hx).1]
section
variable{A B C:SF}{most n:Nat}{tg:List Nat}{many:Int}{rows:List (List Nat)}{ks:List Int}
abbrev a8o(rows:List (List Nat))(m:List Nat):List (List Nat):=m.map λr=>((rows[r]?).getD []).map (pos m)
abbrev a4y(ks:List Int)(m:List Nat):List Int:=m.map λr=>(ks[r]?).getD 0
theorem ae2(P:Src u N)(n32:n<=32)(lr:rows.length=n)(lk:ks.length=n)(t6:tg.length<=6)(rr:∀r∈rows,aax tg.length n r)(M:Met n met)(cl:∀r∈met,∀x∈(rows[r]?).getD [],x∈met) :
  ∃m:List Nat,m.Perm met/\m.Pairwise (·<=·)/\∃h:Hd,h.take 1=[u]/\toR (dz (j9 6 (sA a0o (aj (sV 6) bw)))
   (dz (j9 9 (sA o6 (aj (sZ (m5 (sIt (sV 6)) t1 (uc A B C) [4,6])) bw)))
   (p7 (sA uy (aj (sV 2) (aj (sV 9) (aj (sA o6 (aj (sZ (m5 (sIt (sV 6)) t1 (ud A B C) [5])) bw)) bw)))))) (τT most tg many rows ks (.ref 1) i t8 none) [u,.lst (met.map bu)])=.ok (.tup [.str (S tg),.tup ((a8o rows m).map a6s),.tup ((a4y ks m).map D.int)]) h:=by
 obtain⟨m,em,pm,sm⟩:=aar met;have ln:=M.len;have lm:m.length=met.length:=pm.length_eq
 let H:Hd:=[u,.lst (met.map bu),.lst (m.map bu)]
 have hc:∀o∈H,a0c H.length o:=by
  intro o ho
  simp only[H,ar,aM,bC]at ho
  rcases ho with rfl|rfl|rfl
  ·exact qd (bp _) P.clo
  ·exact qd (bp _) (oh _)
  ·exact qd (bp _) (oh _)
 have so:a0o [.ref 1] [u,.lst (met.map bu)]=.ok (.ref 2) H:=by
  exact ae0 (l:=met) rfl (by omega) em
 have rw':∀r∈m,rows[r]? = some ((rows[r]?).getD [])/\aax tg.length n ((rows[r]?).getD [])/\∀x∈(rows[r]?).getD [],x∈m:=λr hr=>by
  have h1:=M.lt r (pm.mem_iff.mp hr);have e:rows[r]? = some ((rows[r]?).getD []):=by rw[a6 (by omega)];rfl
  exact⟨e,rr _ (aQ e),λx hx=>pm.mem_iff.mpr (cl r (pm.mem_iff.mp hr) x hx)⟩
 have z1:sZ (m5 (sIt (sV 6)) t1 (uc A B C) [4,6]) (τT most tg many rows ks (.ref 2) i t8 none) H=.ok (.rol ((a8o rows m).map a6s)) H:=by
  rw[cb];refine a7k (ap5 (ck:=λh=>h[2]? = some (.lst (m.map bu))) bu (a6s ∘ λr=>((rows[r]?).getD []).map (pos m)) m rfl (adg (bc rfl) rfl) (jc (by omega)) λr hr=>?_) (iu λx _=>qb (oh _)) hc
  obtain⟨e1,⟨e2,_⟩,e3⟩:=rw' r hr;rw[yo];unfold uc;have z2:sZ (m5 (sIt (s2 gIx (sV 1) (sV 0))) t1 (wy A B C) [2]) (some (bu r)::frs' [4,6] (τT most tg many rows ks (.ref 2) i t8 none)) H=.ok (.rol ((((rows[r]?).getD []).map (pos m)).map bu)) H:=by
   rw[cb];refine a7k (xu bu (bu ∘ pos m) ((rows[r]?).getD []) (adg (jt (bc rfl) (bc rfl) (ald (y:=a3x ((rows[r]?).getD [])) (by rw[aR,e1];rfl))) rfl) (jc (by omega)) λx hx=>?_) (iu λx _=>di _) hc
   rw[yo];unfold wy;exact arl (bc rfl) rfl (arg1 (bc rfl)) (ae1 rfl (e3 x hx))
  exact uw z2 rfl
 have z3:∀t9:Option D,sZ (m5 (sIt (sV 6)) t1 (ud A B C) [5]) (τT most tg many rows ks (.ref 2) i t8 t9) H=.ok (.rol ((a4y ks m).map D.int)) H:=λt9=>by
  rw[cb];refine a7k (ap5 (ck:=λh=>h[2]? = some (.lst (m.map bu))) bu (D.int ∘ λr=>(ks[r]?).getD 0) m rfl (adg (bc rfl) rfl) (jc (by omega)) λr hr=>?_) (iu λx _=>di _) hc
  have h1:=M.lt r (pm.mem_iff.mp hr);have e:ks[r]? = some ((ks[r]?).getD 0):=by rw[a6 (by omega)];rfl
  rw[yo];unfold ud;exact jt (bc rfl) (bc rfl) (ald (by rw[aR,e];rfl))
 refine⟨m,pm,sm,H,rfl,?_⟩;refine ets (uw (bc rfl) so) ?_;refine ets (uw z1 (show o6 [.rol ((a8o rows m).map a6s)] H=.ok (.tup ((a8o rows m).map a6s)) H from rfl)) ?_
 exact aK toR (jg (a4e (bc rfl) (bc rfl) (uw (z3 _) (show o6 [.rol ((a4y ks m).map D.int)] H=.ok (.tup ((a4y ks m).map D.int)) H from rfl)) aep))
end
theorem agp(P:Src o N)(hN:N<=999980000)(m1:1<=most)(m32:most<=32):∃(T:Table) (o':O),T.Ok/\Dr jz 2 [bu most] o T.d o'/\Src o' (N+400):=by
 obtain⟨tg,o1,T1,e1,P1⟩:=adt P (by omega)
 obtain⟨x,o2,e2,x0,x1,P2⟩:=lu (m:=7) P1 (by omega) (by omega) (by omega)
 obtain⟨y,o3,e3,y0,y1,P3⟩:=lu (m:=6) P2 (by omega) (by omega) (by omega)
 obtain⟨z,o4,e4,z0,z1,P4⟩:=lu (m:=(most:Nat)) P3 (by omega) (by omega) (by omega)
 have c1:iz false 1 dg [.ref 0] [o]=.ok (.str (S tg)) [o1]:=e1 0 _ rfl;have c2:iz false 2 ak [.ref 0,.int 7] [o1]=.ok (.int x) [o2]:=e2 0 _ rfl;have c3:iz false 2 ak [.ref 0,.int 6] [o2]=.ok (.int y) [o3]:=e3 0 _ rfl;have c4:iz false 2 ak [.ref 0,bu most] [o3]=.ok (.int z) [o4]:=e4 0 _ rfl;obtain⟨many,u,n1,Pu,eu⟩:∃(many:Int) (u:O),1<=many/\Src u (N+10)/\∀g:SS,dz (j9 3 (s2 gf (sI 2) (sA (iz false 2 ak) (aj (sV 0) (aj (sI 7) bw)))))
   (dz (sIf (sT (s2 hEq (sA (iz false 2 ak) (aj (sV 0) (aj (sI 6) bw))) (sI 0)))
    (j9 3 (s2 gf (sI 1) (sA (iz false 2 ak) (aj (sV 0) (aj (sV 1) bw)))))
    sNx) g) [some (.ref 0),some (bu most),some (.str (S tg)),none,none,none,none,none,none,none] [o1]=g [some (.ref 0),some (bu most),some (.str (S tg)),some (.int many),none,none,none,none,none,none] [u]:=by
  by_cases hy:y=0
  ·refine⟨1+z,o4,by omega,P4,λg=>?_⟩
   refine af (nu (jt ckk (nq (bc rfl) ckk c2) m9)) ?_;exact qe (af (ifT (t2s (nq (bc rfl) ckk c3) ckk (wz hy))) (aaw (jt ckk (nq (bc rfl) (bc rfl) c4) m9)))
  ·refine⟨2+x,o3,by omega,P3.up (by omega),λg=>?_⟩
   refine af (nu (jt ckk (nq (bc rfl) ckk c2) m9)) ?_;exact ifN (t2s (nq (bc rfl) ckk c3) ckk (jh hy))
 obtain⟨n,hn1,hn2,mn⟩:∃n:Nat,1<=n/\n<=32/\(if (most:Int)<many then (most:Int) else many)=(n:Nat):=by
  by_cases h:(most:Int)<many
  ·exact⟨most,m1,m32,aI h⟩
  ·exact⟨many.toNat,by omega,by omega,by rw[b9 h];omega⟩
 obtain⟨ks,rows,u2,lk,k0,kk,lr,rr,e5,P5⟩:=agn (tg:=tg) (n:=n) Pu (by omega) T1.hi hn1 hn2
 have c5:iz false 3 du [.ref 0,.str (S tg),bu n] [u]=.ok (.tup [.rol (rows.map a3x),.rol (ks.map D.int)]) [u2]:=e5 0 _ rfl;obtain⟨met,i,t8,ew,M,cl⟩:=akv (A:=ak) (B:=du) (C:=dg) (u:=u2) (most:=most) (tg:=tg) (many:=many) (ks:=ks) hn1 hn2 lr rr;obtain⟨m,pm,sm,H,hH,ee⟩:=ae2 (A:=ak) (B:=du) (C:=dg) (most:=most) (many:=many) (i:=i) (t8:=t8) P5 hn2 lr lk T1.hi rr M cl;have lm:m.length=met.length:=pm.length_eq;have ln:=M.len;have zm:0∈m:=pm.mem_iff.mpr M.z;have m0:m[0]? = some 0:=by
  cases m with
  |nil=>cases zm
  |cons a l =>
   rcases ar.mp zm with q|q
   ·rw[<-q];rfl
   ·have:=(List.pairwise_cons.mp sm).1 0 q
    rw[show a=0 by omega];rfl
 let T:Table:=⟨tg,a8o rows m,a4y ks m⟩
 have ml:1<=m.length:=by cases m with|nil=>cases zm|cons _ _=>simp
 have ok:T.Ok:=by
  refine⟨T1,by simpa[T] using ml,by show(a8o rows m).length<=32;rw[ai];omega,λr hr=>?_,by simp[T],?_,λk hk=>?_⟩
  ·obtain⟨q,hq,rfl⟩:=bb.mp hr;have h1:=M.lt q (pm.mem_iff.mp hq);have e:rows[q]? = some ((rows[q]?).getD []):=by rw[a6 (by omega)];rfl
   obtain⟨a,b⟩:=rr _ (aQ e);refine⟨by rw[ai];exact a,λx hx=>?_⟩
   obtain⟨v,hv,rfl⟩:=bb.mp hx;show pos m v<(a8o rows m).length;rw[ai];exact(ai0 (pm.mem_iff.mpr (cl q (pm.mem_iff.mp hq) v hv))).2
  ·show(a4y ks m)[0]? = _;rw[aR,m0];show some ((ks[0]?).getD 0)=_;rw[k0];rfl
  ·obtain⟨q,hq,rfl⟩:=bb.mp hk;have h1:=M.lt q (pm.mem_iff.mp hq);have e:ks[q]? = some ((ks[q]?).getD 0):=by rw[a6 (by omega)];rfl
   exact kk _ (aQ e)
 refine⟨T,u2,ok,Dr.of rfl (by intro x hx;rw[aw]at hx;subst hx;exact di _) P.clo (r:=.ok T.d H) ?_ ((my (a9l (bp 1) Table.clo) (by rw[hH];intro x hx;rw[aw]at hx;subst hx;exact qd (by omega) P5.clo)).trans (by rw[hH])) Table.clo P5.clo,P5.up (by omega)⟩
 unfold jz;rw[fu];show toR (yh ak du dg [some (.ref 0),some (bu most),none,none,none,none,none,none,none,none] [o])=_;unfold yh;refine ets (uw (bc rfl) c1) ?_;refine etr (eu _) ?_;refine etr (qe (adf (a4e (bc rfl) (bc rfl) (nq (bc rfl) (bc rfl) (show a7c [.int many,.int (most:Int)] [u]=.ok (bu n) [u] by show R.ok (D.int (if (most:Int)<many then (most:Int) else many)) [u]=_;rw[mn])) c5) rfl)) ?_
 refine etr (nu (d:=.ref 1) (h1:=[u2,.lst ([0].map bu)]) rfl) ?_;refine etr (nu ckk) ?_;refine etr (qe ew) ?_;exact ee
end SRC
namespace K21
open L2 MI
noncomputable def ug:SE :=
 (s2 (gIn false) (sV 0) (sV 1))
noncomputable def o8:SS :=
 (p7 (yc (sA km (aj (sV 1) (aj (sC (.ty "str")) bw))) (sA acl (aj (sZ (m5 (sIt (sV 1)) t1 ug [0])) bw))))
end K21
namespace K23
open L2 MI
noncomputable def ug:SE :=
 (s2 (gIn false) (sV 0) (sV 1))
noncomputable def o8:SS :=
 (p7 (yc (sA km (aj (sV 1) (aj (sC (.ty "str")) bw))) (sA acl (aj (sZ (m5 (sIt (sV 1)) t1 ug [0])) bw))))
noncomputable def gq:SS :=
 (v5 (sML a5v (sV 6) (aj (s2 gIx (s2 gIx (sV 4) (s2 gIx (sV 6) (s1 a88 (sI 1)))) (sMS a3h (sV 3) (aj (sV 7) bw))) bw)))
noncomputable def j5:SS :=
 (dz (a6r (sV 0) (a4m 3 (jo (kN 3) (jo (kN 4) (jo (kN 5) a5q)))))
 (dz (j9 6 (sA a08 (aj (sV 1) bw)))
 (dz (a4o (sIt (sV 2)) (kN 7) gq)
 (p7 (sV 6)))))
end K23
namespace K22
open L2 MI AT HND
section
variable(T:Table)
def stp(r c:Nat):Nat:=(((T.go[r]?).getD [])[c]?).getD 0
def knd(r:Nat):Bool:=decide ((T.ks[r]?).getD (-1) ≠ -1)
def tgA(c:Nat):Nat:=(T.tg[c]?).getD 0
def sgn(w:List Nat):List Nat:=(w.reverse).map (tgA T)
def hit(r0:Nat)(w:List Nat):Prop:=w≠[]/\knd T (BF.walk (stp T) r0 w)=true
end
section
variable{T:Table}(h:T.Ok)
theorem ap6(h:T.Ok)(r c:Nat):stp T r c<T.go.length:=by
 have h1:=h.n1;unfold stp
 cases e:T.go[r]? with
 |none=>simp;omega
 |some row =>
  simp only[cP]
  cases e2:row[c]? with
  |none=>simp;omega
  |some x=>simp only[cP];exact(h.row row (aQ e)).2 x (aQ e2)
theorem ap7(h:T.Ok)(hr:r<T.go.length):∃row:List Nat,T.go[r]? = some row/\row.length=T.tg.length/\(∀x∈row,x<T.go.length)/\∀c,c<T.tg.length->row[c]? = some (stp T r c):=by
 refine⟨T.go[r],a6 hr,(h.row _ (aU hr)).1,(h.row _ (aU hr)).2,λc hc=>?_⟩;have l:=(h.row _ (aU hr)).1;unfold stp;rw[a6 hr,cP,a6 (by omega),cP]
theorem ap8(h:T.Ok)(hr:r<T.go.length):∃k:Int,T.ks[r]? = some k /\ -1<=k/\knd T r=decide (k ≠ -1):=by
 have l:r<T.ks.length:=by rw[h.kl];exact hr
 refine⟨T.ks[r],a6 l,(h.kk _ (aU l)).1,?_⟩;unfold knd;rw[a6 l,cP]
end
def fnd(T:Table)(r0:Nat)(ws:List (List Nat)):List D:=ws.map λw=>.tup [bu (BF.walk (stp T) r0 w),.str (S (sgn T w))]
def snn(T:Table)(r0:Nat)(ws:List (List Nat)):List (Key×D):=ws.map λw=>(.inl ((BF.walk (stp T) r0 w:Nat):Int),.bl true)
abbrev hp(T:Table)(r0:Nat)(ws:List (List Nat)):Hd:=[.lst (fnd T r0 ws),.dK (snn T r0 ws)]
section
variable{T:Table}
theorem arp(h:T.Ok)(hr:r<T.go.length):T.go[r]? = some ((List.range T.tg.length).map (stp T r)):=by
 obtain⟨row,e,l,_,at'⟩:=ap7 h hr;rw[e]
 congr 1
 refine List.ext_getElem? λi=>?_
 by_cases hi:i<T.tg.length
 ·rw[at' i hi,aR,dO hi];rfl
 ·rw[List.getElem?_eq_none (by omega),List.getElem?_eq_none (by simp;omega)]
def kI(T:Table)(r:Nat):Int:=(T.ks[r]?).getD (-1)
abbrev atf(T:Table)(r:Nat):D:=a6s ((List.range T.tg.length).map (stp T r))
theorem akx{α:Type}(l:List α)(x:α):atI (l++[x]) (-1)=some x:=by
 have:ixN (l++[x]).length (-1)=some l.length:=by
  unfold ixN;rw[b9 (by decide),ah,ay]
  rw[aI (by omega)]
  congr 1
  omega
 unfold atI;rw[this];simp
end
section
variable{T:Table}
theorem ai1(h:T.Ok)(hr:r<T.go.length)(hh:Hd):gIx (.tup (T.go.map a6s)) (bu r) hh=.ok (atf T r) hh:=a4f (by rw[aR,arp h hr];rfl)
end
end K22
namespace K23
open L2 MI AT HND K22
section
variable{T:Table}
def Pln:D->Prop
 |.non=>True|.bl _=>True|.int _=>True|.str x=>x.cps.toList.length<=1000|.tup xs=>clos 0 xs|.rol xs=>clos 0 xs|.rod _ xs=>clos 0 xs|_=>False
theorem Pln.clo(p:Pln d):clo 0 d:=by
 cases d<;>first|(simp only[Pln]at p;done)|(simp only[Pln]at p;simpa[MI.clo] using p)|simp[MI.clo]
def isStr:D->Bool|.str _=>true|_=>false
def isTup:D->Bool|.tup _=>true|_=>false
theorem ap9(p:Pln d):km [d,.ty "str"] h=.ok (.bl (isStr d)) h:=by
 cases d<;>first|(simp only[Pln]at p;done)|simp[km,aav,tyD,a9c,isStr]
theorem agm(p:Pln d):km [d,.ty "tuple"] h=.ok (.bl (isTup d)) h:=by
 cases d<;>first|(simp only[Pln]at p;done)|simp[km,aav,tyD,a9c,isTup]
def psn(T:Table)(c:Nat):Nat:=(a0s (S T.tg) c).toNat
def ldw(T:Table)(r:Nat):List Nat->Nat
 |[]=>r
 |c::l=>ldw T (stp T r (psn T c)) l
theorem a9t(hc:c∈T.tg):a0s (S T.tg) c=(psn T c:Nat)/\psn T c<T.tg.length:=by
 obtain⟨i,e1,e2,_⟩:=a8y (T:=S T.tg) (c:=c) (by rw[a1q];exact hc)
 rw[a1q]at e2;unfold psn;rw[e1];exact⟨by simp,by simpa using (a7.mp e2).1⟩
theorem ae3(h:T.Ok):∀(l:List Nat) {r:Nat},r<T.go.length->ldw T r l<T.go.length
 |[],_,hr=>hr
 |c::l,r,_=>ae3 h l (ap6 h r _)
theorem a6l(c:Nat):∀(l:List Nat) (r:Nat),ldw T r (l++[c])=stp T (ldw T r l) (psn T c)
 |[],_=>rfl
 |d::l,r=>a6l c l _
theorem aqc(l:List Nat)(h:Hd):afh (.str (S l)) h=.ok ⟨l.map λc=>.str (S [c]),λ_=>True⟩ h:=by
 show R.ok (⟨xj (S l),λ_=>True⟩:Itm) _=_;unfold xj;rw[a1q]
theorem apa(hc:c∈T.tg)(h:Hd):aci (.str (S T.tg)) [.str (S [c])] h=.ok (bu (psn T c)) h:=by
 show R.ok (D.int (a0s (S T.tg) c)) h=_;rw[(a9t hc).1]
theorem aky(hc:c∈T.tg)(h:Hd):a3h (.str (S T.tg)) [.str (S [c])] h=.ok (bu (psn T c)) h:=by
 show(if c∈(S T.tg).cps.toList then R.ok (D.int (a0s (S T.tg) c)) h else .no)=_
 rw[aI (by rw[a1q];exact hc),(a9t hc).1]
theorem arq(e1:f τ h=.ok (.str z) h1)(e2:k τ h1=.ok ds h2)(e3:g (.str z) ds h2=.ok v h3):sMS g f k τ h=.ok v h3:=by
 unfold sMS;rw[e1,bj];dsimp only;rw[e2,bj,e3]
theorem apb(h:T.Ok)(hc:c<T.tg.length)(hh:Hd):gIx (atf T r) (bu c) hh=.ok (bu (stp T r c)) hh:=a4f (by rw[aR,aR,dO hc];rfl)
theorem ars(hd:clo 0 d)(he:clo 0 e):∀x∈[T.d,d,e],clo 0 x:=by
 intro x hx
 simp only[ar,aM,bC]at hx
 rcases hx with rfl|rfl|rfl
 ·exact Table.clo
 ·exact hd
 ·exact he
noncomputable def cj:SF:=jx j5 8
def rms(T:Table)(r:Nat)(l:List Nat):List Nat:=(List.range (l.length+1)).map λi=>ldw T r (l.take i)
theorem agq(r c:Nat)(l:List Nat):rms T r (l++[c])=rms T r l++[ldw T r (l++[c])]:=by
 unfold rms;rw[ah,ay,eW (n:=l.length+1),bG,dZ]
 congr 1
 ·refine cY λi hi=>?_;rw[cD]at hi;rw[List.take_append_of_le_length (by omega)]
 ·rw[aZ (by simp)]
theorem agr(r:Nat)(l:List Nat):∃p,rms T r l=p++[ldw T r l]:=by
 unfold rms;rw[eW,bG,dZ];exact⟨_,by rw[aZ (ag _)]⟩
theorem a6m(h:T.Ok)(hr:r<T.go.length)(hl:∀c∈l,c∈T.tg)(ll:l.length<=1000):Pu cj 3 [T.d,bu r,.str (S l)] (.rol ((rms T r l).map bu)):=by
 refine Pu.of rfl (ars (di _) (jy _)) (r:=.ok (.ref 0) [.lst ((rms T r l).map bu)]) ?_ (a03 (ag _) rfl (oh _) (by simp)) (v6 (oh _))
 unfold cj;rw[fu];show toR (j5 [some T.d,some (bu r),some (.str (S l)),none,none,none,none,none] [])=_;unfold j5;refine etr (qe (adf (bc rfl) rfl)) ?_;refine etr (nu (d:=.ref 0) (h1:=[.lst ((rms T r []).map bu)]) rfl) ?_;refine etr (a6h (adg (bc rfl) (aqc l _))) ?_;have lp:=yg (g:=kN 7) (b:=gq) (λc:Nat=>D.str (S [c]))
  (λpre τ hh=>∃t7:Option D,τ=[some T.d,some (bu r),some (.str (S l)),some (.str (S T.tg)),some (.tup (T.go.map a6s)),some (.tup (T.ks.map D.int)),some (.ref 0),t7]/\hh=[.lst ((rms T r pre).map bu)]) l
  [some T.d,some (bu r),some (.str (S l)),some (.str (S T.tg)),some (.tup (T.go.map a6s)),some (.tup (T.ks.map D.int)),some (.ref 0),none] [.lst ((rms T r []).map bu)] ?_ ⟨none,rfl,rfl⟩
 ·obtain⟨τ',h',e,t7,rfl,rfl⟩:=lp;refine af (aK (λz=>toR (thn z _)) e) ?_;rfl
 ·rintro pre c post τ hh all ⟨t7,rfl,rfl⟩
  have hc:=hl c (by rw[all];simp)
  have pl:pre.length<=l.length:=by rw[all];simp
  refine⟨_,_,rfl,[some T.d,some (bu r),some (.str (S l)),some (.str (S T.tg)),some (.tup (T.go.map a6s)),some (.tup (T.ks.map D.int)),some (.ref 0),some (.str (S [c]))],[.lst ((rms T r (pre++[c])).map bu)],?_,_,rfl,rfl⟩;unfold gq;obtain⟨p,ep⟩:=agr (T:=T) r pre;have last:∀hh:Hd,hh[0]? = some (.lst ((rms T r pre).map bu))->gIx (.ref 0) (.int (-1)) hh=.ok (bu (ldw T r pre)) hh:=λhh e0=>by
   rw[a4v];unfold vo;simp only[e0];rw[ep,bG,dZ,akx]
  refine af (a1f (v:=.non) (bc rfl) rfl (arg1 (jt (jt (bc rfl) (jt (bc rfl) (aq7 ckk (agk _)) (last _ rfl)) (ai1 h (ae3 h pre hr) _)) (arq (bc rfl) (arg1 (bc rfl)) (aky hc _)) (apb h (a9t hc).2 _))) (a3r (xs:=(rms T r pre).map bu) rfl (a2b (by simp[rms];omega)))) ?_
  rw[agq,bG,a6l];rfl
noncomputable def jr:SF:=jx o8 2
def inT(T:Table)(l:List Nat):Bool:=l.all λc=>decide (c∈T.tg)
theorem adu(bs:List Bool)(h:Hd):acl [.rol (bs.map D.bl)] h=.ok (.bl (bs.all id)) h:=by
 unfold acl;simp only[a9d]
theorem ags{l:List Nat}(ll:l.length<=1000)(hce:∀c:Nat,ce [some (.str (S [c])),some (.str (S T.tg))] []=.ok (.bl (decide (c∈T.tg))) [])(h1:τ[1]? = some (some (.str (S l))))(h0:τ[0]? = some (some (.str (S T.tg)))) :
  sA acl (aj (sZ (m5 (sIt (sV 1)) t1 ce [0])) bw) τ []=.ok (.bl (inT T l)) []:=by
 have cz:sZ (m5 (sIt (sV 1)) t1 ce [0]) τ []=.ok (.rol ((l.map λc=>decide (c∈T.tg)).map D.bl)) []:=by
  rw[cb];refine a7k (xu (λc:Nat=>D.str (S [c])) (λc=>.bl (decide (c∈T.tg))) l (adg (bc h1) (aqc l _)) (jc (by omega)) λc _=>?_) (iu λc _=>qi _) (by simp)
  rw[yo,agh,akf,h0];exact hce c
 refine uw cz ?_;rw[adu]
 congr 2
 unfold inT;rw[eX];rfl
theorem akz(c:Nat)(h:Hd):gIn false (.str (S [c])) (.str (S T.tg)) h=.ok (.bl (decide (c∈T.tg))) h:=by
 show R.ok (D.bl (decide (c∈(S T.tg).cps.toList))) h=_;rw[a1q]
theorem ae4{l:List Nat}(ll:l.length<=1000):Pu jr 2 [.str (S T.tg),.str (S l)] (.bl (inT T l)):=by
 refine Pu.of rfl (by intro x hx;simp only[ar,aM,bC]at hx;rcases hx with rfl|rfl<;>exact jy _) (r:=.ok (.bl (inT T l)) []) ?_ (my (qi _) (by simp)) (qi _)
 unfold jr;rw[fu];show toR (o8 [some (.str (S T.tg)),some (.str (S l))] [])=_;unfold o8;exact aK toR (jg (a8j (nq (bc rfl) ckk (ap9 (d:=.str (S l)) (by simp only[Pln,a1q];exact ll))) (ags ll (λc=>jt (bc rfl) (bc rfl) (akz c _)) rfl rfl)))
theorem a8n(e:f τ h=.ok (.bl false) h1):yc f k τ h=.ok (.bl false) h1:=by unfold yc;rw[e,bj]
theorem ae5(p:Pln d)(ns:isStr d=false):Pu jr 2 [.str (S T.tg),d] (.bl false):=by
 refine Pu.of rfl (by intro x hx;simp only[ar,aM,bC]at hx;rcases hx with rfl|rfl;exact jy _;exact p.clo) (r:=.ok (.bl false) []) ?_ (my (qi _) (by simp)) (qi _)
 unfold jr;rw[fu];show toR (o8 [some (.str (S T.tg)),some d] [])=_;unfold o8;exact aK toR (jg (a8n (nq (bc rfl) ckk (by rw[ap9 p,ns]))))
end
end K23
namespace K21
open L2 MI AT HND K22 K23 EVX
section
variable{T:Table}
noncomputable def jr:SF:=jx o8 2
def txt(T:Table):D->Bool
 |.str x=>inT T x.cps.toList
 |_=>false
theorem apc(l:List Nat):txt T (.str (S l))=inT T l:=by simp only[txt,a1q]
theorem aas(p:Pln d):Pu jr 2 [.str (S T.tg),d] (.bl (txt T d)):=by
 by_cases sd:isStr d=true
 ·obtain⟨x,rfl⟩:∃x,d=.str x:=by cases d<;>first|exact⟨_,rfl⟩|(simp[isStr]at sd)
  have ll:x.cps.toList.length<=1000:=p;rw[<-agd x]at ll ⊢;rw[a1q]at ll;rw[apc];exact K23.ae4 ll
 ·have sd':isStr d=false:=by simpa using sd
  have:txt T d=false:=by cases d<;>first|rfl|(simp[isStr]at sd)
  rw[this];exact K23.ae5 p sd'
theorem a3q(ha:MI.clo 0 a)(hb:MI.clo 0 b):∀x∈[a,b],MI.clo 0 x:=by
 intro x hx
 simp only[ar,aM,bC]at hx
 rcases hx with rfl|rfl
 ·exact ha
 ·exact hb
theorem ae6(ha:MI.clo 0 a)(hb:MI.clo 0 b)(hc:MI.clo 0 c):∀x∈[a,b,c],MI.clo 0 x:=by
 intro x hx
 simp only[ar,aM,bC]at hx
 rcases hx with rfl|rfl|rfl
 ·exact ha
 ·exact hb
 ·exact hc
theorem apd(h:Hd):gIx T.d (.int 0) h=.ok (.str (S T.tg)) h:=a4f (j:=0) rfl
theorem ape(h:Hd):gIx T.d (.int 2) h=.ok (.tup (T.ks.map D.int)) h:=a4f (j:=2) rfl
theorem art{l:List Nat}(ll:l.length<=1000):Pln (.str (S l)):=by simp only[Pln,a1q];exact ll
theorem apf(hl:∀c∈l,c∈T.tg):inT T l=true:=by
 unfold inT;rw[aO];exact λc hc=>bA (hl c hc)
theorem ai2(h:T.Ok)(hr:r<T.go.length)(hh:Hd):gIx (.tup (T.ks.map D.int)) (bu r) hh=.ok (.int (kI T r)) hh:=by
 obtain⟨k,e,_⟩:=ap8 h hr;exact a4f (by rw[aR,e];simp[kI,e])
end
section
variable{T:Table}
abbrev ones(t:List Nat):List D:=t.map λc=>.str (S [c])
theorem join_ones:∀t:List Nat,Txt.join (S []) (t.map λc=>S [c])=S t:=by
 have e:∀zs:List Str,Txt.join (S []) zs=Str.join (S []) zs:=PySem.StrLaws.glued_eq_join (S []);have st:∀(x y:Str) (r:List Str),Str.join (S []) (x::y::r)=x++S []++Str.join (S []) (y::r):=λ_ _ _=>rfl
 intro t
 rw[e]
 induction t with
 |nil=>rfl
 |cons a t ih =>
  cases t with
  |nil=>rfl
  |cons b t =>
   rw[bg,bg,st,show S [b]::t.map (λc=>S [c])=(b::t).map (λc=>S [c]) from rfl,ih,akc,akc]
   rfl
theorem a7r:∀t:List Nat,a89 (ones t)=some (t.map λc=>S [c])
 |[]=>rfl
 |a::t=>by
  show(a89 (ones t)).map _=_;rw[a7r t];rfl
theorem agt(t:List Nat):((t.map λc=>S [c]).map (·.length)).sum=t.length:=by
 induction t with
 |nil=>rfl
 |cons a t ih=>rw[bg,bg,List.sum_cons,ih,a8g,bQ];simp;omega
theorem ae7{t:List Nat}(z:t.length<=1000000):ack (.str (S [])) [.rol (ones t)] h=.ok (.str (S t)) h:=by
 unfold ack;simp only[a7r,agt,a8g,cU,Nat.mul_zero,Nat.add_zero,join_ones];rw[aI (by omega)]
theorem av0{h h':Hd}(hl:h'.length=h.length)(e:f τ h=.ok (.ref h'.length) (h'++[.lst xs]))(cx:clos h.length xs)(c:∀o∈h',a0c h.length o):sZ f τ h=.ok (.rol xs) h':=by
 unfold sZ;rw[e,a03 (by omega) (by simp) cx (by rw[<-hl];simpa[hl] using c)]
 rw[<-hl];simp
theorem aru(e:f τ h=.ok (.int i) h1):oS f τ h=.ok (some i) h1:=by unfold oS;rw[e];rfl
theorem arv(e:f τ h=.ok d h1)(e1:lo τ h1=.ok a h2)(e2:hi τ h2=.ok b h3)(e3:a8c d a b h3=.ok v h4):a0n f lo hi τ h=.ok v h4:=by
 unfold a0n;rw[e,bj,e1,bj,e2,bj,e3]
end
end K21
namespace SRC
open L2 MI AT HND EVX K22 K23 K21
noncomputable def n6:SF:=jx (SRC.a05 SRC.ak) 3
theorem al0{tg:List Nat}(P:Src o N)(hN:N<=999990000)(t1':1<=tg.length)(t6:tg.length<=6):∃t o',t.length<=240/\(∀c∈t,c∈tg)/\Dr SRC.n6 2 [.str (S tg)] o (.str (S t)) o'/\Src o' (N+1000):=by
 obtain⟨y,o2,e2,y0,y1,P2⟩:=lu (m:=25) P (by omega) (by omega) (by omega)
 obtain⟨z,o3,e3,z0,z1,P3⟩:=lu (m:=6) P2 (by omega) (by omega) (by omega)
 obtain⟨v,o4,e4,v0,v1,P4⟩:=lu (m:=241) P3 (by omega) (by omega) (by omega)
 have c2:iz false 2 SRC.ak [.ref 0,.int 25] [o]=.ok (.int y) [o2]:=e2 0 _ rfl;have c3:iz false 2 SRC.ak [.ref 0,.int 6] [o2]=.ok (.int z) [o3]:=e3 0 _ rfl;have c4:iz false 2 SRC.ak [.ref 0,.int 241] [o3]=.ok (.int v) [o4]:=e4 0 _ rfl;obtain⟨n,u,n1,Pu,eu⟩:∃(n:Nat) (u:O),n<=240/\Src u (N+3)/\∀g:SS,dz (j9 2 (sA (iz false 2 SRC.ak) (aj (sV 0) (aj (sI 25) bw)))) (dz (sIf (sT (s2 hEq (sA (iz false 2 SRC.ak) (aj (sV 0) (aj (sI 6) bw))) (sI 0)))  (j9 2 (sA (iz false 2 SRC.ak) (aj (sV 0) (aj (sI 241) bw))))  sNx) g) [some (.ref 0),some (.str (S tg)),none] [o]=g [some (.ref 0),some (.str (S tg)),some (.int (n:Nat))] [u]:=by
  by_cases hz:z=0
  ·obtain⟨n,rfl⟩:=aX v0;refine⟨n,o4,by omega,P4,λg=>?_⟩
   refine af (nu (nq (bc rfl) ckk c2)) ?_;exact qe (af (ifT (t2s (nq (bc rfl) ckk c3) ckk (wz hz))) (aaw (nq (bc rfl) ckk c4)))
  ·obtain⟨n,rfl⟩:=aX y0;refine⟨n,o3,by omega,P3.up (by omega),λg=>?_⟩
   refine af (nu (nq (bc rfl) ckk c2)) ?_;exact ifN (t2s (nq (bc rfl) ckk c3) ckk (jh hz))
 have mp:=a6b (f:=a4c t1 (SRC.yj SRC.ak) (frs' [0,1] [some (.ref 0),some (.str (S tg)),some (.int (n:Nat))])) (λi:Nat=>D.int (i:Nat))
  (λpre ys h=>∃(u:O) (t:List Nat),h=[u]/\Src u (N+3+pre.length)/\ys=ones t/\t.length=pre.length/\∀c∈t,c∈tg)
  (List.range n) [] [] [u] ?_ ⟨u,[],rfl,Pu,rfl,rfl,by simp⟩
 ·obtain⟨zs,h',em,u',t,rfl,P5,ez,tl,tt⟩:=mp;rw[dP]at ez tl P5;rw[bK]at tl P5;subst ez;refine⟨t,u',by omega,tt,Dr.of rfl (by intro x hx;rw[aw]at hx;subst hx;exact jy _) P.clo (r:=.ok (.str (S t)) [u']) ?_ (my (jy _) (by simpa using qd (by omega) P5.clo)) (jy _) P5.clo,P5.up (by omega)⟩
  unfold SRC.n6;rw[fu];show toR (SRC.a05 SRC.ak [some (.ref 0),some (.str (S tg)),none] [o])=_;unfold SRC.a05;refine etr (eu _) ?_;have cz:sZ (m5 (sRg a0u (aj (sV 2) bw)) t1 (SRC.yj SRC.ak) [0,1]) [some (.ref 0),some (.str (S tg)),some (.int (n:Nat))] [u]=.ok (.rol (ones t)) [u']:=by
   refine av0 rfl ?_ (iu λl _=>jy _) (by intro o ho;rw[aw]at ho;subst ho;exact qd (by omega) P5.clo)
   unfold m5;rw[a8i (bc rfl) (jc (by omega)),bj]
   dsimp only;rw[aI (by rw[ai,bK];exact jc (by omega)),em]
   rfl
  exact aK toR (jg (arq (z:=S []) ckk (arg1 cz) (ae7 (by omega))))
 ·rintro pre i post ys h all ⟨u,t,rfl,Pu,rfl,tl,tt⟩
  rw[dP]at all;have hi:pre.length<n:=by
   have:=aK List.length all
   simp at this
   omega
  obtain⟨x,u',e5,x0,x1,P5⟩:=lu (m:=(tg.length:Nat)) Pu (by omega) (by omega) (by omega)
  obtain⟨j,rfl⟩:=aX x0;have hj:j<tg.length:=by omega
  have c5:iz false 2 SRC.ak [.ref 0,.int (tg.length:Nat)] [u]=.ok (.int (j:Nat)) [u']:=e5 0 _ rfl;refine⟨.str (S [tg[j]]),[u'],?_,u',t++[tg[j]],rfl,by rw[ah,ay];exact P5,by simp[ones],by rw[ah,ah,tl];rfl,λq hq=>?_⟩
  ·rw[yo];exact jt (bc rfl) (nq (bc rfl) (uw (bc rfl) (ake (jc (by omega)))) c5) (arh (jc (by omega)) (a6 hj))
  ·rcases aW.mp hq with h|h
   ·exact tt q h
   ·rw[aw]at h;subst h;exact aU hj
section
variable{T:Table}
def rm(T:Table)(l:List Nat)(k:Nat):Nat:=ldw T 0 (l.take k)
def best(T:Table)(a:Nat)(l:List Nat):Nat->D
 |0=>.non
 |k+1=>if kI T (rm T l k) = -1 then best T a l k else .tup [.int (kI T (rm T l k)),bu (a+k)]
theorem a9u(e:kI T (rm T l k) = -1):best T a l (k+1)=best T a l k:=aI e
theorem a9v(e:¬ kI T (rm T l k) = -1):best T a l (k+1)=.tup [.int (kI T (rm T l k)),bu (a+k)]:=b9 e
theorem kI0(h:T.Ok):kI T 0 = -1:=by unfold kI;rw[h.k0];rfl
theorem arw(h:T.Ok)(a:Nat)(l:List Nat):best T a l 1=.non:=by
 show(if kI T (rm T l 0) = -1 then best T a l 0 else _)=_
 rw[aI (show kI T (rm T l 0) = -1 from kI0 h)]
 rfl
theorem al1(h:T.Ok)(l:List Nat)(k:Nat):rm T l k<T.go.length:=ae3 h _ h.n1
theorem al2(e:l[k]? = some c):rm T l (k+1)=stp T (rm T l k) (psn T c):=by
 unfold rm;rw[List.take_succ,e];exact a6l c _ _
theorem ae8(a:Nat)(l:List Nat):∀k,best T a l k=.non\/∃x y:Int,best T a l k=.tup [.int x,.int y]
 |0=>.inl rfl
 |k+1=>by
  unfold best
  split
  ·exact ae8 a l k
  ·exact .inr ⟨_,_,rfl⟩
theorem a2o(a:Nat)(l:List Nat)(k:Nat):MI.clo 0 (best T a l k):=by
 rcases ae8 (T:=T) a l k with e|⟨x,y,e⟩<;>rw[e]
 ·exact ad9
 ·exact qb (fj (di _) (fj (di _) lz))
noncomputable def gw:SF:=jx SRC.ym 6
theorem agu(h:T.Ok)(ht:∀c∈x,c∈T.tg)(xl:x.length<=1000)(al:a<=x.length):Pu SRC.gw 3 [T.d,.str (S x),bu a] (best T a (x.drop a) (x.length-a+1)):=by
 refine Pu.of rfl (ae6 Table.clo (jy _) (di _)) (r:=.ok (best T a (x.drop a) (x.length-a+1)) []) ?_ (my (a2o _ _ _) (by simp)) (a2o _ _ _)
 unfold SRC.gw;rw[fu];show toR (SRC.ym [some T.d,some (.str (S x)),some (bu a),none,none,none] [])=_;unfold SRC.ym;refine etr (nu ckk) ?_;refine etr (nu ckk) ?_;refine etr (a6h (ade (a:=a) (n:=x.length) (bc rfl) (uw (bc rfl) (ake (jc (by omega)))) (jc (by omega)) (jc (by omega)))) ?_
 have lp:=yg (g:=kN 5) (b:=SRC.ue) (λi:Nat=>D.int ((a+i:Nat)))
  (λpre τ hh=>∃t5:Option D,τ=[some T.d,some (.str (S x)),some (bu a),some (bu (rm T (x.drop a) pre.length)),some (best T a (x.drop a) (pre.length+1)),t5]/\hh=[])
  (List.range (x.length-a)) [some T.d,some (.str (S x)),some (bu a),some (bu 0),some .non,none] [] ?_ ⟨none,by rw[cU,arw h];rfl,rfl⟩
 ·obtain⟨τ',h',e,t5,rfl,rfl⟩:=lp;refine af (aK (λz=>toR (MI.thn z _)) e) ?_;rw[a0d,bK];exact aK toR (jg (bc rfl))
 ·rintro pre i post τ hh all ⟨t5,rfl,rfl⟩
  obtain⟨hi,hk⟩:=a1h all;have ek:(x.drop a)[pre.length]? = some (x[a+i]'(by omega)):=by rw[dX,<-hi,a6 (by omega)]
  have ec:x[a+i]? = some (x[a+i]'(by omega)):=a6 (by omega)
  have hc:=ht _ (aQ ec)
  generalize x[a+i]'(by omega)=c at ek ec hc
  have rl:=al1 h (x.drop a) pre.length;have r2:=al1 h (x.drop a) (pre.length+1);rw[ah,ay];have st:s2 gIx (s2 gIx (s2 gIx (sV 0) (sI 1)) (sV 3)) (sMS aci (s2 gIx (sV 0) (sI 0)) (aj (s2 gIx (sV 1) (sV 5)) bw)) [some T.d,some (.str (S x)),some (bu a),some (bu (rm T (x.drop a) pre.length)),some (best T a (x.drop a) (pre.length+1)),some (.int ((a+i:Nat)))] []=.ok (bu (rm T (x.drop a) (pre.length+1))) []:=by
   rw[al2 ek];exact jt (jt (vg rfl (a4f (j:=1) rfl)) (bc rfl) (ai1 h rl _)) (arq (vg rfl (a4f (j:=0) rfl)) (arg1 (jt (bc rfl) (bc rfl) (arh (jc (by omega)) ec))) (apa hc _)) (apb h (a9t hc).2 _)
  have kg:∀τ:Sd,τ[0]? = some (some T.d)->τ[3]? = some (some (bu (rm T (x.drop a) (pre.length+1))))->s2 gIx (s2 gIx (sV 0) (sI 2)) (sV 3) τ []=.ok (.int (kI T (rm T (x.drop a) (pre.length+1)))) []:=λτ h0 h3=>jt (jt (bc h0) ckk (ape _)) (bc h3) (ai2 h r2 _);obtain⟨kv,ke,k1,k2⟩:=ap8 h r2;have kx:kI T (rm T (x.drop a) (pre.length+1))=kv:=by unfold kI;rw[ke];rfl
  by_cases hm:kI T (rm T (x.drop a) (pre.length+1)) = -1
  ·refine⟨_,_,rfl,[some T.d,some (.str (S x)),some (bu a),some (bu (rm T (x.drop a) (pre.length+1))),some (best T a (x.drop a) (pre.length+1)),some (.int ((a+i:Nat)))],[],?_,_,by rw[a9u (k:=pre.length+1) hm],rfl⟩
   unfold SRC.ue;refine af (nu st) ?_;refine af (ifF (t2s (kg _ rfl rfl) ckk (show gGe (.int (kI T (rm T (x.drop a) (pre.length+1)))) (.int 0) []=.ok (.bl false) [] by rw[hm];rfl))) rfl
  ·refine⟨_,_,rfl,[some T.d,some (.str (S x)),some (bu a),some (bu (rm T (x.drop a) (pre.length+1))),some (.tup [.int (kI T (rm T (x.drop a) (pre.length+1))),.int ((a+i:Nat)+1)]),some (.int ((a+i:Nat)))],[],?_,some (.int ((a+i:Nat))),?_,rfl⟩
   ·unfold SRC.ue;refine af (nu st) ?_;refine af (ifT (t2s (kg _ rfl rfl) ckk (show gGe (.int (kI T (rm T (x.drop a) (pre.length+1)))) (.int 0) []=.ok (.bl true) [] by
     show R.ok (D.bl (decide ((0:Int)<=kI T (rm T (x.drop a) (pre.length+1))))) []=_;rw[bA (by omega)]))) ?_
    exact aaw (nq (kg _ rfl rfl) (vg rfl m9) aoh)
   ·rw[a9v (k:=pre.length+1) hm,hi];rfl
noncomputable def dw:SF:=jx SRC.jm 3
end
end SRC
namespace K34
open L2 MI AT HND EVX K22 K23 K21
section
variable{T:Table}
noncomputable def cj:SF:=jx K34.j5 8
noncomputable def iy:SF:=jx (uz K34.cj) 7
theorem a6m(h:T.Ok)(hl:∀c∈l,c∈T.tg)(ll:l.length<=1000):Pu K34.cj 3 [T.d,.int 0,.str (S l)] (.rol ((rms T 0 l).map bu)):=K23.a6m (r:=0) h h.n1 hl ll
theorem ae9{α β γ:Type}(f:α->β)(g:α×β->γ):∀l:List α,(l.zip (l.map f)).map g=l.map λx=>g (x,f x)
 |[]=>rfl
 |a::l=>by rw[bg,e7,bg,bg,ae9 f g l]
theorem a07(h:T.Ok)(ht:∀c∈x,c∈T.tg)(xl:x.length<=1000)(al:a<=x.length):Pu iy 3 [T.d,.str (S x),bu a] (SRC.best T a (x.drop a) (x.length-a+1)):=by
 refine Pu.of rfl (ae6 Table.clo (jy _) (di _)) (r:=.ok (SRC.best T a (x.drop a) (x.length-a+1)) []) ?_ (my (SRC.a2o _ _ _) (by simp)) (SRC.a2o _ _ _)
 unfold iy;rw[fu];show toR (uz K34.cj [some T.d,some (.str (S x)),some (bu a),none,none,none,none] [])=_;unfold uz;refine ets (vg rfl (ape _)) ?_;refine etr (nu ckk) ?_;have dl:(x.drop a).length=x.length-a:=bW;have e1:a7n (sA (iz false 3 K34.cj) (aj (sV 0) (aj (sI 0) (aj (a0n (sV 1) (oS (sV 2)) oN) bw)))) (sV 2) [some T.d,some (.str (S x)),some (bu a),some (.tup (T.ks.map D.int)),some .non,none,none] []=.ok ⟨(List.range (x.length-a+1)).map λk=>.tup [.int ((a+k:Nat):Int),bu (SRC.rm T (x.drop a) k)],λ_=>True⟩ []:=by
  unfold a7n;rw[a4e (bc rfl) ckk (arv (bc rfl) (aru (bc rfl)) rfl (aht a (jc (by omega)))) (a6m h (λc hc=>ht c (dB hc)) (by omega) _),bj,bc rfl,bj]
  show(if 0<=(a:Int)/\(a:Int)<=16777216 then R.ok (⟨((List.range ((rms T 0 (x.drop a)).map bu).length).zip ((rms T 0 (x.drop a)).map bu)).map λp=>.tup [.int (((a:Int).toNat+p.1:Nat):Int),p.2],λ_=>True⟩:Itm) [] else .no)=_
  rw[aI ⟨by omega,by omega⟩]
  congr 2
  have lr:((rms T 0 (x.drop a)).map bu).length=x.length-a+1:=by unfold rms;rw[ai,ai,bK,dl]
  rw[lr];unfold rms;rw[dl,cb,ae9];rfl
 refine etr (a6h e1) ?_;have lp:=yg (g:=a4m 2 (jo (kN 5) (jo (kN 6) a5q))) (b:=mz K34.cj) (λk:Nat=>D.tup [.int ((a+k:Nat):Int),bu (SRC.rm T (x.drop a) k)])
  (λpre τ hh=>∃t5 t6:Option D,τ=[some T.d,some (.str (S x)),some (bu a),some (.tup (T.ks.map D.int)),some (SRC.best T a (x.drop a) pre.length),t5,t6]/\hh=[])
  (List.range (x.length-a+1)) [some T.d,some (.str (S x)),some (bu a),some (.tup (T.ks.map D.int)),some .non,none,none] [] ?_ ⟨none,none,rfl,rfl⟩
 ·obtain⟨τ',h',e,t5,t6,rfl,rfl⟩:=lp;refine af (aK (λz=>toR (MI.thn z _)) e) ?_;rw[a0d,bK];exact aK toR (jg (bc rfl))
 ·rintro pre k post τ hh all ⟨t5,t6,rfl,rfl⟩
  obtain⟨hi,hk⟩:=a1h all;subst hi;rw[ah,ay];have kg:∀τ:Sd,τ[3]? = some (some (.tup (T.ks.map D.int)))->τ[6]? = some (some (bu (SRC.rm T (x.drop a) pre.length)))->s2 gIx (sV 3) (sV 6) τ []=.ok (.int (kI T (SRC.rm T (x.drop a) pre.length))) []:=λτ h3 h6=>jt (bc h3) (bc h6) (ai2 h (SRC.al1 h _ _) _)
  by_cases hm:kI T (SRC.rm T (x.drop a) pre.length) = -1
  ·refine⟨_,_,rfl,[some T.d,some (.str (S x)),some (bu a),some (.tup (T.ks.map D.int)),some (SRC.best T a (x.drop a) pre.length),some (.int ((a+pre.length:Nat):Int)),some (bu (SRC.rm T (x.drop a) pre.length))],[],?_,_,_,by rw[SRC.a9u hm],rfl⟩
   unfold mz;exact af (ifF (t2s (kg _ rfl rfl) (aq7 ckk (agk _)) (agi hm))) rfl
  ·refine⟨_,_,rfl,[some T.d,some (.str (S x)),some (bu a),some (.tup (T.ks.map D.int)),some (.tup [.int (kI T (SRC.rm T (x.drop a) pre.length)),bu (a+pre.length)]),some (.int ((a+pre.length:Nat):Int)),some (bu (SRC.rm T (x.drop a) pre.length))],[],?_,_,_,by rw[SRC.a9v hm],rfl⟩
   unfold mz;exact af (ifT (t2s (kg _ rfl rfl) (aq7 ckk (agk _)) (agj hm))) (aaw (nq (kg _ rfl rfl) (bc rfl) aoh))
end
end K34
namespace K35
open L2 MI AT HND EVX K22 K23 K21
section
variable{T:Table}
noncomputable def cj:SF:=jx K35.j5 8
noncomputable def iy:SF:=jx (K35.uz K35.cj) 7
abbrev bst(T:Table)(x:List Nat)(a:Nat):D:=SRC.best T a (x.drop a) (x.length-a+1)
theorem a07(h:T.Ok)(ht:∀c∈x,c∈T.tg)(xl:x.length<=1000)(al:a<=x.length):Pu K35.iy 3 [T.d,.str (S x),bu a] (bst T x a):=K34.a07 h ht xl al
theorem a6n(h:T.Ok)(a:Nat)(l:List Nat):∀k,SRC.best T a l k=.non\/∃(q:Int) (j:Nat),1<=j/\j<k/\SRC.best T a l k=.tup [.int q,bu (a+j)]
 |0=>.inl rfl
 |k+1=>by
  by_cases e:kI T (SRC.rm T l k) = -1
  ·rw[SRC.a9u e]
   rcases a6n h a l k with z|⟨q,j,j1,j2,z⟩
   ·exact .inl z
   ·exact .inr ⟨q,j,j1,by omega,z⟩
  ·refine .inr ⟨_,k,?_,by omega,SRC.a9v e⟩
   rcases Nat.eq_zero_or_pos k with z|z
   ·subst z;exact absurd (show kI T (SRC.rm T l 0) = -1 from SRC.kI0 h) e
   ·exact z
def dec:D->Option (Int×Nat)
 |.tup [.int q,.int e]=>some (q,e.toNat)
 |_=>none
theorem a3u(h:T.Ok){x:List Nat}(al:a<=x.length):(bst T x a=.non/\dec (bst T x a)=none)\/∃(q:Int) (e:Nat),bst T x a=.tup [.int q,bu e]/\dec (bst T x a)=some (q,e)/\a<e/\e<=x.length:=by
 rcases a6n h a (x.drop a) (x.length-a+1) with z|⟨q,j,j1,j2,z⟩
 ·exact .inl ⟨z,by show dec (SRC.best T a (x.drop a) (x.length-a+1))=none;rw[z];rfl⟩
 ·exact .inr ⟨q,a+j,z,by show dec (SRC.best T a (x.drop a) (x.length-a+1))=_;rw[z];rfl,by omega,by omega⟩
abbrev Pc:=Int×Nat×Nat
abbrev pcD(p:Pc):D:=.tup [.int p.1,bu p.2.1,bu p.2.2]
def a4z(T:Table)(x:List Nat):Nat->Nat->List Pc->List Pc×Nat
 |0,p,acc=>(acc,p)
 |n+1,p,acc=>match dec (bst T x p) with
  |some (q,e)=>a4z T x n e (acc++[(q,p,e)])
  |none=>(acc,p)
abbrev res(T:Table)(x:List Nat):List Pc×Nat:=a4z T x (x.length+1) 0 []
theorem a8p(T:Table)(x:List Nat):∀(n p:Nat) (acc:List Pc),(a4z T x n p acc).1.length<=acc.length+n
 |0,p,acc=>ag _
 |n+1,p,acc=>by
  unfold a4z
  split
  ·rename_i q e he;have:=a8p T x n e (acc++[(q,p,e)]);rw[ah,ay]at this;exact bD this (by omega)
  ·show acc.length<=_;omega
theorem vm(n:Nat)(ps:List Pc):clos n (ps.map pcD):=iu λp _=>qb (fj (di _) (fj (di _) (fj (di _) lz)))
abbrev alf(T:Table)(x:List Nat):D:=.tup [.rol ((res T x).1.map pcD),bu (res T x).2]
theorem a2p(T:Table)(x:List Nat):MI.clo 0 (alf T x):=qb (fj (v6 (vm _ _)) (fj (di _) lz))
theorem a6o{ps:List Pc}:a8b 0 (.ok (.tup [.ref 0,bu p]) [.lst (ps.map pcD)])=.ok (.tup [.rol (ps.map pcD),bu p]) []:=by
 have oc:∀{k:Nat} {d d':D} {ds ds':List D},a09 0 [.lst (ps.map pcD)] k d=some d'->xf (a09 0 [.lst (ps.map pcD)] k) ds=some ds'->xf (a09 0 [.lst (ps.map pcD)] k) (d::ds)=some (d'::ds'):=λe1 e2=>by unfold xf;rw[e1,e2]
 refine a3n (h1:=[.lst (ps.map pcD)]) (a9m (k:=19) (oc (a2j (k:=17) (by omega) rfl (vm _ _)) (oc (a6a (k:=18) (di _)) rfl)) ?_) (by simp)
 intro z
 have:=p8.mp z (.ref 0) aT
 simp only[MI.clo]at this;omega
theorem a9w:∀d∈[T.d,.str (S x)],MI.clo 0 d:=a3q Table.clo (jy _)
end
section
variable{T:Table}
noncomputable def ou:SF:=jx (K35.a1e SRC.gw) 5
abbrev τl(T:Table)(x:List Nat)(p:Nat):Sd:=[some T.d,some (.str (S x)),some (.ref 0),some (bu p),some (bst T x p)]
theorem ai3(h:T.Ok){x:List Nat}{a:Nat}(ht:∀c∈x,c∈T.tg)(xl:x.length<=900)(al:a<=x.length)(hh:Hd):iz false 3 SRC.gw [T.d,.str (S x),bu a] hh=.ok (bst T x a) hh:=SRC.agu h ht (by omega) al hh
theorem agv(h:T.Ok){x:List Nat}(ht:∀c∈x,c∈T.tg)(xl:x.length<=900):ou [T.d,.str (S x)] []=.ok (.tup [.ref 0,bu (res T x).2]) [.lst ((res T x).1.map pcD)]:=by
 have w:=ak8 (c:=a1z SRC.gw) (f:=zr SRC.gw)
  (λm τ hp=>∃(p:Nat) (acc:List Pc),τ=τl T x p/\hp=[.lst (acc.map pcD)]/\m=x.length-p/\p<=x.length/\acc.length<=p/\a4z T x (x.length-p+1) p acc=res T x)
  (λτ hp=>∃(p:Nat) (acc:List Pc),τ=τl T x p/\hp=[.lst (acc.map pcD)]/\(acc,p)=res T x)
  (λ_ _=>False) ?_ x.length 100000 (τl T x 0) [.lst []] (by omega) ⟨0,[],rfl,rfl,rfl,by omega,by simp,rfl⟩
 ·rcases w with⟨τ',h',e,p,acc,rfl,rfl,er⟩|⟨_,_,_,z⟩
  ·unfold ou;rw[fu];show toR (K35.a1e SRC.gw [some T.d,some (.str (S x)),none,none,none] [])=_;unfold K35.a1e;refine etr (nu (d:=.ref 0) (h1:=[.lst []]) rfl) ?_;refine etr (nu ckk) ?_;refine ets (a4e (bc rfl) (bc rfl) (bc rfl) (ai3 h (a:=0) ht xl (by omega) _)) ?_
   refine etr (qe e) ?_;rw[<-er];exact aK toR (jg (nq (bc rfl) (bc rfl) aoh))
  ·exact z.elim
 ·rintro m τ hp ⟨p,acc,rfl,rfl,rfl,pl,al,er⟩
  rcases a3u h pl with⟨z1,z2⟩|⟨q,e,z1,z2,pe,el⟩
  ·refine .inl ⟨_,tvc rfl ((uh _).trans (by rw[z1];rfl)),p,acc,rfl,rfl,?_⟩
   rw[<-er];unfold a4z;rw[z2]
  ·refine .inr ⟨_,tvc rfl ((uh _).trans (by rw[z1];rfl)),.inl ⟨τl T x e,[.lst ((acc++[(q,p,e)]).map pcD)],x.length-e,?_,by omega,e,acc++[(q,p,e)],rfl,rfl,rfl,el,by rw[ah,ay];omega,?_⟩⟩
   ·unfold K35.zr;have i0:∀hh:Hd,gIx (bst T x p) (.int 0) hh=.ok (.int q) hh:=λhh=>by rw[z1];exact a4f (j:=0) rfl
    have i1:∀hh:Hd,gIx (bst T x p) (.int 1) hh=.ok (bu e) hh:=λhh=>by rw[z1];exact a4f (j:=1) rfl
    rw[bG];refine af (qe (a1f (bc rfl) rfl (arg1 (a4e (vg rfl (i0 _)) (bc rfl) (vg rfl (i1 _)) aep)) (a3r (xs:=acc.map pcD) rfl (by rw[ai];exact a2b (by omega))))) ?_
    refine af (nu (vg rfl (i1 _))) ?_;exact aaw (a4e (bc rfl) (bc rfl) (bc rfl) (ai3 h (a:=e) ht xl el _))
   ·rw[<-er];have more:∀(n k p:Nat) (acc:List Pc),p<=x.length->x.length-p+1<=n->a4z T x (n+k) p acc=a4z T x n p acc:=by
     intro n
     induction n with
     |zero=>intro k p acc hp hn;omega
     |succ n ih =>
      intro k p acc hp hn
      rw[show n+1+k=(n+k)+1 by omega]
      unfold a4z
      rcases a3u h hp with⟨_,y2⟩|⟨q',e',_,y2,pe',el'⟩
      ·rw[y2]
      ·rw[y2];exact ih k e' _ el' (by omega)
    conv=>rhs;unfold a4z
    rw[z2];dsimp only;have:=more (x.length-e+1) (x.length-p-(x.length-e+1)) e (acc++[(q,p,e)]) el (ag _);rw[show x.length-e+1+(x.length-p-(x.length-e+1))=x.length-p by omega]at this
    exact this.symm
theorem al3(h:T.Ok){x:List Nat}(ht:∀c∈x,c∈T.tg)(xl:x.length<=900):Pu ou 2 [T.d,.str (S x)] (alf T x):=Pu.of rfl a9w (agv h ht xl) a6o (a2p T x)
end
end K35
namespace PN
open L2 MI AT HND EVX
end PN
namespace PN
open L2 MI AT HND EVX K22 K23 K21
section
variable{g:Hd}{n tu:Nat}{tg:List Nat}{rows:List (List Nat)}{ks:List Int}
def Rch(rows:List (List Nat))(r:Nat):Prop:=∀Q:Nat->Prop,Q 0->(∀r,Q r->∀x∈(rows[r]?).getD [],Q x)->Q r
theorem Rch.zero(rows:List (List Nat)):Rch rows 0:=λ_ q _=>q
end
end PN
namespace CAS
open L2 MI AT HND EVX K22 K23 K21 SRC
abbrev ps(tg:List Nat)(c:Nat):Nat:=psn ⟨tg,[],[]⟩ c
end CAS
namespace K40
open L2 MI AT HND EVX K22 K23 K21
section
variable{T:Table}
def rw'(T:Table)(r:Nat):List Nat:=(T.go[r]?).getD []
end
end K40
namespace MI
open L2 SRC HND
structure Fw (n:Nat) (l:List Nat):Prop where
 nd:l.Nodup
 lt:∀x∈l,x<n
theorem Fw.nil:Fw n []:=⟨ei,by simp⟩
end MI
namespace RCH
open L2 MI AT HND EVX K22 K23 K21 K40
def cnt(n:Nat)(p:Nat->Bool):Nat:=((List.range n).filter p).length
theorem a7s:∀{l:List Nat},(∀x∈l,p x=true->q x=true)->(∃x∈l,q x=true/\p x=false)->(l.filter p).length<(l.filter q).length
 |[],_,⟨_,h,_⟩=>by simp at h
 |x::l,h,⟨y,hy,q1,p1⟩=>by
  have le:(l.filter p).length<=(l.filter q).length:=by
   clear hy q1 p1 y
   induction l with
   |nil=>simp
   |cons z l ih =>
    have ih:=ih λy hy=>h y (by simp only[ar]at hy ⊢;rcases hy with e|e<;>simp[e])
    have hz:=h z (by simp)
    rw[dA,dA]
    cases e1:p z with
    |true=>rw[hz e1];simp only[cQ,bQ];omega
    |false=>cases q z<;>simp<;>omega
  rw[dA,dA]
  rcases ar.mp hy with rfl|hy
  ·rw[q1,p1];simp only[cQ,cB,dD,bQ];omega
  ·have lt:=a7s (l:=l) (λz hz=>h z (aP _ hz)) ⟨y,hy,q1,p1⟩
   cases e1:p x with
   |true=>rw[h x aT e1];simp only[cQ,bQ];omega
   |false=>cases q x<;>simp<;>omega
theorem aG{n:Nat}{P:Nat->Nat->Bool}(anti:∀k x,x<n->P (k+1) x=true->P k x=true)(det:∀k,(∀x,x<n->P k x=P (k+1) x)->∀x,x<n->P (k+1) x=P (k+2) x):∀k x,x<n->P n x=true->P (n+k) x=true:=by
 have key:∀k,cnt n (P k)<=n-k\/∃j,j<=k/\∀x,x<n->P j x=P (j+1) x:=by
  intro k
  induction k with
  |zero=>exact .inl (by unfold cnt;exact bD (List.length_filter_le _ _) (by simp))
  |succ k ih =>
   rcases ih with ih|⟨j,hj,e⟩
   ·by_cases c:∃x∈List.range n,P k x=true/\P (k+1) x=false
    ·have:=a7s (p:=P (k+1)) (q:=P k) (l:=List.range n) (λx hx=>anti k x (cD.mp hx)) c
     exact .inl (by unfold cnt at ih ⊢;omega)
    ·refine .inr ⟨k,eN _,λx hx=>?_⟩
     cases e1:P k x with
     |true =>
      cases e2:P (k+1) x with
      |true=>rfl
      |false=>exact(c ⟨x,cD.mpr hx,e1,e2⟩).elim
     |false =>
      cases e2:P (k+1) x with
      |true=>rw[anti k x hx e2]at e1;cases e1
      |false=>rfl
   ·exact .inr ⟨j,Nat.le_succ_of_le hj,e⟩
 have stay:∀j,(∀x,x<n->P j x=P (j+1) x)->∀k x,x<n->P (j+k) x=P j x:=by
  intro j e k
  have step:∀k x,x<n->P (j+k) x=P (j+k+1) x:=by
   intro k
   induction k with
   |zero=>exact e
   |succ k ih=>exact det _ ih
  induction k with
  |zero=>intro x _;rfl
  |succ k ih=>intro x hx;rw[<-ih x hx];exact(step k x hx).symm
 intro k x hx h
 rcases key n with z|⟨j,hj,e⟩
 ·have:x∈(List.range n).filter (P n):=eT.mpr ⟨cD.mpr hx,h⟩
  have:=List.length_pos_of_mem this
  unfold cnt at z;omega
 ·have e1:=stay j e (n-j) x hx;have e2:=stay j e (n-j+k) x hx;rw[show j+(n-j)=n by omega]at e1
  rw[show j+(n-j+k)=n+k by omega]at e2
  rw[e2,<-e1];exact h
section
variable{T:Table}
end
section
variable{T:Table}
def kds(T:Table):List Nat:=(List.range T.go.length).filter λr=>decide (kI T r ≠ -1)
end
end RCH
namespace STP
open L2 MI AT HND EVX K23 K21 RCH
open K22 hiding hp
open K40
section
variable{T:Table}
noncomputable def jr:SF:=jx o8 2
noncomputable def cj:SF:=jx j5 8
theorem agw(p:Pln d):Pu STP.jr 2 [.str (S T.tg),d] (.bl (txt T d)):=K21.aas p
abbrev Ent:=Nat×List Nat
variable{ps:Nat->Bool}{s:Nat}{es:List Ent}
end
end STP
namespace EVT
open L2 MI AT HND
section
variable{f g k f1 f2 f3:SE}{ka:SA}{c c1 c2:ST}{τ:Sd}{h h1 h2 h3:Hd}{a b d v:D}{i:Nat}{t u:Bool}{xs ys ds:List D}
theorem apg:yz [.tup xs] h=.ok (bu xs.length) h:=rfl
theorem aqd(e:c τ h=.ok true h1)(e':f τ h1=.ok d h2):a6q c f g τ h=.ok d h2:=by unfold a6q;rw[e,bj,aI rfl,e']
theorem ap4(e:c τ h=.ok false h1)(e':g τ h1=.ok d h2):a6q c f g τ h=.ok d h2:=by unfold a6q;rw[e,bj,b9 (by simp),e']
theorem atg(e:f τ h=R.ok (D.ref h1.length) (h1++[.lst xs]))(hl:h1.length=h.length)(cx:clos 0 xs)(co:∀o∈h1,a0c 0 o):sZ f τ h=.ok (.rol xs) h1 :=
 PAP.ahx hl e (qz (bp _) cx) λo ho=>qd (bp _) (co o ho)
theorem aea(e:ka τ h=.ok ds h1)(hl:h1.length=h.length)(cd:clos 0 ds)(co:∀o∈h1,a0c 0 o)(z:ds.length<=1000000):sZ (sA MI.a08 ka) τ h=.ok (.rol ds) h1:=by
 refine atg ?_ hl cd co;unfold sA;rw[e,bj];unfold MI.a08;exact aI (jc z)
theorem aeb(e:f τ h=.ok (.rol xs) h1)(hl:h1.length=h.length)(cd:clos 0 xs)(co:∀o∈h1,a0c 0 o):sZ (sA uv (aj f bw)) τ h=.ok (.rol xs) h1:=atg (uw e rfl) hl cd co
theorem ai4(co:∀o∈h,a0c 0 o):sZ aco τ h=.ok (.rod [] []) h:=by
 unfold sZ;show a8b h.length (.ok (.ref h.length) (h++[.dK []]))=_;rw[a3n (d':=.rod [] []) ?_ ?_]
 ·simp
 ·unfold FU a09;rw[b9 (by simp only[MI.clo];omega)]
  simp[xf]
 ·simp only[List.take_left'];exact λo ho=>qd (bp _) (co o ho)
end
end EVT
def ltn:=@EVT.apg
namespace K55
open L2 MI AT HND EVX K22 K23 K21
theorem pu1{ds:List D}(hn:ds.length=n)(ca:∀x∈ds,MI.clo 0 x)(c:MI.clo 0 d)(e:F ds []=.ok d []):Pu F n ds d:=Pu.of hn ca e (my c (by simp)) c
theorem ai5{x y:D}(a:MI.clo 0 x)(b:MI.clo 0 y):∀z∈[x,y],MI.clo 0 z:=a3q a b
theorem a9x{x y w:D}(a:MI.clo 0 x)(b:MI.clo 0 y)(c:MI.clo 0 w):∀z∈[x,y,w],MI.clo 0 z:=ae6 a b c
def isB:D->Bool|.bl _=>true|_=>false
def isI:D->Bool|.int _=>true|_=>false
theorem a7t{d:D}{h:Hd}(p:Pln d):km [d,.ty "int"] h=.ok (.bl (isI d || isB d)) h:=by
 cases d<;>first|(simp only[Pln]at p;done)|simp[km,aav,tyD,a9c,isI,isB]
theorem aat{d:D}{h:Hd}(p:Pln d):km [d,.ty "bool"] h=.ok (.bl (isB d)) h:=by
 cases d<;>first|(simp only[Pln]at p;done)|simp[km,aav,tyD,a9c,isB]
theorem chT{g g':D->D->Hd->R D}{fa fb fc:SE}{τ:Sd}{h h1 h2 h3 h4 h5:Hd}{x y w v:D}(e1:fa τ h=.ok x h1)(e2:fb τ h1=.ok y h2)(e3:g x y h2=.ok (.bl true) h3)(e4:fc τ h3=.ok w h4)(e5:g' y w h4=.ok v h5):sCh g g' fa fb fc τ h=.ok v h5:=by
 unfold sCh;rw[e1,bj,e2,bj,e3,bj];dsimp only;rw[e4,bj,e5]
theorem chF{g g':D->D->Hd->R D}{fa fb fc:SE}{τ:Sd}{h h1 h2 h3:Hd}{x y:D}(e1:fa τ h=.ok x h1)(e2:fb τ h1=.ok y h2)(e3:g x y h2=.ok (.bl false) h3):sCh g g' fa fb fc τ h=.ok (.bl false) h3:=by
 unfold sCh;rw[e1,bj,e2,bj,e3,bj]
theorem leT{x y:Int}{h:Hd}(c:x<=y):gLe (.int x) (.int y) h=.ok (.bl true) h:=by unfold gLe;simp only[c,decide_true]
theorem leF{x y:Int}{h:Hd}(c:¬ x<=y):gLe (.int x) (.int y) h=.ok (.bl false) h:=by unfold gLe;simp only[c,decide_false]
theorem ai6{f:SE}{τ:Sd}{h h1:Hd}{b:Bool}(e:f τ h=.ok (.bl b) h1):a79 f τ h=.ok (.bl (!b)) h1:=by unfold a79;rw[e,bj]
theorem arx{x:D}(a:MI.clo 0 x):∀z∈[x],MI.clo 0 z:=λz hz=>by rw[aw]at hz;subst hz;exact a
theorem aau{d:D}(p:Pln d):Pu (jx vh 1) 1 [d] (.bl (isI d)):=by
 refine pu1 rfl (arx p.clo) (qi _) ?_;rw[fu];show toR (vh [some d] [])=_;unfold vh
 cases d with
 |int i=>exact aK toR (jg (a8j (nq (bc rfl) ckk (a7t p)) (ai6 (nq (bc rfl) ckk (aat p)))))
 |bl b=>exact aK toR (jg (a8j (nq (bc rfl) ckk (a7t p)) (ai6 (nq (bc rfl) ckk (aat p)))))
 |_=>exact aK toR (jg (PAP.a8n (nq (bc rfl) ckk (a7t p))))
inductive Gh:D->Prop
 |non:Gh .non
 |bl (b:Bool):Gh (.bl b)
 |int (i:Int):Gh (.int i)
 |str (x:Str) (h:x.cps.toList.length<=1000):Gh (.str x)
 |tup (xs:List D) (g:∀x∈xs,Gh x):Gh (.tup xs)
 |rol (xs:List D) (c:clos 0 xs):Gh (.rol xs)
 |rod (ks:List Key) (xs:List D) (c:clos 0 xs):Gh (.rod ks xs)
theorem Gh.clo{d:D}(g:Gh d):MI.clo 0 d:=by
 induction g with
 |non=>exact ad9
 |bl b=>exact qi _
 |int i=>exact di _
 |str x _=>exact jy _
 |tup xs _ ih=>exact qb (p8.mpr ih)
 |rol xs c=>exact v6 c
 |rod ks xs c=>simpa[MI.clo] using c
theorem Gh.pln{d:D}(g:Gh d):Pln d:=by
 cases g with
 |non=>trivial
 |bl b=>trivial
 |int i=>trivial
 |str x h=>exact h
 |tup xs g=>exact p8.mpr λx hx=>(g x hx).clo
 |rol xs c=>exact c
 |rod ks xs c=>exact c
def Ghs(xs:List D):Prop:=∀x∈xs,Gh x
theorem a7u:Ghs []:=λx h=>by cases h
theorem a3v{x:D}{xs:List D}(a:Gh x)(b:Ghs xs):Ghs (x::xs):=λy h=>by rcases ar.mp h with rfl|h;exact a;exact b y h
theorem Ghs.clos{xs:List D}(a:Ghs xs):MI.clos 0 xs:=p8.mpr λx h=>(a x h).clo
def Td:Nat->D->Prop
 |0,t=>∃j:Nat,t=bu j
 |n+1,t=>∃ts,t=.tup ts/\∀x∈ts,Td n x
theorem ai7:∀{n:Nat} {t:D},Td n t->MI.clo 0 t
 |0,_,⟨_,e⟩=>by rw[e];exact di _
 |n+1,_,⟨ts,e,h⟩=>by rw[e];exact qb (p8.mpr λx hx=>ai7 (h x hx))
def sm:Nat->D->D->Bool
 |0,x,t=>match x,t with
  |.int i,.int j=>i == j
  |_,_=>false
 |n+1,x,t=>match x,t with
  |.tup xs,.tup ts=>decide (xs.length=ts.length) && (xs.zip ts).all λp=>sm n p.1 p.2
  |_,_=>false
theorem a2c{n:Nat}{xs ts:List D}:sm (n+1) (.tup xs) (.tup ts)=(decide (xs.length=ts.length) && (xs.zip ts).all λp=>sm n p.1 p.2):=rfl
theorem a1s:∀{n:Nat} {t:D},Td n t->sm n t t=true
 |0,_,⟨j,e⟩=>by rw[e];show((j:Int) == (j:Int))=true;simp
 |n+1,_,⟨ts,e,h⟩=>by
  rw[e,a2c,bA rfl,dF,aO]
  intro p hp
  have:p.1=p.2/\p.1∈ts:=by
   clear e
   induction ts with
   |nil=>cases hp
   |cons x ts ih =>
    rw[e7]at hp
    rcases ar.mp hp with rfl|hp
    ·exact⟨rfl,aT⟩
    ·obtain⟨a,b⟩:=ih (λy hy=>h y (aP _ hy)) hp;exact⟨a,aP _ b⟩
  rw[<-this.1];exact a1s (h _ this.2)
theorem a9y{n:Nat}{xs ts:List D}(h:¬ xs.length=ts.length):sm (n+1) (.tup xs) (.tup ts)=false:=by rw[a2c,b6 h,e8]
theorem aph{n:Nat}{x:D}{ts:List D}(h:isTup x=false):sm (n+1) x (.tup ts)=false:=by
 cases x<;>first|rfl|cases h
theorem av1{x:D}{j:Nat}(h:∀i,x=.int i->i≠(j:Int)):sm 0 x (bu j)=false:=by
 cases x<;>first|rfl|skip
 rename_i i;exact bt.mpr (h i rfl)
noncomputable def ji:SF:=jx vh 1
theorem agx{d:D}(p:Pln d):Pu ji 1 [d] (.bl (isI d)):=aau p
noncomputable def pq:SF:=jx a2m 3
def alg(lo hi:Int):D->Bool|.tup xs=>decide (lo<=(xs.length:Int)/\(xs.length:Int)<=hi)|_=>false
theorem agy{d:D}(p:Pln d)(lo hi:Int):Pu pq 3 [d,.int lo,.int hi] (.bl (alg lo hi d)):=by
 refine pu1 rfl (a9x p.clo (di _) (di _)) (qi _) ?_;unfold pq;rw[fu];show toR (a2m [some d,some (.int lo),some (.int hi)] [])=_;unfold a2m;have ti:km [d,.ty "tuple"] []=.ok (.bl (isTup d)) []:=PAP.agm p
 cases d with
 |tup xs =>
  refine aK toR (jg (a8j (nq (bc rfl) ckk ti) ?_))
  by_cases h0:lo<=(xs.length:Int)
  ·by_cases h1:(xs.length:Int)<=hi
   ·exact(chT (bc rfl) (uw (bc rfl) ltn) (leT h0) (bc rfl) (leT h1)).trans (by rw[show alg lo hi (.tup xs)=true from bA ⟨h0,h1⟩])
   ·exact(chT (bc rfl) (uw (bc rfl) ltn) (leT h0) (bc rfl) (leF h1)).trans (by rw[show alg lo hi (.tup xs)=false from b6 λz=>h1 z.2])
  ·exact(chF (bc rfl) (uw (bc rfl) ltn) (leF h0)).trans (by rw[show alg lo hi (.tup xs)=false from b6 λz=>h0 z.1])
 |_=>exact aK toR (jg (PAP.a8n (nq (bc rfl) ckk ti)))
noncomputable def j8:Nat->SF
 |0=>λ_ _=>.no
 |n+1=>jx (zu ji pq (j8 n)) 2
theorem aec{n:Nat}{a b:D}:j8 (n+1) [a,b] []=toR (zu ji pq (j8 n) [some a,some b] []):=by
 rw[j8,fu];rfl
def Few:Nat->D->Prop
 |0,_=>True
 |n+1,t=>∀ts,t=.tup ts->ts.length<=100000/\∀x∈ts,Few n x
theorem a8q:∀(n m:Nat),n<m->∀x t,Gh x->Td n t->Few n t->Pu (j8 m) 2 [x,t] (.bl (sm n x t))
 |_,0,h,_,_,_,_,_=>absurd h (by omega)
 |0,m+1,_,x,t,g,⟨j,et⟩,_=>by
  subst et;refine pu1 rfl (ai5 g.clo (di _)) (qi _) (aec.trans ?_);unfold zu;have i1:km [bu j,.ty "tuple"] []=.ok (.bl false) []:=by simp[km,aav,tyD,a9c]
  have nb:=agx g.pln;refine aK toR (zc (af (ifT (akg (vp (nq (bc rfl) ckk i1) (ju _)))) (jg ?_)))
  cases g with
  |int i=>exact a8j (uw (bc rfl) (nb _)) (jt (bc rfl) (bc rfl) a6g)
  |_=>exact PAP.a8n (uw (bc rfl) (nb _))
 |n+1,m+1,h,x,t,g,⟨ts,et,ht⟩,few=>by
  subst et;obtain⟨fl1,few⟩:=few ts rfl;refine pu1 rfl (ai5 g.clo (ai7 (n:=n+1) ⟨ts,rfl,ht⟩)) (qi _) (aec.trans ?_);unfold zu;have i1:km [.tup ts,.ty "tuple"] []=.ok (.bl true) []:=by simp[km,aav,tyD,a9c]
  have ir:=agy g.pln ts.length ts.length;refine eti (aam (vp (nq (bc rfl) ckk i1) (ju _))) ?_
  by_cases hx:∃xs,x=.tup xs/\xs.length=ts.length
  ·obtain⟨xs,rfl,hl⟩:=hx;have gx:∀y∈xs,Gh y:=by cases g with|tup _ g=>exact g
   have rb:alg ts.length ts.length (.tup xs)=true:=bA (by omega)
   rw[rb]at ir;refine eti (aam (vp (a4e (bc rfl) (uw (bc rfl) ltn) (uw (bc rfl) ltn) (ir _)) (ju _))) ?_;have zi:ajw (sV 0) (sV 1) [some (.tup xs),some (.tup ts)] []=.ok ⟨(xs.zip ts).map λp=>.tup [p.1,p.2],λ_=>True⟩ []:=by
    unfold ajw;rw[bc rfl,bj,bc rfl,bj];show R.ok (⟨(xs.zip ts).map λp=>.tup [p.1,p.2],λ_=>True/\True⟩:Itm) []=_
    congr 2
    funext _
    simp
   have cz:sZ (m5 (ajw (sV 0) (sV 1)) (tN 2) (w6 ji pq (j8 m)) []) [some (.tup xs),some (.tup ts)] []=.ok (.rol (((xs.zip ts).map λp=>sm n p.1 p.2).map D.bl)) []:=by
    rw[cb];refine a7k (xu _ _ (xs.zip ts) zi (jc (by rw[ff];omega)) λp hp=>?_) (iu λ_ _=>qi _) (by simp)
    obtain⟨h1,h2⟩:=dJ hp;show w6 ji pq (j8 m) [some p.1,some p.2] []=_;unfold w6;exact nq (bc rfl) (bc rfl) (a8q n m (by omega) _ _ (gx _ h1) (ht _ h2) (few _ h2) _)
   refine etr (jg (uw cz (PAP.adu _ _))) ?_;rw[a2c,bA hl,dF,eX];rfl
  ·have rb:alg ts.length ts.length x=false:=by
    cases x<;>first|rfl|skip
    rename_i xs;exact b6 λz=>hx ⟨xs,rfl,by omega⟩
   have sf:sm (n+1) x (.tup ts)=false:=by
    cases x<;>first|rfl|skip
    rename_i xs;exact a9y λz=>hx ⟨xs,rfl,z⟩
   rw[rb]at ir;rw[sf];exact aK toR (zc (af (ifT (akg (vp (a4e (bc rfl) (uw (bc rfl) ltn) (uw (bc rfl) ltn) (ir _)) (ju _)))) (jg ckk)))
end K55
namespace K55
open L2 MI AT HND EVX K22 K23 K21
open K35 (Pc pcD vm)
section
variable{T:Table}{x:List Nat}
theorem a2q{g:SG}{b:SS}{α:Type}(f:α->D)(Q:α->Bool)(I:Sd->Prop):∀(xs:List α) (τ:Sd),
  (∀x∈xs,∀τ,I τ->∃τ1,g (f x) τ []=.nx τ1 []/\((Q x=true/\∃τ2,b τ1 []=.nx τ2 []/\I τ2)\/(Q x=false/\b τ1 []=.rt (.bl false) [])))->I τ->
  (xs.all Q=true/\∃τ',forL (λ_=>True) g b (xs.map f) τ []=.nx τ' []/\I τ')\/(xs.all Q=false/\forL (λ_=>True) g b (xs.map f) τ []=.rt (.bl false) [])
 |[],τ,_,i0=>.inl ⟨rfl,τ,a9n ..,i0⟩
 |x::xs,τ,st,i0=>by
  obtain⟨τ1,e1,q⟩:=st x aT τ i0;rw[bg,a7l _ _ _ _ _ _ _ _ e1,cA]
  rcases q with⟨qx,τ2,e2,i2⟩|⟨qx,e2⟩
  ·rw[e2,ahn,qx,dF];exact a2q f Q I xs τ2 (λy hy=>st y (aP _ hy)) i2
  ·rw[e2,aho,qx,e8];exact .inr ⟨rfl,rfl⟩
theorem aed{xs:List D}(g:Ghs xs):Pu SRC.dw 2 [.tup xs,bu xs.length] (.bl (xs.all isI)):=by
 refine pu1 rfl (a3q (qb g.clos) (di _)) (qi _) ?_;unfold SRC.dw;rw[fu];show toR (SRC.jm [some (.tup xs),some (bu xs.length),none] [])=_;unfold SRC.jm;have it:∀h:Hd,km [.tup xs,.ty "tuple"] h=.ok (.bl true) h:=λh=>by simp[km,aav,tyD,a9c]
 refine eti (orF (aam (vp (nq (bc rfl) ckk (it _)) (ju _))) (t2s (uw (bc rfl) a1r) (bc rfl) (agi rfl))) ?_;refine etr (a6h (adg (bc rfl) rfl)) ?_;have lp:=a2q (g:=kN 2) (b:=SRC.ph) id isI (λτ=>∃t2:Option D,τ=[some (.tup xs),some (bu xs.length),t2]) xs [some (.tup xs),some (bu xs.length),none] ?_ ⟨none,rfl⟩
 ·rw[List.map_id]at lp
  rcases lp with⟨q,τ',e,t2,rfl⟩|⟨q,e⟩
  ·refine af (aK (λz=>toR (MI.thn z _)) e) ?_;rw[q];rfl
  ·refine af (aK (λz=>toR (MI.thn z _)) e) ?_;rw[q];rfl
 ·rintro y hy τ ⟨t2,rfl⟩
  have p:=(g y hy).pln;refine⟨_,rfl,?_⟩
  cases hi:isI y with
  |true =>
   obtain⟨i,rfl⟩:∃i,y=.int i:=by cases y<;>first|exact⟨_,rfl⟩|cases hi
   refine .inl ⟨rfl,[some (.tup xs),some (bu xs.length),some (.int i)],?_,some (.int i),rfl⟩;unfold SRC.ph;exact af (ifF (orF (aam (vp (nq (bc rfl) ckk (a7t p)) (ju _))) (vp (nq (bc rfl) ckk (aat p)) (ju _)))) rfl
  |false =>
   refine .inr ⟨rfl,?_⟩;unfold SRC.ph
   cases hb:isB y with
   |true =>
    refine af (ifT (orF (aam (vp (nq (bc rfl) ckk ((a7t p).trans (by rw[hi,hb];rfl))) (ju _))) (vp (nq (bc rfl) ckk ((aat p).trans (by rw[hb]))) (ju _)))) ?_
    exact jg ckk
   |false =>
    refine af (ifT (orT (akg (vp (nq (bc rfl) ckk ((a7t p).trans (by rw[hi,hb];rfl))) (ju _))))) ?_
    exact jg ckk
theorem ai8:∀(a:List Int) (b:List Nat),a4r (a.map D.int) (b.map bu)=(decide (a.length=b.length) && ((a.map D.int).zip (b.map bu)).all λp=>sm 0 p.1 p.2)
 |[],[]=>by simp[a4r]
 |[],_::_=>by simp[a4r]
 |_::_,[]=>by simp[a4r]
 |x::a,y::b=>by
  show((x == (y:Int)) && a4r (a.map D.int) (b.map bu))=(_ && ((x == (y:Int)) && ((a.map D.int).zip (b.map bu)).all λp=>sm 0 p.1 p.2));rw[ai8 a b,bQ,bQ];simp only[Nat.add_right_cancel_iff]
  cases (x == (y:Int))<;>simp
theorem arz(a:List Int):pur 60 (.tup (a.map D.int))=true:=by
 show((a.map D.int).all (pur 59))=true;rw[aO]
 intro x hx
 obtain⟨i,_,rfl⟩:=bb.mp hx;rfl
theorem as3(b:List Nat):pur 60 (a6s b)=true:=by
 show((b.map bu).all (pur 59))=true;rw[aO]
 intro x hx
 obtain⟨i,_,rfl⟩:=bb.mp hx;rfl
theorem ai9(a:List Int)(b:List Nat)(h:Hd):hNe (.tup (a.map D.int)) (a6s b) h=.ok (.bl (!sm 1 (.tup (a.map D.int)) (a6s b))) h:=by
 unfold hNe;rw[aI ⟨arz a,as3 b⟩,a2c];show R.ok (D.bl (!a4r (a.map D.int) (b.map bu))) h=_;rw[ai8,ai,ai]
theorem ints_of:∀{xs:List D},xs.all isI=true->∃a:List Int,xs=a.map D.int
 |[],_=>⟨[],rfl⟩
 |y::xs,h=>by
  rw[cA,bI]at h;obtain⟨a,e⟩:=ints_of h.2;obtain⟨i,rfl⟩:∃i,y=.int i:=by
   have:=h.1
   cases y<;>first|exact⟨_,rfl⟩|cases this
  exact⟨i::a,by rw[e];rfl⟩
theorem aee:∀{xs:List D} {b:List Nat},xs.all isI=false->xs.length=b.length->((xs.zip (b.map bu)).all λp=>sm 0 p.1 p.2)=false
 |[],_,h,_=>by cases h
 |y::xs,[],_,l=>by simp at l
 |y::xs,n::b,h,l=>by
  rw[bg,e7,cA];rw[cA]at h
  cases hi:isI y with
  |true =>
   rw[hi,dF]at h;rw[aee (b:=b) h (by simpa using l),fk]
  |false =>
   have:sm 0 y (bu n)=false:=av1 λi e=>by subst e;cases hi
   show(sm 0 y (bu n) && _)=false;rw[this,e8]
end
end K55
namespace K36
open L2 MI AT HND EVX K22 K23 K21
open K35 (bst Pc pcD vm a4z res alf a2p a6o a3u dec a6n a07 a9w)
open K55 (Gh Ghs Td Few sm a2c isI isB a7t aat pu1 a3v a7u a1s)
section
variable{T:Table}{x:List Nat}
noncomputable def g8:SF:=jx (ux STP.jr) 2
theorem aef{d:D}(p:Pln d)(t:txt T d=true):Pu g8 2 [.str (S T.tg),d] d:=by
 refine pu1 rfl (a3q (jy _) p.clo) p.clo ?_;unfold g8;rw[fu];show toR (ux STP.jr [some (.str (S T.tg)),some d] [])=_;unfold ux;refine eti (aam (vp (nq (bc rfl) (bc rfl) (STP.agw p _)) ((ju _).trans (by rw[t])))) ?_
 exact aK toR (jg (bc rfl))
abbrev τc(T:Table)(x:List Nat)(p:Nat)(f:D)(a b:Option D):Sd:=[some T.d,some (.str (S x)),some (.ref 0),some (bu p),some f,a,b]
noncomputable def a6p:SF:=jx (agl g8 K35.iy) 7
theorem al4(h:T.Ok)(ht:∀c∈x,c∈T.tg)(xl:x.length<=900):a6p [T.d,.str (S x)] []=.ok (.tup [.ref 0,bu (res T x).2]) [.lst ((res T x).1.map pcD)]:=by
 have w:=ak8 (c:=a9r K36.g8 K35.iy) (f:=a6j K36.g8 K35.iy)
  (λm τ hp=>∃(p:Nat) (acc:List Pc) (a b:Option D),τ=τc T x p (bst T x p) a b/\hp=[.lst (acc.map pcD)]/\m=x.length-p/\p<=x.length/\acc.length<=p/\a4z T x (x.length-p+1) p acc=res T x)
  (λτ hp=>∃(p:Nat) (acc:List Pc) (a b:Option D),τ=τc T x p (bst T x p) a b/\hp=[.lst (acc.map pcD)]/\(acc,p)=res T x)
  (λ_ _=>False) ?_ x.length 100000 (τc T x 0 (bst T x 0) none none) [.lst []] (by omega) ⟨0,[],none,none,rfl,rfl,rfl,by omega,by simp,rfl⟩
 ·rcases w with⟨τ',h',e,p,acc,a,b,rfl,rfl,er⟩|⟨_,_,_,z⟩
  ·unfold a6p;rw[fu];show toR (agl K36.g8 K35.iy [some T.d,some (.str (S x)),none,none,none,none,none] [])=_;unfold agl;have lk:=aef (T:=T) (art (l:=x) (by omega)) (by rw[apc];exact apf ht) []
   have dr:v5 (sA (iz false 2 K36.g8) (aj (s2 gIx (sV 0) (sI 0)) (aj (sV 1) bw))) [some T.d,some (.str (S x)),none,none,none,none,none] []=.nx [some T.d,some (.str (S x)),none,none,none,none,none] []:=by
    unfold v5;rw[nq (vg rfl (apd _)) (bc rfl) lk];rfl
   refine etr (qe dr) ?_;refine etr (nu (d:=.ref 0) (h1:=[.lst []]) rfl) ?_;refine etr (nu ckk) ?_;refine ets (a4e (bc rfl) (bc rfl) (bc rfl) (a07 h (a:=0) ht (by omega) (by omega) _)) ?_
   refine etr (qe e) ?_;rw[<-er];exact aK toR (jg (nq (bc rfl) (bc rfl) aoh))
  ·exact z.elim
 ·rintro m τ hp ⟨p,acc,a,b,rfl,rfl,rfl,pl,al,er⟩
  rcases a3u h pl with⟨z1,z2⟩|⟨q,e,z1,z2,pe,el⟩
  ·refine .inl ⟨_,tvc rfl ((uh _).trans (by rw[z1];rfl)),p,acc,a,b,rfl,rfl,?_⟩
   rw[<-er];unfold a4z;rw[z2]
  ·refine .inr ⟨_,tvc rfl ((uh _).trans (by rw[z1];rfl)),.inl ⟨τc T x e (bst T x e) (some (.int q)) (some (bu e)),[.lst ((acc++[(q,p,e)]).map pcD)],x.length-e,?_,by omega,e,acc++[(q,p,e)],_,_,rfl,rfl,rfl,el,by rw[ah,ay];omega,?_⟩⟩
   ·unfold a6j;have as:a6r (sV 4) (a4m 2 (jo (kN 5) (jo (kN 6) a5q))) (τc T x p (bst T x p) a b) [.lst (acc.map pcD)]=.nx (τc T x p (bst T x p) (some (.int q)) (some (bu e))) [.lst (acc.map pcD)]:=adf (bc rfl) (by rw[z1];rfl)
    refine af (qe as) ?_;rw[bG];refine af (qe (a1f (bc rfl) rfl (arg1 (a4e (bc rfl) (bc rfl) (bc rfl) aep)) (a3r (xs:=acc.map pcD) rfl (by rw[ai];exact a2b (by omega))))) ?_
    refine af (nu (bc rfl)) ?_;exact aaw (a4e (bc rfl) (bc rfl) (bc rfl) (a07 h (a:=e) ht (by omega) el _))
   ·rw[<-er];have more:∀(n k p:Nat) (acc:List Pc),p<=x.length->x.length-p+1<=n->a4z T x (n+k) p acc=a4z T x n p acc:=by
     intro n
     induction n with
     |zero=>intro k p acc hp hn;omega
     |succ n ih =>
      intro k p acc hp hn
      rw[show n+1+k=(n+k)+1 by omega]
      unfold a4z
      rcases a3u h hp with⟨_,y2⟩|⟨q',e',_,y2,pe',el'⟩
      ·rw[y2]
      ·rw[y2];exact ih k e' _ el' (by omega)
    conv=>rhs;unfold a4z
    rw[z2];dsimp only;have:=more (x.length-e+1) (x.length-p-(x.length-e+1)) e (acc++[(q,p,e)]) el (ag _);rw[show x.length-e+1+(x.length-p-(x.length-e+1))=x.length-p by omega]at this
    exact this.symm
theorem api(h:T.Ok)(ht:∀c∈x,c∈T.tg)(xl:x.length<=900):Pu a6p 2 [T.d,.str (S x)] (alf T x):=Pu.of rfl a9w (al4 h ht xl) a6o (a2p T x)
theorem aia(h:T.Ok)(a:Nat)(l:List Nat):∀k,SRC.best T a l k=.non\/∃(q e:Nat),SRC.best T a l k=.tup [bu q,bu e]
 |0=>.inl rfl
 |k+1=>by
  by_cases e:kI T (SRC.rm T l k) = -1
  ·rw[SRC.a9u e];exact aia h a l k
  ·rw[SRC.a9v e];have b : -1<=kI T (SRC.rm T l k):=by
    unfold kI
    cases hk:T.ks[SRC.rm T l k]? with
    |none=>simp
    |some q=>exact(h.kk q (aQ hk)).1
   exact .inr ⟨(kI T (SRC.rm T l k)).toNat,a+k,by show D.tup [.int (kI T (SRC.rm T l k)),bu (a+k)]=.tup [.int (((kI T (SRC.rm T l k)).toNat:Nat):Int),bu (a+k)];rw[dQ (by omega)]⟩
theorem as4(h:T.Ok){p:Nat}{q:Int}{e:Nat}(al:p<=x.length)(z:dec (bst T x p)=some (q,e)):0<=q:=by
 rcases aia h p (x.drop p) (x.length-p+1) with y|⟨k,j,y⟩
 ·rw[show bst T x p=D.non from y]at z;cases z
 ·rw[show bst T x p=D.tup [bu k,bu j] from y]at z
  have:((k:Int),((j:Nat):Int).toNat)=(q,e):=by simpa[dec] using z
  have:=aK Prod.fst this
  simp only at this;omega
theorem aib(h:T.Ok):∀(n p:Nat) (acc:List Pc),p<=x.length->(∀a∈acc,0<=a.1)->∀a∈(a4z T x n p acc).1,0<=a.1
 |0,p,acc,_,ha=>ha
 |n+1,p,acc,pl,ha=>by
  unfold a4z
  rcases a3u h pl with⟨_,z⟩|⟨q,e,_,z,pe,el⟩
  ·rw[z];exact ha
  ·rw[z];refine aib h n e _ el λa hm=>?_
   rcases aW.mp hm with hm|hm
   ·exact ha a hm
   ·rw[aw.mp hm];exact as4 h pl z
theorem apj(h:T.Ok):∀a∈(res T x).1,0<=a.1:=aib h _ _ _ (bp _) (λa m=>by cases m)
theorem apk{ps:List Pc}(hq:∀a∈ps,0<=a.1):∀d∈ps.map pcD,Td 1 d:=by
 intro d hd
 obtain⟨a,ha,rfl⟩:=bb.mp hd;refine⟨_,rfl,λz hz=>?_⟩;have:=hq a ha;simp only[ar,aM,bC]at hz
 rcases hz with rfl|rfl|rfl
 ·exact⟨a.1.toNat,by show D.int a.1=.int ((a.1.toNat:Nat):Int);rw[dQ this]⟩
 ·exact⟨_,rfl⟩
 ·exact⟨_,rfl⟩
theorem apl{ps:List Pc}(pl:ps.length<=1000):Few 2 (.tup (ps.map pcD)):=by
 intro ts e
 cases e
 refine⟨by rw[ai];omega,λz hz=>?_⟩
 obtain⟨a,ha,rfl⟩:=bb.mp hz
 intro ts e
 cases e
 exact⟨by simp,λ_ _=>trivial⟩
def agz:D->Option (List D)|.rol xs=>some xs|_=>none
theorem al5{d:D}{h:Hd}(p:Pln d):km [d,.ty "list"] h=.ok (.bl (agz d).isSome) h:=by
 cases d<;>first|(simp only[Pln]at p;done)|simp[km,aav,tyD,a9c,agz]
noncomputable def iw:SF:=jx (yp a6p (K55.j8 3)) 6
def CH(ps:List Pc)(p:Nat)(d e:D):Bool:=match agz d with
 |some xs=>sm 2 (.tup xs) (.tup (ps.map pcD)) && sm 0 e (bu p)
 |none=>false
def Gp(d:D):Prop:=Gh d/\∀xs,agz d=some xs->Ghs xs
theorem ah0(h:T.Ok)(ht:∀c∈x,c∈T.tg)(xl:x.length<=900){d e:D}(gd:Gp d)(ge:Gh e):Pu iw 4 [T.d,.str (S x),d,e] (.bl (CH (res T x).1 (res T x).2 d e)):=by
 have cl:∀z∈[T.d,.str (S x),d,e],MI.clo 0 z:=λz hz=>by
  simp only[ar,aM,bC]at hz
  rcases hz with rfl|rfl|rfl|rfl
  ·exact Table.clo
  ·exact jy _
  ·exact gd.1.clo
  ·exact ge.clo
 refine pu1 rfl cl (qi _) ?_;unfold iw;rw[fu];show toR (yp a6p (K55.j8 3) [some T.d,some (.str (S x)),some d,some e,none,none] [])=_;unfold yp;have as:a6r (sA (iz false 2 a6p) (aj (sV 0) (aj (sV 1) bw))) (a4m 2 (jo (kN 4) (jo (kN 5) a5q))) [some T.d,some (.str (S x)),some d,some e,none,none] []=.nx [some T.d,some (.str (S x)),some d,some e,some (.rol ((res T x).1.map pcD)),some (bu (res T x).2)] [] :=
  adf (nq (bc rfl) (bc rfl) (api h ht xl _)) rfl
 refine etr (qe as) ?_;have il:=al5 (h:=[]) gd.1.pln;have rl:(res T x).1.length<=1000:=bD (K35.a8p T x (x.length+1) 0 []) (by simp only[cU];omega)
 unfold CH
 cases hx:agz d with
 |none =>
  rw[hx]at il;exact aK toR (jg (PAP.a8n (nq (bc rfl) ckk il)))
 |some xs =>
  obtain rfl:d=.rol xs:=by cases d<;>first|(cases hx;rfl)|cases hx
  have gx:Gh (.tup xs):=.tup _ (gd.2 xs rfl);rw[hx]at il;have s1:=K55.a8q 2 3 (by omega) (.tup xs) (.tup ((res T x).1.map pcD)) gx ⟨_,rfl,apk (apj h)⟩ (apl rl)
  have s2:=K55.a8q 0 3 (by omega) e (bu (res T x).2) ge ⟨_,rfl⟩ trivial
  refine aK toR (jg (a8j (nq (bc rfl) ckk il) ?_));dsimp only
  cases hb:sm 2 (.tup xs) (.tup ((res T x).1.map pcD)) with
  |false =>
   rw[hb]at s1;exact PAP.a8n (nq (uw (bc rfl) rfl) (uw (bc rfl) rfl) (s1 _))
  |true =>
   rw[hb]at s1;exact a8j (nq (uw (bc rfl) rfl) (uw (bc rfl) rfl) (s1 _)) (nq (bc rfl) (bc rfl) (s2 _))
end
end K36
namespace K36
open L2 MI AT HND EVX K22 K23 K21
open K35 (bst Pc pcD vm a4z res alf a2p a6o a3u dec a6n a07 a9w)
open K55 (Gh Ghs Td Few sm a2c isI isB a7t aat pu1 a3v a7u a1s aph a9y aee ints_of aed ai9 a2q)
section
variable{T:Table}{x:List Nat}
def nI(n:Nat):D->Bool|.tup xs=>decide (xs.length=n) && xs.all isI|_=>false
theorem apm{d:D}(g:Gh d)(n:Nat):Pu SRC.dw 2 [d,bu n] (.bl (nI n d)):=by
 by_cases ht:isTup d=true
 ·obtain⟨xs,rfl⟩:∃xs,d=.tup xs:=by cases d<;>first|exact⟨_,rfl⟩|cases ht
  have gx:Ghs xs:=by cases g with|tup _ g=>exact g
  by_cases hl:xs.length=n
  ·subst hl;have:=aed gx;rw[show nI xs.length (.tup xs)=xs.all isI by simp[nI]]
   exact this
  ·refine pu1 rfl (a3q g.clo (di _)) (qi _) ?_;unfold SRC.dw;rw[fu];show toR (SRC.jm [some (.tup xs),some (bu n),none] [])=_;unfold SRC.jm;rw[show nI n (.tup xs)=false by simp[nI,hl]]
   exact aK toR (zc (af (ifT (orF (aam (vp (nq (bc rfl) ckk (agm g.pln)) (ju _))) (t2s (uw (bc rfl) a1r) (bc rfl) (agj (by omega))))) (jg ckk)))
 ·have ht':isTup d=false:=by simpa using ht
  refine pu1 rfl (a3q g.clo (di _)) (qi _) ?_;unfold SRC.dw;rw[fu];show toR (SRC.jm [some d,some (bu n),none] [])=_;unfold SRC.jm;rw[show nI n d=false by cases d<;>first|rfl|cases ht']
  exact aK toR (zc (af (ifT (orT (akg (vp (nq (bc rfl) ckk ((agm g.pln).trans (by rw[ht']))) (ju _))))) (jg ckk)))
theorem aic{a:Pc}(h:0<=a.1):pcD a=a6s [a.1.toNat,a.2.1,a.2.2]:=by
 show D.tup [.int a.1,bu a.2.1,bu a.2.2]=.tup [.int ((a.1.toNat:Nat):Int),bu a.2.1,bu a.2.2];rw[dQ h]
def at2{α β:Type}(f:α->β->Bool)(xs:List α)(ys:List β)(i:Nat):Bool:=match xs[i]?,ys[i]? with|some x,some y=>f x y|_,_=>false
theorem aeg{α β:Type}{f:α->β->Bool}{xs:List α}{ys:List β}{i:Nat}{x:α}{y:β}(h1:xs[i]? = some x)(h2:ys[i]? = some y):at2 f xs ys i=f x y:=by unfold at2;rw[h1,h2]
theorem all_range{α β:Type}(xs:List α)(ys:List β)(f:α->β->Bool)(hl:xs.length=ys.length) :
  ((List.range xs.length).all (at2 f xs ys))=(xs.zip ys).all λp=>f p.1 p.2:=by
 rw[Bool.eq_iff_iff,aO,aO]
 constructor
 ·intro h p hp
  obtain⟨i,hi⟩:=bB hp;obtain⟨h1,h2⟩:=bU.mp hi;have:=h i (cD.mpr (a7.mp h1).1);rw[aeg h1 h2]at this;exact this
 ·intro h i hi
  have hi:=cD.mp hi;have hj:i<ys.length:=by omega
  rw[aeg (a6 hi) (a6 hj)];exact h (xs[i],ys[i]) (aQ (i:=i) (bU.mpr ⟨a6 hi,a6 hj⟩))
noncomputable def kh:SF:=jx (yq SRC.dw) 4
abbrev a2r(ps:List Pc)(p:Nat):D:=.tup [.rol (ps.map pcD),bu p]
theorem al6(ps:List Pc)(p:Nat):MI.clo 0 (a2r ps p):=qb (fj (v6 (vm _ _)) (fj (di _) lz))
theorem aeh{ps:List Pc}{p:Nat}(hq:∀a∈ps,0<=a.1)(pl:ps.length<=1000){d e:D}(gd:Gp d)(ge:Gh e):Pu kh 3 [d,e,a2r ps p] (.bl (CH ps p d e)):=by
 refine pu1 rfl (K55.a9x gd.1.clo ge.clo (al6 ps p)) (qi _) ?_;unfold kh;rw[fu];show toR (yq SRC.dw [some d,some e,some (a2r ps p),none] [])=_;unfold yq;have g1:Gh (.tup [e]):=.tup _ (a3v ge a7u);have n1:=apm g1 1;have q1:nI 1 (.tup [e])=isI e:=by simp[nI]
 rw[q1]at n1;have d0:gIx (a2r ps p) (.int 0) []=.ok (.rol (ps.map pcD)) []:=a4f (j:=0) rfl;have d1:gIx (a2r ps p) (.int 1) []=.ok (bu p) []:=a4f (j:=1) rfl;have nn:a2f (sA (iz false 2 SRC.dw) (aj (sA uy (aj (sV 1) bw)) (aj (sI 1) bw))) [some d,some e,some (a2r ps p),none] []=.ok (isI e) []:=vp (nq (uw (bc rfl) rfl) ckk (n1 _)) (ju _)
 cases hi:isI e with
 |false =>
  rw[hi]at nn;have c0:CH ps p d e=false:=by
   unfold CH;have:sm 0 e (bu p)=false:=by cases e<;>first|rfl|cases hi
   cases agz d<;>simp[this]
  rw[c0];exact aK toR (zc (af (ifT (orT (akg nn))) (jg ckk)))
 |true =>
  obtain⟨i,rfl⟩:∃i,e=.int i:=by cases e<;>first|exact⟨_,rfl⟩|cases hi
  rw[hi]at nn
  by_cases hip:i=p
  ·subst hip;refine eti (orF (aam nn) (t2s (bc rfl) (vg rfl d1) (agi rfl))) ?_;have e0:sm 0 (.int (p:Nat)) (bu p)=true:=by show((p:Int) == (p:Int))=true;simp
   have il:=al5 (h:=[]) gd.1.pln;unfold CH
   cases hx:agz d with
   |none =>
    rw[hx]at il;exact aK toR (zc (af (ifT (orT (akg (vp (nq (bc rfl) ckk il) (ju _))))) (jg ckk)))
   |some xs =>
    obtain rfl:d=.rol xs:=by cases d<;>first|(cases hx;rfl)|cases hx
    rw[hx]at il;have gx:=gd.2 xs rfl;dsimp only;rw[e0,Bool.and_true];have it:a4k (a2f (sA km (aj (sV 0) (aj (sC (.ty "list")) bw)))) [some (.rol xs),some (.int (p:Nat)),some (a2r ps p),none] []=.ok false []:=aam (vp (nq (bc rfl) ckk il) (ju _))
    by_cases hl:xs.length=(ps.map pcD).length
    ·refine eti (orF it (t2s (uw (bc rfl) vf) (uw (vg rfl d0) vf) (agi (by omega)))) ?_
     refine etr (a6h (a8i (n:=xs.length) (uw (bc rfl) vf) (jc (by rw[hl,ai];omega)))) ?_
     have lp:=a2q (g:=kN 3) (b:=o9 SRC.dw) bu (at2 (λx y=>sm 1 x y) xs (ps.map pcD))
      (λτ=>∃t3:Option D,τ=[some (.rol xs),some (.int (p:Nat)),some (a2r ps p),t3]) (List.range xs.length) [some (.rol xs),some (.int (p:Nat)),some (a2r ps p),none] ?_ ⟨none,rfl⟩
     ·rw[all_range xs (ps.map pcD) (λx y=>sm 1 x y) hl]at lp;have e2:sm 2 (.tup xs) (.tup (ps.map pcD))=(xs.zip (ps.map pcD)).all λp=>sm 1 p.1 p.2:=by
       rw[a2c,bA hl,dF]
      rw[e2]
      rcases lp with⟨q,τ',e,t3,rfl⟩|⟨q,e⟩
      ·refine af (aK (λz=>toR (MI.thn z _)) e) ?_;rw[q];rfl
      ·refine af (aK (λz=>toR (MI.thn z _)) e) ?_;rw[q];rfl
     ·rintro i hi τ ⟨t3,rfl⟩
      have h1:i<xs.length:=cD.mp hi;have h2:i<ps.length:=by rw[hl,ai]at h1;exact h1
      have z1:xs[i]? = some xs[i]:=a6 h1;have z2:(ps.map pcD)[i]? = some (pcD ps[i]):=by rw[aR,a6 h2];rfl
      have gy:Gh xs[i]:=gx _ (aU h1);have qa:0<=(ps[i]).1:=hq _ (aU h2);rw[aeg z1 z2]
      generalize xs[i]=y at *
      generalize ps[i]=a at *
      refine⟨[some (.rol xs),some (.int (p:Nat)),some (a2r ps p),some (bu i)],rfl,?_⟩;have x1:gIx (.rol xs) (bu i) []=.ok y []:=ald z1;have x2:gIx (.rol (ps.map pcD)) (bu i) []=.ok (pcD a) []:=ald z2;have nm:=apm gy 3;have tn:a2f (sA (iz false 2 SRC.dw) (aj (s2 gIx (sV 0) (sV 3)) (aj (sI 3) bw))) [some (.rol xs),some (.int (p:Nat)),some (a2r ps p),some (bu i)] []=.ok (nI 3 y) []:=vp (nq (jt (bc rfl) (bc rfl) x1) ckk (nm _)) (ju _);rw[aic qa]
      cases hn:nI 3 y with
      |true =>
       rw[hn]at tn;obtain⟨zs,rfl,hz,hz2⟩:∃zs,y=.tup zs/\zs.length=3/\zs.all isI=true:=by
        cases y<;>first|(simp[nI]at hn;exact⟨_,rfl,hn.1,by rw[aO];exact hn.2⟩)|cases hn
       obtain⟨b,rfl⟩:=ints_of hz2;have ne:sT (s2 hNe (s2 gIx (sV 0) (sV 3)) (s2 gIx (s2 gIx (sV 2) (sI 0)) (sV 3))) [some (.rol xs),some (.int (p:Nat)),some (a2r ps p),some (bu i)] []=.ok (!sm 1 (.tup (b.map D.int)) (a6s [a.1.toNat,a.2.1,a.2.2])) [] :=
        t2s (jt (bc rfl) (bc rfl) x1) (jt (vg rfl d0) (bc rfl) (x2.trans (by rw[aic qa]))) (ai9 b [a.1.toNat,a.2.1,a.2.2] [])
       cases hs:sm 1 (.tup (b.map D.int)) (a6s [a.1.toNat,a.2.1,a.2.2]) with
       |true =>
        rw[hs]at ne;refine .inl ⟨rfl,[some (.rol xs),some (.int (p:Nat)),some (a2r ps p),some (bu i)],?_,_,rfl⟩;unfold o9;exact af (ifF (orF (aam tn) ne)) rfl
       |false =>
        rw[hs]at ne;refine .inr ⟨rfl,?_⟩;unfold o9;exact af (ifT (orF (aam tn) ne)) (jg ckk)
      |false =>
       rw[hn]at tn;have hs:sm 1 y (a6s [a.1.toNat,a.2.1,a.2.2])=false:=by
        by_cases ht:isTup y=true
        ·obtain⟨zs,rfl⟩:∃zs,y=.tup zs:=by cases y<;>first|exact⟨_,rfl⟩|cases ht
         by_cases hz:zs.length=3
         ·have ho:zs.all isI=false:=by simpa[nI,hz] using hn
          show sm 1 (.tup zs) (.tup ([a.1.toNat,a.2.1,a.2.2].map bu))=false;rw[a2c,aee (b:=[a.1.toNat,a.2.1,a.2.2]) ho hz,fk]
         ·exact a9y (ts:=[a.1.toNat,a.2.1,a.2.2].map bu) hz
        ·exact aph (by simpa using ht)
       refine .inr ⟨hs,?_⟩;unfold o9;exact af (ifT (orT (akg tn))) (jg ckk)
    ·rw[a9y hl];exact aK toR (zc (af (ifT (orF it (t2s (uw (bc rfl) vf) (uw (vg rfl d0) vf) (agj (by omega))))) (jg ckk)))
  ·have c0:CH ps p d (.int i)=false:=by
    unfold CH;have:sm 0 (.int i) (bu p)=false:=bt.mpr hip
    cases agz d<;>simp[this]
   rw[c0];exact aK toR (zc (af (ifT (orF (aam nn) (t2s (bc rfl) (vg rfl d1) (agj hip)))) (jg ckk)))
end
end K36
namespace K55
open L2 MI AT HND EVX K22 K23 K21
section
variable{T:Table}
theorem av2{a b c d e:D}{h:Hd}:MI.uy [a,b,c,d,e] h=.ok (.tup [a,b,c,d,e]) h:=by unfold MI.uy;rw[aI (jc (by simp))]
theorem a8r{u:O}{M:Nat}(Pu:SRC.Src u M):∀x∈[u],a0c 1 x:=λx hx=>by rw[aw]at hx;subst hx;exact qd (by omega) Pu.clo
theorem a7v{u:O}{M:Nat}(Pu:SRC.Src u M):∀x∈[u],a0c 0 x:=λx hx=>by rw[aw]at hx;subst hx;exact Pu.clo
end
def Tg(b:Bool)(d:D)(q:PyData):Prop:=(b=true->noL d=true)/\(b=false->q.hasDict=false)
structure RA (b:Bool) (e:D):Prop where
 gh:Gh e
 ex:∃q,toPy e=some q/\Sm e q/\Tg b e q
theorem alh{fa fb fc:SE}{τ:Sd}{h h1 h2 h3:Hd}{A B C:List D}(eA:fa τ h=.ok (.tup A) h1)(eB:fb τ h1=.ok (.tup B) h2)(eC:fc τ h2=.ok (.tup C) h3)(l:A.length+B.length+C.length<=1000):s2 gf (s2 gf fa fb) fc τ h=.ok (.tup (A++B++C)) h3 :=
 jt (jt eA eB (PAP.akt (by omega))) eC (PAP.akt (by rw[ah];omega))
end K55
namespace K36
open L2 MI AT HND EVX K22 K23 K21
open K35 (Pc pcD vm)
open K55 (Gh Ghs a3v a7u alh a8r a7v)
def GS(d:D):Prop:=Gh d/\sq 50 d=true
theorem apn:∀{n:Nat} {d:D},sq n d=true->sq (n+1) d=true:=by
 intro n
 induction n with
 |zero=>intro d h;cases d<;>first|rfl|(rename_i ks xs;cases ks<;>cases xs<;>first|rfl|cases h)|cases h
 |succ n ih =>
  intro d h
  cases d<;>first
   |rfl
   |(simp only[sq,aO]at h ⊢;exact λx hx=>ih (h x hx))
   |(rename_i ks xs;cases ks<;>cases xs<;>first|rfl|cases h)
   |cases h
def GI(d:D):Prop:=Gh d/\sq 40 d=true
theorem GI.int(i:Int):GI (.int i):=⟨.int i,rfl⟩
theorem a2d{xs:List D}(h:∀x∈xs,GI x):GS (.tup xs):=by
 refine⟨.tup _ λx hx=>(h x hx).1,?_⟩;have up:∀{n d},sq 40 d=true->sq (40+n) d=true:=λ{n d} h=>by
  induction n with
  |zero=>exact h
  |succ n ih=>exact apn ih
 show xs.all (sq 49)=true;rw[aO];exact λx hx=>up (n:=9) (h x hx).2
theorem apo{xs:List D}(c:clos 0 xs)(h:∀x∈xs,GI x):GS (.rol xs):=by
 refine⟨.rol _ c,?_⟩;have up:∀{n d},sq 40 d=true->sq (40+n) d=true:=λ{n d} h=>by
  induction n with
  |zero=>exact h
  |succ n ih=>exact apn ih
 show xs.all (sq 49)=true;rw[aO];exact λx hx=>up (n:=9) (h x hx).2
theorem al7(a:Pc):GS (pcD a):=a2d λx hx=>by
 simp only[ar,aM,bC]at hx
 rcases hx with rfl|rfl|rfl<;>exact .int _
noncomputable def dj:SF:=jx (dq SRC.ak) 4
abbrev τq(a:Pc)(m:Nat)(k:Option D):Sd:=[some (.ref 0),some (pcD a),some (bu m),k]
theorem a3w{a:Pc}{m:Nat}(P:SRC.Src o N)(hN:N<=999990000)(m7:m<7):∃y o',GS y/\Dr dj 3 [pcD a,bu m] o y o'/\SRC.Src o' (N+3):=by
 obtain⟨k,o1,e1,k0,k1,P1⟩:=SRC.lu (m:=3) P (by omega) (by omega) (by omega)
 obtain⟨k,rfl⟩:=aX k0;have k3:k<3:=by omega
 have c1:iz false 2 SRC.ak [.ref 0,.int 3] [o]=.ok (bu k) [o1]:=e1 0 _ rfl;obtain⟨vs,hv,vl⟩:∃vs:List Int,pcD a=.tup (vs.map D.int)/\vs.length=3:=⟨[a.1,a.2.1,a.2.2],rfl,rfl⟩
 let xs:List D:=vs.map D.int
 have xl:xs.length=3:=by show(vs.map D.int).length=3;rw[ai];exact vl
 have ci:∀x∈xs,GI x:=λx hx=>by obtain⟨i,_,rfl⟩:=bb.mp hx;exact .int i
 have cx:clos 0 xs:=iu λ_ _=>di _;have args:∀x∈[pcD a,bu m],MI.clo 0 x:=a3q (by rw[hv];exact qb cx) (di _)
 obtain⟨v,hv2⟩:∃v:Int,xs[k]? = some (.int v):=by
  have:k<vs.length:=by omega
  exact⟨vs[k],by show(vs.map D.int)[k]? = _;rw[aR,a6 this];rfl⟩
 have fin:∀y u,SRC.Src u (N+3)->GS y->toR (dq SRC.ak (τq a m none) [o])=.ok y [u]->∃y o',GS y/\Dr dj 3 [pcD a,bu m] o y o'/\SRC.Src o' (N+3):=λy u Pu r e =>
  ⟨y,u,r,Dr.of rfl args P.clo (r:=.ok y [u]) (by unfold dj;rw[fu];exact e) (my (a9l (bp 1) r.1.clo) (by simpa using a8r Pu)) r.1.clo Pu.clo,Pu⟩
 have st:∀g:SS,dz (j9 3 (sA (iz false 2 SRC.ak) (aj (sV 0) (aj (sI 3) bw)))) g (τq a m none) [o]=g (τq a m (some (bu k))) [o1]:=λg=>nu (nq (bc rfl) ckk c1);have g1:∀hh:Hd,gIx (pcD a) (bu k) hh=.ok (.int v) hh:=λhh=>by rw[hv];exact a4f hv2
 have tA:∀(τ:Sd) (hh:Hd),τ[1]? = some (some (pcD a))->τ[3]? = some (some (bu k))->a0n (sV 1) oN (oS (sV 3)) τ hh=.ok (.tup (xs.take k)) hh:=λτ hh h1 h3=>PAP.aro (bc (h1.trans (by rw[hv]))) rfl (PAP.aks (bc h3)) (PAP.atd xs k _)
 have tC:∀(τ:Sd) (hh:Hd),τ[1]? = some (some (pcD a))->τ[3]? = some (some (bu k))->a0n (sV 1) (oS (s2 gf (sV 3) (sI 1))) oN τ hh=.ok (.tup (xs.drop (k+1))) hh:=λτ hh h1 h3=>PAP.aro (bc (h1.trans (by rw[hv]))) (PAP.aks (jt (bc h3) ckk m9)) rfl (PAP.ap2 xs (k+1) _)
 have put:∀w,GI w->∀z∈xs.take k++[w]++xs.drop (k+1),GI z:=λw hw z hz=>by
  rcases aW.mp hz with hz|hz
  ·rcases aW.mp hz with hz|hz
   ·exact ci z (cX hz)
   ·rw[aw.mp hz];exact hw
  ·exact ci z (dB hz)
 have akp:(xs.take k).length+[v].length+(xs.drop (k+1)).length<=1000:=by rw[bP,bW,ay];omega
 by_cases h0:m=0
 ·refine fin (.tup (xs.take k++[.int (v+1)]++xs.drop (k+1))) o1 (P1.up (by omega)) (a2d (put _ (.int _))) ?_
  unfold dq;refine etr (st _) ?_;exact aK toR (zc (ifr (tvc rfl (wz (by omega))) (alh (tA _ _ rfl rfl) (uw (jt (jt (bc rfl) (bc rfl) (g1 _)) ckk m9) PAP.ap3) (tC _ _ rfl rfl) akp)))
 by_cases h1:m=1
 ·refine fin (.tup (xs.take k++[.int (v-1)]++xs.drop (k+1))) o1 (P1.up (by omega)) (a2d (put _ (.int _))) ?_
  unfold dq;refine etr (st _) ?_;refine eti (tvc rfl (jh (by omega))) ?_
  exact aK toR (zc (ifr (tvc rfl (wz (by omega))) (alh (tA _ _ rfl rfl) (uw (jt (jt (bc rfl) (bc rfl) (g1 _)) ckk (a3s _ _)) PAP.ap3) (tC _ _ rfl rfl) akp)))
 by_cases h2:m=2
 ·refine fin (.tup (xs.take k++[.bl (v == 1)]++xs.drop (k+1))) o1 (P1.up (by omega)) (a2d (put _ ⟨.bl _,rfl⟩)) ?_
  unfold dq;refine etr (st _) ?_;refine eti (tvc rfl (jh (by omega))) ?_
  refine eti (tvc rfl (jh (by omega))) ?_
  exact aK toR (zc (ifr (tvc rfl (wz (by omega))) (alh (tA _ _ rfl rfl) (uw (jt (jt (bc rfl) (bc rfl) (g1 _)) ckk a6g) PAP.ap3) (tC _ _ rfl rfl) akp)))
 by_cases h3:m=3
 ·obtain⟨j,o2,e2,j0,j1,P2⟩:=SRC.lu (m:=3) P1 (by omega) (by omega) (by omega)
  obtain⟨j,rfl⟩:=aX j0;have c2:iz false 2 SRC.ak [.ref 0,.int 3] [o1]=.ok (bu j) [o2]:=e2 0 _ rfl
  let ds:List D:=[.non,.rol [.int v],.rod [] []]
  have jl:j<ds.length:=by show j<3;omega
  have gd:∀d∈ds,GI d:=by
   intro d hd
   simp only[ds,ar,aM,bC]at hd
   rcases hd with rfl|rfl|rfl
   ·exact⟨.non,rfl⟩
   ·exact⟨.rol _ (fj (di _) lz),rfl⟩
   ·exact⟨.rod _ _ lz,rfl⟩
  refine fin (.tup (xs.take k++[ds[j]]++xs.drop (k+1))) o2 (P2.up (by omega)) (a2d (put _ (gd _ (aU jl)))) ?_
  unfold dq;refine etr (st _) ?_;refine eti (tvc rfl (jh (by omega))) ?_
  refine eti (tvc rfl (jh (by omega))) ?_
  refine eti (tvc rfl (jh (by omega))) ?_
  have od:s2 gIx (sA uy (aj (sC .non) (aj (sZ (sA a08 (aj (s2 gIx (sV 1) (sV 3)) bw))) (aj (sZ aco) bw)))) (sA (iz false 2 SRC.ak) (aj (sV 0) (aj (sI 3) bw))) (τq a m (some (bu k))) [o1]=.ok ds[j] [o2] :=
   jt (a4e ckk (EVT.aea (cns (jt (bc rfl) (bc rfl) (g1 _)) rfl) rfl (fj (di _) lz) (a7v P1) (by simp)) (EVT.ai4 (a7v P1)) aep) (nq (bc rfl) ckk c2) (a4f (a6 jl))
  exact aK toR (zc (ifr (tvc rfl (wz (by omega))) (alh (tA _ _ rfl rfl) (uw od PAP.ap3) (tC _ _ rfl rfl) akp)))
 by_cases h4:m=4
 ·refine fin (.tup (xs++[.int 0])) o1 (P1.up (by omega)) (a2d λz hz=>(aW.mp hz).elim (ci z) λhz=>by rw[aw.mp hz];exact .int _) ?_
  unfold dq;refine etr (st _) ?_;refine eti (tvc rfl (jh (by omega))) ?_
  refine eti (tvc rfl (jh (by omega))) ?_
  refine eti (tvc rfl (jh (by omega))) ?_
  refine eti (tvc rfl (jh (by omega))) ?_
  have v1:sV 1 (τq a m (some (bu k))) [o1]=.ok (.tup xs) [o1]:=(bc rfl).trans (by rw[hv])
  exact aK toR (zc (ifr (tvc rfl (wz (by omega))) (jt v1 (uw ckk PAP.ap3) (PAP.akt (by rw[ay];omega)))))
 by_cases h5:m=5
 ·have cm:m5 (sIt (sV 1)) t1 (ul SRC.ak) [] (τq a m (some (bu k))) [o1]=.ok (.ref 1) [o1,.lst xs]:=by
   refine xu D.int D.int vs (adg ((bc rfl).trans (by rw[hv])) rfl) (jc (by omega)) λc _=>?_
   rw[yo];exact bc rfl
  have gr:GS (.rol xs):=apo cx ci;refine⟨.rol xs,o1,gr,Dr.of rfl args P.clo (r:=.ok (.ref 1) [o1,.lst xs]) ?_ (a03 (ag _) rfl (iu λ_ _=>di _) (by simpa using a8r P1)) gr.1.clo P1.clo,P1.up (by omega)⟩
  unfold dj;rw[fu];show toR (dq SRC.ak (τq a m none) [o])=_;unfold dq;refine etr (st _) ?_;refine eti (tvc rfl (jh (by omega))) ?_
  refine eti (tvc rfl (jh (by omega))) ?_
  refine eti (tvc rfl (jh (by omega))) ?_
  refine eti (tvc rfl (jh (by omega))) ?_
  refine eti (tvc rfl (jh (by omega))) ?_
  exact aK toR (zc (af (ifT (tvc rfl (wz (by omega)))) (jg cm)))
 ·let ds:List D:=[.tup (xs.take 2),.non,.int 7]
  have kl:k<ds.length:=k3;have gd:∀d∈ds,GS d:=by
   intro d hd
   simp only[ds,ar,aM,bC]at hd
   rcases hd with rfl|rfl|rfl
   ·exact a2d λz hz=>ci z (cX hz)
   ·exact⟨.non,rfl⟩
   ·exact⟨.int _,rfl⟩
  refine fin ds[k] o1 (P1.up (by omega)) (gd _ (aU kl)) ?_
  unfold dq;refine etr (st _) ?_;refine eti (tvc rfl (jh (by omega))) ?_
  refine eti (tvc rfl (jh (by omega))) ?_
  refine eti (tvc rfl (jh (by omega))) ?_
  refine eti (tvc rfl (jh (by omega))) ?_
  refine eti (tvc rfl (jh (by omega))) ?_
  refine eti (tvc rfl (jh (by omega))) ?_
  have sl:a0n (sV 1) oN (oS (sI 2)) (τq a m (some (bu k))) [o1]=.ok (.tup (xs.take 2)) [o1]:=PAP.aro ((bc rfl).trans (by rw[hv])) rfl (PAP.aks ckk) (PAP.atd xs 2 _)
  exact aK toR (jg (jt (a4e sl ckk ckk aep) (bc rfl) (a4f (a6 kl))))
end K36
namespace K36
open L2 MI AT HND EVX K22 K23 K21
open K35 (Pc pcD vm)
open K55 (Gh Ghs a3v a7u alh a8r a7v)
theorem a9z{fe fo:SE}{l u:SO}{τ:Sd}{h h1 h2 h3 h4 h5:Hd}{v o:D}{lo hi:Option Int}(e1:fe τ h=.ok v h1)(e2:fo τ h1=.ok o h2)(e3:l τ h2=.ok lo h3)(e4:u τ h3=.ok hi h4)(e5:a8l o lo hi v h4=some h5):a7p fe fo l u τ h=.nx τ h5:=by
 unfold a7p;simp only[e1,e2,e3,e4,e5,R.fl]
def GP(d:D):Prop:=Gp d/\sqT d=true
theorem aid{xs:List D}(h:∀x∈xs,GS x):GP (.rol xs):=by
 refine⟨⟨.rol _ (p8.mpr λx hx=>(h x hx).1.clo),λys e=>?_⟩,?_⟩
 ·cases e;exact λx hx=>(h x hx).1
 ·show xs.all (sq 50)=true;rw[aO];exact λx hx=>(h x hx).2
theorem apq{xs:List D}(h:∀x∈xs,GS x):GP (.tup xs):=by
 refine⟨⟨.tup _ λx hx=>(h x hx).1,λys e=>by cases e⟩,?_⟩
 show xs.all (sq 50)=true;rw[aO];exact λx hx=>(h x hx).2
theorem aei(a b c:Int):GS (.tup [.int a,.int b,.int c]):=a2d λx hx=>by
 simp only[ar,aM,bC]at hx
 rcases hx with rfl|rfl|rfl<;>exact .int _
theorem al8(n:Nat)(h:Hd):a5t [.int 1,bu n] h=.ok (bu (max 1 n)) h:=by
 show R.ok (D.int (if (n:Int) > 1 then (n:Int) else 1)) h=_
 by_cases c:(n:Int) > 1
 ·rw[aI c,show max 1 n=n by omega]
 ·rw[b9 c,show max 1 n=1 by omega];rfl
theorem al9{i:Nat}{xs:List D}{h:Hd}(e:h[i]? = some (.lst xs))(p:xs.all (pur 59)=true):ahq false (.ref i) (.rol []) h=.ok (.bl xs.isEmpty) h:=by
 have e1:wk (.ref i) h=some xs:=by simp only[wk,e]
 have e2:wk (.rol []) h=some []:=rfl;unfold ahq;rw[e1,e2];dsimp only;rw[aI ⟨p,rfl⟩,b9 (by decide)]
 cases xs<;>rfl
noncomputable def dm:SF:=jx (bx SRC.ak dj) 8
abbrev τp(ps:List Pc)(m:Nat)(t a b c d:Option D):Sd:=[some (.ref 0),some (.rol (ps.map pcD)),some (bu m),t,a,b,c,d]
theorem aej{ps:List Pc}{m:Nat}(P:SRC.Src o N)(hN:N<=999980000)(pl:ps.length<=1000):∃y o',GP y/\Dr dm 3 [.rol (ps.map pcD),bu m] o y o'/\SRC.Src o' (N+4):=by
 let xs:List D:=ps.map pcD
 have xl:xs.length=ps.length:=ai ..;have gx:∀x∈xs,GS x:=λx hx=>by obtain⟨a,_,rfl⟩:=bb.mp hx;exact al7 a
 have cx:clos 0 xs:=vm _ _;have px:xs.all (pur 59)=true:=by rw[aO];intro x hx;obtain⟨a,_,rfl⟩:=bb.mp hx;rfl
 have args:∀x∈[D.rol xs,bu m],MI.clo 0 x:=a3q (v6 cx) (di _);obtain⟨k,o1,e1,k0,k1,P1⟩:=SRC.lu (m:=((max 1 xs.length:Nat):Int)) P (by omega) (by omega) (by omega)
 obtain⟨k,rfl⟩:=aX k0;have kb:k<max 1 xs.length:=by omega
 have c1:iz false 2 SRC.ak [.ref 0,bu (max 1 xs.length)] [o,.lst xs]=.ok (bu k) [o1,.lst xs]:=e1 0 _ rfl;have cl1:∀u∈[o1,O.lst xs],a0c 0 u:=λu hu=>by
  simp only[ar,aM,bC]at hu
  rcases hu with rfl|rfl
  ·exact P1.clo
  ·exact cx
 have st:∀g:SS,dz (j9 3 (sA uv (aj (sV 1) bw))) (dz (j9 4 (sA (iz false 2 SRC.ak) (aj (sV 0) (aj (sA a5t (aj (sI 1) (aj (sA yz (aj (sV 3) bw)) bw))) bw)))) g) (τp ps m none none none none none) [o]=g (τp ps m (some (.ref 1)) (some (bu k)) none none none) [o1,.lst xs]:=λg=>by
  refine af (nu (uw (bc rfl) (show uv [.rol xs] [o]=.ok (.ref 1) [o,.lst xs] from rfl))) ?_
  exact nu (nq (bc rfl) (nq ckk (uw (bc rfl) (a8k rfl)) (al8 _ _)) c1)
 have finL:∀{ys:List D} {u:O} {i:Nat} {more:Hd},SRC.Src u (N+4)->(∀y∈ys,GS y)->(u::more)[i]? = some (.lst ys)->1<=i->toR (bx SRC.ak dj (τp ps m none none none none none) [o])=.ok (.ref i) (u::more)->
   ∃y o',GP y/\Dr dm 3 [.rol (ps.map pcD),bu m] o y o'/\SRC.Src o' (N+4):=λ{ys u i more} Pu gy hi i1 e =>
  have g:=aid gy
  ⟨.rol ys,u,g,Dr.of rfl args P.clo (r:=.ok (.ref i) (u::more)) (by unfold dm;rw[fu];exact e) (a03 i1 hi (qz (bp 1) (p8.mpr λy hy=>(gy y hy).1.clo)) (by simpa using a8r Pu)) g.1.1.clo Pu.clo,Pu⟩
 have sw:∀(b:Bool) (r:SS),(sIf (sOr (sT (s2 hEq (sV 2) (sI 12))) (sT (s2 (ahq false) (sV 3) (sZ (sA a08 bw))))) r sNx) (τp ps m (some (.ref 1)) (some (bu k)) none none none) [o1,.lst xs]=if (m == 12 || xs.isEmpty) then r (τp ps m (some (.ref 1)) (some (bu k)) none none none) [o1,.lst xs] else .nx (τp ps m (some (.ref 1)) (some (bu k)) none none none) [o1,.lst xs]:=λb r=>by
  have ze:sZ (sA a08 bw) (τp ps m (some (.ref 1)) (some (bu k)) none none none) [o1,.lst xs]=.ok (.rol []) [o1,.lst xs]:=EVT.aea rfl rfl lz cl1 (by simp)
  have t2:sT (s2 (ahq false) (sV 3) (sZ (sA a08 bw))) (τp ps m (some (.ref 1)) (some (bu k)) none none none) [o1,.lst xs]=.ok xs.isEmpty [o1,.lst xs]:=t2s (bc rfl) ze (al9 rfl px)
  by_cases h12:m=12
  ·subst h12;exact ifT (orT (tvc rfl (wz rfl)))
  ·have n12:(m == 12)=false:=by simpa using h12
   rw[n12,Bool.false_or];have t1:sT (s2 hEq (sV 2) (sI 12)) (τp ps m (some (.ref 1)) (some (bu k)) none none none) [o1,.lst xs]=.ok false [o1,.lst xs]:=tvc rfl (jh (by omega))
   cases hb:xs.isEmpty with
   |true=>rw[hb]at t2;exact ifT (orF t1 t2)
   |false=>rw[hb]at t2;exact ifF (orF t1 t2)
 by_cases hs:(m == 12 || xs.isEmpty)=true
 ·have ze:sZ (sA a08 (aj (sA MI.uy (aj (sI 0) (aj (sI 0) (aj (sI 1) bw)))) bw)) (τp ps m (some (.ref 1)) (some (bu k)) none none none) [o1,.lst xs]=.ok (.rol [.tup [.int 0,.int 0,.int 1]]) [o1,.lst xs] :=
   EVT.aea (cns (a4e ckk ckk ckk aep) rfl) rfl (fj (qb (fj (di _) (fj (di _) (fj (di _) lz)))) lz) cl1 (by simp)
  have ad:gf (.ref 1) (.rol [.tup [.int 0,.int 0,.int 1]]) [o1,.lst xs]=.ok (.ref 2) [o1,.lst xs,.lst (xs++[.tup [.int 0,.int 0,.int 1]])]:=by
   rw[ad4 (xs:=xs) (ys:=[.tup [.int 0,.int 0,.int 1]]) rfl rfl,aI (jc (by rw[ay];omega))]
   rfl
  refine finL (u:=o1) (more:=[.lst xs,.lst (xs++[.tup [.int 0,.int 0,.int 1]])]) (i:=2) (P1.up (by omega)) (λy hy=>(aW.mp hy).elim (gx y) λhy=>by rw[aw.mp hy];exact aei _ _ _) rfl (by omega) ?_
  unfold bx;refine etr (st _) ?_;exact aK toR (zc (af (sw true _) (by rw[aI hs];exact jg (jt (bc rfl) ze ad))))
 have hs':(m == 12 || xs.isEmpty)=false:=by simpa using hs
 have hm:¬ m=12:=λz=>by rw[z]at hs';cases hs'
 have ne:0<xs.length:=by
  rcases Nat.eq_zero_or_pos xs.length with z|z
  ·rw[eP.mp z]at hs';simp at hs'
  ·exact z
 have kl:k<xs.length:=by omega
 obtain⟨a,ha⟩:∃a:Pc,xs[k]? = some (pcD a):=by
  have:k<ps.length:=by omega
  exact⟨ps[k],by show(ps.map pcD)[k]? = _;rw[aR,a6 this];rfl⟩
 have go:∀(f g:SS),dz (sIf (sOr (sT (s2 hEq (sV 2) (sI 12))) (sT (s2 (ahq false) (sV 3) (sZ (sA a08 bw))))) f sNx) g (τp ps m (some (.ref 1)) (some (bu k)) none none none) [o1,.lst xs]=g (τp ps m (some (.ref 1)) (some (bu k)) none none none) [o1,.lst xs]:=λf g =>
  qe (af (sw true f) (by rw[b9 hs]))
 have ixk:∀{u:O} ,gIx (.ref 1) (bu k) [u,.lst xs]=.ok (pcD a) [u,.lst xs]:=a1g rfl ha;have mt:∀y∈xs.take k,GS y:=λy hy=>gx y (cX hy);have md:∀n,∀y∈xs.drop n,GS y:=λn y hy=>gx y (dB hy)
 by_cases h7:m<7
 ·obtain⟨y,o2,gy,e2,P2⟩:=a3w (a:=a) P1 (by omega) h7
  have c2:iz false 3 dj [.ref 0,pcD a,bu m] [o1,.lst xs]=.ok y [o2,.lst xs]:=e2 0 _ rfl;refine finL (u:=o2) (more:=[.lst (xs.set k y)]) (i:=1) (ys:=xs.set k y) (P2.up (by omega)) (λz hz=>(List.mem_or_eq_of_mem_set hz).elim (gx z) λz'=>by rw[z'];exact gy) rfl (ag _) ?_
  unfold bx;refine etr (st _) ?_;refine etr (go _ _) ?_;have pt:put (.ref 1) (bu k) y [o2,.lst xs]=some [o2,.lst (xs.set k y)]:=by
   show(match ixN xs.length (k:Int) with|some q=>some ([o2,O.lst xs].set 1 (.lst (xs.set q y)))|none=>none)=_
   rw[show ixN xs.length (k:Int)=some k from akr kl]
   rfl
  refine etr (qe (af (ifT (tvc rfl (ahv (by omega)))) (akh (a4e (bc rfl) (jt (bc rfl) (bc rfl) ixk) (bc rfl) c2) (bc rfl) (bc rfl) pt))) ?_
  exact aK toR (jg (bc rfl))
 by_cases h8:m=7
 ·refine finL (u:=o1) (more:=[.lst (xs.eraseIdx k)]) (i:=1) (ys:=xs.eraseIdx k) (P1.up (by omega)) (λz hz=>gx z (List.mem_of_mem_eraseIdx hz)) rfl (ag _) ?_
  unfold bx;refine etr (st _) ?_;refine etr (go _ _) ?_;refine etr (qe (af (ifF (tvc rfl (a7y (by omega)))) (af (ifT (tvc rfl (wz (by omega)))) (a1f (bc rfl) rfl (arg1 (bc rfl)) (aki rfl ha (jc (by omega))))))) ?_
  exact aK toR (jg (bc rfl))
 by_cases h9:m=8
 ·refine finL (u:=o1) (more:=[.lst (xs.take k++pcD a::xs.drop k)]) (i:=1) (ys:=xs.take k++pcD a::xs.drop k) (P1.up (by omega)) (λz hz=>by
   rcases aW.mp hz with hz|hz
   ·exact mt z hz
   ·rcases ar.mp hz with rfl|hz
    ·exact al7 a
    ·exact md k z hz) rfl (ag _) ?_
  unfold bx;refine etr (st _) ?_;refine etr (go _ _) ?_;have ins:aq8 (.ref 1) [bu k,pcD a] [o1,.lst xs]=.ok .non [o1,.lst (xs.take k++pcD a::xs.drop k)]:=by
   show(if xs.length<LINE/\k<=xs.length then R.ok D.non ([o1,O.lst xs].set 1 (.lst (xs.take k++pcD a::xs.drop k))) else .no)=_
   rw[aI ⟨a2b (by omega),by omega⟩]
   rfl
  refine etr (qe (af (ifF (tvc rfl (a7y (by omega)))) (af (ifF (tvc rfl (jh (by omega)))) (af (ifT (tvc rfl (wz (by omega)))) (a1f (bc rfl) rfl (cns (bc rfl) (arg1 (jt (bc rfl) (bc rfl) ixk))) ins))))) ?_
  exact aK toR (jg (bc rfl))
 by_cases h10:m=9
 ·let h2:Int:=(a.2.1:Int)+((a.2.2:Int)-(a.2.1:Int)) / 2
  let new:List D:=[.tup [.int a.1,bu a.2.1,.int h2],.tup [.int a.1,.int h2,bu a.2.2]]
  refine finL (u:=o1) (more:=[.lst (xs.take k++new++xs.drop (k+1)),.lst new]) (i:=1) (ys:=xs.take k++new++xs.drop (k+1)) (P1.up (by omega)) (λz hz=>by
   rcases aW.mp hz with hz|hz
   ·rcases aW.mp hz with hz|hz
    ·exact mt z hz
    ·simp only[new,ar,aM,bC]at hz
     rcases hz with rfl|rfl<;>exact aei _ _ _
   ·exact md _ z hz) rfl (ag _) ?_
  unfold bx;refine etr (st _) ?_;refine etr (go _ _) ?_;have as:a6r (s2 gIx (sV 3) (sV 4)) (a4m 3 (jo (kN 5) (jo (kN 6) (jo (kN 7) a5q)))) (τp ps m (some (.ref 1)) (some (bu k)) none none none) [o1,.lst xs]=.nx (τp ps m (some (.ref 1)) (some (bu k)) (some (.int a.1)) (some (bu a.2.1)) (some (bu a.2.2))) [o1,.lst xs]:=adf (jt (bc rfl) (bc rfl) ixk) rfl;have half:s2 gf (sV 6) (s2 a4d (s2 a3y (sV 7) (sV 6)) (sI 2)) (τp ps m (some (.ref 1)) (some (bu k)) (some (.int a.1)) (some (bu a.2.1)) (some (bu a.2.2))) [o1,.lst xs]=.ok (.int h2) [o1,.lst xs] :=
   jt (bc rfl) (jt (jt (bc rfl) (bc rfl) (a3s _ _)) ckk (div_ii (by decide))) m9
  have mk:sA a08 (aj (sA MI.uy (aj (sV 5) (aj (sV 6) (aj (s2 gf (sV 6) (s2 a4d (s2 a3y (sV 7) (sV 6)) (sI 2))) bw)))) (aj (sA MI.uy (aj (sV 5) (aj (s2 gf (sV 6) (s2 a4d (s2 a3y (sV 7) (sV 6)) (sI 2))) (aj (sV 7) bw)))) bw)) (τp ps m (some (.ref 1)) (some (bu k)) (some (.int a.1)) (some (bu a.2.1)) (some (bu a.2.2))) [o1,.lst xs]=.ok (.ref 2) [o1,.lst xs,.lst new] :=
   PAP.aof (cns (a4e (bc rfl) (bc rfl) half aep) (cns (a4e (bc rfl) half (bc rfl) aep) rfl)) rfl
  have pu:a8l (.ref 1) (some (k:Int)) (some ((k+1:Nat):Int)) (.ref 2) [o1,.lst xs,.lst new]=some [o1,.lst (xs.take k++new++xs.drop (k+1)),.lst new]:=by
   show(if 1≠2/\k<=k+1/\k+1<=xs.length/\xs.length+new.length<=LINE then some ([o1,O.lst xs,.lst new].set 1 (.lst (xs.take k++new++xs.drop (k+1)))) else none)=_
   rw[aI ⟨by decide,by omega,by omega,jc (by show xs.length+2<=_;omega)⟩]
   rfl
  refine etr (qe (af (ifF (tvc rfl (a7y (by omega)))) (af (ifF (tvc rfl (jh (by omega)))) (af (ifF (tvc rfl (jh (by omega)))) (af (ifT (tvc rfl (wz (by omega)))) (af (qe as) (a9z mk (bc rfl) (PAP.aks (bc rfl)) (PAP.aks (vg rfl m9)) pu))))))) ?_
  exact aK toR (jg (bc rfl))
 have same:∀(e:toR (bx SRC.ak dj (τp ps m none none none none none) [o])=.ok (.ref 1) [o1,.lst xs]),∃y o',GP y/\Dr dm 3 [.rol (ps.map pcD),bu m] o y o'/\SRC.Src o' (N+4):=λe =>
  finL (u:=o1) (more:=[.lst xs]) (i:=1) (ys:=xs) (P1.up (by omega)) gx rfl (ag _) e
 by_cases h11:m=10
 ·have tl:sT (s2 gLt (s2 gf (sV 4) (sI 1)) (sA yz (aj (sV 3) bw))) (τp ps m (some (.ref 1)) (some (bu k)) none none none) [o1,.lst xs]=.ok (decide (((k:Int)+1)<(xs.length:Int))) [o1,.lst xs] :=
   t2s (vg rfl m9) (uw (bc rfl) (a8k rfl)) rfl
  by_cases hk:k+1<xs.length
  ·rw[bA (by omega)]at tl
   obtain⟨b,hb⟩:∃b:Pc,xs[k+1]? = some (pcD b):=by
    have:k+1<ps.length:=by omega
    exact⟨ps[k+1],by show(ps.map pcD)[k+1]? = _;rw[aR,a6 this];rfl⟩
   let new:List D:=[.tup [.int a.1,bu a.2.1,bu b.2.2]]
   refine finL (u:=o1) (more:=[.lst (xs.take k++new++xs.drop (k+2)),.lst new]) (i:=1) (ys:=xs.take k++new++xs.drop (k+2)) (P1.up (by omega)) (λz hz=>by
    rcases aW.mp hz with hz|hz
    ·rcases aW.mp hz with hz|hz
     ·exact mt z hz
     ·rw[aw.mp hz];exact aei _ _ _
    ·exact md _ z hz) rfl (ag _) ?_
   unfold bx;refine etr (st _) ?_;refine etr (go _ _) ?_;have ixb:gIx (.ref 1) (.int ((k:Int)+1)) [o1,.lst xs]=.ok (pcD b) [o1,.lst xs]:=a1g (j:=k+1) rfl hb;have mk:sA a08 (aj (sA MI.uy (aj (s2 gIx (s2 gIx (sV 3) (sV 4)) (sI 0)) (aj (s2 gIx (s2 gIx (sV 3) (sV 4)) (sI 1)) (aj (s2 gIx (s2 gIx (sV 3) (s2 gf (sV 4) (sI 1))) (sI 2)) bw)))) bw) (τp ps m (some (.ref 1)) (some (bu k)) none none none) [o1,.lst xs]=.ok (.ref 2) [o1,.lst xs,.lst new] :=
    PAP.aof (cns (a4e (jt (jt (bc rfl) (bc rfl) ixk) ckk (a4f (j:=0) rfl)) (jt (jt (bc rfl) (bc rfl) ixk) ckk (a4f (j:=1) rfl)) (jt (jt (bc rfl) (vg rfl m9) ixb) ckk (a4f (j:=2) rfl)) aep) rfl) rfl
   have pu:a8l (.ref 1) (some (k:Int)) (some ((k+2:Nat):Int)) (.ref 2) [o1,.lst xs,.lst new]=some [o1,.lst (xs.take k++new++xs.drop (k+2)),.lst new]:=by
    show(if 1≠2/\k<=k+2/\k+2<=xs.length/\xs.length+new.length<=LINE then some ([o1,O.lst xs,.lst new].set 1 (.lst (xs.take k++new++xs.drop (k+2)))) else none)=_
    rw[aI ⟨by decide,by omega,by omega,jc (by show xs.length+1<=_;omega)⟩]
    rfl
   refine etr (qe (af (ifF (tvc rfl (a7y (by omega)))) (af (ifF (tvc rfl (jh (by omega)))) (af (ifF (tvc rfl (jh (by omega)))) (af (ifF (tvc rfl (jh (by omega)))) (af (ifT (ahu (tvc rfl (wz (by omega))) tl)) (a9z mk (bc rfl) (PAP.aks (bc rfl)) (PAP.aks (vg rfl m9)) pu))))))) ?_
   exact aK toR (jg (bc rfl))
  ·rw[b6 (by omega)]at tl
   refine same ?_;unfold bx;refine etr (st _) ?_;refine etr (go _ _) ?_;refine etr (qe (af (ifF (tvc rfl (a7y (by omega)))) (af (ifF (tvc rfl (jh (by omega)))) (af (ifF (tvc rfl (jh (by omega)))) (af (ifF (tvc rfl (jh (by omega)))) (af (ifF (ahu (tvc rfl (wz (by omega))) tl)) (af (ifF (tvc rfl (jh (by omega)))) rfl))))))) ?_
   exact aK toR (jg (bc rfl))
 by_cases h12:m=11
 ·have g:=apq gx;refine⟨.tup xs,o1,g,Dr.of rfl args P.clo (r:=.ok (.tup xs) [o1,.lst xs]) ?_ (my (a9l (bp 1) g.1.1.clo) (by simpa using a8r P1)) g.1.1.clo P1.clo,P1.up (by omega)⟩
  unfold dm;rw[fu];show toR (bx SRC.ak dj (τp ps m none none none none none) [o])=_;unfold bx;refine etr (st _) ?_;refine etr (go _ _) ?_;refine aK toR (zc (af (ifF (tvc rfl (a7y (by omega)))) (af (ifF (tvc rfl (jh (by omega)))) (af (ifF (tvc rfl (jh (by omega)))) (af (ifF (tvc rfl (jh (by omega)))) (af (ifF (aod (tvc rfl (jh (by omega))))) (ifr (tvc rfl (wz (by omega))) (uw (bc rfl) (akj rfl)))))))))
 ·refine same ?_;unfold bx;refine etr (st _) ?_;refine etr (go _ _) ?_;refine etr (qe (af (ifF (tvc rfl (a7y (by omega)))) (af (ifF (tvc rfl (jh (by omega)))) (af (ifF (tvc rfl (jh (by omega)))) (af (ifF (tvc rfl (jh (by omega)))) (af (ifF (aod (tvc rfl (jh (by omega))))) (af (ifF (tvc rfl (jh (by omega)))) rfl))))))) ?_
  exact aK toR (jg (bc rfl))
end K36
namespace STP
open L2 MI AT HND EVX K23 K21
open K22 hiding hp
open K40
section
variable{T:Table}
noncomputable def qj:SF:=jx a06 2
theorem ah1(b:Bool):Pu STP.qj 2 [.bl b,.bl b] (.bl true):=by
 refine Pu.of rfl (a3q (qi _) (qi _)) (r:=.ok (.bl true) []) ?_ (my (qi _) (by simp)) (qi _)
 unfold STP.qj;rw[fu];show toR (a06 [some (.bl b),some (.bl b)] [])=_;unfold a06
 cases b with
 |true=>exact aK toR (zc (ifr (vp (bc rfl) (ju _)) (vg rfl rfl)))
 |false=>exact af (aK toR (ifN (vp (bc rfl) (ju _)))) (aK toR (jg (vg rfl rfl)))
end
end STP
namespace K36
open L2 MI AT HND EVX K22 K23 K21
open K35 (Pc pcD vm res alf)
open K55 (Gh Ghs Td Few sm a1s a8r a7v)
noncomputable def aek:SF:=jx (a8m K35.ou SRC.ak kh dm STP.qj SRC.jn SRC.jz SRC.n6 iw) 10
abbrev τw(ns:List Int)(m:Nat)(T:Table)(l:List Nat)(due:D)(d e k w:Option D):Sd:=[some (.scr (ns.map D.int)),some (.ref 0),some (bu m),some T.d,some (.str (S l)),some due,d,e,k,w]
theorem apr(ps:List Pc):GP (.rol (ps.map pcD)):=aid λx hx=>by obtain⟨a,_,rfl⟩:=bb.mp hx;exact al7 a
theorem ala{ps:List Pc}{p:Nat}(hq:∀a∈ps,0<=a.1):CH ps p (.rol (ps.map pcD)) (bu p)=true:=by
 unfold CH;show(sm 2 (.tup (ps.map pcD)) (.tup (ps.map pcD)) && sm 0 (bu p) (bu p))=true;rw[a1s (n:=2) ⟨_,rfl,apk hq⟩,a1s (n:=0) ⟨_,rfl⟩];rfl
theorem aps(ns:List Int):∃h',aek [.scr (ns.map D.int)] []=.ok (.bl true) h':=by
 obtain⟨o,P,e0⟩:=SRC.adq ns [];obtain⟨m,o1,em,m0,m1,P1⟩:=SRC.lu (m:=20) P (by omega) (by omega) (by omega)
 obtain⟨m,rfl⟩:=aX m0;obtain⟨T,o2,hT,e1,P2⟩:=SRC.agp (most:=32) P1 (by omega) (by omega) (by omega)
 obtain⟨l,o3,ll,lt,e2,P3⟩:=SRC.al0 P2 (by omega) hT.tong.lo hT.tong.hi
 have c0:iz false 2 SRC.ak [.ref 0,.int 20] [o]=.ok (bu m) [o1]:=em 0 _ rfl;have c1:iz false 2 SRC.jz [.ref 0,.int 32] [o1]=.ok T.d [o2]:=e1 0 _ rfl;have c2:iz false 2 SRC.n6 [.ref 0,.str (S T.tg)] [o2]=.ok (.str (S l)) [o3]:=e2 0 _ rfl;have rl:(res T l).1.length<=1000:=bD (K35.a8p T l (l.length+1) 0 []) (by simp only[cU];omega)
 have rq:=apj (x:=l) hT;have lc:∀hh:Hd,iz false 2 K35.ou [T.d,.str (S l)] hh=.ok (a2r (res T l).1 (res T l).2) hh:=λhh=>K35.al3 hT lt (by omega) hh
 have ch:∀{d e:D} (hh:Hd),Gp d->Gh e->iz false 4 iw [T.d,.str (S l),d,e] hh=.ok (.bl (CH (res T l).1 (res T l).2 d e)) hh:=λhh gd ge=>ah0 hT lt (by omega) gd ge hh
 have lh:∀{d e:D} (hh:Hd),Gp d->Gh e->iz false 3 kh [d,e,a2r (res T l).1 (res T l).2] hh=.ok (.bl (CH (res T l).1 (res T l).2 d e)) hh:=λhh gd ge=>aeh rq rl gd ge hh
 generalize (res T l).1=ps at lc ch lh rl rq
 generalize (res T l).2=p at lc ch lh
 have d0:∀hh:Hd,gIx (a2r ps p) (.int 0) hh=.ok (.rol (ps.map pcD)) hh:=λhh=>a4f (j:=0) rfl;have d1:∀hh:Hd,gIx (a2r ps p) (.int 1) hh=.ok (bu p) hh:=λhh=>a4f (j:=1) rfl;have gps:=apr ps;have gh_p:Gh (bu p):=.int _;have cs:=ala (p:=p) rq;have zl:∀{τ:Sd} {u:O} {M:Nat},SRC.Src u M->τ[5]? = some (some (a2r ps p))->sZ (sA uv (aj (s2 gIx (sV 5) (sI 0)) bw)) τ [u]=.ok (.rol (ps.map pcD)) [u]:=λ{τ u M} Pu h5 =>
  EVT.aeb (jt (bc h5) ckk (d0 _)) rfl (vm _ _) (a7v Pu)
 have tru:∀{τ:Sd} {u:O} {M:Nat},SRC.Src u M->τ[3]? = some (some T.d)->τ[4]? = some (some (.str (S l)))->τ[5]? = some (some (a2r ps p))->
   sA (iz false 4 iw) (aj (sV 3) (aj (sV 4) (aj (sZ (sA uv (aj (s2 gIx (sV 5) (sI 0)) bw))) (aj (s2 gIx (sV 5) (sI 1)) bw)))) τ [u]=.ok (.bl true) [u]:=λ{τ u M} Pu h3 h4 h5 =>
  PAP.aof (cns (bc h3) (cns (bc h4) (cns (zl Pu h5) (cns (jt (bc h5) ckk (d1 _)) rfl)))) ((ch _ gps.1 gh_p).trans (by rw[cs]))
 have aG:∀{d e:D} {u:O} {M:Nat} (f:SS),SRC.Src u M->GP d->Gh e->f (τw ns m T l (a2r ps p) (some (.rol (ps.map pcD))) (some (bu p)) none none) [o3]=.nx (τw ns m T l (a2r ps p) (some d) (some e) none none) [u]->
   toR (dz f (dz (j9 8 (a6q (a2f (sA km (aj (sV 6) (aj (sC (.ty "list")) bw)))) (sZ (sA uv (aj (sV 6) bw))) (sV 6)))
    (dz (j9 9 (sA (iz false 3 kh) (aj (sV 6) (aj (sV 7) (aj (sV 5) bw)))))
    (dz (sIf (sOr (a4k (a2f (sA (iz false 2 STP.qj) (aj (sA (iz false 4 iw) (aj (sV 3) (aj (sV 4) (aj (sV 6) (aj (sV 7) bw))))) (aj (sV 9) bw))))) (sT (s2 ale (sV 6) (sV 8)))) ajy sNx)
    (p7 (s2 gIs (sA (iz false 4 iw) (aj (sV 3) (aj (sV 4) (aj (sZ (sA uv (aj (s2 gIx (sV 5) (sI 0)) bw))) (aj (s2 gIx (sV 5) (sI 1)) bw))))) (sC (.bl true))))))) (τw ns m T l (a2r ps p) (some (.rol (ps.map pcD))) (some (bu p)) none none) [o3])=.ok (.bl true) [u]:=λ{d e u M} f Pu gd ge hf=>by
  refine etr (qe hf) ?_;have kp:a6q (a2f (sA km (aj (sV 6) (aj (sC (.ty "list")) bw)))) (sZ (sA uv (aj (sV 6) bw))) (sV 6) (τw ns m T l (a2r ps p) (some d) (some e) none none) [u]=.ok d [u]:=by
   have il:=al5 (h:=[u]) gd.1.1.pln
   cases hx:agz d with
   |none=>rw[hx]at il;exact EVT.ap4 (vp (nq (bc rfl) ckk il) (ju _)) (bc rfl)
   |some xs =>
    rw[hx]at il;obtain rfl:d=.rol xs:=by cases d<;>first|(cases hx;rfl)|cases hx
    exact EVT.aqd (vp (nq (bc rfl) ckk il) (ju _)) (EVT.aeb (bc rfl) rfl (p8.mpr λx hx'=>((gd.1.2 xs rfl) x hx').clo) (a7v Pu))
  refine etr (nu kp) ?_;refine ets (a4e (bc rfl) (bc rfl) (bc rfl) (lh _ gd.1 ge)) ?_;have ne:ale d d [u]=.ok (.bl false) [u]:=by unfold ale;exact aI ⟨rfl,gd.2⟩
  refine eti (orF (aam (vp (nq (PAP.aof (cns (bc rfl) (cns (bc rfl) (cns (bc rfl) (cns (bc rfl) rfl)))) (ch _ gd.1 ge)) (bc rfl) (STP.ah1 _ _)) (ju _))) (t2s (bc rfl) (bc rfl) ne)) ?_;exact aK toR (jg (jt (tru Pu rfl rfl rfl) ckk (show gIs (.bl true) (.bl true) [u]=.ok (.bl true) [u] from rfl)))
 have pre:∀g:SS,toR ((dz (j9 1 (sA (iz true 1 SRC.jn) (aj (sV 0) bw)))
   (dz (j9 2 (sA (iz false 2 SRC.ak) (aj (sV 1) (aj (sI 20) bw))))
   (dz (j9 3 (sA (iz false 2 SRC.jz) (aj (sV 1) (aj (sI 32) bw))))
   (dz (j9 4 (sA (iz false 2 SRC.n6) (aj (sV 1) (aj (s2 gIx (sV 3) (sI 0)) bw))))
   (dz (j9 5 (sA (iz false 2 K35.ou) (aj (sV 3) (aj (sV 4) bw))))
   (dz (sIf (sT (s2 a1y (sA (iz false 4 iw) (aj (sV 3) (aj (sV 4) (aj (sZ (sA uv (aj (s2 gIx (sV 5) (sI 0)) bw))) (aj (s2 gIx (sV 5) (sI 1)) bw))))) (sC (.bl true)))) ajy sNx)
   (dz (j9 6 (sZ (sA uv (aj (s2 gIx (sV 5) (sI 0)) bw))))
   (dz (j9 7 (s2 gIx (sV 5) (sI 1))) g)))))))) [some (.scr (ns.map D.int)),none,none,none,none,none,none,none,none,none] [])=toR (g (τw ns m T l (a2r ps p) (some (.rol (ps.map pcD))) (some (bu p)) none none) [o3]):=λg=>by
  refine ets (uw (bc rfl) e0) ?_;refine ets (nq (bc rfl) ckk c0) ?_;refine ets (nq (bc rfl) ckk c1) ?_;refine ets (nq (bc rfl) (vg rfl (apd _)) c2) ?_;refine ets (nq (bc rfl) (bc rfl) (lc _)) ?_;refine eti (t2s (tru P3 rfl rfl rfl) ckk (show a1y (.bl true) (.bl true) [o3]=.ok (.bl false) [o3] from rfl)) ?_
  refine ets (zl P3 rfl) ?_;exact aK toR (nu (vg rfl (d1 _)))
 have done:∀{u:O},toR (a8m K35.ou SRC.ak kh dm STP.qj SRC.jn SRC.jz SRC.n6 iw [some (.scr (ns.map D.int)),none,none,none,none,none,none,none,none,none] [])=.ok (.bl true) [u]->∃h',aek [.scr (ns.map D.int)] []=.ok (.bl true) h':=λ{u} e =>
  ⟨[u],by unfold aek;rw[fu];exact e⟩
 by_cases h13:m<13
 ·obtain⟨d,o4,gd,e4,P4⟩:=aej (ps:=ps) (m:=m) P3 (by omega) rl
  have c4:iz false 3 dm [.ref 0,.rol (ps.map pcD),bu m] [o3]=.ok d [o4]:=e4 0 _ rfl;refine done (u:=o4) ?_;unfold a8m;refine af (pre _) ?_;exact aG _ P4 gd gh_p (af (ifT (tvc rfl (ahv (by omega)))) (aaw (a4e (bc rfl) (bc rfl) (bc rfl) c4)))
 by_cases h18:m<18
 ·let ds:List D:=[.int ((p:Int)+1),.int ((p:Int)-1),.non,.bl ((p:Int) == 1),.str "0"]
  have jl:m-13<ds.length:=by show m-13<5;omega
  have gd:∀d∈ds,Gh d:=by
   intro d hd
   simp only[ds,ar,aM,bC]at hd
   rcases hd with rfl|rfl|rfl|rfl|rfl
   ·exact .int _
   ·exact .int _
   ·exact .non
   ·exact .bl _
   ·exact .str _ (by decide)
  have ix:gIx (.tup ds) (.int ((m:Int)-13)) [o3]=.ok ds[m-13] [o3]:=by
   rw[show(m:Int)-13=((m-13:Nat):Int) by omega]
   exact a4f (a6 jl)
  refine done (u:=o3) ?_;unfold a8m;refine af (pre _) ?_;refine aG _ P3 gps (gd _ (aU jl)) (af (ifF (tvc rfl (a7y (by omega)))) (af (ifT (tvc rfl (ahv (by omega)))) (aaw (jt (PAP.aof (cns (vg rfl m9) (cns (vg rfl (a3s _ _)) (cns ckk (cns (vg rfl a6g) (cns ckk rfl))))) K55.av2) (vg rfl (a3s _ _)) ix))))
 by_cases h19:m=18
 ·obtain⟨j,o4,e4,j0,j1,P4⟩:=SRC.lu (m:=3) P3 (by omega) (by omega) (by omega)
  obtain⟨j,rfl⟩:=aX j0;have c4:iz false 2 SRC.ak [.ref 0,.int 3] [o3]=.ok (bu j) [o4]:=e4 0 _ rfl
  let ds:List D:=[.non,.rod [] [],.str ""]
  have jl:j<ds.length:=by show j<3;omega
  have gd:∀d∈ds,GP d:=by
   intro d hd
   simp only[ds,ar,aM,bC]at hd
   rcases hd with rfl|rfl|rfl
   ·exact⟨⟨.non,λxs e=>by cases e⟩,rfl⟩
   ·exact⟨⟨.rod _ _ lz,λxs e=>by cases e⟩,rfl⟩
   ·exact⟨⟨.str _ (by decide),λxs e=>by cases e⟩,rfl⟩
  refine done (u:=o4) ?_;unfold a8m;refine af (pre _) ?_;exact aG _ P4 (gd _ (aU jl)) gh_p (af (ifF (tvc rfl (a7y (by omega)))) (af (ifF (tvc rfl (a7y (by omega)))) (af (ifT (tvc rfl (wz (by omega)))) (aaw (jt (a4e ckk (EVT.ai4 (a7v P3)) ckk aep) (nq (bc rfl) ckk c4) (a4f (a6 jl)))))))
 ·refine done (u:=o3) ?_;unfold a8m;refine af (pre _) ?_;exact aG _ P3 gps gh_p (af (ifF (tvc rfl (a7y (by omega)))) (af (ifF (tvc rfl (a7y (by omega)))) (af (ifF (tvc rfl (jh (by omega)))) rfl)))
end K36
namespace K36
open L2 MI
section
variable{P:Program}{w:World}{K:Fg}{mg:Str->Option Value}{base:Heap}{f:Addr}{fd:FuncData}
theorem d_2{f_2:Addr}{e_2:FuncData}(Fu_2:Fun K "is_same" "is_same" (top 3) f_2 e_2)(mk_2:mg "is_same" = some (.ref f_2))(kp_2:PySem.W.keepIn K (.ref f_2)=true)(bd_2:Binds K e_2 ["thing","told"] [])(M:Nm mg){a_0:Addr}{d_0:FuncData}(D_0:Dn P w K mg base 1 "is_number" ["thing"] (wj K 1 (K55.ji)) a_0 d_0){a_1:Addr}{d_1:FuncData}(D_1:Dn P w K mg base 1 "is_row" ["thing","low","high"] (wj K 3 (K55.pq)) a_1 d_1):∀n:Nat,Dn P w K mg base (n+1) "is_same" ["thing","told"] (wj K 2 (K55.j8 n)) f_2 e_2:=by
 intro n
 induction n with
 |zero=>exact⟨ard (ps:=["thing","told"]),mk_2,kp_2,bd_2⟩
 |succ n ih =>
  have e:n+1+1=n+1+1:=by omega
  rw[e];have s_is_same:=ih;exact⟨ad3 Fu_2 asz (m_2 M D_0 (by omega) D_1 (by omega) s_is_same (by omega)),mk_2,kp_2,bd_2⟩
end
def ah2(K:Fg):Sp:=λvs H Q _=>∃(a:Addr) (ns:List Int),vs=[.ref a]/\SqF K H a (ns.map V.int)/\ns.length<=63/\∀H',Q (.bl true) H'
theorem a7w{K:Fg}{ι:List Addr}{H:Hp}:∀ns:List Int,Reps K ι H (ns.map V.int) (ns.map D.int)
 |[]=>.nil
 |n::ns=>.cons (.int n) (a7w ns)
theorem apt{K:Fg}(vs:List V)(H:Hp)(Q:VK)(E:XK)(h:ah2 K vs H Q E):wj K 1 K36.aek vs H Q E:=by
 obtain⟨a,ns,rfl,hS,hl,q⟩:=h;obtain⟨h',e⟩:=K36.aps ns;refine⟨rfl,[],[.scr (ns.map D.int)],[],.cons (.scr hS (a7w ns)) .nil,⟨ei,rfl,λi a o z=>by simp at z⟩,?_⟩
 rw[e]
 intro ι' H' b g r hr
 cases r
 exact q H'
theorem apu{K:Fg}{H:Hp}{a:Addr}{vs:List V}(hO:Only H)(hS:SqL K H a vs):SqF K H a vs:=by
 rcases hS with r|r
 ·rcases r with r|⟨o,r⟩
  ·rcases hO a with z|⟨o,xs,z⟩<;>rw[z]at r<;>cases r
  ·exact .inl ⟨o,r⟩
 ·exact .inr (.inr r)
abbrev fo(x:Str)(t:Stmt)(kV dc pm:Value)(an:Option Addr)(cd ct:Value):=PySem.W.fnOf x x (a0h t) (um t) (bz t) .none kV dc pm an cd ct
def Df(K:Fg)(f:Addr)(nm:Str)(i:Nat):Prop:=∃oc od kV dc pm an cd ct sl,PySem.W.nsIn K mainGlobals nm=some (some (.ref f))/\K.lookup f=some ⟨oc,od,.func (fo nm (top i) kV dc pm an cd ct),sl⟩/\PySem.W.codeIn K cd nm=true/\PySem.W.keepIn K (.ref f)=true
theorem df{K:Fg}{f:Addr}{nm:Str}{i:Nat}(d:Df K f nm i):∃e,PySem.W.nsIn K mainGlobals nm=some (some (.ref f))/\Fun K nm nm (top i) f e:=by
 obtain⟨_,_,_,_,_,_,_,_,_,a,l,c,k⟩:=d;exact⟨_,a,amt l c k⟩
theorem vq{P:Program}{w:World}{K:Fg}{mg:Str->Option Value}{base h:Heap}{f:Addr}{nm:Str}{i k:Nat}{F:SF}{N ps:List Str}{b:SS}(S:FnScope N ps (bz (top i)))(d:Df K f nm i)(X:K.In h)(G:h.Ns mainGlobals mg)
  (hb:∀(cdv:Value) (A:Around) (outer:List Env) (s:Shared) (H:Hp) (E:XK),Room k (A.deeper (PyProof.Rows.envOfC nm (bz (top i)) s.heap.objs.size f cdv))->MSs (ael CX0 P w K mg base N nm (bz (top i)) f cdv A outer s H E).nox X0 (um (top i)) b)
  (h:∀(kV doc pm:Value) (an:Option Addr) (cdv ct:Value) (us:List Value),us.length=ps.length->bindArgs (PySem.W.fnOf nm nm (a0h (top i)) (um (top i)) (bz (top i)) .none kV doc pm an cdv ct) ⟨us,[]⟩=pure (ps.zip us)) (e:F=jx b N.length:=by rfl) :
  ∃fd,Dn P w K mg base (k+1) nm ps (wj K ps.length F) f fd:=by
 obtain⟨_,a,Fu⟩:=df d;rw[e];exact⟨_,ad3 Fu S hb,eQ X G a,Fu.kp,Fu.binds h⟩
local macro_rules|`(tactic|walk_at "b") => `(tactic|(intro _ _ _ _ _ _ us hl;first|(apply ass hl;intro _;exact rfl)|(apply asu hl;intro _ _;exact rfl)|(apply akp hl;intro _ _ _;exact rfl)|(apply asv hl;intro _ _ _ _;exact rfl)|(apply asw hl;intro _ _ _ _ _;exact rfl)|(apply aue hl;intro _ _ _ _ _ _;exact rfl)|(apply len0 hl;exact rfl)))
theorem apv{l:PySem.W.OpenLaw}{w:World}{K:Fg}{h:Heap}{mg:Str->Option Value}{fa f1 f2 f3 f4 f5 f6 f7 f8 f9 f10 f11 f12 f13 f14 f15 f16 f17 f18 f19 f20 f21 f22 f23 f24:Addr}(X:K.In h)(G:h.Ns mainGlobals mg)(hfa:mg "law" = some (.ref fa))
  (d1:Df K f1 "is_number" 1)
  (d2:Df K f2 "is_row" 2)
  (d3:Df K f3 "is_same" 3)
  (d4:Df K f4 "is_text" 8)
  (d5:Df K f5 "looked_text" 10)
  (d6:Df K f6 "rooms_along" 11)
  (d7:Df K f7 "piece_at" 13)
  (d8:Df K f8 "cut" 14)
  (d9:Df K f9 "cut_holds" 15)
  (d10:Df K f10 "_law_said" 17)
  (d11:Df K f11 "_law_source" 18)
  (d12:Df K f12 "_law_draw" 19)
  (d13:Df K f13 "_law_signs" 20)
  (d14:Df K f14 "_law_tongue" 21)
  (d15:Df K f15 "_law_rooms" 22)
  (d16:Df K f16 "_law_table" 23)
  (d17:Df K f17 "_law_text" 24)
  (d18:Df K f18 "_law_first" 25)
  (d19:Df K f19 "_law_cut" 26)
  (d20:Df K f20 "_law_numbers" 27)
  (d21:Df K f21 "_law_piece_spoilt" 28)
  (d22:Df K f22 "_law_pieces_spoilt" 29)
  (d23:Df K f23 "_law_holds" 30)
  (d24:Df K f24 "law" 31)
  (z1:PySem.W.nsIn K mainGlobals "abs" = some none) (z2:PySem.W.nsIn K mainGlobals "all" = some none) (z3:PySem.W.nsIn K mainGlobals "bool" = some none) (z4:PySem.W.nsIn K mainGlobals "enumerate" = some none) (z5:PySem.W.nsIn K mainGlobals "int" = some none) (z6:PySem.W.nsIn K mainGlobals "isinstance" = some none) (z7:PySem.W.nsIn K mainGlobals "len" = some none) (z8:PySem.W.nsIn K mainGlobals "list" = some none) (z9:PySem.W.nsIn K mainGlobals "max" = some none) (z10:PySem.W.nsIn K mainGlobals "min" = some none) (z11:PySem.W.nsIn K mainGlobals "range" = some none) (z12:PySem.W.nsIn K mainGlobals "sorted" = some none) (z13:PySem.W.nsIn K mainGlobals "str" = some none) (z14:PySem.W.nsIn K mainGlobals "sum" = some none) (z15:PySem.W.nsIn K mainGlobals "tuple" = some none) (z16:PySem.W.nsIn K mainGlobals "zip" = some none)  :
  ∃fd:FuncData,(∀(s:Shared) (v:Value),BindsTo s fd ⟨[v],[]⟩ [("_law_script",v)])/\∀base:Heap,K.In base->base.Ns mainGlobals mg->FnOk l.prog w K mg base CX0 6 fa fd ["_law_script"] (ah2 K):=by
 obtain⟨_,a3,F3⟩:=df d3;have b3:=F3.binds (ps:=["thing","told"]) (by walk_at "b")
 obtain⟨_,a24,F24⟩:=df d24;have e:=hfa.symm.trans (eQ X G a24);cases e
 obtain⟨oc,od,kV24,dc24,pm24,an24,cd24,ct24,sl,rfl,lk,hc⟩:=id F24.ex;have b24:=F24.binds (ps:=["_law_script"]) (by walk_at "b")
 have M:Nm mg:=⟨aY X G z1,aY X G z2,aY X G z3,aY X G z4,aY X G z5,aY X G z6,aY X G z7,aY X G z8,aY X G z9,aY X G z10,aY X G z11,aY X G z12,aY X G z13,aY X G z14,aY X G z15,aY X G z16⟩;refine⟨PySem.W.fnOf "law" "law" (a0h (top 31)) (um (top 31)) (bz (top 31)) .none kV24 dc24 pm24 an24 cd24 ct24,λs v=>.of_eq rfl,λbase _ _=>?_⟩
 obtain⟨_,D_0⟩:=vq (F:=K55.ji) (k:=0) asx d1 X G (m_0 M) (by walk_at "b")
 obtain⟨_,D_1⟩:=vq (F:=K55.pq) (k:=0) asy d2 X G (m_1 M) (by walk_at "b")
 have D_2:=d_2 (P:=l.prog) (w:=w) (base:=base) F3 (eQ X G a3) F3.kp b3 M D_0 D_1 3;obtain⟨_,D_3⟩:=vq (F:=STP.jr) (k:=0) at5 d4 X G (m_3 M) (by walk_at "b")
 obtain⟨_,D_4⟩:=vq (F:=K36.g8) (k:=1) at6 d5 X G (m_4 D_3 (by decide)) (by walk_at "b")
 obtain⟨_,D_5⟩:=vq (F:=STP.cj) (k:=0) at7 d6 X G (m_5 ) (by walk_at "b")
 obtain⟨_,D_6⟩:=vq (F:=K35.iy) (k:=1) at8 d7 X G (m_6 M D_5 (by decide)) (by walk_at "b")
 obtain⟨_,D_7⟩:=vq (F:=K36.a6p) (k:=2) at9 d8 X G (m_7 D_4 (by decide) D_6 (by decide)) (by walk_at "b")
 obtain⟨_,D_8⟩:=vq (F:=K36.iw) (k:=4) ata d9 X G (m_8 M D_7 (by decide) D_2 (by decide)) (by walk_at "b")
 obtain⟨_,D_9⟩:=vq (F:=STP.qj) (k:=0) atb d10 X G (m_9 ) (by walk_at "b")
 obtain⟨_,D_10⟩:=vq (F:=SRC.jn) (k:=0) aok d11 X G (auf M) (by walk_at "b")
 obtain⟨_,D_11⟩:=vq (F:=SRC.ak) (k:=0) aol d12 X G (auh M) (by walk_at "b")
 obtain⟨_,D_12⟩:=vq (F:=SRC.jb) (k:=0) aom d13 X G (aui ) (by walk_at "b")
 obtain⟨_,D_13⟩:=vq (F:=SRC.dg) (k:=1) aon d14 X G (auj M D_11 (by decide) D_12 (by decide)) (by walk_at "b")
 obtain⟨_,D_14⟩:=vq (F:=SRC.du) (k:=1) aoo d15 X G (auk M D_11 (by decide)) (by walk_at "b")
 obtain⟨_,D_15⟩:=vq (F:=SRC.jz) (k:=2) aop d16 X G (aul M D_11 (by decide) D_14 (by decide) D_13 (by decide)) (by walk_at "b")
 obtain⟨_,D_16⟩:=vq (F:=SRC.n6) (k:=1) aoq d17 X G (aum M D_11 (by decide)) (by walk_at "b")
 obtain⟨_,D_17⟩:=vq (F:=SRC.gw) (k:=0) aor d18 X G (aun M) (by walk_at "b")
 obtain⟨_,D_18⟩:=vq (F:=K35.ou) (k:=1) aos d19 X G (auo D_17 (by decide)) (by walk_at "b")
 obtain⟨_,D_19⟩:=vq (F:=SRC.dw) (k:=0) aot d20 X G (aup M) (by walk_at "b")
 obtain⟨_,D_20⟩:=vq (F:=K36.dj) (k:=1) aou d21 X G (auq D_11 (by decide)) (by walk_at "b")
 obtain⟨_,D_21⟩:=vq (F:=K36.dm) (k:=2) aov d22 X G (aur M D_11 (by decide) D_20 (by decide)) (by walk_at "b")
 obtain⟨_,D_22⟩:=vq (F:=K36.kh) (k:=1) aow d23 X G (aus M D_19 (by decide)) (by walk_at "b")
 have D_23:Dn l.prog w K mg base 6 "law" ["_law_script"] (wj K 1 (K36.aek)) _ _:=⟨ad3 F24 aox (aut M D_18 (by decide) D_11 (by decide) D_22 (by decide) D_21 (by decide) D_9 (by decide) D_10 (by decide) D_15 (by decide) D_16 (by decide) D_8 (by decide)),eQ X G a24,F24.kp,b24⟩
 exact D_23.ok.imp apt
theorem walk{l:PySem.W.OpenLaw}{q:Program}{loose:List Str}{XP:(Str->Option Value)->Heap->Prop}{YP:World->Heap->Prop}{d:DefRec}{K:Params->Fg}(hn:l.most=some 63)(hdf:d.params.defaults=[])
  (hY:∀(w:World) (h:Heap),YP w h->(K w.params).In h)
  (F:∀(w:World) (mg:Str->Option Value) (fa:Addr) (h:Heap),(K w.params).In h->h.Ns mainGlobals mg->mg d.name=some (.ref fa)->
   ∃fd:FuncData,(∀(s:Shared) (u:Value),BindsTo s fd ⟨[u],[]⟩ [("_law_script",u)])/\∀base:Heap,(K w.params).In base->base.Ns mainGlobals mg->FnOk l.prog w (K w.params) mg base CX0 6 fa fd ["_law_script"] (ah2 (K w.params))) :
  PySem.W.WalkO q loose XP YP l.row.toRowW d [] (λf vs=>PySem.call f vs) :=
 L2.aj0 (n:=63) (k:=6) (x := "_law_script") (CX:=λ_=>CX0) (sp:=λw=>ah2 (K w.params)) hn (by decide) hdf ⟨rfl,by decide,by decide,rfl⟩ hY F (λ_ _ a ns hl hO hS=>⟨a,ns,rfl,apu hO hS,hl,λ_=>rfl⟩) λ_ _ _ _ _ z=>z
end K36
open PySem.W PyProof.Rows
local macro_rules|`(tactic|o_head $H) => `(tactic|refine PySem.W.holds_open (q:=K36.hq) (loose:=K36.hl) (Xt:=fun _=>true) (XP:=fun _ _=>True) (Yf:=Hook.obs $H) (Ya:=Hook.val $H) (YP:=Hook.says $H) (N:=20000) ?hl (Hook.of $H) (Hook.keeps $H) (fun _ _=>trivial) (fun _ _ _ _ _=>trivial) (by rfl) (by rfl) (by rfl) (fun _ _=>recFacts_nil rfl) (by rfl) (by assumption) (by decide +kernel) ⟨rfl,rfl,rfl,rfl,rfl,by decide +kernel⟩ ?hw ?hc)
set_option maxRecDepth 100000 in
set_option maxHeartbeats 0 in
theorem PySem.Challenge.cw_nearreach_k36_cuts_looked_at_holds : PySem.Challenge.rw_nearreach_k36_cuts_looked_at.Holds := by
 w_on;refine holds_law K36.said fun said=>?_;o_head (kHook K36.A.heap_1 [2,3,15,17,18,20,21,22,24,25,27,28,29,32,33,34,41,42,43,44,47,54,55,56,59,62,63,64,66,67,69,70,71,73,74,76,77,78,80,81,83,84,85,87,88,90,91,92,94,95,97,98,99,101,102,104,105,106,109,110,111,113,114,116,117,118,120,121,123,124,125,127,128,130,131,132,135,136,137,140,141,142,145,146,147,149,150,152,153,154,156,157,159,160,161,163,164,166,167,168,171,172,173,175,176,178,179,180,182,183,185,186,187,189,190,192,193] (fun _=>by kernel_rfl))
 (case hw=>w_witness2)
 (case hl=>exact K36.hlok)
 k_fill
 refine K36.walk (l:=PySem.Challenge.rw_nearreach_k36_cuts_looked_at) rfl rfl (fun w h Y=>PySem.W.kIn_of Y) ?F
 case F =>
  intro w mg fa h KX G hmg
  refine' K36.apv KX G hmg ?_ ?_ ?_ ?_ ?_ ?_ ?_ ?_ ?_ ?_ ?_ ?_ ?_ ?_ ?_ ?_ ?_ ?_ ?_ ?_ ?_ ?_ ?_ ?_ ?_ ?_ ?_ ?_ ?_ ?_ ?_ ?_ ?_ ?_ ?_ ?_ ?_ ?_ ?_ ?_
  all_goals first | k_is | exact ⟨_,_,_,_,_,_,_,_,_,by k_is,by k_is,by k_is,by k_is⟩ | skip
