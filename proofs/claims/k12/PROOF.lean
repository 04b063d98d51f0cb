import PyProof.Rows.All
import Wide.All
import OpenK.AllK
import Wide.FinOn
import Lean
import PyProof.EqAt
import PyProof.EqKinds
import PyProof.TupleCall
import PyProof.ListStr
import PyProof.TupleOfStr
import PyProof.ConsumeWalk
import PyProof.SliceStr2
import PyProof.CompUse
import PyProof.Rows.SetFrom
import PyProof.SetRoads
import PyProof.StrLawsIn
import PyProof.Rows.StrIndexOr
import PyProof.Rows.StrJoin2
import PyProof.Rows.SumAny
import PyProof.WalkInts
import PyProof.SeqI3
import PyProof.Draws
import PyProof.ZipIter
import PyProof.EnumMake
import Wide.Txt2
import PyProof.Rows.SortWalk
import PyProof.ListRange
import PyProof.Rows.Range3
import KE.KStateDown
import PyProof.ReprRoads
import PyProof.CallFns
import PyProof.WalksMore
import KE.KTryDeep
import PyProof.ExcBaseAll.ValueError
import KE.KTryMore
import KE.KIsNot
import PyProof.ExcAttrAll.ValueError
import PyProof.NsDelKeeps
import PySem.SetOps
import PyProof.SetScanFacts
import PyProof.Walks
import PyProof.CollectWalk
import PyProof.SumWalk
import PyProof.SeqWrite
import KE.KRevIter
import PyProof.CollectIter
import PyProof.WalksS
import PyProof.Rows.StrOr
import PyProof.Rows.RuleB_pow
import PySem.Challenge.RW_nearreach_k12_whole_courses_and_spreads
set_option Elab.async false
set_option linter.all false
set_option maxRecDepth 100000
set_option maxHeartbeats 4000000
section
open PySem PySem.W PyProof.Rows
theorem K12.said:PySem.Challenge.rw_nearreach_k12_whole_courses_and_spreads.wellSaid=true:=by kernel_rfl
noncomputable def K12.hq:Program:=view PySem.Challenge.pw_nearreach_k12_whole_courses_and_spreads [PySem.Challenge.pw_nearreach_k12_whole_courses_and_spreads.main.body.length - 1]
noncomputable def K12.hl:List Str:=PySem.Challenge.pw_nearreach_k12_whole_courses_and_spreads.boundNames
local macro_rules | `(tactic| o_head $H) => `(tactic| refine PySem.W.holds_open (q:=K12.hq) (loose:=K12.hl) (Xt:=fun _=>true) (XP:=fun _ _=>True) (Yf:=Hook.obs $H) (Ya:=Hook.val $H) (YP:=Hook.says $H) (N:=20000) ?hl (Hook.of $H) (Hook.keeps $H) (fun _ _=>trivial) (fun _ _ _ _ _=>trivial) (by rfl) (by rfl) (by rfl) (fun _ _=>recFacts_nil rfl) (by rfl) (by assumption) (by decide +kernel) ⟨rfl,rfl,rfl,rfl,rfl,by decide +kernel⟩ ?hw ?hc)
set_option maxRecDepth 100000 in
set_option maxHeartbeats 0 in
theorem K12.A (hyp:∀ p:Prop,p):PySem.Challenge.rw_nearreach_k12_whole_courses_and_spreads.Holds:=by
 w_on;refine holds_law K12.said fun said=>?_;k_head
 all_goals exact hyp _
set_option maxRecDepth 100000 in
set_option maxHeartbeats 0 in
theorem K12.hlok:LeftO PySem.Challenge.rw_nearreach_k12_whole_courses_and_spreads.row.prog K12.hq K12.hl (fun _=>true) (Hook.obs (kHook K12.A.heap_1 [2,3,15,22,23,24,25,28,35,36,37,40,42,43,45,46,47,49,50,52,53,54,57,58,66,68,69,71,72,73,74,75,76,77,80,82,83,85,86,87,90,91,92,94,95,97,98,99,101,102,104,105,106,109,110,111,113,114,116,117,118,120,121,123,124,125,128,129,130,132,133,135,136,137,140,141,142,144,145,147,148,149,151,152,154,155,156,158,159,161,162,163,165,166,168,169,170,173,174,175,177,178,180,181,182,184,185,187,188,189,191,192,194,195,196,198,199,201,202,203,205,206,208,209,210,212,213,215,216,217,219,220,222,223,224,226,227,229,230,231,233,234,236,237,238,241,242] (fun _=>by kernel_rfl))) (Hook.val (kHook K12.A.heap_1 [2,3,15,22,23,24,25,28,35,36,37,40,42,43,45,46,47,49,50,52,53,54,57,58,66,68,69,71,72,73,74,75,76,77,80,82,83,85,86,87,90,91,92,94,95,97,98,99,101,102,104,105,106,109,110,111,113,114,116,117,118,120,121,123,124,125,128,129,130,132,133,135,136,137,140,141,142,144,145,147,148,149,151,152,154,155,156,158,159,161,162,163,165,166,168,169,170,173,174,175,177,178,180,181,182,184,185,187,188,189,191,192,194,195,196,198,199,201,202,203,205,206,208,209,210,212,213,215,216,217,219,220,222,223,224,226,227,229,230,231,233,234,236,237,238,241,242] (fun _=>by kernel_rfl))) 20000:=by
 intro w
 kernel_rfl
end
abbrev Fg:=PySem.W.Frag
def ae:=@List.length_append
def af:=@PySem.wpAny_bind
def ah:=@List.length_map
def ai:=@List.getElem?_eq_getElem
def av:=@List.getElem?_eq_some_iff
def aw:=@PySem.Heap.get?_push_of_some
def ax:=@PySem.wpAny_pure
def ay:=@Nat.le_refl
def aI:=@List.mem_singleton
def aJ:=@List.length_cons
def aK:=@congrArg
def aL:=@List.size_toArray
def aM:=@List.length_singleton
def aN:=@if_pos
def aO:=@List.mem_cons
def aP:=@List.getElem?_append_right
def aQ:=@List.mem_append_right
def aR:=@Eq.trans
def aS:=@PySem.Heap.lt_size
def aT:=@PySem.Heap.get?_push_size
def aU:=@Bool.false_ne_true
def aV:=@List.replicate_succ
def aW:=@Option.map_eq_some_iff
def aX:=@List.mem_append
def aY:=@List.mem_cons_of_mem
def aZ:=@List.getElem?_append_left
def b9:=@Nat.lt_of_lt_of_le
def ba:=@Nat.zero_le
def bb:=@List.length_take
def bg:=@List.map_append
def bp:=@if_neg
def bq:=@List.length_drop
def br:=@Bool.or_eq_true
def bA:=@decide_eq_false
def bB:=@Array.length_toList
def bC:=@List.length_nil
def bD:=@List.not_mem_nil
def bE:=@List.mem_cons_self
def bF:=@Bool.and_eq_true
def bG:=@Nat.ne_of_lt
def bH:=@List.map_cons
def bI:=@PySem.wpAny_mono
def bJ:=@List.getElem?_map
def bK:=@List.length_range
def bM:=@List.mem_of_getElem?
def bN:=@PySem.PassesOwn.never
def bO:=@Nat.le_trans
def bP:=@List.append_nil
def bQ:=@Option.some.inj
def bR:=@PyProof.Rows.slot_tuple_getitem
def bS:=@List.nodup_append
def bT:=@PySem.W.mg_none_of
def bU:=@List.all_eq_true
def bV:=@List.cons_append
def bW:=@Array.getElem?_eq_getElem
def bX:=@Nat.succ_mul
def bY:=@List.getElem?_of_mem
def bZ:=@List.take_of_length_le
def c6:=@List.drop_eq_nil_of_le
def c8:=@PySem.F.slot_list_append
def c9:=@Nat.add_assoc
def cb:=@beq_eq_false_iff_ne
def cf:=@PyProof.Rows.callWith_type1
def cm:=@PySem.mem_of_lookup
def cv:=@Nat.lt_irrefl
def cA:=@PySem.wpAny_newObj_type
def cB:=@PySem.W.mg_of
def cC:=@Nat.mul_le_mul_right
def cD:=@Bool.false_eq_true
def cE:=@List.getElem?_set_self
def cF:=@List.pairwise_iff_getElem
def cG:=@PySem.wpAny_call_entry
def cI:=@List.length_replicate
def cJ:=@List.append_assoc
def cK:=@PySem.wpAny_holding
def cL:=@PySem.wpAny_callSpecial?_slot
def cM:=@PySem.F.slot_int_rmul
def cN:=@List.mem_append_left
def cO:=@PySem.Heap.get?_update_other
def cP:=@List.flatten_cons
def cQ:=@PySem.call_meets
def cR:=@PySem.Heap.SameBut.update
def cT:=@PySem.wpAny_setState_of
def cU:=@PySem.wpAny_binaryOp_repeat_ref
def cV:=@decide_eq_true
def cW:=@List.drop_eq_getElem_cons
def cX:=@Nat.mul_le_mul
def cY:=@PySem.Heap.get?_update_self
def da:=@List.mem_map
def de:=@PySem.F.type_list_append
def dk:=@PySem.Around.under_plainId
def dA:=@or_false
def dB:=@List.map_nil
def dC:=@Int.toNat_natCast
def dD:=@decide_eq_true_eq
def dE:=@Nat.le_of_lt_succ
def dF:=@List.mem_filter
def dG:=@List.filterMap_cons
def dH:=@List.nil_append
def dI:=@if_true
def dJ:=@PySem.F.slot_tuple_iterator_next
def dM:=@List.getD_eq_getElem?_getD
def dN:=@List.getElem_mem
def dO:=@PySem.wpAny_standAt
def dP:=@PySem.wpAny_Call_Name_kw
def dQ:=@Int.emod_lt_of_pos
def dR:=@List.mem_range
def dS:=@PySem.Heap.size_push
def dU:=@Classical.byContradiction
def dW:=@List.getElem?_set_ne
def dX:=@PySem.wpAny_passesOwn
def dY:=@not_true_eq_false
def dZ:=@PySem.codeAny_builtin
def e8:=@PySem.F.slot_list_extend
def e9:=@PySem.F.type_list_extend
def eh:=@List.eq_of_mem_replicate
def ei:=@List.getElem?_replicate
def eA:=@PySem.wpAny_of_eq
def eB:=@List.map_congr_left
def eC:=@Nat.lt_succ_self
def eD:=@decide_eq_decide
def eF:=@PySem.typeIs_int
def eG:=@List.nodup_cons
def eH:=@Nat.mul_comm
def eI:=@Nat.succ_pos
def eJ:=@PySem.F.called_set
def eK:=@Int.emod_nonneg
def eL:=@List.map_map
def eM:=@beq_iff_eq
def eN:=@PySem.F.args_int_rmul_2
def eO:=@List.mem_iff_getElem
def eP:=@PySem.F.slot_int_index
def eQ:=@PySem.F.entry_int_rmul
def eR:=@PySem.F.slot_tuple_mul
def eS:=@PySem.wpAny_askSetting
def eU:=@PySem.sizeLine_eq
def eV:=@PySem.codeAny_mono
def eW:=@PySem.wpAny_rule
def eX:=@Ne.symm
def eY:=@if_false
def fg:=@PySem.F.fills_int_mul
def fh:=@PySem.AutoListH.list___mul___list_int_3
def fk:=@List.getElem?_take
def fm:=@PyProof.Rows.F.plain_set_update_loop
def fq:=@PySem.codeAny_of_tree
def fv:=@Int.eq_ofNat_of_zero_le
def fA:=@List.map_replicate
def fB:=@PySem.wpAny_pyIter_rangeiter
def fD:=@PySem.wpAny_truthy_bool
def fE:=@PySem.wpAny_field
def fF:=@Nat.mod_lt
def fG:=@List.flatMap_cons
def fH:=@PySem.isSubtype_type
def fI:=@PySem.wpAny_typeOf
def fJ:=@Array.mem_iff_getElem
def fK:=@PySem.F.slot_range_reversed
def fL:=@List.length_filter_le
def fM:=@beq_self_eq_true
def fN:=@PySem.F.args_list_append_2
def fO:=@Array.getElem_toList
def fP:=@List.all_cons
def fQ:=@List.any_cons
def fR:=@PySem.F.args_tuple_iterator_next_1
def fS:=@PySem.plainId_quiet
def fT:=@PySem.wpAny_execs_nil
def fU:=@Nat.le_succ
def fV:=@List.foldl_cons
def fW:=@PySem.F.entry_list_append
def fX:=@PySem.F.entry_tuple_iterator_next
def fY:=@Nat.not_lt_zero
def fZ:=@List.replicate_zero
def g7:=@Int.fdiv_eq_ediv_of_nonneg
def g9:=@Array.getElem?_eq_some_iff
def gc:=@Nat.le_of_lt
def gu:=@PySem.wpAny_pyIter_tuple
def gy:=@List.mem_filterMap
def gz:=@Nat.add_comm
def gA:=@List.getElem?_drop
def gB:=@Nat.lt_or_gt_of_ne
def gC:=@PySem.F.args_tuple_mul_2
def gD:=@PySem.W.sortI_perm
def gE:=@Nat.zero_add
def gF:=@List.mem_replicate
def gG:=@List.drop_zero
def gH:=@List.getElem?_zip_eq_some
def gI:=@Bool.and_false
def gJ:=@List.nodup_nil
def gK:=@Option.isNone_iff_eq_none
def gL:=@PySem.wpAny_pyIter_list
def gM:=@Option.isSome_iff_exists
def gN:=@List.take_sublist
def gO:=@PySem.F.args_tuple_add_2
def gP:=@PySem.list_append
def gQ:=@PySem.F.entry_tuple_mul
def gR:=@Option.some.injEq
def gS:=@Array.getElem_mem
def gT:=@PySem.F.entry_tuple_add
def gU:=@List.getElem?_cons_zero
def gV:=@List.length_eq_zero_iff
def gW:=@Bool.or_assoc
def gX:=@Nat.mul_add
def gY:=@PySem.noFill_tuple_add
def gZ:=@Option.getD_none
def hG:=@PySem.IsL.update
def hJ:=@List.any_eq_true
def hR:=@PySem.F.slot_list_iadd
def hU:=@List.mem_flatMap
def hV:=@List.of_mem_zip
def hW:=@PySem.seqIndex_neg
def hX:=@List.length_set
def hZ:=@PySem.wpAny_updateSeq
def i4:=@Nat.succ.inj
def i5:=@Int.natCast_mul
def i6:=@Nat.pow_succ
def i7:=@List.take_zero
def i8:=@PySem.seqIndex_of
def i9:=@Nat.mod_mul
def ia:=@Prod.mk.injEq
def ib:=@List.map_take
def ic:=@Int.ofNat_inj
open PySem PySem.Spec
namespace L2
open PyProof.Rows
abbrev Key:=Sum Int Str
def arl:Key->Value->Bool
 |.inl k,v=>Value.isInt k v
 |.inr x,v=>Value.isStrOf x v
def azt(w:World):Key->Int
 |.inl k=>hashInt k
 |.inr x=>hashStr w x
theorem pq:∀{k:Key} {v:Value},arl k v=true->(∃i t,k=Sum.inl i/\v=Value.int i t)\/(∃x t,k=Sum.inr x/\v=Value.str x t)
 |.inl i,v,h=>by
  obtain⟨t,e⟩:=Value.isInt_shape (k:=i) (v:=v) h;exact .inl ⟨i,t,rfl,e⟩
 |.inr x,v,h=>by
  obtain⟨t,e⟩:=Value.isStrOf_shape (x:=x) (v:=v) h;exact .inr ⟨x,t,rfl,e⟩
theorem arn(a b:Int):decide ((Sum.inl a:Key)=Sum.inl b)=(a == b):=by
 by_cases e:a=b
 ·subst e;simp
 ·have h:¬ (Sum.inl a:Key)=Sum.inl b:=λq=>e (Sum.inl.inj q);rw[bA h];exact(cb.mpr e).symm
theorem aro(a b:Str):decide ((Sum.inr a:Key)=Sum.inr b)=decide (a=b):=by
 by_cases e:a=b
 ·subst e;simp
 ·have h:¬ (Sum.inr a:Key)=Sum.inr b:=λq=>e (Sum.inr.inj q);rw[bA h,bA e]
theorem arp(a:Int)(b:Str):decide ((Sum.inl a:Key)=Sum.inr b)=false:=bA (λq=>nomatch q)
theorem arq(a:Str)(b:Int):decide ((Sum.inr a:Key)=Sum.inl b)=false:=bA (λq=>nomatch q)
def a5v(prog:Program)(w:World):PySem.KeyKind prog w Key where
 is:=arl
 hash:=azt w
 inj:=λv a b ha hb=>by
  rcases pq ha with⟨i,t,rfl,rfl⟩|⟨x,t,rfl,rfl⟩
  ·rcases pq hb with⟨j,u,rfl,e⟩|⟨y,u,rfl,e⟩
   ·injection e with e1 _;rw[e1]
   ·exact nomatch e
  ·rcases pq hb with⟨j,u,rfl,e⟩|⟨y,u,rfl,e⟩
   ·exact nomatch e
   ·injection e with e1 _;rw[e1]
 byValue:=λk v h=>by
  rcases pq h with⟨i,t,rfl,rfl⟩|⟨x,t,rfl,rfl⟩<;>rfl
 pyHash:=λhv h=>by
  rcases pq hv with⟨i,t,rfl,rfl⟩|⟨x,t,rfl,rfl⟩
  ·exact wpAny_pyHash_int h
  ·exact wpAny_pyHash_str h
 eqBool:=λhu hv h=>by
  rcases pq hu with⟨i,t,rfl,rfl⟩|⟨x,t,rfl,rfl⟩
  ·rcases pq hv with⟨j,u,rfl,rfl⟩|⟨y,u,rfl,rfl⟩
   ·rw[arn]at h;exact wpAny_eqBool_int h
   ·rw[arp]at h;exact SeqAt.EqAt.int_str i t y u _ _ _ _ h
  ·rcases pq hv with⟨j,u,rfl,rfl⟩|⟨y,u,rfl,rfl⟩
   ·rw[arq]at h;exact SeqAt.EqAt.str_int x t j u _ _ _ _ h
   ·rw[aro]at h;exact wpAny_eqBool_str h
 «strs»:=λk x t v h=>by
  rcases pq h with⟨i,u,rfl,e⟩|⟨y,u,rfl,e⟩
  ·exact nomatch e
  ·injection e with e1 _
   subst e1
   cases v<;>rfl
inductive V where
 |non|bl (b:Bool)|int (i:Int)|str (x:Str)|byt (b:Array UInt8)|flt (b:UInt64)|ref (a:Addr)|ty (n:String)
 deriving DecidableEq
def RelV:V->Value->Prop
 |.non,u=>u=Value.none
 |.bl b,u=>u=Value.bool b
 |.int i,u=>∃t,u=Value.int i t
 |.str x,u=>∃t,u=Value.str x t
 |.byt b,u=>∃t,u=Value.bytes b t
 |.flt b,u=>∃t,u=Value.float b t
 |.ref a,u=>u=Value.ref a
 |.ty n,u=>u=Value.type n
abbrev Vals:List V->List Value->Prop:=Paired RelV
theorem Vals.length(r:Vals xs us):xs.length=us.length:=Paired.length r
theorem Vals.get:∀{xs:List V} {us:List Value} {i:Nat} {x:V},Vals xs us->xs[i]? = some x->∃u,us[i]? = some u/\RelV x u
 |_,_,_,_,.nil,e=>by simp at e
 |_,_,0,_,.cons r _,e=>by simp at e;subst e;exact⟨_,rfl,r⟩
 |_,_,i+1,x,.cons _ t,e=>by
  obtain⟨u,h1,h2⟩:=Vals.get (i:=i) (x:=x) t (by simpa using e)
  exact⟨u,by simpa using h1,h2⟩
theorem Vals.set(r:RelV x u):∀{xs:List V} {us:List Value} (i:Nat),Vals xs us->Vals (xs.set i x) (us.set i u)
 |_,_,_,.nil=>.nil
 |_,_,0,.cons _ t=>.cons r t
 |_,_,i+1,.cons q t=>.cons q (Vals.set r i t)
theorem Vals.append:∀{xs ys:List V} {us ws:List Value},Vals xs us->Vals ys ws->Vals (xs++ys) (us++ws)
 |_,_,_,_,.nil,s=>s
 |_,_,_,_,.cons r t,s=>.cons r (Vals.append t s)
theorem Vals.take:∀{xs:List V} {us:List Value} (n:Nat),Vals xs us->Vals (xs.take n) (us.take n)
 |_,_,0,_=>.nil
 |_,_,_+1,.nil=>.nil
 |_,_,n+1,.cons r t=>.cons r (Vals.take n t)
theorem Vals.drop:∀{xs:List V} {us:List Value} (n:Nat),Vals xs us->Vals (xs.drop n) (us.drop n)
 |_,_,0,r=>r
 |_,_,_+1,.nil=>.nil
 |_,_,n+1,.cons _ t=>Vals.drop n t
def RelO:Option V->Option Value->Prop
 |some v,some u=>RelV v u
 |none,none=>True
 |_,_=>False
def KV{κ:Type}:List (κ×V)->List (κ×Value)->Prop:=Paired λ(p:κ×V) (q:κ×Value)=>p.1=q.1/\RelV p.2 q.2
def kV:Key->V
 |.inl i=>.int i
 |.inr x=>.str x
inductive HO where
 |lst (xs:List V)
 |tup (xs:List V)
 |dK (kvs:List (Key×V))|dT (kvs:List (List Key×V))
 |set (S:Int->Bool) (n:Nat)
 |ins (C dx:Addr) (fs:List (Str×V))
 |own (x:Addr)
 |xd (fs:List (Str×V))
 |met (f x:Addr)
 |rng (lo hi:Int)
 |frz (o:Obj) (u:HO)
 |tbl (ps:Array Value)
 |ext (φ:Heap->Prop)
abbrev Hp:=Addr->Option HO
def upd(H:Hp)(a:Addr)(o:HO):Hp:=λb=>if b=a then some o else H b
theorem uc:upd H a o a=some o:=by unfold upd;rw[aN rfl]
theorem jc(h:b≠a):upd H a o b=H b:=by unfold upd;rw[bp h]
theorem j9{H:Hp}{a b:Addr}{o:HO}(h:H a=some o)(h':H b=none):a≠b:=by
 intro e;subst e;rw[h]at h';cases h'
section
variable(P:Program)(w:World)
def ObjOk(H:Hp)(h:Heap)(a:Addr):HO->Prop
 |.lst xs=>xs.length<=sizeLine/\∃(its:List Value) (n:Nat),Vals xs its/\h.get? a=some {cls:=.type "list",data:=.seq its.toArray n}
 |.tup xs=>xs.length<=sizeLine/\∃its:List Value,Vals xs its/\IsTup h a its.toArray
 |.dK kvs=>kvs.length<=sizeLine/\(a == sysModules)=false/\∃vs,KV kvs vs/\h.DictOf (a5v P w) a vs
 | .dT kvs=>kvs.length<=sizeLine/\(a == sysModules)=false/\∃xs:List (List Key×Addr×Value),
   Paired (λ(p:List Key×V) (q:List Key×Addr×Value)=>p.1=q.1/\H q.2.1=some (.tup (p.1.map kV))/\RelV p.2 q.2.2) kvs xs /\
   ∃o es ep,h.get? a=some o/\o.ExactDict/\o.data=.dict es ep/\es.toList=xs.map (entryOfKey (tupleKind (a5v P w)))/\(xs.map (·.1)).Nodup
 |.set S n=>h.SetOf (intKind P w) a S n
 | .ins C dx fs=>H dx=some (.own a)/\fs.length<=1000/\dx≠a/\h.get? a=some (PySem.W.instObj C dx) /\
   ∃mA,h.Ns1 dx mA/\(∀f,RelO (fs.lookup f) (mA f))/\PySem.Within mA (fs.map (·.1))
 |.own _=>∃o,h.get? a=some o
 |.xd fs=>∃mA,h.Ns1 a mA/\∀f,RelO (fs.lookup f) (mA f)
 |.rng lo hi=>∃t u v,h.get? a=some {cls:=.type "range",data:=.fields #[.int lo t,.int hi u,.int 1 v]}
 |.frz o u=>h.get? a=some o/\ObjOk H h a u
 |.tbl ps=>h.get? a=some {cls:=.none,data:=.fields ps}
 |.met f x=>h.get? a=some (PySem.W.methodObj (.ref f) (.ref x))
 |.ext φ=>φ h/\(∃o,h.get? a=some o)/\∀h1 h2:Heap,φ h1->(∀o,h1.get? a=some o->h2.get? a=some o)->φ h2
def HOk(H:Hp)(h:Heap):Prop:=∀a o,H a=some o->ObjOk P w H h a o
end
section
variable{P:Program}{w:World}{H H':Hp}{h h':Heap}{a:Addr}{o:HO}
theorem ObjOk.lt(x:ObjOk P w H h a o):a<h.objs.size:=by
 cases o with
 |lst xs=>obtain⟨_,_,_,_,e⟩:=x;exact aS e
 |tup xs=>obtain⟨_,_,_,p⟩:=x;exact p.lt
 |dK kvs=>obtain⟨_,_,_,_,o,_,_,e,_⟩:=x;exact aS e
 |dT kvs=>obtain⟨_,_,_,_,o,_,_,e,_⟩:=x;exact aS e
 |set S n=>obtain⟨o,_,_,_,e,_⟩:=x;exact aS e
 |ins C dx fs=>obtain⟨_,_,_,e,_⟩:=x;exact aS e
 |own y=>obtain⟨_,e⟩:=x;exact aS e
 |xd fs=>obtain⟨_,⟨_,_,_,e,_⟩,_⟩:=x;exact aS e
 |rng lo hi=>obtain⟨_,_,_,e⟩:=x;exact aS e
 |frz ob u=>obtain⟨e,_⟩:=x;exact aS e
 |tbl ps=>exact aS (show h.get? a=some _ from x)
 |met f y=>exact aS (show h.get? a=some _ from x)
 |ext φ=>obtain⟨_,⟨_,e⟩,_⟩:=x;exact aS e
theorem Paired.mapP{α β:Type}{F G:α->β->Prop}:∀{l₁:List α} {l₂:List β},Paired F l₁ l₂->(∀a b,F a b->G a b)->Paired G l₁ l₂
 |_,_,.nil,_=>.nil
 |_,_,.cons r t,f=>.cons (f _ _ r) (Paired.mapP t f)
theorem ObjOk.stay(x:ObjOk P w H h a o)(k:∀b u,(b=a\/H b=some (.own a))->h.get? b=some u->h'.get? b=some u)
  (ho:∀b,H b=some (.own a)->H' b=some (.own a)) (ht:∀b xs,H b=some (.tup xs)->H' b=some (.tup xs)):ObjOk P w H' h' a o:=by
 induction o with
 |lst xs=>obtain⟨z,its,n,r,e⟩:=x;exact⟨z,its,n,r,k _ _ (.inl rfl) e⟩
 |tup xs=>obtain⟨z,its,r,ob,e,c⟩:=x;exact⟨z,its,r,ob,k _ _ (.inl rfl) e,c⟩
 |dK kvs=>obtain⟨z,y,vs,r,ob,es,ep,e,c⟩:=x;exact⟨z,y,vs,r,ob,es,ep,k _ _ (.inl rfl) e,c⟩
 |dT kvs =>
  obtain⟨z,y,xs,r,ob,es,ep,e,c⟩:=x;exact⟨z,y,xs,Paired.mapP r λp q z=>⟨z.1,ht _ _ z.2.1,z.2.2⟩,ob,es,ep,k _ _ (.inl rfl) e,c⟩
 |set S n=>obtain⟨ob,es,ep,t,e,c⟩:=x;exact⟨ob,es,ep,t,k _ _ (.inl rfl) e,c⟩
 |ins C dx fs =>
  obtain⟨d,z,ne,e,mA,⟨od,es,ep,e2,c⟩,r⟩:=x;exact⟨ho _ d,z,ne,k _ _ (.inl rfl) e,mA,⟨od,es,ep,k _ _ (.inr d) e2,c⟩,r⟩
 |own y=>obtain⟨ob,e⟩:=x;exact⟨ob,k _ _ (.inl rfl) e⟩
 |xd fs=>obtain⟨mA,⟨od,es,ep,e,c⟩,r⟩:=x;exact⟨mA,⟨od,es,ep,k _ _ (.inl rfl) e,c⟩,r⟩
 |rng lo hi=>obtain⟨t,u,v,e⟩:=x;exact⟨t,u,v,k _ _ (.inl rfl) e⟩
 |frz ob u ih=>obtain⟨e,q⟩:=x;exact⟨k _ _ (.inl rfl) e,ih q⟩
 |tbl ps =>
  have e:h.get? a=some {cls:=.none,data:=.fields ps}:=x;show h'.get? a=some {cls:=.none,data:=.fields ps};exact k a _ (.inl rfl) e
 |met f y =>
  have e:h.get? a=some (PySem.W.methodObj (.ref f) (.ref y)):=x;show h'.get? a=some (PySem.W.methodObj (.ref f) (.ref y));exact k a _ (.inl rfl) e
 |ext φ=>obtain⟨p,⟨o,e⟩,st⟩:=x;exact⟨st _ _ p λo q=>k _ _ (.inl rfl) q,⟨o,k _ _ (.inl rfl) e⟩,st⟩
theorem HOk.lt(x:HOk P w H h)(e:H a=some o):a<h.objs.size:=(x a o e).lt
theorem HOk.fresh(x:HOk P w H h)(e:h.objs.size<=a):H a=none:=by
 cases q:H a with
 |none=>rfl
 |some u=>exact absurd (b9 (x.lt q) e) (cv _)
theorem HOk.kept(x:HOk P w H h)(k:∀b u,h.get? b=some u->h'.get? b=some u):HOk P w H h':=λa o e =>
 (x a o e).stay (λb u _ q=>k b u q) (λ_ q=>q) λ_ _ q=>q
theorem HOk.laid(x:HOk P w H h)(k:∀b u,h.get? b=some u->h'.get? b=some u)(hp:h.objs.size<=a)(new:ObjOk P w (upd H a o) h' a o):HOk P w (upd H a o) h':=λb u e=>by
 have hn:=x.fresh hp
 by_cases hb:b=a
 ·subst hb;rw[uc]at e;cases e;exact new
 ·rw[jc hb]at e;exact(x b u e).stay (λc v _ q=>k c v q) (λc q=>by rw[jc (j9 q hn)];exact q) λc xs q=>by rw[jc (j9 q hn)];exact q
end
def Rd(H:Hp)(a:Addr)(u:HO):Prop:=H a=some u\/∃o,H a=some (.frz o u)
theorem Rd.of(h:H a=some u):Rd H a u:=.inl h
theorem Rd.ok(r:Rd H a u)(x:HOk P w H h):ObjOk P w H h a u:=by
 rcases r with r|⟨o,r⟩
 ·exact x a u r
 ·obtain⟨_,q⟩:=x a _ r;exact q
def Mut:Option HO->Prop
 |some (.lst _)=>True
 |some (.dK _)=>True
 |some (.dT _)=>True
 |some (.set _ _)=>True
 |some (.ins _ _ _)=>True
 |some (.ext _)=>True
 |_=>False
section
variable{P:Program}{w:World}{H:Hp}{h h':Heap}{x e:Addr}{o':HO}
theorem HOk.write(ok:HOk P w H h)(mu:Mut (H x))(he:e=x\/H e=some (.own x))(k:∀b u,b≠e->h.get? b=some u->h'.get? b=some u)(heo:∃u,h'.get? e=some u)
  (new:ObjOk P w (upd H x o') h' x o'):HOk P w (upd H x o') h':=λb u q=>by
 have nown:∀c y,H c=some (.own y)->c≠x:=λc y r z=>by subst z;rw[r]at mu;exact mu
 have ntup:∀c xs,H c=some (.tup xs)->c≠x:=λc xs r z=>by subst z;rw[r]at mu;exact mu
 by_cases hb:b=x
 ·subst hb;rw[uc]at q;cases q;exact new
 ·rw[jc hb]at q
  by_cases hbe:b=e
  ·have q':H b=some (.own x):=by
    rcases he with z|z
    ·exact absurd (hbe.trans z) hb
    ·rw[hbe];exact z
   rw[q]at q';cases q'
   obtain⟨v,hv⟩:=heo;exact⟨v,by rw[hbe];exact hv⟩
  ·refine(ok b u q).stay (λc v hc r=>k c v ?_ r) (λc r=>by rw[jc (nown c b r)];exact r) λc xs r=>by rw[jc (ntup c xs r)];exact r
   rcases hc with rfl|hc
   ·exact hbe
   ·rintro rfl
    rcases he with z|z
    ·exact nown c b hc z
    ·rw[hc]at z;cases z;exact hb rfl
end
structure Un (fs ex:List Addr) (H H':Hp) (h h':Heap):Prop where
 keep:∀b o,h.get? b=some o->H b=none->b∉fs->b∉ex->h'.get? b=some o
 slot:∀b o,h.get? b=some o->H b=none->b∈fs->b∉ex->∃sl,h'.get? b=some {o with slots:=sl}
 free:∀b o,h.get? b=some o->H b=none->b∉ex->H' b=none
 there:∀b o,h.get? b=some o->b∉ex->∃o',h'.get? b=some o'
 tups:∀b xs,H b=some (.tup xs)->H' b=some (.tup xs)
 frzs:∀b o u,H b=some (.frz o u)->H' b=some (.frz o u)
 tbls:∀b ps,H b=some (.tbl ps)->∃more,H' b=some (.tbl (ps++more))
section
variable{fs fs' ex ex':List Addr}{H H1 H2:Hp}{h h1 h2 h':Heap}{a x e:Addr}{o:HO}
theorem Un.any(u:Un fs ex H H1 h h1)(q:h.get? b=some ob)(n:H b=none)(hx:b∉ex):∃sl,h1.get? b=some {ob with slots:=sl}:=by
 by_cases hb:b∈fs
 ·exact u.slot b ob q n hb hx
 ·exact⟨ob.slots,u.keep b ob q n hb hx⟩
theorem Un.kept(k:∀b u,h.get? b=some u->h'.get? b=some u):Un fs ex H H h h' :=
 ⟨λb ob q _ _ _=>k b ob q,λb ob q _ _ _=>⟨ob.slots,k b ob q⟩,λ_ _ _ n _=>n,λb ob q _=>⟨ob,k b ob q⟩,λ_ _ q=>q,λ_ _ _ q=>q,λ_ ps q=>⟨#[],by rw[q];simp⟩⟩
theorem Un.refl:Un fs ex H H h h:=Un.kept λ_ _ q=>q
theorem Un.laid(k:∀b u,h.get? b=some u->h'.get? b=some u)(hp:h.objs.size<=a)(hn:H a=none):Un fs ex H (upd H a o) h h' where
 keep:=λb u q _ _ _=>k b u q
 slot:=λb u q _ _ _=>⟨u.slots,k b u q⟩
 free:=λb u q n _=>by rw[jc (bG (b9 (aS q) hp))];exact n
 there:=λb u q _=>⟨u,k b u q⟩
 tups:=λb xs q=>by rw[jc (j9 q hn)];exact q
 frzs:=λb u xs q=>by rw[jc (j9 q hn)];exact q
 tbls:=λb ps q=>⟨#[],by rw[jc (j9 q hn),q];simp⟩
theorem Un.write(mu:Mut (H x))(he:e=x\/H e=some (.own x))(k:∀b u,b≠e->h.get? b=some u->h'.get? b=some u)(heo:∃u,h'.get? e=some u):Un fs ex H (upd H x o) h h':=by
 have hx:∀b,H b=none->b≠x:=λb n z=>by subst z;rw[n]at mu;exact mu
 have hb:∀b,H b=none->b≠e:=λb n z=>by
  subst z
  rcases he with r|r
  ·exact hx b n r
  ·rw[n]at r;cases r
 have hm:∀b u,H b=some u->¬ Mut (some u)->b≠x:=λb u q nm z=>by subst z;rw[q]at mu;exact nm mu
 refine⟨λb u q n _ _=>k b u (hb b n) q,λb u q n _ _=>⟨u.slots,k b u (hb b n) q⟩,λb u q n _=>by rw[jc (hx b n)];exact n,λb u q _=>?_,
  λb xs q=>by rw[jc (hm b _ q λz=>z)];exact q,λb u xs q=>by rw[jc (hm b _ q λz=>z)];exact q,λb ps q=>⟨#[],by rw[jc (hm b _ q λz=>z),q];simp⟩⟩
 by_cases hbe:b=e
 ·subst hbe;exact heo
 ·exact⟨u,k b u hbe q⟩
end
def trk(h:Heap)(H:Hp):List Addr:=(List.range h.objs.size).filter λa=>(H a).isSome
def ajw(h:Heap)(H:Hp):Heap:=PySem.W.hideAll h (trk h H)
theorem agc(h:Heap)(H:Hp):(ajw h H).objs.size=h.objs.size:=PySem.W.hideAll_size _ _
theorem ajx{h:Heap}(e:h.get? b=some o)(n:H b=none):(ajw h H).get? b=some o :=
 PySem.W.hideAll_get _ e λhm=>by
  have q:(H b).isSome=true:=(dF.mp hm).2;rw[n]at q;simp at q
theorem ao5(e:(ajw h H).get? b=some o):h.get? b=some o/\H b=none:=by
 have e':h.get? b=some o:=PySem.W.of_hideAll (trk h H) e;refine⟨e',?_⟩
 cases q:H b with
 |none=>rfl
 |some x =>
  have hm:b∈trk h H:=dF.mpr ⟨dR.mpr (aS e'),by simp[q]⟩
  have z:(ajw h H).get? b=none:=PySem.W.hideAll_none (trk h H) hm;rw[z]at e;cases e
def ao6(g h:Heap)(L:Addr):List (Addr×Obj):=(List.range h.objs.size).filterMap λa=>if a=L\/(g.get? a).isSome=true then none else (h.get? a).map λo=>(a,o)
def aG(g h:Heap)(L d:Addr):List (Addr×Obj):=(ao6 g h L).filter λp=>decide (p.1≠d)
structure Mod (K:Fg) (mg:Str->Option Value) (base:Heap):Prop where
 kin:K.In base
 glob:base.Ns mainGlobals mg
 blt:∃mb,base.Ns builtinsNs mb/\∀x:Str,x ≠ "__name__"->mb x=bootBuiltins x
 nolimit:base.NoLimit
structure Cx where
 prog:Program
 w:World
 K:Fg
 mg:Str->Option Value
 base:Heap
 A:Around
 N:List Str
 s₀:Shared
 H₀:Hp
 env:Env
 outer:List Env
 stack:List Env
 ex:List Addr
 fn:Str->Bool
 calm:Bool
 pn:List (Addr×Obj)
 xe:Value->Shared->Prop
def frs(l:List Env):List Addr:=l.filterMap (·.frame)
abbrev Cx.fs(X:Cx):List Addr:=frs X.outer
def Vis(sc:Scope)(x:Str):Prop:=sc.names.lookup x=some .local\/sc.names.lookup x=some .cell\/sc.names.lookup x=some .free
def Loc(sc:Scope)(x:Str):Prop:=sc.names.lookup x=some .local\/sc.names.lookup x=some .cell
def Look(env:Env)(h:Heap)(m:Str->Option Value)(x:Str)(u:Value):Prop :=
 (env.kindOf x=some .local/\m x=some u)\/((env.kindOf x=some .cell\/env.kindOf x=some .free)/\∃c,env.cells.lookup x=some c/\h.IsCell c (some u))
structure Cx.Ok (X:Cx):Prop where
 mod:Mod X.K X.mg X.base
 kind:X.env.scope.kind=.function
 glob:X.env.globals=mainGlobals
 blt:X.env.builtins=builtinsNs
 above:X.s₀.heap.objs.size<=X.env.locals
 inj:∀x y c,X.env.cells.lookup x=some c->X.env.cells.lookup y=some c->x=y
 has:∀x,(X.env.kindOf x=some .cell\/X.env.kindOf x=some .free)->∃c,X.env.cells.lookup x=some c
 cab:∀x c,X.fn x=true->X.env.cells.lookup x=some c->X.s₀.heap.objs.size<=c
 hd:X.calm=true->X.A.handled=none
 frames:X.A.frames=some X.stack
 stk:X.stack=X.outer\/(X.stack=X.env::X.outer/\X.env.frame=some X.env.locals)
 exf:∀b∈X.ex,b≠X.env.locals/\∀x c,X.env.cells.lookup x=some c->c≠b
 bs:∀b o,X.base.get? b=some o->X.s₀.heap.get? b=some o/\X.H₀ b=none
 bsz:X.base.objs.size<=X.s₀.heap.objs.size
 noex:∀b o,X.base.get? b=some o->b∉X.ex
 exfs:∀b∈X.ex,b∉X.fs
 funs:X.s₀.heap.FunFrames X.base X.outer
 frf:∀b∈X.fs,X.H₀ b=none
structure Inv (X:Cx) (aA:List (Addr×Obj)) (σ:List (Option V)) (H:Hp) (s:Shared):Prop where
 ok:X.Ok
 os:s.os=X.s₀.os
 bare:AllBare s.gens
 base:Un X.fs X.ex X.H₀ H X.s₀.heap s.heap
 loc:∃m,s.heap.Ns X.env.locals m/\∀(i:Nat) (x:Str) (v:V),X.N[i]? = some x->σ[i]? = some (some v)->Vis X.env.scope x->∃u,RelV v u/\Look X.env s.heap m x u
 cell:∀x c,X.env.cells.lookup x=some c->∃v,s.heap.IsCell c v
 free:H X.env.locals=none
 freeC:∀x c,X.env.cells.lookup x=some c->H c=none
 pin:∀p∈X.pn++aA,s.heap.get? p.1=some p.2/\H p.1=none/\p.1≠X.env.locals/\p.1∉X.fs/\∀v,p.2.data≠.cell v
 hok:HOk X.prog X.w H s.heap
 len:σ.length=X.N.length
section
variable{X:Cx}{aA:List (Addr×Obj)}{σ:List (Option V)}{H H':Hp}{s:Shared}{h':Heap}
theorem Cx.Ok.nofr(ok:X.Ok)(e:X.base.get? b=some o):b∉X.fs:=λhb=>by
 have:=(ok.funs.mem hb).1
 rw[e]at this;cases this
theorem Inv.bs(I:Inv X aA σ H s):∀b o,X.base.get? b=some o->s.heap.get? b=some o/\H b=none:=λb o e =>
 ⟨I.base.keep b o (I.ok.bs b o e).1 (I.ok.bs b o e).2 (I.ok.nofr e) (I.ok.noex b o e),I.base.free b o (I.ok.bs b o e).1 (I.ok.bs b o e).2 (I.ok.noex b o e)⟩
theorem Inv.bk(I:Inv X aA σ H s):∀b o,X.base.get? b=some o->s.heap.get? b=some o:=λb o e=>(I.bs b o e).1
theorem Inv.mod(I:Inv X aA σ H s):Mod X.K X.mg X.base:=I.ok.mod
theorem Inv.kIn(I:Inv X aA σ H s):X.K.In s.heap:=I.ok.mod.kin.keeps I.bk
theorem Inv.fr(I:Inv X aA σ H s):∃m,Fr X.base X.env.locals s.heap m :=
 let ⟨m,hn,_⟩:=I.loc
 ⟨m,hn,I.bk,bO I.ok.bsz I.ok.above⟩
theorem Inv.lt(I:Inv X aA σ H s):X.env.locals<s.heap.objs.size:=let ⟨_,hn,_⟩:=I.loc;hn.lt
theorem Inv.sz(I:Inv X aA σ H s):X.s₀.heap.objs.size<=s.heap.objs.size:=bO I.ok.above (gc I.lt)
theorem Inv.nofs(I:Inv X aA σ H s)(h:s.heap.objs.size<=a):a∉X.fs:=λhb=>by
 obtain⟨_,o,ho,_⟩:=I.ok.funs.mem hb;exact absurd (b9 (aS ho) (bO I.sz h)) (cv _)
theorem Inv.cne(I:Inv X aA σ H s):∀x c,X.env.cells.lookup x=some c->c≠X.env.locals:=λx c e z=>by
 obtain⟨v,o,ho,hd⟩:=I.cell x c e;obtain⟨m,⟨o',es,ep,ho',hd',_⟩,_⟩:=I.loc;rw[z,ho']at ho;cases ho;rw[hd']at hd;cases hd
theorem Inv.funs(I:Inv X aA σ H s):s.heap.FunFrames X.base X.outer:=by
 have all:∀(l:List Env),(∀b∈frs l,b∈X.fs)->X.s₀.heap.FunFrames X.base l->s.heap.FunFrames X.base l:=by
  intro l
  induction l with
  |nil=>intro _ _;trivial
  |cons env r ih =>
   intro hs hl
   obtain⟨hk,⟨L,o,hf,hn,ho,hd⟩,hr⟩:=hl;have hL:L∈X.fs:=hs L (by unfold frs;rw[dG,hf];exact bE)
   obtain⟨sl,e⟩:=I.base.slot L o ho (I.ok.frf L hL) hL λz=>I.ok.exfs L z hL;exact⟨hk,⟨L,_,hf,hn,e,hd⟩,ih (λb hb=>hs b (by unfold frs;rw[dG,hf];exact aY _ hb)) hr⟩
 exact all X.outer (λ_ hb=>hb) I.ok.funs
theorem Inv.stack(I:Inv X aA σ H s):s.heap.FunFrames X.base X.stack:=by
 rcases I.ok.stk with e|⟨e,hf⟩
 ·rw[e];exact I.funs
 ·rw[e];obtain⟨m,hn,_⟩:=I.loc;refine .cons (by rw[I.ok.kind];decide) hf hn ?_ I.funs
  exact Heap.get?_none_of_le (bO I.ok.bsz I.ok.above)
theorem Inv.stkSub(I:Inv X aA σ H s):∀b∈frs X.stack,b∈X.env.locals::X.fs:=λb hb=>by
 rcases I.ok.stk with e|⟨e,hf⟩
 ·rw[e]at hb;exact aY _ hb
 ·rw[e]at hb;unfold frs at hb;rw[dG,hf]at hb;exact hb
theorem Inv.stkFree(I:Inv X aA σ H s):∀b∈frs X.stack,H b=none:=λb hb=>by
 rcases aO.mp (I.stkSub b hb) with e|hb
 ·rw[e];exact I.free
 ·obtain⟨_,o,ho,_⟩:=I.ok.funs.mem hb;exact I.base.free b o ho (I.ok.frf b hb) λz=>I.ok.exfs b z hb
theorem Inv.step{g':Array GenState}{t':Nat}{d':Drawn}{ch:List Addr}(I:Inv X aA σ H s)
  (hch:∀b∈ch,(b∈X.ex\/X.s₀.heap.objs.size<=b)/\b≠X.env.locals/\(∀x c,X.env.cells.lookup x=some c->c≠b)/\∀p∈X.pn++aA,p.1≠b)
  (keep:∀b o,b≠X.env.locals->b∉X.fs->b∉ch->s.heap.get? b=some o->H b=none->h'.get? b=some o)
  (slot:∀b o,b≠X.env.locals->b∈X.fs->b∉ch->s.heap.get? b=some o->H b=none->∃sl,h'.get? b=some {o with slots:=sl}) (free:∀b o,b∉ch->s.heap.get? b=some o->H b=none->H' b=none)
  (there:∀b o,b∉ch->s.heap.get? b=some o->∃o',h'.get? b=some o')
  (tups:∀b xs,H b=some (.tup xs)->H' b=some (.tup xs)) (frzs:∀b o u,H b=some (.frz o u)->H' b=some (.frz o u)) (tbls:∀b ps,H b=some (.tbl ps)->∃more,H' b=some (.tbl (ps++more)))
  (ns:∀m,s.heap.Ns X.env.locals m->h'.Ns X.env.locals m) (hok:HOk X.prog X.w H' h') (hg:AllBare g') :
  Inv X aA σ H' {s with heap:=h',gens:=g',drawn:=d',toks:=t' }:=by
 have neL:∀b o,X.s₀.heap.get? b=some o->b≠X.env.locals:=λb o e=>bG (b9 (aS e) I.ok.above);have neC:∀b o,X.s₀.heap.get? b=some o->b∉X.ex->b∉ch:=λb o e hx hb=>by
  rcases(hch b hb).1 with z|z
  ·exact hx z
  ·exact absurd (b9 (aS e) z) (cv _)
 have cellK:∀x c,X.env.cells.lookup x=some c->∀v,s.heap.IsCell c v->h'.IsCell c v:=λx c e v ⟨o,ho,hd⟩=>by
  have nch:c∉ch:=λz=>(hch c z).2.2.1 x c e rfl
  by_cases hc:c∈X.fs
  ·obtain⟨sl,q⟩:=slot c o (I.cne x c e) hc nch ho (I.freeC x c e);exact⟨_,q,hd⟩
  ·exact⟨o,keep c o (I.cne x c e) hc nch ho (I.freeC x c e),hd⟩
 refine⟨I.ok,I.os,hg,⟨λb o e n hb hx=>?_,λb o e n hb hx=>?_,λb o e n hx=>?_,λb o e hx=>?_,λb xs e=>tups b xs (I.base.tups b xs e),λb o xs e=>frzs b o xs (I.base.frzs b o xs e),λb ps e=>?_⟩,?_,λx c e=>?_,?_,λx c e=>?_,λp hp=>?_,hok,I.len⟩
 ·exact keep b o (neL b o e) hb (neC b o e hx) (I.base.keep b o e n hb hx) (I.base.free b o e n hx)
 ·obtain⟨sl,e1⟩:=I.base.slot b o e n hb hx;obtain⟨sl',e2⟩:=slot b _ (neL b o e) hb (neC b o e hx) e1 (I.base.free b o e n hx);exact⟨sl',e2⟩
 ·obtain⟨o',e1⟩:=I.base.there b o e hx;exact free b o' (neC b o e hx) e1 (I.base.free b o e n hx)
 ·obtain⟨o',e1⟩:=I.base.there b o e hx;exact there b o' (neC b o e hx) e1
 ·obtain⟨m1,e1⟩:=I.base.tbls b ps e;obtain⟨m2,e2⟩:=tbls b _ e1;exact⟨m1++m2,by rw[e2,Array.append_assoc]⟩
 ·obtain⟨m,hn,hl⟩:=I.loc;refine⟨m,ns m hn,λi x v e1 e2 e3=>?_⟩;obtain⟨u,r,l⟩:=hl i x v e1 e2 e3;refine⟨u,r,?_⟩
  rcases l with l|⟨k,c,e,z⟩
  ·exact .inl l
  ·exact .inr ⟨k,c,e,cellK x c e _ z⟩
 ·obtain⟨v,z⟩:=I.cell x c e;exact⟨v,cellK x c e v z⟩
 ·obtain⟨m,⟨o,_,_,ho,_⟩,_⟩:=I.loc;exact free _ o (λz=>(hch _ z).2.1 rfl) ho I.free
 ·obtain⟨v,o,ho,hd⟩:=I.cell x c e;exact free c o (λz=>(hch c z).2.2.1 x c e rfl) ho (I.freeC x c e)
 ·obtain⟨e,n,ne,nf,d⟩:=I.pin p hp;have nch:p.1∉ch:=λz=>(hch p.1 z).2.2.2 p hp rfl;exact⟨keep p.1 p.2 ne nf nch e n,free p.1 p.2 nch e n,ne,nf,d⟩
theorem Inv.un{t':Nat}(I:Inv X aA σ H s)(u:Un X.fs [] H H' s.heap h')(hok:HOk X.prog X.w H' h'):Inv X aA σ H' {s with heap:=h',toks:=t' }:=by
 obtain⟨m,⟨o,es,ep,ho,r⟩,_⟩:=id I.loc;obtain⟨sl,hL⟩:=u.any ho I.free (by simp)
 exact I.step (g':=s.gens) (d':=s.drawn) (ch:=[]) (λ_ z=>nomatch z) (λb o _ hb _ e n=>u.keep b o e n hb (by simp)) (λb o _ hb _ e n=>u.slot b o e n hb (by simp)) (λb o _ e n=>u.free b o e n (by simp)) (λb o _ e=>u.there b o e (by simp)) u.tups u.frzs u.tbls (λm' hm=>by
  obtain⟨o',es',ep',ho',r'⟩:=hm;rw[ho]at ho';cases ho'
  exact⟨_,es',ep',hL,r'⟩) hok I.bare
theorem Inv.call{g':Array GenState}{t':Nat}{d':Drawn}{ch:List Addr}(I:Inv X aA σ H s)(u:Un (frs X.stack) ch H H' s.heap h')(hok:HOk X.prog X.w H' h')(hg:AllBare g')
  (hch:∀b∈ch,(b∈X.ex\/X.s₀.heap.objs.size<=b)/\b≠X.env.locals/\(∀x c,X.env.cells.lookup x=some c->c≠b)/\∀p∈X.pn++aA,p.1≠b) :
  Inv X aA σ H' {s with heap:=h',gens:=g',drawn:=d',toks:=t' }:=by
 obtain⟨m,⟨o,es,ep,ho,r⟩,_⟩:=id I.loc;obtain⟨sl,hL⟩:=u.any ho I.free λz=>(hch _ z).2.1 rfl;exact I.step (ch:=ch) hch (λb o hL hb hc e n=>u.keep b o e n (λz=>(aO.mp (I.stkSub b z)).elim hL hb) hc) (λb o _ _ hc e n=>u.any e n hc) (λb o hc e n=>u.free b o e n hc) (λb o hc e=>u.there b o e hc) u.tups u.frzs u.tbls (λm' hm=>by
  obtain⟨o',es',ep',ho',r'⟩:=hm;rw[ho]at ho';cases ho'
  exact⟨_,es',ep',hL,r'⟩) hok hg
theorem Inv.turned{t':Nat}{it:Addr}(I:Inv X aA σ H s)(k:∀b o,b≠it->s.heap.get? b=some o->h'.get? b=some o)(hn:H it=none)(hL:it≠X.env.locals)
  (h1:it∈X.ex\/X.s₀.heap.objs.size<=it) (h2:∀x c,X.env.cells.lookup x=some c->c≠it) (h3:∀p∈X.pn++aA,p.1≠it):Inv X aA σ H {s with heap:=h',toks:=t' }:=by
 have nit:∀b u,H b=some u->b≠it:=λb u e z=>by rw[z,hn]at e;cases e
 refine I.step (g':=s.gens) (d':=s.drawn) (ch:=[it]) (λb hb=>?_) (λb o _ _ hc e _=>k b o (λz=>hc (by simp[z])) e) (λb o _ _ hc e _=>⟨o.slots,k b o (λz=>hc (by simp[z])) e⟩) (λ_ _ _ _ n=>n)
  (λb o hc e=>⟨o,k b o (λz=>hc (by simp[z])) e⟩) (λ_ _ e=>e) (λ_ _ _ e=>e) (λb ps e=>⟨#[],by rw[e];simp⟩) (λm hm=>?_) (λb u e=>?_) I.bare
 ·have e:b=it:=by simpa using hb
  subst e;exact⟨h1,hL,h2,h3⟩
 ·obtain⟨o,es,ep,ho,r⟩:=hm;exact⟨o,es,ep,k _ o (eX hL) ho,r⟩
 ·refine(I.hok b u e).stay (λc v hc q=>k c v ?_ q) (λ_ q=>q) λ_ _ q=>q
  rcases hc with z|z
  ·rw[z];exact nit b u e
  ·exact nit c _ z
theorem Inv.tok(I:Inv X aA σ H s)(t:Nat):Inv X aA σ H {s with toks:=t}:=I.un (h':=s.heap) (t':=t) Un.refl I.hok
theorem Inv.kept(I:Inv X aA σ H s)(k:∀b u,s.heap.get? b=some u->h'.get? b=some u):Inv X aA σ H {s with heap:=h',toks:=t' }:=I.un (Un.kept k) (I.hok.kept k)
theorem Inv.laid(I:Inv X aA σ H s)(k:∀b u,s.heap.get? b=some u->h'.get? b=some u)(hp:s.heap.objs.size<=a)(new:ObjOk X.prog X.w (upd H a o) h' a o) :
  Inv X aA σ (upd H a o) {s with heap:=h',toks:=t' }:=I.un (Un.laid k hp (I.hok.fresh hp)) (I.hok.laid k hp new)
theorem Inv.write(I:Inv X aA σ H s)(mu:Mut (H x))(he:e=x\/H e=some (.own x))(k:∀b u,b≠e->s.heap.get? b=some u->h'.get? b=some u)(heo:∃u,h'.get? e=some u)
  (new:ObjOk X.prog X.w (upd H x o) h' x o):Inv X aA σ (upd H x o) {s with heap:=h',toks:=t' }:=I.un (Un.write mu he k heo) (I.hok.write mu he k heo new)
theorem Inv.weak{σ':List (Option V)}(I:Inv X aA σ H s)(hl:σ'.length=σ.length)(w:∀(i:Nat) v,σ'[i]? = some (some v)->σ[i]? = some (some v)):Inv X aA σ' H s :=
 ⟨I.ok,I.os,I.bare,I.base,let ⟨m,hn,hl'⟩:=I.loc; ⟨m,hn,λi x v e1 e2 e3=>hl' i x v e1 (w i v e2) e3⟩,I.cell,I.free,I.freeC,I.pin,I.hok,hl.trans I.len⟩
theorem Inv.pins_of(I:Inv X aA σ H s)(h:∀p∈pins',s.heap.get? p.1=some p.2/\H p.1=none/\p.1≠X.env.locals/\p.1∉X.fs/\∀v,p.2.data≠.cell v):Inv X pins' σ H s :=
 ⟨I.ok,I.os,I.bare,I.base,I.loc,I.cell,I.free,I.freeC,λp hp=>(aX.mp hp).elim (λz=>I.pin p (cN _ z)) (h p),I.hok,I.len⟩
theorem ad7{N:List Str}(hN:N.Nodup){i j:Nat}(a:N[i]? = some x)(b:N[j]? = some x):i=j:=by
 obtain⟨h1,e1⟩:=av.mp a;obtain⟨h2,e2⟩:=av.mp b;exact(List.getElem_inj hN).mp (e1.trans e2.symm)
abbrev Hf(X:Cx)(x:Str):Prop:=X.fn x=true\/X.env.scope.names.lookup x=some .local
theorem aa6{i:Nat}(I:Inv X aA σ H s)(hN:X.N.Nodup)(hi:X.N[i]? = some x)(hx:Loc X.env.scope x)(r:RelV v u)
  (h:∀s',Inv X aA (σ.set i (some v)) H s'->(∃a,Heap.SameBut a s.heap s'.heap/\(a=X.env.locals\/X.env.cells.lookup x=some a))->Q () s') (hf:Hf X x:=by first|exact .inl rfl|exact .inr rfl|assumption):wpAny M A (storeName X.env x u) Q E s:=by
 obtain⟨m,hn,hl⟩:=id I.loc;have hcls:(X.env.scope.kind == .class || (X.env.scope.kind == .module && X.env.locals != X.env.globals))=false:=by rw[I.ok.kind];rfl
 have hiσ:i<σ.length:=by rw[I.len];exact(av.mp hi).1
 have cne:=I.cne;have tracked:∀{a:Addr} {h':Heap},(∃o,s.heap.get? a=some o/\H a=none)->Heap.SameBut a s.heap h'->HOk X.prog X.w H h':=λ{a h'} ha hs b ob e=>by
  obtain⟨_,_,hfree⟩:=ha;refine(I.hok b ob e).stay (λc w' hc q=>(hs.2 c ?_).trans q) (λ_ q=>q) λ_ _ q=>q
  rintro rfl
  rcases hc with rfl|hc
  ·rw[hfree]at e;cases e
  ·rw[hfree]at hc;cases hc
 rcases hx with hk|hk
 ·refine wpAny_storeName_local hk hn (λh' hn' hs=>?_) hcls;obtain⟨oL,_,_,hoL,_⟩:=id hn;refine h _ ⟨I.ok,I.os,I.bare,⟨λb o e n hb hx=>?_,λb o e n hb hx=>?_,I.base.free,λb o e hx=>?_,I.base.tups,I.base.frzs,I.base.tbls⟩,⟨_,hn',λj y v' e1 e2 e3=>?_⟩,λy c e=>?_,I.free,I.freeC,λp hp=>?_,tracked ⟨oL,hoL,I.free⟩ hs,by simpa using I.len⟩ ⟨_,hs,.inl rfl⟩
  ·exact(hs.2 b (bG (b9 (aS e) I.ok.above))).trans (I.base.keep b o e n hb hx)
  ·obtain⟨sl,e1⟩:=I.base.slot b o e n hb hx;exact⟨sl,(hs.2 b (bG (b9 (aS e) I.ok.above))).trans e1⟩
  ·obtain⟨o',e1⟩:=I.base.there b o e hx;exact⟨o',(hs.2 b (bG (b9 (aS e) I.ok.above))).trans e1⟩
  ·by_cases hj:j=i
   ·subst hj;rw[hi]at e1;cases e1
    rw[cE hiσ]at e2;cases e2
    exact⟨u,r,.inl ⟨hk,by simp⟩⟩
   ·rw[dW (eX hj)]at e2;obtain⟨u',r',q⟩:=hl j y v' e1 e2 e3;refine⟨u',r',?_⟩
    rcases q with⟨k,e⟩|⟨k,c,e,z⟩
    ·refine .inl ⟨k,?_⟩;have:y≠x:=λe=>hj (ad7 hN e1 (e ▸ hi));simp[this,e]
    ·exact .inr ⟨k,c,e,z.sameBut hs (cne y c e)⟩
  ·obtain⟨w',z⟩:=I.cell y c e;exact⟨w',z.sameBut hs (cne y c e)⟩
  ·obtain⟨e,n,ne,nf,d⟩:=I.pin p hp;exact⟨(hs.2 p.1 ne).trans e,n,ne,nf,d⟩
 ·have hfn:X.fn x=true:=by
   rcases hf with z|z
   ·exact z
   ·rw[z]at hk;cases hk
  obtain⟨c,hc⟩:=I.ok.has x (.inl hk);obtain⟨w',z⟩:=I.cell x c hc;refine wpAny_storeName_cell I.ok.kind hk hc z (λh' hc' hs=>?_);obtain⟨oc,hoc,hocd⟩:=id z;refine h {s with heap:=h' } ⟨I.ok,I.os,I.bare,⟨λb o e n hb hx=>?_,λb o e n hb hx=>?_,I.base.free,λb o e hx=>?_,I.base.tups,I.base.frzs,I.base.tbls⟩,⟨m,hn.sameBut hs (eX (cne x c hc)),λj y v' e1 e2 e3=>?_⟩,λy c' e=>?_,I.free,I.freeC,λp hp=>?_,tracked ⟨oc,hoc,I.freeC x c hc⟩ hs,by simpa using I.len⟩ ⟨c,hs,.inr hc⟩
  ·exact(hs.2 b (bG (b9 (aS e) (I.ok.cab x c hfn hc)))).trans (I.base.keep b o e n hb hx)
  ·obtain⟨sl,e1⟩:=I.base.slot b o e n hb hx;exact⟨sl,(hs.2 b (bG (b9 (aS e) (I.ok.cab x c hfn hc)))).trans e1⟩
  ·obtain⟨o',e1⟩:=I.base.there b o e hx;exact⟨o',(hs.2 b (bG (b9 (aS e) (I.ok.cab x c hfn hc)))).trans e1⟩
  ·by_cases hj:j=i
   ·subst hj;rw[hi]at e1;cases e1
    rw[cE hiσ]at e2;cases e2
    exact⟨u,r,.inr ⟨.inl hk,c,hc,hc'⟩⟩
   ·rw[dW (eX hj)]at e2;obtain⟨u',r',q⟩:=hl j y v' e1 e2 e3;refine⟨u',r',?_⟩
    rcases q with q|⟨k,c',e,z'⟩
    ·exact .inl q
    ·refine .inr ⟨k,c',e,z'.sameBut hs ?_⟩
     rintro rfl
     exact hj (ad7 hN e1 (I.ok.inj _ _ _ e hc ▸ hi))
  ·by_cases hcc:c'=c
   ·subst hcc;exact⟨_,hc'⟩
   ·obtain⟨w2,z2⟩:=I.cell y c' e;exact⟨w2,z2.sameBut hs hcc⟩
  ·obtain⟨e,n,ne,nf,d⟩:=I.pin p hp;refine⟨(hs.2 p.1 ?_).trans e,n,ne,nf,d⟩
   intro q
   rw[q,hoc]at e;have q':oc=p.2:=bQ e;exact d w' (by rw[<-q'];exact hocd)
theorem a8h(I:Inv X aA σ H s)(hN:X.N.Nodup)(hi:X.N[i]? = some x)(hx:Loc X.env.scope x)(r:RelV v u)
  (h:∀s',Inv X aA (σ.set i (some v)) H s'->Q () s') (hf:Hf X x:=by first|exact .inl rfl|exact .inr rfl|assumption):wpAny M A (storeName X.env x u) Q E s :=
 aa6 I hN hi hx r (λs' I' _=>h s' I') hf
end
abbrev XK:=Value->Option Addr->Hp->Prop
abbrev St:=List (Option V)
abbrev VK:=V->Hp->Prop
abbrev TE:=St->Hp->VK->Prop
abbrev TT:=St->Hp->(Bool->Hp->Prop)->Prop
abbrev TA:=St->Hp->(List V->Hp->Prop)->Prop
structure Ends where
 nx:St->Hp->Prop
 rt:VK
 bk:St->Hp->Prop:=λ_ _=>False
 ct:St->Hp->Prop:=λ_ _=>False
abbrev TS:=Ends->St->Hp->Prop
def EP(X:Cx)(aA:List (Addr×Obj))(σ:St)(Q:VK)(u:Value)(s':Shared):Prop:=∃v H',Inv X aA σ H' s'/\RelV v u/\Q v H'
def TP(X:Cx)(aA:List (Addr×Obj))(σ:St)(Q:Bool->Hp->Prop)(b:Bool)(s':Shared):Prop:=∃H',Inv X aA σ H' s'/\Q b H'
def AP(X:Cx)(aA:List (Addr×Obj))(σ:St)(Q:List V->Hp->Prop)(us:List Value)(s':Shared):Prop:=∃vs H',Inv X aA σ H' s'/\Vals vs us/\Q vs H'
def SP(X:Cx)(aA:List (Addr×Obj))(D:Ends)(f:Flow)(s':Shared):Prop :=
 match f with
 |.next=>∃σ' H',Inv X aA σ' H' s'/\D.nx σ' H'
 |.brk=>∃σ' H',Inv X aA σ' H' s'/\D.bk σ' H'
 |.cont=>∃σ' H',Inv X aA σ' H' s'/\D.ct σ' H'
 |.ret u=>∃v σ' H',Inv X aA σ' H' s'/\RelV v u/\D.rt v H'
def PE(X:Cx)(e:Expr)(t:TE):Prop :=
 ∀(aA:List (Addr×Obj)) (s:Shared) (σ:St) (H:Hp) (Q:VK),Inv X aA σ H s->t σ H Q->wpAny (model X.prog X.w) X.A (eval e X.env) (EP X aA σ Q) X.xe s
def PT(X:Cx)(e:Expr)(t:TT):Prop :=
 ∀(aA:List (Addr×Obj)) (s:Shared) (σ:St) (H:Hp) (Q:Bool->Hp->Prop),Inv X aA σ H s->t σ H Q->wpAny (model X.prog X.w) X.A (isTrue e X.env (eval e X.env)) (TP X aA σ Q) X.xe s
def PW(X:Cx)(e:Expr)(t:TT):Prop :=
 ∀(whole:Sem Value) (aA:List (Addr×Obj)) (s:Shared) (σ:St) (H:Hp) (Q:Bool->Hp->Prop),Inv X aA σ H s->t σ H Q->wpAny (model X.prog X.w) X.A (isTrue e X.env whole) (TP X aA σ Q) X.xe s
theorem PW.pt(h:PW X e t):PT X e t:=h _
def PA(X:Cx)(es:List Expr)(t:TA):Prop :=
 ∀(pos:Pos) (aA:List (Addr×Obj)) (s:Shared) (σ:St) (H:Hp) (Q:List V->Hp->Prop),Inv X aA σ H s->t σ H Q->wpAny (model X.prog X.w) X.A (spliced (backTo pos (starEach es X.env))) (AP X aA σ Q) X.xe s
def PS(X:Cx)(st:Stmt)(t:TS):Prop :=
 ∀(aA:List (Addr×Obj)) (s:Shared) (σ:St) (H:Hp) (D:Ends),Inv X aA σ H s->t D σ H->wpAny (model X.prog X.w) X.A (exec st X.env) (SP X aA D) X.xe s
def PSs(X:Cx)(st:List Stmt)(t:TS):Prop :=
 ∀(aA:List (Addr×Obj)) (s:Shared) (σ:St) (H:Hp) (D:Ends),Inv X aA σ H s->t D σ H->wpAny (model X.prog X.w) X.A (execs st X.env) (SP X aA D) X.xe s
theorem thn{α:Type}{t:Sem α}{Q Q':α->Shared->Prop}{M:Model}{A:Around}{E:Value->Shared->Prop}{s:Shared}(h:wpAny M A t Q E s)(hQ:∀a s,Q a s->Q' a s):wpAny M A t Q' E s:=bI h hQ λ_ _ x=>x
section
variable{X:Cx}
def azu(i:Nat):TE:=λσ H Q=>∃v,σ[i]? = some (some v)/\Q v H
def tC(v:V):TE:=λ_ H Q=>Q v H
theorem ars(hN:X.N[i]? = some x)(hv:Vis X.env.scope x)(hd:(x == ("__debug__" : Str))=false:=by decide)(hcd:(x == ("__classdict__" : Str))=false:=by decide):PE X (.Name x pos) (azu i):=by
 intro aA s σ H Q I h
 obtain⟨v,e,h⟩:=h;obtain⟨m,hn,hl⟩:=I.loc;obtain⟨u,r,l⟩:=hl i x v hN e hv;have fin:EP X aA σ Q u s:=⟨v,H,I,r,h⟩
 rcases l with⟨hk,hm⟩|⟨hk,c,hc,hcell⟩
 ·exact wpAny_Name (wpAny_loadName_local I.ok.kind hk hn hm fin) hd
 ·rcases hk with hk|hk
  ·exact wpAny_Name (wpAny_loadName_cell I.ok.kind hk hc hcell fin) hd
  ·exact wpAny_Name (wpAny_loadName_free I.ok.kind hk hc hcell fin hcd) hd
theorem art{i j pos}:PE X (.Constant (.int i) j pos) (tC (.int i)):=λ_ _ _ H _ I h=>wpAny_Constant_int ⟨.int i,H,I.tok _,⟨_,rfl⟩,h⟩
theorem awx{b j pos}:PE X (.Constant (.bool b) j pos) (tC (.bl b)):=λ_ _ _ H _ I h=>Constant_bool ⟨.bl b,H,I,rfl,h⟩
theorem aru{x j pos}:PE X (.Constant (.str x) j pos) (tC (.str x)):=λ_ _ _ H _ I h=>Calls.Constant_str ⟨.str x,H,I.tok _,⟨_,rfl⟩,h⟩
def Gl(X:Cx)(x:Str):Prop:=X.env.kindOf x=some .globalImplicit
theorem a8i(I:Inv X aA σ H s)(hg:Gl X x)(hm:X.mg x=some u)(h:Q u s)
  (hd:(x == ("__debug__" : Str))=false:=by decide):wpAny (model X.prog X.w) X.A (eval (.Name x pos) X.env) Q E s :=
 Calls.Name_function_global I.ok.kind hg (Calls.loadGlobal_global (by rw[I.ok.glob];exact I.mod.glob.keeps I.bk) hm h) hd
theorem a5w(I:Inv X aA σ H s)(hg:Gl X x)(hm:X.mg x=none)(hv:bootBuiltins x=some u)(h:Q u s)
  (hn:x ≠ "__name__":=by decide) (hd:(x == ("__debug__" : Str))=false:=by decide):wpAny (model X.prog X.w) X.A (eval (.Name x pos) X.env) Q E s:=by
 obtain⟨mb,h1,h2⟩:=I.mod.blt;exact Calls.Name_function_global I.ok.kind hg (Calls.loadGlobal_builtin (by rw[I.ok.glob];exact I.mod.glob.keeps I.bk) hm (by rw[I.ok.blt];exact h1.keeps I.bk) ((h2 x hn).trans hv) h) hd
theorem ao7(hg:Gl X x)(hm:X.mg x=some u)(r:RelV v u)(hd:(x == ("__debug__" : Str))=false:=by decide):PE X (.Name x pos) (tC v) :=
 λ_ _ _ H _ I h=>a8i I hg hm ⟨v,H,I,r,h⟩ hd
variable{a b:Expr}{ta tb:TE}{pos:Pos}
variable{tA tB':TT}{aG:List Expr}
def azv(t u:TT):TT:=λσ H Q=>t σ H λc H1=>if c=true then u σ H1 Q else Q false H1
def tOr(t u:TT):TT:=λσ H Q=>t σ H λc H1=>if c=true then Q true H1 else u σ H1 Q
theorem ao8(ha:PT X a tA):PW X (.BoolOp .And [a] pos) tA:=by
 intro wh aA s σ H Q I h
 refine isTrue_and (thn (ha aA s σ H Q I h) λc s1 e=>?_)
 cases c with
 |true=>exact isTrue_and_nil e
 |false=>exact e
theorem arv(ha:PT X a tA):PW X (.BoolOp .Or [a] pos) tA:=by
 intro wh aA s σ H Q I h
 refine isTrue_or (thn (ha aA s σ H Q I h) λc s1 e=>?_)
 cases c with
 |false=>exact isTrue_or_nil e
 |true=>exact e
theorem arw(ha:PT X a tA)(hb:PW X (.BoolOp .And (b::aG) pos) tB'):PW X (.BoolOp .And (a::b::aG) pos) (azv tA tB'):=by
 intro wh aA s σ H Q I h
 refine isTrue_and (thn (ha aA s σ H _ I h) λc s1 ⟨H1,I1,q1⟩=>?_)
 cases c with
 |true=>exact hb wh aA s1 σ H1 Q I1 q1
 |false=>exact⟨H1,I1,q1⟩
theorem awy(ha:PT X a tA)(hb:PW X (.BoolOp .Or (b::aG) pos) tB'):PW X (.BoolOp .Or (a::b::aG) pos) (tOr tA tB'):=by
 intro wh aA s σ H Q I h
 refine isTrue_or (thn (ha aA s σ H _ I h) λc s1 ⟨H1,I1,q1⟩=>?_)
 cases c with
 |true=>exact⟨H1,I1,q1⟩
 |false=>exact hb wh aA s1 σ H1 Q I1 q1
def awz(ta tb:TE):TE:=λσ H Q=>ta σ H λx H1=>∃c,x=.bl c/\if c=true then tb σ H1 Q else Q (.bl false) H1
def azw(ta tb:TE):TE:=λσ H Q=>ta σ H λx H1=>∃c,x=.bl c/\if c=true then Q (.bl true) H1 else tb σ H1 Q
theorem arx{op}(h:PE X a t):PE X (.BoolOp op [a] pos) t:=λaA s σ H Q I hw=>BoolOp_one (h aA s σ H Q I hw)
theorem arz(ha:PE X a ta)(hb:PE X (.BoolOp .And (b::aG) pos) tb):PE X (.BoolOp .And (a::b::aG) pos) (awz ta tb):=by
 intro aA s σ H Q I h
 refine BoolOp_and (thn (ha aA s σ H _ I h) λv s1 ⟨x,H1,I1,r1,q1⟩=>?_);obtain⟨c,rfl,q1⟩:=q1;cases r1
 refine fD ?_
 cases c with
 |true=>exact hb aA s1 σ H1 Q I1 q1
 |false=>exact⟨.bl false,H1,I1,rfl,q1⟩
theorem ax0(ha:PE X a ta)(hb:PE X (.BoolOp .Or (b::aG) pos) tb):PE X (.BoolOp .Or (a::b::aG) pos) (azw ta tb):=by
 intro aA s σ H Q I h
 refine BoolOp_or (thn (ha aA s σ H _ I h) λv s1 ⟨x,H1,I1,r1,q1⟩=>?_);obtain⟨c,rfl,q1⟩:=q1;cases r1
 refine fD ?_
 cases c with
 |false=>exact hb aA s1 σ H1 Q I1 q1
 |true=>exact⟨.bl true,H1,I1,rfl,q1⟩
def tIf(t:TT)(ta tb:TE):TE:=λσ H Q=>t σ H λc H1=>if c=true then ta σ H1 Q else tb σ H1 Q
theorem ajy{c:Expr}(hc:PT X c tA)(ha:PE X a ta)(hb:PE X b tb):PE X (.IfExp c a b pos) (tIf tA ta tb):=by
 intro aA s σ H Q I h
 refine wpAny_IfExp (thn (hc aA s σ H _ I h) λd s1 ⟨H1,I1,q1⟩=>?_)
 cases d with
 |true=>exact ha aA s1 σ H1 Q I1 q1
 |false=>exact hb aA s1 σ H1 Q I1 q1
end
def SqL(K:Fg)(H:Hp)(a:Addr)(xs:List V):Prop :=
 Rd H a (.lst xs) \/
  ∃(o:Obj) (its:Array Value) (n:Nat),K.lookup a=some o/\o.cls=.type "list"/\o.dict=none/\o.data=.seq its n/\its.size<=sizeLine/\Vals xs its.toList
def SqT(K:Fg)(H:Hp)(a:Addr)(xs:List V):Prop :=
 Rd H a (.tup xs) \/
  ∃(o:Obj) (its:Array Value) (n:Nat),K.lookup a=some o/\o.cls=.type "tuple"/\o.data=.seq its n/\its.size<=sizeLine/\Vals xs its.toList
def azx:Value->Option V
 |.none=>some .non
 |.bool b=>some (.bl b)
 |.int i _=>some (.int i)
 |.str x _=>some (.str x)
 |.bytes b _=>some (.byt b)
 |.float b _=>some (.flt b)
 |.ref a=>some (.ref a)
 |.type n=>some (.ty n)
 |_=>none
theorem RelV.abs(r:RelV x u):azx u=some x:=by
 cases x with
 |non=>cases r;rfl
 |bl _=>cases r;rfl
 |int _=>obtain⟨t,rfl⟩:=r;rfl
 |str _=>obtain⟨t,rfl⟩:=r;rfl
 |byt _=>obtain⟨t,rfl⟩:=r;rfl
 |flt _=>obtain⟨t,rfl⟩:=r;rfl
 |ref _=>cases r;rfl
 |ty _=>cases r;rfl
theorem RelV.inj(r:RelV x u)(q:RelV y u):x=y:=bQ (r.abs.symm.trans q.abs)
theorem Vals.inj:∀{xs ys:List V} {us:List Value},Vals xs us->Vals ys us->xs=ys
 |_,_,_,.nil,.nil=>rfl
 |_,_,_,.cons r t,.cons r' t'=>by rw[r.inj r',Vals.inj t t']
section
variable{X:Cx}{aA:List (Addr×Obj)}{σ:St}{H:Hp}{s:Shared}{a:Addr}{xs ys:List V}
theorem SqL.of{K:Fg}(h:H a=some (.lst xs)):SqL K H a xs:=.inl (.inl h)
theorem SqT.of{K:Fg}(h:H a=some (.tup xs)):SqT K H a xs:=.inl (.inl h)
theorem Inv.list(I:Inv X aA σ H s)(h:SqL X.K H a xs):∃its:List Value,Vals xs its/\PlainL s.heap a its.toArray/\xs.length<=sizeLine:=by
 rcases h with h|⟨o,its,n,hk,hc,hd,hs,hz,r⟩
 ·obtain⟨z,its,n,r,e⟩:=h.ok I.hok;exact⟨its,r,⟨_,n,e,rfl,rfl,rfl⟩,z⟩
 ·refine⟨its.toList,r,⟨o,n,I.kIn a o hk,hc,hd,by simpa using hs⟩,?_⟩
  have e:=r.length;simp only[bB]at e;omega
theorem Inv.tuple(I:Inv X aA σ H s)(h:SqT X.K H a xs):∃its:List Value,Vals xs its/\IsTup s.heap a its.toArray/\xs.length<=sizeLine:=by
 rcases h with h|⟨o,its,n,hk,hc,hs,hz,r⟩
 ·obtain⟨z,its,r,p⟩:=h.ok I.hok;exact⟨its,r,p,z⟩
 ·refine⟨its.toList,r,⟨o,I.kIn a o hk,hc,n,by simpa using hs⟩,?_⟩
  have e:=r.length;simp only[bB]at e;omega
theorem Inv.list_inj(I:Inv X aA σ H s)(h:SqL X.K H a xs)(h':SqL X.K H a ys):xs=ys:=by
 obtain⟨its,r,⟨o,n,e,_,_,d⟩,_⟩:=I.list h;obtain⟨its',r',⟨o',n',e',_,_,d'⟩,_⟩:=I.list h';rw[e]at e';cases e'
 rw[d]at d'
 injection d' with d1 _
 have:its=its':=by simpa using aK Array.toList d1
 subst this;exact r.inj r'
theorem Inv.tuple_inj(I:Inv X aA σ H s)(h:SqT X.K H a xs)(h':SqT X.K H a ys):xs=ys:=by
 obtain⟨its,r,⟨o,e,_,n,d⟩,_⟩:=I.tuple h;obtain⟨its',r',⟨o',e',_,n',d'⟩,_⟩:=I.tuple h';rw[e]at e';cases e'
 rw[d]at d'
 injection d' with d1 _
 have:its=its':=by simpa using aK Array.toList d1
 subst this;exact r.inj r'
end
abbrev Cx.wish(X:Cx)(E:Value->Shared->Prop):Cx:={X with xe:=E}
abbrev Cx.nox(X:Cx):Cx:=X.wish λ_ _=>False
theorem Cx.Ok.wish{X:Cx}(ok:X.Ok)(E:Value->Shared->Prop):(X.wish E).Ok :=
 ⟨ok.mod,ok.kind,ok.glob,ok.blt,ok.above,ok.inj,ok.has,ok.cab,ok.hd,ok.frames,ok.stk,ok.exf,ok.bs,ok.bsz,ok.noex,ok.exfs,ok.funs,ok.frf⟩
theorem Cx.Ok.unwish{X:Cx}(ok:(X.wish E).Ok):X.Ok :=
 ⟨ok.mod,ok.kind,ok.glob,ok.blt,ok.above,ok.inj,ok.has,ok.cab,ok.hd,ok.frames,ok.stk,ok.exf,ok.bs,ok.bsz,ok.noex,ok.exfs,ok.funs,ok.frf⟩
section
variable{X:Cx}{aA:List (Addr×Obj)}{σ:St}{H:Hp}{s:Shared}{E:Value->Shared->Prop}
theorem Inv.wish(I:Inv X aA σ H s)(E:Value->Shared->Prop):Inv (X.wish E) aA σ H s:=⟨I.ok.wish E,I.os,I.bare,I.base,I.loc,I.cell,I.free,I.freeC,I.pin,I.hok,I.len⟩
theorem Inv.unwish(I:Inv (X.wish E) aA σ H s):Inv X aA σ H s:=⟨I.ok.unwish,I.os,I.bare,I.base,I.loc,I.cell,I.free,I.freeC,I.pin,I.hok,I.len⟩
theorem SP.unwish(h:SP (X.wish E) aA D f s'):SP X aA D f s':=by
 cases f with
 |next=>obtain⟨σ',H',I,q⟩:=h;exact⟨σ',H',I.unwish,q⟩
 |brk=>obtain⟨σ',H',I,q⟩:=h;exact⟨σ',H',I.unwish,q⟩
 |cont=>obtain⟨σ',H',I,q⟩:=h;exact⟨σ',H',I.unwish,q⟩
 |ret u=>obtain⟨v,σ',H',I,r,q⟩:=h;exact⟨v,σ',H',I.unwish,r,q⟩
theorem PSs.nox{st:List Stmt}{t:TS}(h:PSs X.nox st t):PSs X st t:=λaA s σ H D I hw =>
 bI (h aA s σ H D (I.wish _) hw) (λ_ _ q=>q.unwish) λ_ _ z=>False.elim z
end
section
variable{X:Cx}{st:Stmt}{aG:List Stmt}{t u:TS}{e:Expr}{te:TE}{pos:Pos}
def ax1:TS:=λD σ H=>D.nx σ H
def azy(t u:TS):TS:=λD σ H=>t {D with nx:=u D} σ H
theorem ao9:PSs X [] ax1:=λ_ _ σ H _ I h=>fT ⟨σ,H,I,h⟩
theorem ajz(h1:PS X st t)(h2:PSs X aG u):PSs X (st::aG) (azy t u):=by
 intro aA s σ H D I h
 refine wpAny_execs_cons (thn (h1 aA s σ H {D with nx:=u D} I h) λf s1 q=>?_)
 cases f with
 |next =>
  obtain⟨σ',H',I',q⟩:=q;exact h2 aA s1 σ' H' D I' q
 |ret v=>exact q
 |brk=>exact q
 |cont=>exact q
theorem aoa(h1:PS X st t):PSs X [st] t:=by
 intro aA s σ H D I h
 refine wpAny_execs_cons (thn (h1 aA s σ H D I h) λf s1 q=>?_)
 cases f with
 |next=>exact fT q
 |ret v=>exact q
 |brk=>exact q
 |cont=>exact q
theorem Inv.quiet(I:Inv X aA σ H s):interactive X.env=false:=by simp[interactive,I.ok.kind]
def ax2(te:TE):TS:=λD σ H=>te σ H λ_ H1=>D.nx σ H1
theorem aob(he:PE X e te)(hs:swapsWith e none pos.line X.env=pure false:=by rfl):PS X (.Expr e pos) (ax2 te):=by
 intro aA s σ H D I h
 exact wpAny_Expr_any (thn (he aA s σ H _ I h) λv s1 ⟨x,H1,I1,r1,q1⟩=>⟨σ,H1,I1,q1⟩) I.quiet hs
def azz(te:TE):TS:=λD σ H=>te σ H D.rt
theorem as3(he:PE X e te):PS X (.Return (some e) pos) (azz te):=by
 intro aA s σ H D I h
 exact wpAny_Return_some (thn (he aA s σ H _ I h) λv s1 ⟨x,H1,I1,r1,q1⟩=>⟨x,σ,H1,I1,r1,q1⟩)
def b00(c:TT)(t u:TS):TS:=λD σ H=>c σ H λb H1=>if b=true then t D σ H1 else u D σ H1
theorem ax3{c:Expr}{a b:List Stmt}{tc:TT}(hc:PT X c tc)(ha:PSs X a t)(hb:PSs X b u):PS X (.If c a b pos) (b00 tc t u):=by
 intro aA s σ H D I h
 refine wpAny_If (thn (hc aA s σ H _ I h) λd s1 ⟨H1,I1,q1⟩=>?_)
 cases d with
 |true=>exact ha aA s1 σ H1 D I1 q1
 |false=>exact hb aA s1 σ H1 D I1 q1
end
abbrev TG:=V->St->Hp->(St->Hp->Prop)->Prop
abbrev TGs:=List V->St->Hp->(St->Hp->Prop)->Prop
def PG(X:Cx)(target:Expr)(t:TG):Prop :=
 ∀(aA:List (Addr×Obj)) (s:Shared) (σ:St) (H:Hp) (v:V) (u:Value) (Q:St->Hp->Prop),Inv X aA σ H s->RelV v u->t v σ H Q->
  wpAny (model X.prog X.w) X.A (assign target X.env u) (λ_ s'=>∃σ' H',Inv X aA σ' H' s'/\Q σ' H') X.xe s
def PGs(X:Cx)(ts:List Expr)(t:TGs):Prop :=
 ∀(aA:List (Addr×Obj)) (s:Shared) (σ:St) (H:Hp) (vs:List V) (us:List Value) (Q:St->Hp->Prop),Inv X aA σ H s->Vals vs us->t vs σ H Q->
  wpAny (model X.prog X.w) X.A (assignInOrder ((assignEach ts X.env).map (·.2)) us) (λ_ s'=>∃σ' H',Inv X aA σ' H' s'/\Q σ' H') X.xe s
abbrev as4:=V->V->V->Hp->(Hp->Prop)->Prop
def ax4(X:Cx)(t:as4):Prop :=
 ∀(aA:List (Addr×Obj)) (s:Shared) (σ:St) (H:Hp) (o i v:V) (ov iv u:Value) (Q:Hp->Prop),Inv X aA σ H s->RelV o ov->RelV i iv->RelV v u->t o i v H Q->
  wpAny (model X.prog X.w) X.A (setItem ov iv u) (λ_ s'=>∃H',Inv X aA σ H' s'/\Q H') X.xe s
abbrev TIp:=V->V->Hp->VK->Prop
def PIp(X:Cx)(op:Operator)(t:TIp):Prop :=
 ∀(aA:List (Addr×Obj)) (s:Shared) (σ:St) (H:Hp) (x y:V) (v u:Value) (Q:VK),Inv X aA σ H s->RelV x v->RelV y u->t x y H Q->
  wpAny (model X.prog X.w) X.A (inplaceOp op v u) (EP X aA σ Q) X.xe s
section
variable{X:Cx}{pos:Pos}
def a0g(i:Nat):TG:=λv σ H Q=>Q (σ.set i (some v)) H
theorem abw(hN:X.N.Nodup)(hi:X.N[i]? = some x)(hx:Loc X.env.scope x)(hf:Hf X x:=by first|exact .inl rfl|exact .inr rfl|assumption):PG X (.Name x pos) (a0g i):=by
 intro aA s σ H v u Q I r h
 exact wpAny_assign_Name (a8h I hN hi hx r (λs' I'=>⟨_,H,I',h⟩) hf)
def ayr:TGs:=λvs σ H Q=>vs=[]/\Q σ H
def ak0(t:TG)(u:TGs):TGs:=λvs σ H Q=>∃v r,vs=v::r/\t v σ H λσ' H'=>u r σ' H' Q
theorem agd:PGs X [] ayr:=by
 intro aA s σ H vs us Q I r h
 obtain⟨e,h⟩:=h;subst e;cases r
 exact assignInOrder_nil ⟨σ,H,I,h⟩
theorem a8j{e:Expr}{es:List Expr}{t:TG}{u:TGs}(h1:PG X e t)(h2:PGs X es u)
  (hs:(assignEach (e::es) X.env).map (·.2)=assign e X.env::(assignEach es X.env).map (·.2):=by rfl):PGs X (e::es) (ak0 t u):=by
 intro aA s σ H vs us Q I r h
 obtain⟨v,vr,e1,h⟩:=h;subst e1
 cases r with
 |cons r rr =>
  rw[hs];refine assignInOrder_cons (thn (h1 aA s σ H _ _ _ I r h) λ_ s1 ⟨σ1,H1,I1,q1⟩=>?_);exact h2 aA s1 σ1 H1 _ _ Q I1 rr q1
def yg(K:Fg)(n:Nat)(t:TGs):TG:=λv σ H Q=>∃a xs,v=.ref a/\SqT K H a xs/\xs.length=n/\t xs σ H Q
theorem aml(hc:X.calm=true)(h:PGs X es t)
  (hn:(assignEach es X.env).length=n:=by rfl) (hst:(assignEach es X.env).findIdx? (·.1)=none:=by rfl):PG X (.Tuple es k pos) (yg X.K n t):=by
 intro aA s σ H v u Q I r hw
 obtain⟨a,xs,e1,hq,hl,hw⟩:=hw;subst e1;cases r
 obtain⟨its,rv,ht,hz⟩:=I.tuple hq;refine assign_Tuple_tuple (I.ok.hd hc) ht (by simp[hn,<-hl,rv.length]) hst λh' hx=>?_
 have I1:Inv X aA σ H {s with heap:=h' }:=I.kept (t':=s.toks) λb o e=>hx b o (bG (aS e)) e
 exact h aA _ σ H xs _ Q I1 (by simpa using rv) hw
def a8k(to ti:TE)(t:as4):TG:=λv σ H Q=>to σ H λo H1=>ti σ H1 λi H2=>t o i v H2 λH3=>Q σ H3
theorem as5{o i:Expr}{to ti:TE}{t:as4}(ho:PE X o to)(hi:PE X i ti)(hs:ax4 X t)
  (ha:∀v,assign (.Subscript o i pos) X.env v=(do
   let ov <-holding [v] (eval o X.env)
   let iv <-holding [v,ov] (eval i X.env)
   standAt pos
   holding [v,ov,iv] (setItem ov iv v)
   release [v,ov,iv] []):=by intro _;rfl):PG X (.Subscript o i pos) (a8k to ti t):=by
 intro aA s σ H v u Q I r h
 rw[ha];refine af (cK (thn (ho aA s σ H _ I h) λov s1 ⟨x,H1,I1,r1,q1⟩=>?_));refine af (cK (thn (hi aA s1 σ H1 _ I1 q1) λiv s2 ⟨y,H2,I2,r2,q2⟩=>?_));refine af (dO (af (cK (thn (hs aA s2 σ H2 x y v ov iv u _ I2 r1 r2 r q2) λ_ s3 ⟨H3,I3,q3⟩=>?_))));exact wpAny_release ⟨σ,H3,I3,q3⟩
def awd(te:TE)(g:TG):TS:=λD σ H=>te σ H λx H1=>g x σ H1 D.nx
theorem as6{tg e:Expr}{te:TE}{g:TG}(he:PE X e te)(hg:PG X tg g)(hs:swapsWithSole [tg] e pos.line X.env=pure false:=by rfl)(hw:swappedStores [tg] e X.env=pure none:=by rfl)
  (h1:(assignEach [tg] X.env).map (·.2)=[assign tg X.env]:=by rfl):PS X (.Assign [tg] e pos) (awd te g):=by
 intro aA s σ H D I h
 refine wpAny_Assign_stores (thn (he aA s σ H _ I h) λv s1 ⟨x,H1,I1,r1,q1⟩=>?_) hs hw;rw[h1];exact thn (hg aA s1 σ H1 x v _ I1 r1 q1) λ_ s2 q=>q
theorem as7{i:Nat}{x:Str}{e:Expr}{te:TE}{pos':Pos}(hN:X.N.Nodup)(hi:X.N[i]? = some x)(hx:Loc X.env.scope x)(he:PE X e te)(hs:swapsWith e (some (.Name x pos')) pos.line X.env=pure false:=by rfl)(hf:Hf X x:=by first|exact .inl rfl|exact .inr rfl|assumption) :
  PS X (.Assign [.Name x pos'] e pos) (awd te (a0g i)):=by
 intro aA s σ H D I h
 refine wpAny_Assign_Name (thn (he aA s σ H _ I h) λv s1 ⟨y,H1,I1,r1,q1⟩=>?_) hs;exact a8h I1 hN hi hx r1 (λs2 I2=>⟨_,H1,I2,q1⟩) hf
def b01(i:Nat)(te:TE)(ti:TIp):TS:=λD σ H=>∃x,σ[i]? = some (some x)/\te σ H λy H1=>ti x y H1 λz H2=>D.nx (σ.set i (some z)) H2
theorem as8{i:Nat}{x:Str}{e:Expr}{te:TE}{op:Operator}{ti:TIp}{pos':Pos}(hN:X.N.Nodup)(hi:X.N[i]? = some x)(hx:Loc X.env.scope x)(he:PE X e te)(ho:PIp X op ti)(hf:Hf X x:=by first|exact .inl rfl|exact .inr rfl|assumption) :
  PS X (.AugAssign (.Name x pos') op e pos) (b01 i te ti):=by
 intro aA s σ H D I h
 obtain⟨v,e1,h⟩:=h;obtain⟨m,hn,hl⟩:=I.loc;have vis:Vis X.env.scope x:=by rcases hx with k|k;exact .inl k;exact .inr (.inl k)
 obtain⟨u,r,l⟩:=hl i x v hi e1 vis;refine wpAny_AugAssign_Name ?_;have go:wpAny (model X.prog X.w) X.A (eval e X.env) (λw s₂=>wpAny (model X.prog X.w) X.A (inplaceOp op u w) (λr s₃=>wpAny (model X.prog X.w) X.A (storeName X.env x r) (λ_=>SP X aA D .next) X.xe s₃) X.xe s₂) X.xe s:=by
  refine thn (he aA s σ H _ I h) ?_
  rintro w s1 ⟨y,H1,I1,r1,q1⟩
  refine thn (ho aA s1 σ H1 v y u w _ I1 r r1 q1) ?_
  rintro z s2 ⟨zv,H2,I2,r2,q2⟩
  exact a8h I2 hN hi hx r2 (λs3 I3=>⟨_,H2,I3,q2⟩) hf
 rcases l with⟨hk,hm⟩|⟨hk,c,hc,hcell⟩
 ·exact wpAny_loadName_local I.ok.kind hk hn hm go
 ·rcases hk with hk|hk
  ·exact wpAny_loadName_cell I.ok.kind hk hc hcell go
  ·rcases hx with k|k
   ·have:X.env.scope.names.lookup x=some .free:=hk
    rw[k]at this;cases this
   ·have:X.env.scope.names.lookup x=some .free:=hk
    rw[k]at this;cases this
def ax5(to ti te:TE)(tget:V->V->Hp->VK->Prop)(tip:TIp)(tset:as4):TS:=λD σ H=>to σ H λo H1=>ti σ H1 λi H2=>tget o i H2 λx H3=>te σ H3 λy H4=>tip x y H4 λz H5=>tset o i z H5 λH6=>D.nx σ H6
def ays(X:Cx)(t:V->V->Hp->VK->Prop):Prop :=
 ∀(aA:List (Addr×Obj)) (s:Shared) (σ:St) (H:Hp) (o i:V) (ov iv:Value) (Q:VK),Inv X aA σ H s->RelV o ov->RelV i iv->t o i H Q->
  wpAny (model X.prog X.w) X.A (getItem ov iv) (EP X aA σ Q) X.xe s
theorem aoc{o i e:Expr}{to ti te:TE}{tget:V->V->Hp->VK->Prop}{tip:TIp}{tset:as4}{op:Operator}{tpos:Pos}(ho:PE X o to)(hi:PE X i ti)(hg:ays X tget)(he:PE X e te)(hp:PIp X op tip)(hs:ax4 X tset)
  (ha:∀ov iv new,augStore i ov iv new=(do holding [new,ov,iv] (setItem ov iv new);release [new,ov,iv] [];pure .next):=by intros;rfl):PS X (.AugAssign (.Subscript o i tpos) op e pos) (ax5 to ti te tget tip tset):=by
 intro aA s σ H D I h
 refine wpAny_AugAssign_SubscriptAny (thn (ho aA s σ H _ I h) λov s1 ⟨x1,H1,I1,r1,q1⟩=>?_) ha;refine thn (hi aA s1 σ H1 _ I1 q1) ?_
 rintro iv s2 ⟨x2,H2,I2,r2,q2⟩
 refine thn (hg aA s2 σ H2 x1 x2 ov iv _ I2 r1 r2 q2) ?_
 rintro old s3 ⟨x3,H3,I3,r3,q3⟩
 refine thn (he aA s3 σ H3 _ I3 q3) ?_
 rintro v s4 ⟨x4,H4,I4,r4,q4⟩
 refine thn (hp aA s4 σ H4 x3 x4 old v _ I4 r3 r4 q4) ?_
 rintro new s5 ⟨x5,H5,I5,r5,q5⟩
 exact thn (hs aA s5 σ H5 x1 x2 x5 ov iv new _ I5 r1 r2 r5 q5) λ_ s6 ⟨H6,I6,q6⟩=>⟨σ,H6,I6,q6⟩
end
section
variable{X:Cx}{pos:Pos}
def as9(c:TT)(tb:TS):TS:=λD σ H=>∃W:Nat->St->Hp->Prop,(∃m,W m σ H)/\∀m σ H,W m σ H->
 c σ H λb H1=>if b=true then ∃N:St->Hp->Prop,(∀σ' H',N σ' H'->∃m',m'<m/\W m' σ' H')/\tb {D with nx:=N,ct:=N,bk:=D.nx} σ H1 else D.nx σ H1
theorem ak1{c:Expr}{body:List Stmt}{tc:TT}{tb:TS}(hp:PassesOwn (model X.prog X.w) X.A X.env X.xe)(hc:PT X c tc)(hb:PSs X body tb):PS X (.While c body [] pos) (as9 tc tb):=by
 intro aA s σ H D I h
 obtain⟨W,⟨m0,w0⟩,turn⟩:=h;refine wpAny_While (codeAny_whileLoop (λn s'=>∃σ' H',Inv X aA σ' H' s'/\W n σ' H') ?_ m0 ⟨σ,H,I,w0⟩)
 rintro n s1 ⟨σ1,H1,I1,w1⟩
 refine dX hp (thn (hc aA s1 σ1 H1 _ I1 (turn n σ1 H1 w1)) λb s2 ⟨H2,I2,q2⟩=>?_)
 cases b with
 |true =>
  obtain⟨N,hN,q2⟩:=q2;rw[aN rfl];refine dX hp (thn (hb aA s2 σ1 H2 _ I2 q2) λf s3 q3=>?_)
  cases f with
  |next =>
   obtain⟨σ3,H3,I3,n3⟩:=q3;obtain⟨m',hm,w3⟩:=hN σ3 H3 n3;exact⟨m',hm,σ3,H3,I3,w3⟩
  |cont =>
   obtain⟨σ3,H3,I3,n3⟩:=q3;obtain⟨m',hm,w3⟩:=hN σ3 H3 n3;exact⟨m',hm,σ3,H3,I3,w3⟩
  |brk=>exact q3
  |ret v=>exact q3
 |false =>
  rw[bp aU];exact fT ⟨σ1,H2,I2,q2⟩
end
structure It where
 go:Nat->Hp->Prop
 yld:Nat->Hp->V->Hp->Prop
 stop:Nat->Hp->Prop
def FpOk(X:Cx)(aA:List (Addr×Obj))(H:Hp)(b:Addr):Prop :=
 H b=none/\b≠X.env.locals/\b∉X.fs/\(b∈X.ex\/X.s₀.heap.objs.size<=b)/\(∀x c,X.env.cells.lookup x=some c->c≠b)/\∀p∈X.pn++aA,p.1≠b
theorem Inv.fpOk(I:Inv X aA σ H s)(hb:s.heap.objs.size<=b)(hn:H' b=none):FpOk X aA H' b:=by
 refine⟨hn,Nat.ne_of_gt (b9 I.lt hb),I.nofs hb,.inr (bO I.sz hb),λx c e z=>?_,λp hp z=>?_⟩
 ·obtain⟨v,q⟩:=I.cell x c e;exact absurd (b9 q.lt (by rw[z];exact hb)) (cv _)
 ·exact absurd (b9 (aS (I.pin p hp).1) (by rw[z];exact hb)) (cv _)
structure Turn (P:Program) (w:World) (K:Fg) (tg:Expr) (J:It) (fp:List Addr) (it:Addr) (tn:Nat->Heap->Prop):Prop where
 mem:it∈fp
 obj:∀i h,tn i h->∀b∈fp,∃o,h.get? b=some o/\∀v,o.data≠.cell v
 keep:∀i h h',tn i h->(∀b∈fp,∀o,h.get? b=some o->h'.get? b=some o)->tn i h'
 item:∀(X:Cx),X.prog=P->X.w=w->X.K=K->X.calm=true->∀(i:Nat) (aA:List (Addr×Obj)) (s:Shared) (σ:St) (H:Hp) (E:Value->Shared->Prop),Inv X aA σ H s->(∀b∈fp,FpOk X aA H b)->tn i s.heap->J.go i H->
  wpAny (model P w) X.A (pyNext (.ref it)) (λr s1=>∃u,r=some u /\
   wpAny (model P w) X.A (letOwnedTupleGo tg (.ref it) u) (λ_ s2=>∃x H',Inv X aA σ H' s2/\RelV x u/\J.yld i H x H'/\tn (i+1) s2.heap/\∀b∈fp,H' b=none) E s1) E s
 done:∀(X:Cx),X.prog=P->X.w=w->X.K=K->X.calm=true->∀(i:Nat) (aA:List (Addr×Obj)) (s:Shared) (σ:St) (H:Hp) (E:Value->Shared->Prop),Inv X aA σ H s->(∀b∈fp,FpOk X aA H b)->tn i s.heap->J.stop i H->
  wpAny (model P w) X.A (pyNext (.ref it)) (λr s1=>r=none/\Inv X aA σ H s1) E s
 self:∀(A:Around) (i:Nat) (s:Shared) (Q:Value->Shared->Prop) (E:Value->Shared->Prop),tn i s.heap->Q (.ref it) s->wpAny (model P w) A (pyIter (.ref it)) Q E s
abbrev TI:=St->Hp->(It->Hp->Prop)->Prop
def PIE(X:Cx)(aA:List (Addr×Obj))(σ:St)(tg:Expr)(R:It->Hp->Prop)(itv:Value)(s2:Shared):Prop :=
 ∃(it:Addr) (fp:List Addr) (tn:Nat->Heap->Prop) (J:It) (H':Hp),itv=.ref it/\Inv X aA σ H' s2/\Turn X.prog X.w X.K tg J fp it tn/\tn 0 s2.heap/\(∀b∈fp,FpOk X aA H' b)/\R J H'
def PI(X:Cx)(tg aF:Expr)(wi:TI):Prop :=
 ∀(aA:List (Addr×Obj)) (s:Shared) (σ:St) (H:Hp) (R:It->Hp->Prop),Inv X aA σ H s->wi σ H R->
  wpAny (model X.prog X.w) X.A (eval aF X.env) (λv s1=>wpAny (model X.prog X.w) X.A (pyIter v) (PIE X aA σ tg R) X.xe s1) X.xe s
theorem age{s:Shared}(ho:s.heap.get? it=some o)(hc:o.cls=.type n)(hd:o.data=.fields vs)
  (hn:["enumerate","zip","dict_itemiterator","dict_reverseitemiterator","odict_iterator","itertools.zip_longest","itertools.pairwise"].contains n=false) (hQ:Q () s):wpAny M A (letOwnedTupleGo tg (.ref it) u) Q E s:=by
 unfold letOwnedTupleGo
 cases tg<;>first
  |exact ax hQ
  | (cases u<;>first
    |exact ax hQ
    | (refine af (wpAny_load ho ?_)
       rw[hc,hd];show wpAny M A (if (["enumerate","zip","dict_itemiterator","dict_reverseitemiterator","odict_iterator","itertools.zip_longest","itertools.pairwise"].contains n && vs[0]? == some (rawInt _))=true then _ else _) Q E s
       rw[bp (by intro h;rw[hn,Bool.false_and]at h;cases h)]
       exact ax hQ))
def Itl(K:Fg)(a:Addr):It :=
 ⟨λi H=>∃xs x,SqL K H a xs/\xs[i]? = some x,λi H x H'=>H'=H/\∀xs,SqL K H a xs->xs[i]? = some x,λi H=>∃xs,SqL K H a xs/\xs.length<=i⟩
def Itt(K:Fg)(a:Addr):It :=
 ⟨λi H=>∃xs x,SqT K H a xs/\xs[i]? = some x,λi H x H'=>H'=H/\∀xs,SqT K H a xs->xs[i]? = some x,λi H=>∃xs,SqT K H a xs/\xs.length<=i⟩
def Itr(lo:Int)(n:Nat):It:=⟨λi _=>i<n,λi H x H'=>H'=H/\x=.int (lo+i),λi _=>n<=i⟩
theorem agf{P:Program}{w:World}{K:Fg}{tg:Expr}(a it:Addr):Turn P w K tg (Itl K a) [it] it (λi h=>h.IsListIter it a i) where
 mem:=by simp
 obj:=λi h st b hb=>by
  have e:b=it:=by simpa using hb
  subst e;obtain⟨o,e,c,d⟩:=st;exact⟨o,e,λv z=>by rw[d]at z;cases z⟩
 keep:=λi h h' st k=>st.at λo e=>k it (by simp) o e
 item:=by
  intro X hP hw hK hc i aA s σ H E I hf st hg
  subst hP hw hK;obtain⟨xs,x,hq,hx⟩:=hg;obtain⟨its,rv,p,hz⟩:=I.list hq;obtain⟨u,hu,ru⟩:=rv.get hx;obtain⟨f0,f1,f2,f3,f4,f5⟩:=hf it (by simp)
  refine wpAny_pyNext_list_item st p.isList (x:=u) (by simpa using hu) λh' st' sb=>?_
  have I1:Inv X aA σ H {s with heap:=h' }:=I.turned (t':=s.toks) (λb o hb e=>(sb.2 b hb).trans e) f0 f1 f3 f4 f5
  obtain⟨o,e,c,d⟩:=id st';exact⟨u,rfl,age (s:={s with heap:=h' }) e c d (by decide) ⟨x,H,I1,ru,⟨rfl,λys hy=>by rw[I.list_inj hy hq];exact hx⟩,st',λb hb=>(hf b hb).1⟩⟩
 done:=by
  intro X hP hw hK hc i aA s σ H E I hf st hg
  subst hP hw hK;obtain⟨xs,hq,hx⟩:=hg;obtain⟨its,rv,p,hz⟩:=I.list hq;obtain⟨f0,f1,f2,f3,f4,f5⟩:=hf it (by simp)
  have hl:=rv.length;exact wpAny_pyNext_list_end (I.ok.hd hc) st p.isList (by simp;omega) λh' eb=>⟨rfl,I.turned (t':=s.toks) (λb o hb e=>eb b o hb e) f0 f1 f3 f4 f5⟩
 self:=λ_ _ _ _ _ st h=>wpAny_pyIter_listiter st h
theorem aev{P:Program}{w:World}{K:Fg}{tg:Expr}(a it:Addr):Turn P w K tg (Itt K a) [it] it (λi h=>h.IsTupleIter it a i) where
 mem:=by simp
 obj:=λi h st b hb=>by
  have e:b=it:=by simpa using hb
  subst e;obtain⟨o,e,c,d⟩:=st;exact⟨o,e,λv z=>by rw[d]at z;cases z⟩
 keep:=λi h h' st k=>st.at λo e=>k it (by simp) o e
 item:=by
  intro X hP hw hK hc i aA s σ H E I hf st hg
  subst hP hw hK;obtain⟨xs,x,hq,hx⟩:=hg;obtain⟨its,rv,p,hz⟩:=I.tuple hq;obtain⟨u,hu,ru⟩:=rv.get hx;obtain⟨f0,f1,f2,f3,f4,f5⟩:=hf it (by simp)
  refine wpAny_pyNext_tuple_item st (show s.heap.IsTuple a its.toArray from p) (x:=u) (by simpa using hu) λh' st' sb=>?_
  have I1:Inv X aA σ H {s with heap:=h' }:=I.turned (t':=s.toks) (λb o hb e=>(sb.2 b hb).trans e) f0 f1 f3 f4 f5
  obtain⟨o,e,c,d⟩:=id st';exact⟨u,rfl,age (s:={s with heap:=h' }) e c d (by decide) ⟨x,H,I1,ru,⟨rfl,λys hy=>by rw[I.tuple_inj hy hq];exact hx⟩,st',λb hb=>(hf b hb).1⟩⟩
 done:=by
  intro X hP hw hK hc i aA s σ H E I hf st hg
  subst hP hw hK;obtain⟨xs,hq,hx⟩:=hg;obtain⟨its,rv,p,hz⟩:=I.tuple hq;obtain⟨f0,f1,f2,f3,f4,f5⟩:=hf it (by simp)
  have hl:=rv.length;exact wpAny_pyNext_tuple_end (I.ok.hd hc) st (show s.heap.IsTuple a its.toArray from p) (by simp;omega) λh' eb=>⟨rfl,I.turned (t':=s.toks) (λb o hb e=>eb b o hb e) f0 f1 f3 f4 f5⟩
 self:=λ_ _ _ _ _ st h=>wpAny_pyIter_tupleiter st h
theorem aew{P:Program}{w:World}{K:Fg}{tg:Expr}(it:Addr)(lo:Int)(n:Nat):Turn P w K tg (Itr lo n) [it] it (λi h=>IsRangeIter h it (lo+(i:Nat)*1) ((n:Int)-(i:Nat)) 1) where
 mem:=by simp
 obj:=λi h st b hb=>by
  have e:b=it:=by simpa using hb
  subst e;exact⟨_,st,λv z=>by
   have z':Data.fields _=Data.cell v:=z
   cases z'⟩
 keep:=λi h h' st k=>k it (by simp) _ st
 item:=by
  intro X hP hw hK hc i aA s σ H E I hf st hg
  subst hP hw hK;obtain⟨f0,f1,f2,f3,f4,f5⟩:=hf it (by simp)
  have W:=Walks.range (prog:=X.prog) (w:=X.w) (I.ok.hd hc) it lo 1 n;refine W.item i s _ _ hg st λv h' tk hv st' kk=>?_;obtain⟨t,rfl⟩:=hv;have I1:Inv X aA σ H {s with heap:=h',toks:=tk}:=I.turned (λb o hb e=>kk b o (by simpa using hb) e) f0 f1 f3 f4 f5
  refine⟨_,rfl,age (s:={s with heap:=h',toks:=tk}) (n := "range_iterator") st' rfl rfl (by decide) ⟨.int (lo+i),H,I1,⟨t,?_⟩,⟨rfl,rfl⟩,st',λb hb=>(hf b hb).1⟩⟩
  rw[Int.mul_one]
 done:=by
  intro X hP hw hK hc i aA s σ H E I hf st hg
  subst hP hw hK;obtain⟨f0,f1,f2,f3,f4,f5⟩:=hf it (by simp)
  exact wpAny_pyNext_range_end (I.ok.hd hc) st (by have:n<=i:=hg;omega) λh' eb=>⟨rfl,I.turned (t':=s.toks) (λb o hb e=>eb b o hb e) f0 f1 f3 f4 f5⟩
 self:=λ_ _ _ _ _ st h=>fB st h
section
variable{X:Cx}{tg:Expr}
def ax6(K:Fg)(tl:TE):TI:=λσ H R=>tl σ H λx H1=>∃a,x=.ref a/\(∃xs,SqL K H1 a xs)/\R (Itl K a) H1
def b02(K:Fg)(tl:TE):TI:=λσ H R=>tl σ H λx H1=>∃a,x=.ref a/\(∃xs,SqT K H1 a xs)/\R (Itt K a) H1
theorem agg{l:Expr}{tl:TE}(hl:PE X l tl):PI X tg l (ax6 X.K tl):=by
 intro aA s σ H R I h
 refine thn (hl aA s σ H _ I h) ?_
 rintro v s1 ⟨x,H1,I1,r1,q1⟩
 obtain⟨a,e,⟨xs,hq⟩,q⟩:=q1;subst e;cases r1
 obtain⟨its,rv,p,hz⟩:=I1.list hq;refine gL p.isList ?_;refine⟨s1.heap.objs.size,[s1.heap.objs.size],_,_,H1,rfl,I1.kept (t':=s1.toks) λb o e=>aw _ e,agf a _,⟨_,aT _ rfl,rfl,rfl⟩,λb hb=>?_,q⟩;have e:b=s1.heap.objs.size:=by simpa using hb
 subst e;exact I1.fpOk (ay _) (I1.hok.fresh (ay _))
theorem asa{l:Expr}{tl:TE}(hl:PE X l tl):PI X tg l (b02 X.K tl):=by
 intro aA s σ H R I h
 refine thn (hl aA s σ H _ I h) ?_
 rintro v s1 ⟨x,H1,I1,r1,q1⟩
 obtain⟨a,e,⟨xs,hq⟩,q⟩:=q1;subst e;cases r1
 obtain⟨its,rv,p,hz⟩:=I1.tuple hq;refine gu (show s1.heap.IsTuple a its.toArray from p) ?_
 refine⟨s1.heap.objs.size,[s1.heap.objs.size],_,_,H1,rfl,I1.kept (t':=s1.toks) λb o e=>aw _ e,aev a _,⟨_,aT _ rfl,rfl,rfl⟩,λb hb=>?_,q⟩;have e:b=s1.heap.objs.size:=by simpa using hb
 subst e;exact I1.fpOk (ay _) (I1.hok.fresh (ay _))
theorem ad8{s:Shared}{lo hi:Int}{tk:Nat}(I:Inv X aA σ H s)(h1 : -(2^62)<=lo)(h2:lo<2^62)(h3 : -(2^62)<=hi)(h4:hi<2^62)
  (q:R (Itr lo (hi-lo).toNat) H):wpAny (model X.prog X.w) X.A (pyIter (.ref s.heap.objs.size)) (PIE X aA σ tg R) E {s with heap:=s.heap.push {cls:=.type "range",data:=.fields #[.int lo t,.int hi u,.int 1 v]},toks:=tk}:=by
 refine wpAny_pyIter_range (IsRange.new ..) (small_one h1 h2 h3 h4) ?_;have I1:Inv X aA σ H {s with heap:=s.heap.push {cls:=.type "range",data:=.fields #[.int lo t,.int hi u,.int 1 v]},toks:=tk}:=I.kept λb o e=>aw _ e
 refine⟨(s.heap.push {cls:=.type "range",data:=.fields #[.int lo t,.int hi u,.int 1 v]}).objs.size,[(s.heap.push {cls:=.type "range",data:=.fields #[.int lo t,.int hi u,.int 1 v]}).objs.size],_,_,H,rfl,
  I1.kept (t':=tk) λb o e=>aw _ e,aew _ lo (hi-lo).toNat,?_,λb hb=>?_,q⟩
 ·have e1:lo+((0:Nat):Int)*1=lo:=by simp
  have e2:(((hi-lo).toNat:Nat):Int)-((0:Nat):Int)=Builtin.Range.rangeSize lo hi 1:=by rw[rangeSize_one];split<;>omega
  show IsRangeIter _ _ (lo+((0:Nat):Int)*1) ((((hi-lo).toNat:Nat):Int)-((0:Nat):Int)) 1;rw[e1,e2];exact aT _ rfl
 ·have e:b=(s.heap.push {cls:=.type "range",data:=.fields #[.int lo t,.int hi u,.int 1 v]}).objs.size:=by simpa using hb
  subst e;exact I1.fpOk (ay _) (I1.hok.fresh (ay _))
def ax7(ta:TA):TI:=λσ H R=>ta σ H λvs H1=>∃j:Int,vs=[.int j] /\ -(2^62)<=j/\j<2^62/\R (Itr 0 j.toNat) H1
def ax8(ta:TA):TI:=λσ H R=>ta σ H λvs H1=>∃i j:Int,vs=[.int i,.int j]/\(-(2^62)<=i/\i<2^62 /\ -(2^62)<=j/\j<2^62)/\R (Itr i (j-i).toNat) H1
theorem agh{a:Expr}{ta:TA}{p pos:Pos}(hg:Gl X "range")(hm:X.mg "range" = none)(ha:PA X [a] ta)(hs:starEach [a] X.env=[(false,eval a X.env)]:=by rfl):PI X tg (.Call (.Name "range" p) [a] [] pos) (ax7 ta):=by
 intro aA s σ H R I h
 refine Call_ (a5w I hg hm boot_range (cf (thn (ha pos aA s σ H _ I h) λus s1 ⟨vs,H1,I1,r1,q1⟩=>?_) hs rfl));obtain⟨j,e,q1,q2,q⟩:=q1;subst e
 cases r1 with
 |cons r rr =>
  cases rr
  obtain⟨t,rfl⟩:=r;exact call_range_1 (ad8 I1 (by omega) (by omega) q1 q2 (by simpa using q))
theorem agi{a b:Expr}{ta:TA}{p pos:Pos}(hg:Gl X "range")(hm:X.mg "range" = none)(ha:PA X [a,b] ta)(hs:starEach [a,b] X.env=[(false,eval a X.env),(false,eval b X.env)]:=by rfl)(hs2:starEach [b] X.env=[(false,eval b X.env)]:=by rfl) :
  PI X tg (.Call (.Name "range" p) [a,b] [] pos) (ax8 ta):=by
 intro aA s σ H R I h
 refine Call_ (a5w I hg hm boot_range (cf (thn (ha pos aA s σ H _ I h) λus s1 ⟨vs,H1,I1,r1,q1⟩=>?_) (by rw[hs,hs2]) (by rw[hs2];rfl)))
 obtain⟨i,j,e,⟨q1,q2,q3,q4⟩,q⟩:=q1;subst e
 cases r1 with
 |cons r rr =>
  cases rr with
  |cons r' rr =>
   cases rr
   obtain⟨t,rfl⟩:=r;obtain⟨t',rfl⟩:=r';exact call_range_2 (ad8 I1 q1 q2 q3 q4 q)
def b03(wi:TI)(g:TG)(tb:TS):TS:=λD σ H=>wi σ H λJ H1=>∃W:Nat->Nat->St->Hp->Prop,(∃m,W 0 m σ H1)/\∀i m σ H,W i m σ H->
 (J.stop i H/\D.nx σ H)\/(J.go i H/\∃N:St->Hp->Prop,(∀σ' H',N σ' H'->∃m',m'<m/\W (i+1) m' σ' H')/\∀x H',J.yld i H x H'->g x σ H' λσ2 H2=>tb {D with nx:=N,ct:=N,bk:=D.nx} σ2 H2)
def wk(fp:List Addr)(h:Heap):List (Addr×Obj):=fp.filterMap λb=>(h.get? b).map λo=>(b,o)
theorem jq{h:Heap}(hb:b∈fp)(e:h.get? b=some o):(b,o)∈wk fp h:=gy.mpr ⟨b,hb,by rw[e];rfl⟩
theorem aa7(hp:p∈wk fp h):p.1∈fp/\h.get? p.1=some p.2:=by
 obtain⟨b,hb,e⟩:=gy.mp hp
 cases q:h.get? b with
 |none=>rw[q]at e;cases e
 |some o =>
  rw[q]at e;have e':(b,o)=p:=bQ e;subst e';exact⟨hb,q⟩
theorem Inv.pinned(I:Inv X aA σ H s)(hf:∀b∈fp,FpOk X aA H b)(ho:∀b∈fp,∃o,s.heap.get? b=some o/\∀v,o.data≠.cell v):Inv X (aA++wk fp s.heap) σ H s :=
 I.pins_of λp hp=>(aX.mp hp).elim (λz=>I.pin p (aQ _ z)) λz=>by
  obtain⟨hb,e⟩:=aa7 z;obtain⟨f0,f1,f2,_⟩:=hf p.1 hb;obtain⟨o,e',d⟩:=ho p.1 hb;rw[e]at e';cases e'
  exact⟨e,f0,f1,f2,d⟩
theorem Inv.unpinned(I:Inv X (aA++pl) σ H s):Inv X aA σ H s:=I.pins_of λp hp=>I.pin p (aQ _ (cN _ hp))
theorem asb{aF:Expr}{body:List Stmt}{wi:TI}{g:TG}{tb:TS}{pos:Pos}(hp:PassesOwn (model X.prog X.w) X.A X.env X.xe)(hc:X.calm=true)(hi:PI X tg aF wi)(hg:PG X tg g)(hb:PSs X body tb)
  (hs:∀x,foldedSetIterable aF X.env x=pure x:=by intro _;rfl):PS X (.For tg aF body [] pos) (b03 wi g tb):=by
 intro aA s σ H D I h
 refine wpAny_For (thn (hi aA s σ H _ I h) λv s1 h1=>thn h1 λitv s2 h2=>?_) hs;obtain⟨it,fp,tn,J,H2,e,I2,T,st2,f2,W,⟨m0,w0⟩,turn⟩:=h2;subst e;have stat:∀{H':Hp},(∀b∈fp,H' b=none)->∀b∈fp,FpOk X aA H' b:=λhn b hb=>⟨hn b hb,(f2 b hb).2⟩;refine codeAny_forLoop_any (λn s'=>∃i σ' H',Inv X aA σ' H' s'/\tn i s'.heap/\(∀b∈fp,H' b=none)/\W i n σ' H') ?_ m0 ⟨0,σ,H2,I2,st2,λb hb=>(f2 b hb).1,w0⟩
 rintro n s3 ⟨i,σ3,H3,I3,st3,fr3,w3⟩
 rcases turn i n σ3 H3 w3 with⟨stop,qn⟩|⟨go,N,hN,step⟩
 ·refine dX hp (thn (T.done X rfl rfl rfl hc i aA s3 σ3 H3 X.xe I3 (stat fr3) st3 stop) λr s4 ⟨hr,I4⟩=>?_);subst hr;exact fT ⟨σ3,H3,I4,qn⟩
 ·refine dX hp (thn (T.item X rfl rfl rfl hc i aA s3 σ3 H3 X.xe I3 (stat fr3) st3 go) λr s4 ⟨u,hr,h4⟩=>?_);subst hr;refine dX hp (thn h4 λ_ s5 ⟨x,H5,I5,r5,y5,st5,fr5⟩=>?_);have I5':=I5.pinned (stat fr5) (T.obj _ _ st5);refine dX hp (thn (hg _ s5 σ3 H5 x u _ I5' r5 (step x H5 y5)) λ_ s6 ⟨σ6,H6,I6,q6⟩=>?_);refine dX hp (thn (hb _ s6 σ6 H6 _ I6 q6) λf s7 q7=>?_);have again:∀{σ7:St} {H7:Hp},Inv X (aA++wk fp s5.heap) σ7 H7 s7->N σ7 H7->∃m,m<n/\∃i σ' H',Inv X aA σ' H' s7/\tn i s7.heap/\(∀b∈fp,H' b=none)/\W i m σ' H':=λ{σ7 H7} I7 n7=>by
   obtain⟨m',hm,w7⟩:=hN σ7 H7 n7;refine⟨m',hm,i+1,σ7,H7,I7.unpinned,T.keep _ _ _ st5 λb hb o e=>(I7.pin (b,o) (aQ _ (aQ _ (jq hb e)))).1,λb hb=>?_,w7⟩;obtain⟨o,e,d⟩:=T.obj _ _ st5 b hb;exact(I7.pin (b,o) (aQ _ (aQ _ (jq hb e)))).2.1
  cases f with
  |next=>obtain⟨σ7,H7,I7,n7⟩:=q7;exact again I7 n7
  |cont=>obtain⟨σ7,H7,I7,n7⟩:=q7;exact again I7 n7
  |brk=>obtain⟨σ7,H7,I7,q7⟩:=q7;exact⟨σ7,H7,I7.unpinned,q7⟩
  |ret v=>obtain⟨x7,σ7,H7,I7,r7,q7⟩:=q7;exact⟨x7,σ7,H7,I7.unpinned,r7,q7⟩
end
abbrev R2:=V->V->Hp->VK->Prop
def OpR(X:Cx)(f:Value->Value->Sem Value)(r:R2):Prop :=
 ∀(aA:List (Addr×Obj)) (s:Shared) (σ:St) (H:Hp) (x y:V) (v u:Value) (Q:VK),Inv X aA σ H s->RelV x v->RelV y u->r x y H Q->
  wpAny (model X.prog X.w) X.A (f v u) (EP X aA σ Q) X.xe s
def UnR(X:Cx)(f:Value->Sem Value)(r:V->Hp->VK->Prop):Prop :=
 ∀(aA:List (Addr×Obj)) (s:Shared) (σ:St) (H:Hp) (x:V) (v:Value) (Q:VK),Inv X aA σ H s->RelV x v->r x H Q->
  wpAny (model X.prog X.w) X.A (f v) (EP X aA σ Q) X.xe s
def CallR(X:Cx)(f:Value)(r:List V->Hp->VK->Prop):Prop :=
 ∀(aA:List (Addr×Obj)) (s:Shared) (σ:St) (H:Hp) (xs:List V) (us:List Value) (Q:VK),Inv X aA σ H s->Vals xs us->r xs H Q->
  wpAny (model X.prog X.w) X.A (call f us) (EP X aA σ Q) X.xe s
def b04(X:Cx)(r:V->Hp->(Bool->Hp->Prop)->Prop):Prop :=
 ∀(aA:List (Addr×Obj)) (s:Shared) (σ:St) (H:Hp) (x:V) (v:Value) (Q:Bool->Hp->Prop),Inv X aA σ H s->RelV x v->r x H Q->
  wpAny (model X.prog X.w) X.A (truthy v) (TP X aA σ Q) X.xe s
def tOp(r:R2)(ta tb:TE):TE:=λσ H Q=>ta σ H λx H1=>tb σ H1 λy H2=>r x y H2 Q
def tUn(r:V->Hp->VK->Prop)(ta:TE):TE:=λσ H Q=>ta σ H λx H1=>r x H1 Q
def rI(C:Int->Int->Prop)(g:Int->Int->V):R2:=λx y H Q=>∃i j,x=.int i/\y=.int j/\C i j/\Q (g i j) H
def rI0(g:Int->Int->V):R2:=λx y H Q=>∃i j,x=.int i/\y=.int j/\Q (g i j) H
def rU(g:Int->V):V->Hp->VK->Prop:=λx H Q=>∃i,x=.int i/\Q (g i) H
section
variable{X:Cx}{a b c:Expr}{ta tb tc:TE}{pos:Pos}
theorem ax9(ha:PE X a ta)(hb:PE X b tb){aA:List (Addr×Obj)}{s:Shared}{σ:St}{H:Hp}{R:V->V->Hp->Prop}(I:Inv X aA σ H s)
  (h:ta σ H λx H1=>tb σ H1 λy H2=>R x y H2) {Q:Value->Shared->Prop} {f:Value->Value->Sem Value}
  (hf:∀v u s2 x y H2,Inv X aA σ H2 s2->RelV x v->RelV y u->R x y H2->wpAny (model X.prog X.w) X.A (f v u) Q X.xe s2) :
  wpAny (model X.prog X.w) X.A (eval a X.env) (λv s₁=>wpAny (model X.prog X.w) X.A (eval b X.env) (λu s₂=>wpAny (model X.prog X.w) X.A (f v u) Q X.xe s₂) X.xe s₁) X.xe s:=by
 refine thn (ha aA s σ H _ I h) ?_
 rintro v s1 ⟨x,H1,I1,r1,q1⟩
 refine thn (hb aA s1 σ H1 _ I1 q1) ?_
 rintro u s2 ⟨y,H2,I2,r2,q2⟩
 exact hf v u s2 x y H2 I2 r1 r2 q2
theorem axa{op:Operator}{r:R2}(ho:OpR X (binaryOp op) r)(ha:PE X a ta)(hb:PE X b tb):PE X (.BinOp a op b pos) (tOp r ta tb):=by
 intro aA s σ H Q I h
 exact wpAny_BinOp (ax9 ha hb I h λv u s2 x y H2 I2 rx ry q=>ho aA s2 σ H2 x y v u Q I2 rx ry q)
theorem axb{op:UnaryOp}{r:V->Hp->VK->Prop}(ho:UnR X (unaryOp op) r)(ha:PE X a ta):PE X (.UnaryOp op a pos) (tUn r ta):=by
 intro aA s σ H Q I h
 exact UnaryOp_ (thn (ha aA s σ H _ I h) λv s1 ⟨x,H1,I1,r1,q1⟩=>ho aA s1 σ H1 x v Q I1 r1 q1)
theorem opI{f:Value->Value->Sem Value}{C:Int->Int->Prop}{g:Int->Int->Int}
  (rule:∀(i j:Int) (t u:Tok) (s:Shared) (Q:Value->Shared->Prop) (E:Value->Shared->Prop),C i j->Q (.int (g i j) s.toks) {s with toks:=s.toks+1}->wpAny (model X.prog X.w) X.A (f (.int i t) (.int j u)) Q E s) :
  OpR X f (rI C λi j=>.int (g i j)):=by
 intro aA s σ H x y v u Q I rx ry h
 obtain⟨i,j,rfl,rfl,hc,q⟩:=h;obtain⟨t,rfl⟩:=rx;obtain⟨t',rfl⟩:=ry;exact rule i j t t' s _ _ hc ⟨.int (g i j),H,I.tok _,⟨_,rfl⟩,q⟩
theorem awe{f:Value->Value->Sem Value}{g:Int->Int->Int}
  (rule:∀(i j:Int) (t u:Tok) (s:Shared) (Q:Value->Shared->Prop) (E:Value->Shared->Prop),Q (.int (g i j) s.toks) {s with toks:=s.toks+1}->wpAny (model X.prog X.w) X.A (f (.int i t) (.int j u)) Q E s) :
  OpR X f (rI0 λi j=>.int (g i j)):=by
 intro aA s σ H x y v u Q I rx ry h
 obtain⟨i,j,rfl,rfl,q⟩:=h;obtain⟨t,rfl⟩:=rx;obtain⟨t',rfl⟩:=ry;exact rule i j t t' s _ _ ⟨.int (g i j),H,I.tok _,⟨_,rfl⟩,q⟩
theorem axc{f:Value->Value->Sem Value}{g:Int->Int->Bool}
  (rule:∀(i j:Int) (t u:Tok) (s:Shared) (Q:Value->Shared->Prop) (E:Value->Shared->Prop),Q (.bool (g i j)) s->wpAny (model X.prog X.w) X.A (f (.int i t) (.int j u)) Q E s) :
  OpR X f (rI0 λi j=>.bl (g i j)):=by
 intro aA s σ H x y v u Q I rx ry h
 obtain⟨i,j,rfl,rfl,q⟩:=h;obtain⟨t,rfl⟩:=rx;obtain⟨t',rfl⟩:=ry;exact rule i j t t' s _ _ ⟨.bl (g i j),H,I,rfl,q⟩
def axd(i j:Int):Prop:=0<j/\j<1073741824
def ayt(i j:Int):Prop:=0<=j/\j<=1000000/\i.natAbs<2^64
def CMul(i j:Int):Prop:=(-(2^64)<i/\i<2^64)\/(-(2^64)<j/\j<2^64)
theorem CMul.ok(h:CMul i j):IntMulOk i j:=by
 rcases h with⟨h1,h2⟩|⟨h1,h2⟩
 ·exact .of_left (intBits_le_64 h1 h2)
 ·exact .of_right (intBits_le_64 h1 h2)
theorem asd:OpR X (binaryOp .Add) (rI0 λi j=>.int (i+j)):=awe λ_ _ _ _ _ _ _ q=>add_int q
theorem ase:OpR X (binaryOp .Sub) (rI0 λi j=>.int (i-j)):=awe λ_ _ _ _ _ _ _ q=>sub_int q
theorem amm:OpR X (binaryOp .Mult) (rI CMul λi j=>.int (i*j)):=opI λ_ _ _ _ _ _ _ hc q=>mul_int q hc.ok
theorem aod:OpR X (binaryOp .FloorDiv) (rI axd λi j=>.int (i / j)):=opI λi j _ _ _ _ _ hc q=>by
 have h1:(0:Int)<j:=hc.1;have h2:j<1073741824:=hc.2;exact floordiv_int (by omega) (by rw[g7 i (by omega)];exact q) (.inl (PyProof.noPylong_small (by omega)))
theorem asf:OpR X (binaryOp .Mod) (rI (λ_ j=>0<j) λi j=>.int (i%j)):=opI λi j _ _ _ _ _ hc q=>by
 have h1:(0:Int)<j:=hc;exact mod_int' (by omega) (by rw[Int.fmod_eq_emod_of_nonneg i (by omega)];exact q)
theorem ash:OpR X (binaryOp .Pow) (rI ayt λi j=>.int (i^j.toNat)):=opI λ_ _ _ _ _ _ _ hc q=>pow_int_small hc.1 hc.2.1 hc.2.2 q
theorem a1o:OpR X (inplaceOp .Add) (rI0 λi j=>.int (i+j)):=awe λ_ _ _ _ _ _ _ q=>iadd_int q
theorem agj:OpR X (inplaceOp .Sub) (rI0 λi j=>.int (i-j)):=awe λ_ _ _ _ _ _ _ q=>isub_int q
theorem ak2:OpR X (inplaceOp .FloorDiv) (rI axd λi j=>.int (i / j)):=opI λi j _ _ _ _ _ hc q=>by
 have h1:(0:Int)<j:=hc.1;have h2:j<1073741824:=hc.2;exact ifloordiv_int (by omega) (by rw[g7 i (by omega)];exact q) (.inl (PyProof.noPylong_small (by omega)))
theorem unI{f:Value->Sem Value}{g:Int->Int}
  (rule:∀(i:Int) (t:Tok) (s:Shared) (Q:Value->Shared->Prop) (E:Value->Shared->Prop),Q (.int (g i) s.toks) {s with toks:=s.toks+1}->wpAny (model X.prog X.w) X.A (f (.int i t)) Q E s) :
  UnR X f (rU λi=>.int (g i)):=by
 intro aA s σ H x v Q I rx h
 obtain⟨i,rfl,q⟩:=h;obtain⟨t,rfl⟩:=rx;exact rule i t s _ _ ⟨.int (g i),H,I.tok _,⟨_,rfl⟩,q⟩
theorem asi:UnR X (unaryOp .USub) (rU λi=>.int (-i)):=unI λ_ _ _ _ _ q=>neg_int q
end
section
variable{X:Cx}{a b c:Expr}{ta tb tc:TE}{pos:Pos}
theorem agk(I:Inv X aA σ H s)(q:Q (.bl k) H)(e:k=k'):EP X aA σ Q (.bool k') s:=by
 subst e;exact⟨.bl k,H,I,rfl,q⟩
theorem a8l:OpR X (compareOp .Lt) (rI0 λi j=>.bl (decide (i<j))):=axc λ_ _ _ _ _ _ _ q=>lt_int q
theorem aex:OpR X (compareOp .Gt) (rI0 λi j=>.bl (decide (j<i))):=axc λ_ _ _ _ _ _ _ q=>gt_int q
theorem aoe:OpR X (compareOp .GtE) (rI0 λi j=>.bl (decide (j<=i))):=axc λ_ _ _ _ _ _ _ q=>ge_int q
theorem vm:OpR X (compareOp .Lt) (λx y H Q=>∃i j,x=.str i/\y=.str j/\Q (.bl (decide (i.cps.toList<j.cps.toList))) H):=by
 intro aA s σ H x y v u Q I rx ry h
 obtain⟨i,j,rfl,rfl,q⟩:=h;obtain⟨t,rfl⟩:=rx;obtain⟨t',rfl⟩:=ry;exact lt_str (agk I q rfl)
theorem agl:OpR X (compareOp .In) (λx y H Q=>∃i j,x=.str i/\y=.str j/\Q (.bl (!(Builtin.Str.occurrences j i 0 j.length 1).isEmpty)) H):=by
 intro aA s σ H x y v u Q I rx ry h
 obtain⟨i,j,rfl,rfl,q⟩:=h;obtain⟨t,rfl⟩:=rx;obtain⟨t',rfl⟩:=ry;exact in_str (agk I q rfl)
theorem aa8:OpR X (compareOp .NotIn) (λx y H Q=>∃i j,x=.str i/\y=.str j/\Q (.bl (!(!(Builtin.Str.occurrences j i 0 j.length 1).isEmpty))) H):=by
 intro aA s σ H x y v u Q I rx ry h
 obtain⟨i,j,rfl,rfl,q⟩:=h;obtain⟨t,rfl⟩:=rx;obtain⟨t',rfl⟩:=ry;exact notIn_str (agk I q rfl)
theorem OpR.or(h:OpR X f r)(h':OpR X f r'):OpR X f (λx y H Q=>r x y H Q\/r' x y H Q):=by
 intro aA s σ H x y v u Q I rx ry q
 rcases q with q|q
 ·exact h aA s σ H x y v u Q I rx ry q
 ·exact h' aA s σ H x y v u Q I rx ry q
theorem a7j(b:Expr)(h:op≠.In:=by decide)(h2:op≠.NotIn:=by decide):behindInMarks op b=false:=by
 have e1:(op == CmpOp.In)=false:=by cases op<;>first|rfl|exact absurd rfl h
 have e2:(op == CmpOp.NotIn)=false:=by cases op<;>first|rfl|exact absurd rfl h2
 cases b<;>simp[behindInMarks,e1,e2]
theorem aog(ho:OpR X (compareOp op) r)(ha:PE X a ta)(hb:PE X b tb)(hm:behindInMarks op b=false):PE X (.Compare a [op] [b] pos) (tOp r ta tb):=by
 intro aA s σ H Q I h
 exact wpAny_Compare1 (ax9 ha hb I h λv u s2 x y H2 I2 rx ry q=>ho aA s2 σ H2 x y v u Q I2 rx ry q) hm
def asj(t:TE):TT:=λσ H Q=>t σ H λx H'=>∃k,x=.bl k/\Q k H'
theorem aoh{op:CmpOp}{r:R2}(ho:OpR X (compareOp op) r)(ha:PE X a ta)(hb:PE X b tb)(hm:behindInMarks op b=false):PT X (.Compare a [op] [b] pos) (asj (tOp r ta tb)):=by
 intro aA s σ H Q I h
 refine wpAny_isTrue_Compare1 (thn (ha aA s σ H _ I h) λv s1 ⟨x,H1,I1,r1,q1⟩=>thn (hb aA s1 σ H1 _ I1 q1) λu s2 ⟨y,H2,I2,r2,q2⟩ =>
  thn (ho aA s2 σ H2 x y v u _ I2 r1 r2 q2) λc s3 ⟨z,H3,I3,r3,k,e,q3⟩=>?_) hm
 subst e;cases r3
 exact fD ⟨H3,I3,q3⟩
def axe(K:Fg)(x:V)(H:Hp)(k:Bool):Prop :=
 match x with
 |.non=>k=false
 |.bl b=>k=b
 |.int i=>k=(i != 0)
 |.str y=>y.length<=sizeLine/\k=((y.length:Int) != 0)
 |.byt y=>y.size<=sizeLine/\k=((y.size:Int) != 0)
 |.ref p=>(∃xs,SqL K H p xs/\k = !xs.isEmpty)\/(∃xs,SqT K H p xs/\k = !xs.isEmpty)\/∃kvs,H p=some (.dK kvs)/\k = !kvs.isEmpty
 |_=>False
theorem aey{κ:Type}{kvs:List (κ×V)}{vs:List (κ×Value)}(r:KV kvs vs):(!vs.isEmpty) = !kvs.isEmpty:=by
 cases r<;>rfl
theorem a7k(r:Vals xs its):(!its.toArray.isEmpty) = !xs.isEmpty:=by
 cases r<;>simp
theorem a4y:(sizeLine:Nat)<2^63:=by rw[eU];decide
theorem asl:b04 X (λx H Q=>∃k,axe X.K x H k/\Q k H):=by
 intro aA s σ H x v Q I rx h
 obtain⟨k,e,q⟩:=h;have hl:=a4y;have hs:sizeLine=16777216:=eU
 cases x with
 |non =>
  cases rx
  have e':k=false:=e;subst e';exact truthy_none ⟨H,I,q⟩
 |bl b =>
  cases rx
  have e':k=b:=e;subst e';exact fD ⟨H,I,q⟩
 |int i =>
  obtain⟨t,rfl⟩:=rx;have e':k=(i != 0):=e;subst e';exact PySem.P.truthy_int ⟨H,I,q⟩
 |str y =>
  obtain⟨t,rfl⟩:=rx;obtain⟨hy,e'⟩:y.length<=sizeLine/\k=((y.length:Int) != 0):=e;subst e';exact PySem.P.truthy_str (by omega) ⟨H,I.tok _,q⟩
 |byt y =>
  obtain⟨t,rfl⟩:=rx;obtain⟨hy,e'⟩:y.size<=sizeLine/\k=((y.size:Int) != 0):=e;subst e';exact PySem.W.truthy_bytes (by omega) ⟨H,I.tok _,q⟩
 |ref p =>
  cases rx
  have e':(∃xs,SqL X.K H p xs/\k = !xs.isEmpty)\/(∃xs,SqT X.K H p xs/\k = !xs.isEmpty)\/∃kvs,H p=some (.dK kvs)/\k = !kvs.isEmpty:=e
  rcases e' with⟨xs,hx,e'⟩|⟨xs,hx,e'⟩|⟨kvs,hx,e'⟩
  ·subst e';obtain⟨its,r,pl,hz⟩:=I.list hx;have aH:=r.length;exact wpAny_truthy_list pl.isList (by simp only[aL];omega) ⟨H,I.tok _,by rw[a7k r];exact q⟩
  ·subst e';obtain⟨its,r,pl,hz⟩:=I.tuple hx;have aH:=r.length;exact truthy_tuple pl (by simp only[aL];omega) ⟨H,I.tok _,by rw[a7k r];exact q⟩
  ·subst e';obtain⟨hz,hS,vs,r,m⟩:kvs.length<=sizeLine/\(p == sysModules)=false/\∃vs,KV kvs vs/\s.heap.DictOf (a5v X.prog X.w) p vs:=I.hok p _ hx;have aH:kvs.length=vs.length:=Paired.length r;exact wpAny_truthy_dict hS m (by omega) ⟨H,I.tok _,by rw[aey r];exact q⟩
 |_=>exact(show False from e).elim
theorem ak3(ha:PE X a ta)(he:∀whole,isTrue a X.env whole=(do let v <-whole;standAt a.pos;holding [v] (truthy v))) :
  PT X a (λσ H Q=>ta σ H λx H'=>∃k,axe X.K x H' k/\Q k H'):=by
 intro aA s σ H Q I h
 exact isTrue_plain (thn (ha aA s σ H _ I h) λv s1 ⟨x,H1,I1,r1,q1⟩=>asl aA s1 σ H1 x v Q I1 r1 q1) (he _)
theorem aez:OpR X (binaryOp .Add) (λx y H Q=>∃i j,x=.str i/\y=.str j/\i.length+j.length<=sizeLine/\Q (.str (i++j)) H):=by
 intro aA s σ H x y v u Q I rx ry h
 obtain⟨i,j,rfl,rfl,hz,q⟩:=h;obtain⟨t,rfl⟩:=rx;obtain⟨t',rfl⟩:=ry;exact add_str (λt' tk=>⟨.str (i++j),H,I.tok _,⟨_,rfl⟩,q⟩) hz
theorem qw:OpR X (inplaceOp .Add) (λx y H Q=>∃i j,x=.str i/\y=.str j/\i.length+j.length<=sizeLine/\Q (.str (i++j)) H):=by
 intro aA s σ H x y v u Q I rx ry h
 obtain⟨i,j,rfl,rfl,hz,q⟩:=h;obtain⟨t,rfl⟩:=rx;obtain⟨t',rfl⟩:=ry;exact iadd_str (λt' tk=>⟨.str (i++j),H,I.tok _,⟨_,rfl⟩,q⟩) hz
theorem vals1(r:Vals [x] us):∃u,us=[u]/\RelV x u:=by
 cases r with
 |cons r1 r2=>cases r2;exact⟨_,rfl,r1⟩
theorem vals2(r:Vals [x,y] us):∃u w',us=[u,w']/\RelV x u/\RelV y w':=by
 cases r with
 |cons r1 r2 =>
  cases r2 with
  |cons r3 r4=>cases r4;exact⟨_,_,rfl,r1,r3⟩
theorem ak4:CallR X (.builtin "abs") (λxs H Q=>∃i,xs=[.int i]/\Q (.int (if i<0 then -i else i)) H):=by
 intro aA s σ H xs us Q I r h
 obtain⟨i,rfl,q⟩:=h;obtain⟨u,rfl,t,rfl⟩:=vals1 r;exact call_abs_int λu tk=>⟨.int (if i<0 then -i else i),H,I.tok _,⟨_,rfl⟩,q⟩
theorem aa9(hc:X.calm=true):CallR X (.builtin "max") (λxs H Q=>∃i j,xs=[.int i,.int j]/\Q (.int (if j > i then j else i)) H):=by
 intro aA s σ H xs us Q I r h
 obtain⟨i,j,rfl,q⟩:=h;obtain⟨u,w',rfl,⟨t,rfl⟩,⟨t',rfl⟩⟩:=vals2 r;refine max_two_ints (I.ok.hd hc) λh' tk k=>⟨_,H,I.kept k,?_,q⟩
 by_cases hj:j > i
 ·rw[aN hj,aN hj];exact⟨_,rfl⟩
 ·rw[bp hj,bp hj];exact⟨_,rfl⟩
theorem agm:CallR X (.type "int") (λxs H Q=>(∃i,xs=[.int i]/\Q (.int i) H)\/∃k,xs=[.bl k]/\Q (.int (if k then 1 else 0)) H):=by
 intro aA s σ H xs us Q I r h
 rcases h with⟨i,rfl,q⟩|⟨k,rfl,q⟩
 ·obtain⟨u,rfl,t,rfl⟩:=vals1 r;exact call_int_int ⟨.int i,H,I,⟨_,rfl⟩,q⟩
 ·obtain⟨u,rfl,r1⟩:=vals1 r;cases r1
  exact call_int_bool ⟨.int (if k then 1 else 0),H,I.tok _,⟨_,rfl⟩,q⟩
end
structure ObjM (h:Heap) (x dx C:Addr) (mA:Str->Option Value):Prop where
 obj:h.get? x=some (PySem.W.instObj C dx)
 ns:h.Ns1 dx mA
 ne:dx≠x
theorem agn{h:Heap}(n:h.Ns1 dx mA):∃od,h.get? dx=some od/\∀name,PySem.W.lookIn name od=some (mA name):=by
 obtain⟨o,es,ep,ho,hd,hk,_,hm⟩:=n;refine⟨o,ho,λname=>?_⟩;have e:=hm name;unfold nsFind findBy at e;rw[<-Array.find?_toList]at e;unfold PySem.W.lookIn;rw[hd];dsimp only
 split
 ·rename_i y q;rw[q]at e;exact aK some e
 ·rename_i q;rw[q]at e;have a:es.toList.any (·.refKey)=false:=by
   rw[List.any_eq_false]
   intro y hy
   obtain⟨z,t,hkey⟩:=hk y (Array.mem_toList_iff.mp hy);simp[DictEntry.refKey,hkey]
  have a':¬ es.toList.any (·.refKey)=true:=by rw[a];exact aU
  rw[bp a'];exact aK some e
theorem ObjM.look(I:ObjM h x dx C mA):∃od,PySem.W.InstAt h x (PySem.W.instObj C dx) C (some od)/\∀name,PySem.W.lookIn name od=some (mA name) :=
 let ⟨od,ho,hl⟩:=agn I.ns
 ⟨od,⟨I.obj,rfl,rfl,ho⟩,hl⟩
section
variable{prog:Program}{w:World}{A:Around}{E:Value->Shared->Prop}{s:Shared}{K:Fg}{x dx C f:Addr}{mA:Str->Option Value}{name:Str}{v:Value}
theorem ago(X:K.In s.heap)(I:ObjM s.heap x dx C mA)(hg:PySem.W.plainGet K C name=true)(hh:PySem.W.hasDictIn K C=true)
  (ha:PySem.W.findIn K (.ref C) name=some none) (hv:mA name=some v) (hv':PySem.W.handedIn v=true) (h:Q v {s with toks:=s.toks+1}) :
  wpAny (model prog w) A (getAttr (.ref x) name expr) Q E s:=by
 obtain⟨od,J,hl⟩:=I.look;exact PySem.W.get_value X J (PySem.W.plainGet_of hg).1 (PySem.W.findObj_own hh ha rfl (by rw[hl,hv])) hv' h
theorem aoi(X:K.In s.heap)(I:ObjM s.heap x dx C mA)
  (hs:PySem.W.findIn K (.ref C) "__setattr__" = some (some (.builtin "object.__setattr__"))) (hp:PySem.W.plainOver K C=true) (ht:PySem.W.takerIn K C name=some none) (hh:PySem.W.hasDictIn K C=true)
  (hw:PySem.Within mA ns) (hsz:ns.length<=sizeLine)
  (h:∀h',ObjM h' x dx C (λy=>if y=name then some v else mA y)->Heap.SameBut dx s.heap h'->Q () {s with heap:=h',toks:=s.toks+2}) :
  wpAny (model prog w) A (setAttr (.ref x) name v) Q E s:=by
 obtain⟨od,J,hl⟩:=I.look;refine PySem.W.set_plain X J hs (PySem.W.osa_open (s:={s with toks:=s.toks+1}) (r:=none) X J hp ht λb=>?_)
 obtain⟨cd,hc,hd'⟩:=PySem.W.any_some hh;have hx:s.heap.get? x=some ⟨.ref C,some dx,.plain, #[]⟩:=I.obj;refine af (ax (af (af (wpAny_loadPart hx (af (PySem.W.Looks.here (s:={s with toks:=s.toks+1}) (PySem.W.looks_clsIn X hc) ?_))))))
 rw[hd'];refine ax (a:=some dx) (af (ax (af ?_)));refine wpAny_nsSet1 (s:={s with toks:=s.toks+1}) I.ns λh' hn2 hs2=>?_
 obtain⟨oD,esD,epD,hoD,hdD,hcD⟩:=hn2.count (PySem.Within.cons name v hw);refine af (wpAny_lookBehind hoD (by rw[hdD];exact pastItsLine_dict (bO hcD (by rw[aJ];omega))) ?_)
 exact ax (h _ ⟨(hs2.2 _ (eX I.ne)).trans I.obj,hn2,I.ne⟩ hs2)
theorem ak5(X:K.In s.heap)(hm:PySem.W.makesIn K C=true)
  (hi:PySem.W.findIn K (.ref C) "__init__" = some (some (.ref f))) (hf:PySem.W.typeIn K (.ref f)=some (.type "function"))
  (h:codeAny (model prog w) (A.under (.builtin "type.__call__" ⟨.ref C::vs,kw⟩)) (.call (.ref f) ⟨.ref (s.heap.objs.size+1)::vs,kw⟩) (PySem.W.InitBack (s.heap.objs.size+1) R)
   {s with heap:=(s.heap.push PySem.W.emptyDict).push (PySem.W.instObj C s.heap.objs.size)}) :
  codeAny (model prog w) A (.call (.ref C) ⟨vs,kw⟩) R s:=by
 obtain⟨hh,g,d,t,os⟩:=s;exact PySem.W.make_core (PySem.W.makes_of X hm) (PySem.W.looks_findIn X hi) (λself=>PySem.W.bind_fn X self hf) (.inl rfl) h
end
def a8m(f:Str)(v:V):List (Str×V)->List (Str×V)
 |[]=>[(f,v)]
 |(g,x)::r=>if g=f then (g,v)::r else (g,x)::a8m f v r
theorem a5x(f g:Str)(v:V):∀fs:List (Str×V),(a8m f v fs).lookup g=if g=f then some v else fs.lookup g
 |[]=>by
  show List.lookup g [(f,v)]=_
  by_cases h:g=f
  ·have hb:(g == f)=true:=eM.mpr h;simp only[List.lookup,hb,aN h]
  ·have hb:(g == f)=false:=cb.mpr h;simp only[List.lookup,hb,bp h]
 |(k,x)::r=>by
  have ih:=a5x f g v r;rw[show a8m f v ((k,x)::r)=(if k=f then (k,v)::r else (k,x)::a8m f v r) from rfl]
  by_cases hk:k=f
  ·rw[aN hk]
   by_cases h:g=k
   ·have hb:(g == k)=true:=eM.mpr h;simp only[List.lookup,hb,aN (h.trans hk)]
   ·have hb:(g == k)=false:=cb.mpr h;simp only[List.lookup,hb,bp (λe:g=f=>h (e.trans hk.symm))]
  ·rw[bp hk]
   by_cases h:g=k
   ·have hb:(g == k)=true:=eM.mpr h;simp only[List.lookup,hb,bp (λe:g=f=>hk (h.symm.trans e))]
   ·have hb:(g == k)=false:=cb.mpr h;simp only[List.lookup,hb];exact ih
theorem a5y(f:Str)(v:V):∀fs:List (Str×V),f∈(a8m f v fs).map (·.1)/\∀g,g∈fs.map (·.1)->g∈(a8m f v fs).map (·.1)
 |[]=>⟨by simp[a8m],λg h=>by simp at h⟩
 |(k,x)::r=>by
  obtain⟨i1,i2⟩:=a5y f v r;rw[show a8m f v ((k,x)::r)=(if k=f then (k,v)::r else (k,x)::a8m f v r) from rfl]
  by_cases hk:k=f
  ·rw[aN hk];subst hk;exact⟨by simp,λg h=>by simpa using h⟩
  ·rw[bp hk];refine⟨?_,λg h=>?_⟩
   ·rw[bH];exact aY _ i1
   ·rw[bH]at h ⊢
    rcases aO.mp h with e|e
    ·exact aO.mpr (.inl e)
    ·exact aY _ (i2 g e)
theorem a5z(f:Str)(v:V):∀fs:List (Str×V),(a8m f v fs).length<=fs.length+1
 |[]=>by simp[a8m]
 |(k,x)::r=>by
  have ih:=a5z f v r;rw[show a8m f v ((k,x)::r)=(if k=f then (k,v)::r else (k,x)::a8m f v r) from rfl]
  by_cases hk:k=f
  ·rw[aN hk,aJ,aJ];omega
  ·rw[bp hk,aJ,aJ];omega
theorem RelO.some_of(r:RelO (some v) o):∃u,o=some u/\RelV v u:=by
 cases o with
 |none=>exact(show False from r).elim
 |some u=>exact⟨u,rfl,r⟩
theorem aaa(r:RelV v u):PySem.W.handedIn u=true:=by
 cases v with
 |non=>cases (show u=Value.none from r);rfl
 |bl b=>cases (show u=Value.bool b from r);rfl
 |int i=>obtain⟨t,e⟩:=(show ∃t,u=Value.int i t from r);cases e;rfl
 |str x=>obtain⟨t,e⟩:=(show ∃t,u=Value.str x t from r);cases e;rfl
 |byt b=>obtain⟨t,e⟩:=(show ∃t,u=Value.bytes b t from r);cases e;rfl
 |flt b=>obtain⟨t,e⟩:=(show ∃t,u=Value.float b t from r);cases e;rfl
 |ref a=>cases (show u=Value.ref a from r);rfl
 |ty n=>cases (show u=Value.type n from r);rfl
section
variable{P:Program}{w:World}{H H':Hp}{h h':Heap}{a C dx:Addr}{fs fs':List (Str×V)}
theorem agp(hok:HOk P w H h)(e:H a=some (.ins C dx fs)):∃mA,ObjM h a dx C mA/\(∀f,RelO (fs.lookup f) (mA f))/\PySem.Within mA (fs.map (·.1))/\fs.length<=1000/\H dx=some (.own a):=by
 obtain⟨d,z,ne,ob,mA,n,r,q⟩:=(show ObjOk P w H h a (.ins C dx fs) from hok a _ e)
 exact⟨mA,⟨ob,n,ne⟩,r,q,z,d⟩
end
structure Cls (K:Fg) (C:Addr):Prop where
 pg:PySem.W.plainGet K C Str.empty=true
 hd:PySem.W.hasDictIn K C=true
 po:PySem.W.plainOver K C=true
 sa:PySem.W.findIn K (.ref C) "__setattr__" = some (some (.builtin "object.__setattr__"))
theorem Cls.get{K:Fg}{C:Addr}(c:Cls K C)(f:Str):PySem.W.plainGet K C f=true:=c.pg
def NoAttr(K:Fg)(C:Addr)(f:Str):Prop:=PySem.W.findIn K (.ref C) f=some none
theorem NoAttr.taker{K:Fg}{C:Addr}{f:Str}(n:NoAttr K C f):PySem.W.takerIn K C f=some none:=by
 unfold PySem.W.takerIn;rw[show PySem.W.findIn K (.ref C) f=some none from n]
 rfl
section
variable{X:Cx}{aA:List (Addr×Obj)}{σ:St}{H:Hp}{s:Shared}{a C dx:Addr}{fs:List (Str×V)}{f:Str}{v:V}{A:Around}{E:Value->Shared->Prop}
theorem af0(I:Inv X aA σ H s)(e:H a=some (.ins C dx fs))(c:Cls X.K C)(n:NoAttr X.K C f)(l:fs.lookup f=some v)
  (h:∀u s',Inv X aA σ H s'->RelV v u->Q u s'):wpAny (model X.prog X.w) A (getAttr (.ref a) f b) Q E s:=by
 obtain⟨mA,O,r,_,_,_⟩:=agp I.hok e;obtain⟨u,hu,ru⟩:=RelO.some_of (v:=v) (o:=mA f) (by rw[<-l];exact r f)
 exact ago I.kIn O (c.get f) c.hd n hu (aaa ru) (h u _ (I.tok _) ru)
theorem af1(I:Inv X aA σ H s)(e:H a=some (.ins C dx fs))(c:Cls X.K C)(n:NoAttr X.K C f)(hl:fs.length<1000)(ry:RelV y u)
  (h:∀s',Inv X aA σ (upd H a (.ins C dx (a8m f y fs))) s'->Q () s'):wpAny (model X.prog X.w) A (setAttr (.ref a) f u) Q E s:=by
 obtain⟨mA,O,r,wi,_,ho⟩:=agp I.hok e;have hz:(fs.map (·.1)).length<=sizeLine:=by rw[ah,eU];omega
 refine aoi I.kIn O c.sa c.po n.taker c.hd wi hz λh' O' sb=>h _ ?_;have hd:∃o,h'.get? dx=some o:=let ⟨o,_,_,e',_⟩:=O'.ns; ⟨o,e'⟩;refine I.write (x:=a) (e:=dx) (by rw[e];exact True.intro) (.inr ho) (λb q hb z=>(sb.2 b hb).trans z) hd ?_
 refine⟨by rw[jc O.ne];exact ho,?_,O.ne,O'.obj,_,O'.ns,λg=>?_,λg hg=>?_⟩
 ·have:=a5z f y fs;omega
 ·show RelO ((a8m f y fs).lookup g) (if g=f then some u else mA g)
  rw[a5x]
  by_cases q:g=f
  ·rw[aN q,aN q];exact ry
  ·rw[bp q,bp q];exact r g
 ·by_cases q:g=f
  ·rw[q];exact(a5y f y fs).1
  ·refine(a5y f y fs).2 g (wi g λz=>hg ?_);show(if g=f then some u else mA g)=none
   rw[bp q];exact z
theorem Inv.made(I:Inv X aA σ H s):Inv X aA σ (upd (upd H s.heap.objs.size (.own (s.heap.objs.size+1))) (s.heap.objs.size+1) (.ins C s.heap.objs.size []))
  {s with heap:=(s.heap.push PySem.W.emptyDict).push (PySem.W.instObj C s.heap.objs.size)}:=by
 have e1:(s.heap.push PySem.W.emptyDict).get? s.heap.objs.size=some PySem.W.emptyDict:=aT s.heap rfl;have e2:((s.heap.push PySem.W.emptyDict).push (PySem.W.instObj C s.heap.objs.size)).get? (s.heap.objs.size+1)=some (PySem.W.instObj C s.heap.objs.size):=by
  have:=aT (s.heap.push PySem.W.emptyDict) (o:=PySem.W.instObj C s.heap.objs.size) rfl
  rwa[dS]at this
 have e3:(s.heap.push PySem.W.emptyDict).Ns s.heap.objs.size (λ_=>none):=⟨PySem.W.emptyDict, #[],_,e1,rfl,(λe he=>absurd he (by simp)),λ_=>rfl⟩
 have I1:=I.laid (a:=s.heap.objs.size) (o:=.own (s.heap.objs.size+1)) (h':=s.heap.push PySem.W.emptyDict) (t':=s.toks) (λb u q=>aw _ q) (ay _) ⟨_,e1⟩;refine I1.laid (a:=s.heap.objs.size+1) (o:=.ins C s.heap.objs.size []) (t':=s.toks) (λb u q=>aw _ q) (Nat.le_of_eq (dS _ _)) ?_;have ne:s.heap.objs.size≠s.heap.objs.size+1:=bG (eC _);refine⟨by rw[jc ne,uc],ba _,ne,e2,λ_=>none,(Heap.Ns1.of_empty e3).at λo q=>aw _ q,λ_=>True.intro,λy hy=>absurd rfl hy⟩
theorem aoj(hb:attributeBase e f env (eval e env)=eval e env)
  (h:wpAny (model prog w) A (eval e env) (λo s₁=>wpAny (model prog w) A (getAttr o f true) Q E s₁) E s):wpAny (model prog w) A (eval (.Attribute e f pos) env) Q E s :=
 Attribute_any_ h (by rw[arm_eval_Attribute,hb])
end
def b05(K:Fg)(ta tv:TE)(f:Str):TS:=λD σ H=>tv σ H λy H1=>ta σ H1 λx H2=>∃a C dx fs,x=.ref a/\H2 a=some (.ins C dx fs)/\Cls K C/\NoAttr K C f/\fs.length<1000 /\
 D.nx σ (upd H2 a (.ins C dx (a8m f y fs)))
section
variable{X:Cx}{o e value:Expr}{f:Str}{pos pos' tpos:Pos}{ta tv:TE}
theorem asm(ha:PE X o ta)(hv:PE X value tv)(hs:swapsWith value (some (.Attribute o f pos')) pos.line X.env=pure false):PS X (.Assign [.Attribute o f pos'] value pos) (b05 X.K ta tv f):=by
 intro aA s σ H D I h
 refine plainObj_wpAny_Assign_Attribute (thn (hv aA s σ H _ I h) λu s1 ⟨y,H1,I1,ry,q⟩=>thn (ha aA s1 σ H1 _ I1 q) λov s2 ⟨x,H2,I2,rx,a,C,dx,fs,ex,ea,c,n,l,q2⟩=>?_) hs;subst ex;obtain rfl:ov=Value.ref a:=rx;exact af1 I2 ea c n l ry λs3 I3=>⟨σ,_,I3,q2⟩
end
structure Room (k:Nat) (A:Around):Prop where
 hd:A.handled=none
 dp:A.depth+3*k+5<recursionLimit
 un:A.units+16*k+200<cLine
 gd:A.guards=some []
theorem Room.mono(r:Room k A)(h:j<=k):Room j A:=⟨r.hd,by have:=r.dp;omega,by have:=r.un;omega,r.gd⟩
theorem Room.deeper(r:Room (k+1) A)(env:Env):Room k (A.deeper env) :=
 ⟨r.hd,by have:=r.dp;show A.depth+1+3*k+5<_;omega,by have:=r.un;show A.units+3+16*k+200<_;omega,r.gd⟩
theorem af2{A:Around}:(A.under (.builtin "type.__call__" ⟨.ref C::us,kw⟩)).depth=A.depth+1:=by
 first|rfl|simp[Around.under,Code.weight,Code.isCreation,Code.isGuard,Code.isCaller,Code.frames,Code.isFrame,guardIds]
theorem af3{A:Around}:(A.under (.builtin "type.__call__" ⟨.ref C::us,kw⟩)).units=A.units+1:=by
 first|rfl|simp[Around.under,Code.cUnits,Code.frames,Code.isFrame]
theorem abx{A:Around}:(A.under (.builtin "type.__call__" ⟨.ref C::us,kw⟩)).guards=A.guards:=by
 obtain⟨_,_,_,g,_⟩:=A
 cases g<;>first|rfl|simp[Around.under,pushGuards,Code.guards,Code.isGuard,guardIds]
theorem Room.make(r:Room (k+1) A)(C:Addr)(us:List Value)(kw:List (Str×Value)):Room k (A.under (.builtin "type.__call__" ⟨.ref C::us,kw⟩)) :=
 ⟨r.hd,by have:=r.dp;rw[af2];omega,by have:=r.un;rw[af3];omega,by rw[abx];exact r.gd⟩
theorem Room.depth(r:Room k A):A.depth<recursionLimit:=by have:=r.dp;omega
theorem Room.units(r:Room k A):A.units+64<cLine:=by have:=r.un;omega
def ayu:TA:=λ_ H Q=>Q [] H
def axf(ta:TE)(tr:TA):TA:=λσ H Q=>ta σ H λx H1=>tr σ H1 λxs H2=>Q (x::xs) H2
section
variable{X:Cx}{e:Expr}{es:List Expr}{te:TE}{t:TA}{pos:Pos}
theorem ad9:PA X [] ayu:=λ_ _ _ _ H Q I h=>Calls.spliced_nil ⟨[],H,I,.nil,h⟩
theorem a8n(ha:PE X e te)(hr:PA X es t)(hs:starEach (e::es) X.env=(false,eval e X.env)::starEach es X.env:=by rfl):PA X (e::es) (axf te t):=by
 intro pos aA s σ H Q I h
 rw[hs];show wpAny _ _ (spliced ((false,eval e X.env)::backTo pos (starEach es X.env))) _ _ s;refine Calls.spliced_cons (thn (ha aA s σ H _ I h) λu s1 ⟨x,H1,I1,r1,q1⟩=>?_);exact thn (hr pos aA s1 σ H1 _ I1 q1) λus s2 ⟨xs,H2,I2,r2,q2⟩=>⟨x::xs,H2,I2,.cons r1 r2,q2⟩
def b06(t:TA):TE:=λσ H Q=>t σ H λxs H1=>xs.length<=sizeLine/\∀p,H1 p=none->Q (.ref p) (upd H1 p (.tup xs))
def b07(t:TA):TE:=λσ H Q=>t σ H λxs H1=>xs.length<=sizeLine/\∀p,H1 p=none->Q (.ref p) (upd H1 p (.lst xs))
theorem asn{x1}(h:PA X es t):PE X (.Tuple es x1 pos) (b06 t):=by
 intro aA s σ H Q I hq
 refine wpAny_Tuple_spliced (thn (h pos aA s σ H _ I hq) λus s1 ⟨xs,H1,I1,r,z,q⟩=>⟨by rw[<-r.length];exact z,?_⟩)
 have hf:H1 s1.heap.objs.size=none:=I1.hok.fresh (ay _);refine⟨.ref s1.heap.objs.size,upd H1 s1.heap.objs.size (.tup xs),I1.laid (t':=s1.toks) (λb u e=>aw _ e) (ay _) ?_,rfl,q _ hf⟩;exact⟨z,us,r,⟨_,aT _ rfl,rfl,_,rfl⟩⟩
theorem aso(h:PA X es t):PE X (.List es pos) (b07 t):=by
 intro aA s σ H Q I hq
 refine wpAny_List_spliced (thn (h pos aA s σ H _ I hq) λus s1 ⟨xs,H1,I1,r,z,q⟩=>⟨by rw[<-r.length];exact z,?_⟩)
 have hf:H1 s1.heap.objs.size=none:=I1.hok.fresh (ay _);refine⟨.ref s1.heap.objs.size,upd H1 s1.heap.objs.size (.lst xs),I1.laid (t':=s1.toks) (λb u e=>aw _ e) (ay _) ?_,rfl,q _ hf⟩;exact⟨z,us,0,r,aT _ rfl⟩
end
abbrev Sp:=List V->Hp->VK->XK->Prop
abbrev CXT:=List Env->Hp->Shared->XK->Value->Shared->Prop
structure Env0 (P:Program) (w:World) (K:Fg) (mg:Str->Option Value) (base:Heap) (A:Around) (outer:List Env) (s:Shared) (H:Hp):Prop where
 frames:A.frames=some outer
 mod:Mod K mg base
 bs:∀b o,base.get? b=some o->s.heap.get? b=some o/\H b=none
 bsz:base.objs.size<=s.heap.objs.size
 funs:s.heap.FunFrames base outer
 frf:∀b∈frs outer,H b=none
 hok:HOk P w H s.heap
 bare:AllBare s.gens
def CE(outer:List Env)(P:Program)(w:World)(H:Hp)(s:Shared)(Q:VK)(u:Value)(s':Shared):Prop :=
 ∃v H',s'.os=s.os/\AllBare s'.gens/\Un (frs outer) [] H H' s.heap s'.heap/\HOk P w H' s'.heap/\RelV v u/\Q v H'
def CR(CX:CXT)(outer:List Env)(P:Program)(w:World)(H:Hp)(s:Shared)(Q:VK)(E:XK)(r:Result)(s':Shared):Prop :=
 match r with
 |.ok (.ret u)=>CE outer P w H s Q u s'
 |.ok _=>False
 |.error e=>CX outer H s E e s'
structure FnOk (P:Program) (w:World) (K:Fg) (mg:Str->Option Value) (base:Heap) (CX:CXT) (k:Nat) (f:Addr) (fd:FuncData) (ps:List Str) (sp:Sp):Prop where
 len:∀vs H Q E,sp vs H Q E->vs.length=ps.length
 run:∀(A:Around) (outer:List Env) (s:Shared) (H:Hp) (args:Args) (us:List Value) (vs:List V) (Q:VK) (E:XK),Room k A->Env0 P w K mg base A outer s H->BindsTo s fd args (ps.zip us)->Vals vs us->sp vs H Q E->
  codeAny (model P w) A (.call (.ref f) args) (CR CX outer P w H s Q E) s
theorem FnOk.imp{P:Program}{w:World}{K:Fg}{mg:Str->Option Value}{base:Heap}{CX:CXT}{k:Nat}{f:Addr}{fd:FuncData}{ps:List Str}{sp sp':Sp}(F:FnOk P w K mg base CX k f fd ps sp)
  (h:∀vs H Q E,sp' vs H Q E->sp vs H Q E):FnOk P w K mg base CX k f fd ps sp' :=
 ⟨λvs H Q E q=>F.len vs H Q E (h _ _ _ _ q),λA outer s H args us vs Q E hr he hb hv hs=>F.run A outer s H args us vs Q E hr he hb hv (h _ _ _ _ hs)⟩
theorem Env0.make{P:Program}{w:World}{K:Fg}{mg:Str->Option Value}{base:Heap}{A:Around}{outer:List Env}{s:Shared}{H:Hp}(e:Env0 P w K mg base A outer s H)(C:Addr)(us:List Value)(kw:List (Str×Value)) :
  Env0 P w K mg base (A.under (.builtin "type.__call__" ⟨.ref C::us,kw⟩)) outer s H:=⟨by first|exact e.frames|(simpa[Around.under,Code.envs,Code.isFrame,pushEnvs] using e.frames),e.mod,e.bs,e.bsz,e.funs,e.frf,e.hok,e.bare⟩
section
variable{X:Cx}{aA:List (Addr×Obj)}{σ:St}{H:Hp}{s s':Shared}
theorem Inv.env0(I:Inv X aA σ H s):Env0 X.prog X.w X.K X.mg X.base X.A X.stack s H :=
 ⟨I.ok.frames,I.ok.mod,I.bs,bO I.ok.bsz I.sz,I.stack,I.stkFree,I.hok,I.bare⟩
theorem Inv.after(I:Inv X aA σ H s)(h:CE X.stack X.prog X.w H s Q u s'):EP X aA σ Q u s':=by
 obtain⟨v,H',os,bare,un,hok,r,q⟩:=h;obtain⟨hh,g,d,t,os'⟩:=s';obtain rfl:os'=s.os:=os;exact⟨v,H',I.call (h':=hh) (g':=g) (d':=d) (t':=t) (ch:=[]) un hok bare (λb z=>absurd z (by simp)),r,q⟩
end
def asp(sp:Sp)(dvs:List V)(E:XK)(t:TA):TE:=λσ H Q=>t σ H λvs H1=>sp (vs++dvs) H1 Q E
def axg(C:Addr)(sp:Sp)(dvs:List V)(E:XK)(t:TA):TE:=λσ H Q=>t σ H λvs H1=>∀x dx,H1 x=none->H1 dx=none->dx≠x->
 sp (.ref x::(vs++dvs)) (upd (upd H1 dx (.own x)) x (.ins C dx [])) (λv H2=>v=.non/\Q (.ref x) H2) E
def Binds(K:Fg)(fd:FuncData)(ps:List Str)(ds:List Value):Prop :=
 ∀(s:Shared) (us:List Value),K.In s.heap->(us++ds).length=ps.length->BindsTo s fd ⟨us,[]⟩ (ps.zip (us++ds))
theorem Binds.all{K:Fg}{fd:FuncData}{ps:List Str}(h:∀us:List Value,us.length=ps.length->bindArgs fd ⟨us,[]⟩=pure (ps.zip us)):Binds K fd ps []:=λs us _ hl=>by
 rw[bP]at hl ⊢;exact .of_eq (h us hl)
def a7l(CX:CXT)(X:Cx)(E:XK):Prop:=∀(aA:List (Addr×Obj)) (σ:St) (H:Hp) (s:Shared) (e:Value) (s':Shared),Inv X aA σ H s->CX X.stack H s E e s'->X.xe e s'
section
variable{X:Cx}{CX:CXT}{k:Nat}{f C:Addr}{fd:FuncData}{ps:List Str}{sp:Sp}{dvs:List V}{ds:List Value}{E:XK}{x m:Str}{p pos apos:Pos}{e o:Expr}{es:List Expr}{ta:TE}{t:TA}
theorem amn(F:FnOk X.prog X.w X.K X.mg X.base CX k f fd ps sp)(hr:Room k X.A)(hb:Binds X.K fd ps ds)(hd:Vals dvs ds)(hx:a7l CX X E)
  (I:Inv X aA σ H s) (r:Vals vs us) (h:sp (vs++dvs) H Q E):wpAny (model X.prog X.w) X.A (call (.ref f) us) (EP X aA σ Q) X.xe s:=by
 have r2:Vals (vs++dvs) (us++ds):=r.append hd;have hl:(us++ds).length=ps.length:=by rw[<-r2.length];exact F.len _ _ _ _ h
 refine wpAny_call (eV (F.run X.A X.stack s H ⟨us,[]⟩ (us++ds) (vs++dvs) Q E hr I.env0 (hb s us I.kIn hl) r2 h) λr s' hq=>?_)
 cases r with
 |error e=>exact hx aA σ H s e s' I hq
 |ok fl =>
  cases fl with
  |ret u=>exact I.after hq
  |next=>exact False.elim hq
  |brk=>exact False.elim hq
  |cont=>exact False.elim hq
theorem aok(F:FnOk X.prog X.w X.K X.mg X.base CX k f fd ps sp)(hr:Room k X.A)(hg:Gl X x)(hm:X.mg x=some (.ref f))(hk:PySem.W.keepIn X.K (.ref f)=true)(hb:Binds X.K fd ps ds)(hd:Vals dvs ds)(hx:a7l CX X E)
  (ha:PA X (e::es) t) (hdb:(x == ("__debug__" : Str))=false:=by decide) (he:starEach (e::es) X.env=(false,eval e X.env)::starEach es X.env:=by rfl) (hpl:(backTo pos (starEach es X.env)).any (·.1)=false:=by rfl) :
  PE X (.Call (.Name x p) (e::es) [] pos) (asp sp dvs E t):=by
 intro aA s σ H Q I h
 refine dP (a8i I hg hm ?_ hdb);refine PySem.W.callWith_K (h₀:=X.base) I.ok.mod.kin hk (thn (ha pos aA s σ H _ I h) λus s1 ⟨vs,H1,I1,r,q⟩=>⟨I1.kIn,?_⟩) he hpl;exact amn F hr hb hd hx I1 r q
theorem ak6(F:FnOk X.prog X.w X.K X.mg X.base CX k f fd ps sp)(hr:Room k X.A)(hg:Gl X x)(hm:X.mg x=some (.ref f))(hk:PySem.W.keepIn X.K (.ref f)=true)(hb:Binds X.K fd ps ds)(hd:Vals dvs ds)(hx:a7l CX X E)
  (hdb:(x == ("__debug__" : Str))=false:=by decide):PE X (.Call (.Name x p) [] [] pos) (asp sp dvs E ayu):=by
 intro aA s σ H Q I h
 refine dP (a8i I hg hm ?_ hdb);exact PySem.W.callWith_K0 I.kIn hk (amn (us:=[]) F hr hb hd hx I .nil h)
structure Mk (K:Fg) (C f:Addr):Prop where
 makes:PySem.W.makesIn K C=true
 init:PySem.W.findIn K (.ref C) "__init__" = some (some (.ref f))
 fn:PySem.W.isFn K (.ref f)=true
 kp:PySem.W.keepIn K (.ref C)=true
theorem ak7(M:Mk X.K C f)(F:FnOk X.prog X.w X.K X.mg X.base CX k f fd ps sp)(hr:Room (k+1) X.A)(hb:Binds X.K fd ps ds)(hd:Vals dvs ds)
  (hx:a7l CX X E) (I:Inv X aA σ H s) (r:Vals vs us)
  (h:∀x dx,H x=none->H dx=none->dx≠x->sp (.ref x::(vs++dvs)) (upd (upd H dx (.own x)) x (.ins C dx [])) (λv H2=>v=.non/\Q (.ref x) H2) E) :
  wpAny (model X.prog X.w) X.A (call (.ref C) us) (EP X aA σ Q) X.xe s:=by
 have hq:=h (s.heap.objs.size+1) s.heap.objs.size (I.hok.fresh (fU _)) (I.hok.fresh (ay _)) (bG (eC _));have I2:=Inv.made (C:=C) I;have r2:Vals (V.ref (s.heap.objs.size+1)::(vs++dvs)) (Value.ref (s.heap.objs.size+1)::(us++ds)):=.cons rfl (r.append hd);have hl:(Value.ref (s.heap.objs.size+1)::us++ds).length=ps.length:=by
  have e:=r2.length;rw[F.len _ _ _ _ hq]at e;exact e.symm
 refine wpAny_call (ak5 (f:=f) I.kIn M.makes M.init (eM.mp M.fn) (eV (F.run _ X.stack _ _ ⟨Value.ref (s.heap.objs.size+1)::us,[]⟩ (Value.ref (s.heap.objs.size+1)::(us++ds)) _ _ E (hr.make C us [])
  (I2.env0.make C us []) (hb _ (Value.ref (s.heap.objs.size+1)::us) I2.kIn hl) r2 hq) λr s' hq'=>?_))
 cases r with
 |error e=>exact hx aA σ _ _ e s' I2 hq'
 |ok fl =>
  cases fl with
  |ret u =>
   obtain⟨v,H',I3,rv,ev,q3⟩:=I2.after hq';subst ev;exact⟨rv,⟨V.ref (s.heap.objs.size+1),H',I3,rfl,q3⟩⟩
  |next=>exact False.elim hq'
  |brk=>exact False.elim hq'
  |cont=>exact False.elim hq'
theorem aol(M:Mk X.K C f)(F:FnOk X.prog X.w X.K X.mg X.base CX k f fd ps sp)(hr:Room (k+1) X.A)(hg:Gl X x)(hm:X.mg x=some (.ref C))(hb:Binds X.K fd ps ds)(hd:Vals dvs ds)(hx:a7l CX X E)
  (ha:PA X (e::es) t) (hdb:(x == ("__debug__" : Str))=false:=by decide) (he:starEach (e::es) X.env=(false,eval e X.env)::starEach es X.env:=by rfl) (hpl:(backTo pos (starEach es X.env)).any (·.1)=false:=by rfl) :
  PE X (.Call (.Name x p) (e::es) [] pos) (axg C sp dvs E t):=by
 intro aA s σ H Q I h
 refine dP (a8i I hg hm ?_ hdb);refine PySem.W.callWith_K (h₀:=X.base) I.ok.mod.kin M.kp (thn (ha pos aA s σ H _ I h) λus s1 ⟨vs,H1,I1,r,q⟩=>⟨I1.kIn,?_⟩) he hpl;exact ak7 M F hr hb hd hx I1 r q
end
structure FnScope (N P:List Str) (sc:Scope):Prop where
 kind:sc.kind=.function
 co:sc.isCoroutine=false
 gen:sc.isGenerator=false
 nd:N.Nodup
 pre:N.take P.length=P
 par:∀x∈P,sc.names.lookup x=some .local\/sc.names.lookup x=some .cell
 nofree:∀y∈sc.names,y.2≠.free
theorem aab{kindOf:Str->Option NameKind}{x:Str}:∀{binds:List (Str×Value)} {m:Str->Option Value},(∀v,(x,v)∉binds)->bindL kindOf binds m x=m x
 |[],_,_=>rfl
 |(n,v)::r,m,h=>by
  unfold bindL;rw[aab λw hw=>h w (aY _ hw)]
  split
  ·have:x≠n:=by rintro rfl;exact h v bE
   simp[this]
  ·rfl
theorem aac{kindOf:Str->Option NameKind}{x:Str}:∀{binds:List (Str×Value)} {m:Str->Option Value},(∀v,(x,v)∉binds)->bindC kindOf binds m x=m x
 |[],_,_=>rfl
 |(n,v)::r,m,h=>by
  unfold bindC;rw[aac λw hw=>h w (aY _ hw)]
  split
  ·rfl
  ·have:x≠n:=by rintro rfl;exact h v bE
   simp[this]
theorem aad{kindOf:Str->Option NameKind}{x:Str}{v:Value}:∀{P:List Str} {vs:List Value} {i:Nat} {m:Str->Option Value},P.Nodup->P[i]? = some x->vs[i]? = some v->kindOf x=some .local->
  bindL kindOf (P.zip vs) m x=some v
 |[],_,_,_,_,h,_,_=>by simp at h
 |_::_,[],_,_,_,_,h,_=>by simp at h
 |p::P,w::vs,0,m,nd,h1,h2,hk=>by
  simp at h1 h2;subst h1;subst h2
  show bindL kindOf ((p,w)::P.zip vs) m p=_;unfold bindL;rw[aab λv hv=>(eG.mp nd).1 (hV hv).1,aN hk];simp
 |p::P,w::vs,i+1,m,nd,h1,h2,hk=>by
  show bindL kindOf ((p,w)::P.zip vs) m x=_;unfold bindL;exact aad (i:=i) (eG.mp nd).2 (by simpa using h1) (by simpa using h2) hk
theorem aae{kindOf:Str->Option NameKind}{x:Str}{v:Value}:∀{P:List Str} {vs:List Value} {i:Nat} {m:Str->Option Value},P.Nodup->P[i]? = some x->vs[i]? = some v->kindOf x≠some .local->
  bindC kindOf (P.zip vs) m x=some v
 |[],_,_,_,_,h,_,_=>by simp at h
 |_::_,[],_,_,_,_,h,_=>by simp at h
 |p::P,w::vs,0,m,nd,h1,h2,hk=>by
  simp at h1 h2;subst h1;subst h2
  show bindC kindOf ((p,w)::P.zip vs) m p=_;unfold bindC;rw[aac λv hv=>(eG.mp nd).1 (hV hv).1,bp hk];simp
 |p::P,w::vs,i+1,m,nd,h1,h2,hk=>by
  show bindC kindOf ((p,w)::P.zip vs) m x=_;unfold bindC;exact aae (i:=i) (eG.mp nd).2 (by simpa using h1) (by simpa using h2) hk
def start(N:List Str)(vs:List V):St:=vs.map some++List.replicate (N.length-vs.length) none
def agq(CX:CXT)(P:Program)(w:World)(K:Fg)(mg:Str->Option Value)(base:Heap)(N:List Str)(qual:Str)(aB:Scope)(f:Addr)(cd:Value)(A:Around)(outer:List Env)(s:Shared)(H:Hp)(E:XK):Cx where
 prog:=P
 w:=w
 K:=K
 mg:=mg
 base:=base
 A:=A.deeper (envOfC qual aB s.heap.objs.size f cd)
 N:=N
 s₀:=s
 H₀:=H
 env:=envOfC qual aB s.heap.objs.size f cd
 outer:=outer
 stack:=envOfC qual aB s.heap.objs.size f cd::outer
 ex:=[]
 calm:=true
 fn:=λ_=>true
 pn:=[]
 xe:=λe s'=>wpAny (model P w) (A.deeper (envOfC qual aB s.heap.objs.size f cd)) (leaving (envOfC qual aB s.heap.objs.size f cd) e) (λ_ s''=>CX outer H s E e s'') (λe' s''=>CX outer H s E e' s'') s'
theorem ada{sc:Scope}(h:sc.names.lookup x=some .cell):∃c,(cellsFrom n sc.names []).lookup x=some c:=by
 have q:=PySem.W.cellsFrom_some sc.names n [] (.inl h);exact gM.mp q
theorem agr{CX:CXT}{P:Program}{w:World}{K:Fg}{mg:Str->Option Value}{base:Heap}{N ps:List Str}{qual:Str}{aB:Scope}{f:Addr}{cd:Value}{A:Around}{outer:List Env}{s s1:Shared}{H:Hp}{E:XK}{us:List Value}{vs:List V}
  (S:FnScope N ps aB) (hd:A.handled=none) (e0:Env0 P w K mg base A outer s H) (hl:vs.length=ps.length) (r:Vals vs us)
  (x:InCallC s s.heap.objs.size (bindL (envOfC qual aB s.heap.objs.size f cd).kindOf (ps.zip us) λ_=>none) (cellsFrom (s.heap.objs.size+1) aB.names []) (bindC (envOfC qual aB s.heap.objs.size f cd).kindOf (ps.zip us) λ_=>none) s1) :
  Inv (agq CX P w K mg base N qual aB f cd A outer s H E) [] (start N vs) H s1:=by
 have hpl:ps.length<=N.length:=by have:=aK List.length S.pre;rw[bb]at this;omega
 obtain⟨h1,tk,rfl,hk⟩:=x.done;have noA:∀b:Addr,b∉(agq CX P w K mg base N qual aB f cd A outer s H E).ex:=λb z=>absurd (show b∈([]:List Addr) from z) (by simp)
 refine⟨⟨e0.mod,S.kind,rfl,rfl,ay _,λy z c h1 h2=>?_,λy hy=>?_,λy c _ h=>?_,λ_=>hd,Around.frames_deeper e0.frames,.inr ⟨rfl,rfl⟩,λb z=>absurd z (noA b),e0.bs,e0.bsz,λb _ _=>noA b,λb z=>absurd z (noA b),e0.funs,e0.frf⟩,
  rfl,e0.bare,Un.kept hk,⟨_,x.toInCall.ns,λi y v h1 h2 h3=>?_⟩,λy c h=>⟨_,x.cell y c h⟩,e0.hok.fresh (ay _),λy c h=>?_,λp hp=>absurd (show p∈([]:List (Addr×Obj)) from hp) (by simp),e0.hok.kept hk,?_⟩
 ·exact name_of_addr x.apart (cm h1) (cm h2)
 ·have hy:aB.names.lookup y=some .cell\/aB.names.lookup y=some .free:=hy
  rcases hy with hy|hy
  ·exact ada hy
  ·exact absurd rfl (S.nofree _ (cm hy))
 ·exact gc (x.above y c (cm h))
 ·have hi:i<vs.length:=by
   unfold start at h2
   by_cases hi:i<vs.length
   ·exact hi
   ·rw[aP (by simpa using hi)]at h2
    rw[ei]at h2
    split at h2<;>cases h2
  have ha:vs[i]? = some v:=by
   unfold start at h2;rw[aZ (by simpa using hi),bJ]at h2
   cases e:vs[i]? with
   |none=>rw[e]at h2;cases h2
   |some a=>rw[e]at h2;cases h2;rfl
  obtain⟨u,hu,rv⟩:=r.get ha;have hp:ps[i]? = some y:=by
   rw[<-S.pre,List.getElem?_take_of_lt (by omega)];exact h1
  have ndP:ps.Nodup:=by rw[<-S.pre];exact S.nd.sublist (gN _ _)
  refine⟨u,rv,?_⟩
  rcases S.par y (bM hp) with k|k
  ·exact .inl ⟨k,aad ndP hp hu k⟩
  ·obtain⟨c,e⟩:=ada (n:=s.heap.objs.size+1) k;refine .inr ⟨.inl k,c,e,?_⟩;have q:=x.cell y c e;rw[aae ndP hp hu (by show aB.names.lookup y≠_;rw[k];decide)]at q
   exact q
 ·exact e0.hok.fresh (gc (x.above y c (cm h)))
 ·unfold start;show _=N.length;rw[ae,ah,cI];omega
theorem axh{CX:CXT}{P:Program}{w:World}{K:Fg}{mg:Str->Option Value}{base:Heap}{k:Nat}{f:Addr}{name qual:Str}{params:Arguments}{body:List Stmt}{aB:Scope}{dV kV doc pm cdv ct oc:Value}{an od:Option Addr}
  {osl:Array (Option Value)} {N ps:List Str} {sp:Sp} (lk:K.lookup f=some ⟨oc,od,.func (PySem.W.fnOf name qual params body aB dV kV doc pm an cdv ct),osl⟩) (hcd:PySem.W.codeIn K cdv qual=true) (S:FnScope N ps aB)
  (len:∀vs H Q E,sp vs H Q E->vs.length=ps.length)
  (hbody:∀(A:Around) (outer:List Env) (s:Shared) (H:Hp) (vs:List V) (Q:VK) (E:XK),Room k (A.deeper (envOfC qual aB s.heap.objs.size f cdv))->sp vs H Q E->
   ∃t,PSs (agq CX P w K mg base N qual aB f cdv A outer s H E) body t/\t {nx:=λ_ H'=>Q .non H',rt:=Q} (start N vs) H) :
  FnOk P w K mg base CX (k+1) f (PySem.W.fnOf name qual params body aB dV kV doc pm an cdv ct) ps sp:=by
 refine⟨len,λA outer s H args us vs Q E hr e0 hb r hsp=>?_⟩;have hl:=len _ _ _ _ hsp;have KX:K.In s.heap:=e0.mod.kin.keeps λb o e=>(e0.bs b o e).1;have lim:s.heap.NoLimit:=e0.mod.nolimit.keeps λb o e=>(e0.bs b o e).1;have hkind:∀y∈ps.zip us,aB.names.lookup y.1=some .local\/(aB.names.lookup y.1=some .cell/\((cellsFrom (s.heap.objs.size+1) aB.names []).lookup y.1).isSome=true):=λ⟨n,v⟩ hy=>by
  rcases S.par n (hV hy).1 with q|q
  ·exact .inl q
  ·exact .inr ⟨q,PySem.W.cellsFrom_some _ _ _ (.inl q)⟩
 refine codeAny_call_function hr.depth (KX _ _ lk) rfl S.co S.gen rfl (PySem.W.codeRec_of KX hcd) (hb _ _ _ _ ?_);refine wpAny_newFunctionEnv_cells S.kind hkind λenv he s1 x=>?_;subst he;refine⟨lim.keeps x.toInCall.keep,codeAny_func ?_⟩;obtain⟨t,ht,hq⟩:=hbody A outer s H vs Q E (hr.deeper _) hsp;have I:Inv (agq CX P w K mg base N qual aB f cdv A outer s H E) [] (start N vs) H s1:=agr S hr.hd e0 hl r x;refine bI (ht [] s1 (start N vs) H _ I hq) (λfl s' hs=>?_) λe s' hs=>hs;have fin:∀{σ':St} {H':Hp} {v:V} {u:Value},Inv (agq CX P w K mg base N qual aB f cdv A outer s H E) [] σ' H' s'->RelV v u->Q v H'->CE outer P w H s Q u s' :=
  λ{σ' H' v u} J rv q=>⟨v,H',J.os,J.bare,J.base,J.hok,rv,q⟩
 cases fl with
 |ret u =>
  obtain⟨v,σ',H',J,rv,q⟩:=hs;exact fin J rv q
 |next =>
  obtain⟨σ',H',J,q⟩:=hs;exact fin (v:=V.non) (u:=Value.none) J rfl q
 |brk =>
  obtain⟨_,_,_,q⟩:=hs;exact False.elim q
 |cont =>
  obtain⟨_,_,_,q⟩:=hs;exact False.elim q
section
variable{X:Cx}{x:Str}{p pos:Pos}{e:Expr}{es:List Expr}{t:TA}{id T:String}{r:List V->Hp->VK->Prop}
def tCB(r:List V->Hp->VK->Prop)(t:TA):TE:=λσ H Q=>t σ H λvs H1=>r vs H1 Q
theorem adb(hc:CallR X (.builtin id) r)(hg:Gl X x)(hm:X.mg x=none)(hv:bootBuiltins x=some (.builtin id))(ha:PA X (e::es) t)(hn:x ≠ "__name__":=by decide)(hdb:(x == ("__debug__" : Str))=false:=by decide)
  (he:starEach (e::es) X.env=(false,eval e X.env)::starEach es X.env:=by rfl) (hpl:(backTo pos (starEach es X.env)).any (·.1)=false:=by rfl):PE X (.Call (.Name x p) (e::es) [] pos) (tCB r t):=by
 intro aA s σ H Q I h
 refine dP (a5w I hg hm hv ?_ hn hdb);exact PyProof.Rows.callWith_builtin1 (thn (ha pos aA s σ H _ I h) λus s1 ⟨vs,H1,I1,r1,q1⟩=>hc aA s1 σ H1 vs us Q I1 r1 q1) he hpl
theorem aaf(hc:CallR X (.type T) r)(hg:Gl X x)(hm:X.mg x=none)(hv:bootBuiltins x=some (.type T))(ha:PA X (e::es) t)(hn:x ≠ "__name__":=by decide)(hdb:(x == ("__debug__" : Str))=false:=by decide)
  (he:starEach (e::es) X.env=(false,eval e X.env)::starEach es X.env:=by rfl) (hpl:(backTo pos (starEach es X.env)).any (·.1)=false:=by rfl):PE X (.Call (.Name x p) (e::es) [] pos) (tCB r t):=by
 intro aA s σ H Q I h
 refine dP (a5w I hg hm hv ?_ hn hdb);exact cf (thn (ha pos aA s σ H _ I h) λus s1 ⟨vs,H1,I1,r1,q1⟩=>hc aA s1 σ H1 vs us Q I1 r1 q1) he hpl
end
end L2
namespace HT
open PyProof.Rows
section
variable{prog:Program}{w:World}{A:Around}{E:Value->Shared->Prop}{s:Shared}
theorem aom{vs ws:List Value}(ht:IsTup s.heap t vs.toArray)(hb:IsTup s.heap b ws.toArray)(hv:vs≠[])
  (h1:ws=[]->Q (.ref t) s) (h2:ws≠[]->Q (.ref s.heap.objs.size) {s with heap:=s.heap.push {cls:=.type "tuple",data:=.seq (vs++ws).toArray} })
  (hsz:vs.length+ws.length<=sizeLine):wpAny (model prog w) A (binaryOp .Add (.ref t) (.ref b)) Q E s:=by
 obtain⟨⟨cls,dd,data,sl⟩,ho,hc,n,hd⟩:=id ht;obtain⟨⟨cls2,dd2,data2,sl2⟩,ho2,hc2,n2,hd2⟩:=id hb;simp only at hc hd hc2 hd2;subst hc hd hc2 hd2;have e:vs.toArray++ws.toArray=(vs++ws).toArray:=by simp
 by_cases hw:ws=[]
 ·exact concat_meets ⟨_,ho,rfl⟩ ⟨_,ho2,rfl⟩ gY seq_tuple_add PySem.F.slot_tuple_add gT (gO _ _)
   (tuple_addW1 t b vs.toArray ws.toArray n n2 dd dd2 sl sl2 (by simpa using hv) (by simp[hw])) ⟨ho,ho2,h1 hw⟩
 ·refine concat_meets ⟨_,ho,rfl⟩ ⟨_,ho2,rfl⟩ gY seq_tuple_add PySem.F.slot_tuple_add gT (gO _ _)
   (tuple_addW2 t b vs.toArray ws.toArray n n2 dd dd2 sl sl2 (by simpa using hv) (by simpa using hw) (by rw[aL,aL];exact hsz)) ⟨ho,ho2,?_⟩
  rw[e];exact h2 hw
def sIx(n d:Nat):Option Int->Nat
 |none=>d
 |some v=>if v<0 then (v+(n:Int)).toNat else min v.toNat n
theorem a8o(n d:Nat):sIx n d none=d:=rfl
theorem ags(n d k:Nat):sIx n d (some (k:Int))=min k n:=by
 show(if (k:Int)<0 then ((k:Int)+(n:Int)).toNat else min (k:Int).toNat n)=min k n
 rw[bp (by omega),dC]
theorem agt(n d:Nat)(hd:d<=n)(o:Option Int):sIx n d o<=n:=by
 cases o with
 |none=>exact hd
 |some v =>
  show(if v<0 then (v+(n:Int)).toNat else min v.toNat n)<=n
  by_cases hv:v<0
  ·rw[aN hv];omega
  ·rw[bp hv];exact Nat.min_le_right _ _
theorem agu(v:Int)(n d:Nat):(if v<0 then max (v+(n:Int)) 0 else min v (n:Int))=((sIx n d (some v):Nat):Int):=by
 show(if v<0 then max (v+(n:Int)) 0 else min v (n:Int))=(((if v<0 then (v+(n:Int)).toNat else min v.toNat n):Nat):Int)
 by_cases hv:v<0
 ·simp only[aN hv];omega
 ·simp only[bp hv];omega
theorem af4(lo hi:Option Int)(n:Nat):Builtin.Slice.sliceAdjust lo hi 1 (n:Int)=(((sIx n 0 lo:Nat):Int),((sIx n n hi:Nat):Int)):=by
 have h1:¬ ((1:Int)<0):=by omega
 unfold Builtin.Slice.sliceAdjust;simp only[h1,eY];refine Prod.ext ?_ ?_
 ·cases lo with
  |none=>rfl
  |some v=>exact agu v n 0
 ·cases hi with
  |none=>rfl
  |some v=>exact agu v n n
theorem af5(i j:Nat):Builtin.Slice.slicePlaces (i:Int) (j:Int) 1=j-i:=by
 unfold Builtin.Slice.slicePlaces;have h1:(1:Int) > 0:=by omega
 simp only[h1,dI,Int.ediv_one]
 split<;>omega
theorem a7m(p:IsPart v o)(h:Q o s):wpAny (model prog w) A (Builtin.Slice.slicePartIndex v) Q E s:=by
 cases p with
 |none=>exact slicePart_none h
 |int i t=>exact slicePart_int h
theorem a1h{sl:Addr}{vl vu:Value}{lo hi:Option Int}{n:Nat}{Q:Int×Int×Nat->Shared->Prop}(hs:s.heap.IsSliceOf sl vl vu .none)(pl:IsPart vl lo)(pu:IsPart vu hi)
  (h:Q (((sIx n 0 lo:Nat):Int),1,sIx n n hi-sIx n 0 lo) s):wpAny (model prog w) A (Builtin.Slice.sliceApplied (.ref sl) (pure (n:Int))) Q E s:=by
 obtain⟨os,hos,hcs,hds⟩:=id hs;unfold Builtin.Slice.sliceApplied Builtin.Slice.sliceFields;refine af (af (fE hos hds (x:=vl) rfl (af (fE hos hds (x:=vu) rfl (af (fE hos hds (x:=.none) rfl (ax ?_)))))));refine af (slicePart_none ?_);show wpAny _ _ (if ((1:Int) == 0)=true then _ else _) _ _ s
 rw[bp (by decide)]
 refine af (a7m pl (af (a7m pu (af (ax ?_)))));show wpAny _ _ (match Builtin.Slice.sliceAdjust lo hi 1 (n:Int) with|(lo,hi)=>pure (lo,(1:Int),Builtin.Slice.slicePlaces lo hi 1)) _ _ s
 rw[af4 lo hi n];show wpAny _ _ (pure (((sIx n 0 lo:Nat):Int),(1:Int),Builtin.Slice.slicePlaces ((sIx n 0 lo:Nat):Int) ((sIx n n hi:Nat):Int) 1)) _ _ s;rw[af5];exact ax h
theorem ak8(xs:Array Value)(i k:Nat):((List.range k).filterMap λ(m:Nat)=>xs[((i:Int)+(m:Int)*1).toNat]?).toArray=((xs.toList.drop i).take k).toArray:=by
 have e:(λ(m:Nat)=>xs[((i:Int)+(m:Int)*1).toNat]?)=λm=>xs[i+m]?:=by
  funext m
  have:((i:Int)+(m:Int)*1).toNat=i+m:=by omega
  rw[this]
 rw[e];have:=pick_run xs i k;rw[List.filterMap_map]at this;have e2:((λx=>xs[x]?) ∘ λx=>i+x)=λm=>xs[i+m]?:=rfl;rw[e2]at this;rw[this]
theorem a4i{t sl:Addr}{aC:Array Value}{vl vu:Value}{lo hi:Option Int}{Q:Value->Shared->Prop}(ht:IsTup s.heap t aC)(hs:s.heap.IsSliceOf sl vl vu .none)(pl:IsPart vl lo)(pu:IsPart vu hi)
  (hw:¬ (sIx aC.size 0 lo=0/\sIx aC.size aC.size hi=aC.size))
  (h:Q (.ref s.heap.objs.size) {s with heap:=s.heap.push {cls:=.type "tuple",data:=.seq ((aC.toList.drop (sIx aC.size 0 lo)).take (sIx aC.size aC.size hi-sIx aC.size 0 lo)).toArray} })
  (hsz:aC.size<=sizeLine):wpAny (model prog w) A (getItem (.ref t) (.ref sl)) Q E s:=by
 have htake:sizeOk (.seq ((aC.toList.drop (sIx aC.size 0 lo)).take (sIx aC.size aC.size hi-sIx aC.size 0 lo)).toArray):=by
  show((aC.toList.drop (sIx aC.size 0 lo)).take (sIx aC.size aC.size hi-sIx aC.size 0 lo)).toArray.size<=sizeLine;rw[aL,bb,bq,bB];omega
 have hj:sIx aC.size aC.size hi<=aC.size:=agt _ _ (ay _) hi;obtain⟨os,hos,hcs,hds⟩:=id hs;have hTs:s.TypeIs (.ref sl) "slice":=⟨os,hos,hcs⟩;unfold getItem
 try with_reducible refine cK ?_
 first|refine af (ax ?_)|skip
 refine af (wpAny_sequenceKey ht.typeIs (by decide) ?_)
 refine af (cL (name:=Str.ofString "__getitem__") ht.typeIs bR
  (cG bR ht.typeIs entry_tuple_getitem ?_ (args_tuple_getitem _ _)))
 show wpAny _ _ (Builtin.Tuple.tupleItemsOf (.ref t)>>=_) _ _ s;refine af (tupleItemsOf_ ht ?_);refine af (fI hTs ?_);rw[aN (by decide)]
 refine af (a1h hs pl pu ?_);have hno:¬ ((((sIx aC.size 0 lo:Nat):Int) == 0 && (1:Int) == 1 && (sIx aC.size aC.size hi-sIx aC.size 0 lo) == aC.size)=true):=by
  intro q
  rw[bF,bF]at q;have q1:((sIx aC.size 0 lo:Nat):Int)=0:=eq_of_beq q.1.1;have q2:sIx aC.size aC.size hi-sIx aC.size 0 lo=aC.size:=eq_of_beq q.2;exact hw ⟨by omega,by omega⟩
 show wpAny _ _ (if (((sIx aC.size 0 lo:Nat):Int) == 0 && (1:Int) == 1 && (sIx aC.size aC.size hi-sIx aC.size 0 lo) == aC.size)=true then _ else _) _ _ s
 rw[bp hno,ak8]
 first
  |exact af (m:=Builtin.Tuple.tupleExact _) (cA (ax ⟨_,rfl,ax h⟩) htake)
  |exact af (m:=Builtin.Tuple.tupleExact _) (cA (af (ax (ax ⟨_,rfl,ax h⟩))) htake)
  |exact af (af (m:=Builtin.Tuple.tupleExact _) (cA (ax (ax ⟨_,rfl,ax h⟩)) htake))
  |exact af (af (m:=Builtin.Tuple.tupleExact _) (cA (ax ⟨_,rfl,ax h⟩) htake))
end
end HT
namespace L2
open PyProof.Rows
abbrev TO:=St->Hp->(Option Int->Hp->Prop)->Prop
def PO(X:Cx)(e:Option Expr)(t:TO):Prop :=
 ∀(aA:List (Addr×Obj)) (s:Shared) (σ:St) (H:Hp) (Q:Option Int->Hp->Prop),Inv X aA σ H s->t σ H Q->
  wpAny (model X.prog X.w) X.A (evalPart e X.env) (λu s'=>∃o H',Inv X aA σ H' s'/\IsPart u o/\Q o H') X.xe s
def aon:TO:=λ_ H Q=>Q none H
def axi(t:TE):TO:=λσ H Q=>t σ H λx H1=>∃i,x=.int i/\Q (some i) H1
theorem intsAre_of{ns:List Int}:∀{us:List Value},Vals (ns.map V.int) us->IntsAre us ns:=by
 induction ns with
 |nil=>intro us r;rw[dB]at r;cases r;exact .nil
 |cons n ns ih =>
  intro us r
  rw[bH]at r
  cases r with
  |cons r1 r2 =>
   obtain⟨t,e⟩:=r1;subst e;exact .cons n t (ih r2)
section
variable{X:Cx}{e:Expr}{te:TE}{lo hi:Option Expr}{tl th:TO}{pos p2:Pos}
theorem aop:PO X none aon:=by
 intro aA s σ H Q I h
 rw[evalPart_none];exact ax ⟨none,H,I,.none,h⟩
theorem aoq(h:PE X e te):PO X (some e) (axi te):=by
 intro aA s σ H Q I hw
 rw[evalPart_some];refine thn (h aA s σ H _ I hw) ?_
 rintro u s1 ⟨x,H1,I1,r1,q1⟩
 obtain⟨i,rfl,q⟩:=q1;obtain⟨t,rfl⟩:=r1;exact⟨some i,H1,I1,.int i t,q⟩
def SlR(X:Cx)(r:V->Option Int->Option Int->Hp->VK->Prop):Prop :=
 ∀(aA:List (Addr×Obj)) (s:Shared) (σ:St) (H:Hp) (x:V) (v vl vu:Value) (lo hi:Option Int) (sl:Addr) (Q:VK),Inv X aA σ H s->RelV x v->s.heap.IsSliceOf sl vl vu .none->IsPart vl lo->IsPart vu hi->r x lo hi H Q->
  ∃T id,typeLookup (.type T) "__getitem__" = pure (some (.builtin id))/\s.TypeIs v T/\wpAny (model X.prog X.w) X.A (getItem v (.ref sl)) (EP X aA σ Q) X.xe s
theorem SlR.or(h:SlR X r)(h':SlR X r'):SlR X (λx lo hi H Q=>r x lo hi H Q\/r' x lo hi H Q):=by
 intro aA s σ H x v vl vu lo hi sl Q I rx hs pl pu q
 rcases q with q|q
 ·exact h aA s σ H x v vl vu lo hi sl Q I rx hs pl pu q
 ·exact h' aA s σ H x v vl vu lo hi sl Q I rx hs pl pu q
def tSl(r:V->Option Int->Option Int->Hp->VK->Prop)(te:TE)(tl th:TO):TE:=λσ H Q=>te σ H λx H1=>tl σ H1 λl H2=>th σ H2 λu H3=>r x l u H3 Q
theorem ak9(hr:SlR X r)(he:PE X e te)(hl:PO X lo tl)(hu:PO X hi th):PE X (.Subscript e (.Slice lo hi none p2) pos) (tSl r te tl th):=by
 intro aA s σ H Q I h
 refine Subscript_ (thn (he aA s σ H _ I h) λv s1 ⟨x,H1,I1,r1,q1⟩=>?_);refine wpAny_Slice (thn (hl aA s1 σ H1 _ I1 q1) λvl s2 ⟨l,H2,I2,pl,q2⟩=>thn (hu aA s2 σ H2 _ I2 q2) λvu s3 ⟨u,H3,I3,pu,q3⟩=>?_);rw[evalPart_none];refine ax ?_;have I4:Inv X aA σ H3 {s3 with heap:=s3.heap.push {cls:=.type "slice",data:=.fields #[vl,vu,.none]} }:=I3.kept (t':=s3.toks) λb ob q=>aw _ q
 obtain⟨T,id,hT,ht,hg⟩:=hr aA {s3 with heap:=s3.heap.push {cls:=.type "slice",data:=.fields #[vl,vu,.none]} } σ H3 x v vl vu l u s3.heap.objs.size Q I4 r1 (Heap.IsSliceOf.new ..) pl pu q3
 show wpAny (model X.prog X.w) X.A (subscriptTail e (.Slice lo hi none p2) v (.ref s3.heap.objs.size)) (EP X aA σ Q) X.xe {s3 with heap:=s3.heap.push {cls:=.type "slice",data:=.fields #[vl,vu,.none]} }
 exact tail_any (ops:=[.ref s3.heap.objs.size,v]) ht hT hg (by with_unfolding_all rfl)
def amo(xs:List V)(lo hi:Option Int):List V:=(xs.drop (HT.sIx xs.length 0 lo)).take (HT.sIx xs.length xs.length hi-HT.sIx xs.length 0 lo)
theorem a65(xs:List V)(lo hi:Option Int):(amo xs lo hi).length<=xs.length:=by
 unfold amo;rw[bb,bq];omega
def axj(K:Fg):V->Option Int->Option Int->Hp->VK->Prop:=λx lo hi H Q=>∃a xs,x=.ref a/\SqT K H a xs /\
 ¬ (HT.sIx xs.length 0 lo=0/\HT.sIx xs.length xs.length hi=xs.length)/\∀p,H p=none->Q (.ref p) (upd H p (.tup (amo xs lo hi)))
theorem asq:SlR X (axj X.K):=by
 intro aA s σ H x v vl vu lo hi sl Q I rx hs pl pu h
 obtain⟨a,xs,rfl,hx,hw,q⟩:=h;cases rx
 obtain⟨its,r,ht,hz⟩:=I.tuple hx;have aH:its.toArray.size=xs.length:=by rw[aL];exact r.length.symm
 refine⟨"tuple",_,bR.lookup,ht.typeIs,?_⟩;refine HT.a4i ht hs pl pu (by rw[aH];exact hw) ?_ (by rw[aH];exact hz)
 rw[aH];refine⟨.ref s.heap.objs.size,_,I.laid (t':=s.toks) (o:=.tup (amo xs lo hi)) (λb ob q=>aw _ q) (ay _) ?_,rfl,q _ (I.hok.fresh (ay _))⟩;exact⟨bO (a65 xs lo hi) hz,_,(r.drop (HT.sIx xs.length 0 lo)).take (HT.sIx xs.length xs.length hi-HT.sIx xs.length 0 lo),IsTup.new _ _⟩
def asr(K:Fg):R2:=λx y H Q=>∃a b xs ys,x=.ref a/\y=.ref b/\SqT K H a xs/\SqT K H b ys/\xs≠[]/\xs.length+ys.length<=sizeLine /\
 (ys=[]->Q (.ref a) H)/\(ys≠[]->∀p,H p=none->Q (.ref p) (upd H p (.tup (xs++ys))))
theorem Vals.nil_iff(r:Vals xs us):us=[]↔xs=[]:=by
 cases r with
 |nil=>simp
 |cons _ _=>simp
theorem aor:OpR X (binaryOp .Add) (asr X.K):=by
 intro aA s σ H x y v u Q I rx ry h
 obtain⟨a,b,xs,ys,rfl,rfl,ha,hb,hx,hz,q1,q2⟩:=h;cases rx
 cases ry
 obtain⟨its,r1,p1,_⟩:=I.tuple ha;obtain⟨its2,r2,p2,_⟩:=I.tuple hb;refine HT.aom p1 p2 (λz=>hx (r1.nil_iff.mp z)) (λz=>⟨.ref a,H,I,rfl,q1 (r2.nil_iff.mp z)⟩) (λz=>?_) (by rw[<-r1.length,<-r2.length];exact hz)
 refine⟨.ref s.heap.objs.size,_,I.laid (t':=s.toks) (o:=.tup (xs++ys)) (λb ob q=>aw _ q) (ay _) ?_,rfl,q2 (λw=>z (r2.nil_iff.mpr w)) _ (I.hok.fresh (ay _))⟩;exact⟨by rw[ae];exact hz,_,r1.append r2,IsTup.new _ _⟩
end
def ixN(n:Nat)(i:Int):Option Nat:=if 0<=i then (if i<n then some i.toNat else none) else if -(n:Int)<=i then some (i+n).toNat else none
def atI{α:Type}(xs:List α)(i:Int):Option α:=(ixN xs.length i).bind λj=>xs[j]?
theorem agv(h:ixN n i=some j):seqIndex? i n=some j/\j<n /\ -(n:Int)<=i/\i<n:=by
 unfold ixN at h
 by_cases h0:0<=i
 ·rw[aN h0]at h
  by_cases h1:i<n
  ·rw[aN h1]at h;have e:i.toNat=j:=bQ h;exact⟨by rw[i8 h0 h1,e],by omega,by omega,h1⟩
  ·rw[bp h1]at h;cases h
 ·rw[bp h0]at h
  by_cases h1 : -(n:Int)<=i
  ·rw[aN h1]at h;have e:(i+n).toNat=j:=bQ h;exact⟨by rw[hW (by omega) h1,e],by omega,h1,by omega⟩
  ·rw[bp h1]at h;cases h
theorem a8p{α:Type}{xs:List α}{i:Int}{v:α}(h:atI xs i=some v):∃j,seqIndex? i xs.length=some j/\xs[j]? = some v/\j<xs.length /\ -(xs.length:Int)<=i/\i<xs.length:=by
 unfold atI at h
 cases e:ixN xs.length i with
 |none=>rw[e]at h;cases h
 |some j =>
  rw[e]at h;obtain⟨h1,h2,h3,h4⟩:=agv e;exact⟨j,h1,h,h2,h3,h4⟩
theorem wy{α:Type}{xs:List α}{j:Nat}{v:α}(h:xs[j]? = some v):atI xs (j:Int)=some v:=by
 have hj:j<xs.length:=(av.mp h).1;have e:ixN xs.length (j:Int)=some j:=by
  unfold ixN;rw[aN (by omega),aN (by omega)];simp
 unfold atI;rw[e];exact h
def a8q(b:Expr):Prop:=∀o i,subscripted b false o i=operate [o,i] (getItem o i)
def IxR(X:Cx)(r:R2):Prop :=
 ∀(value slice:Expr) (aA:List (Addr×Obj)) (s:Shared) (σ:St) (H:Hp) (x y:V) (v u:Value) (Q:VK),Inv X aA σ H s->RelV x v->RelV y u->r x y H Q->
  subscripted slice false v u=operate [v,u] (getItem v u)->wpAny (model X.prog X.w) X.A (subscriptTail value slice v u) (EP X aA σ Q) X.xe s
def MtR(X:Cx)(id:String)(r:V->List V->Hp->VK->Prop):Prop :=
 ∀(aA:List (Addr×Obj)) (s:Shared) (σ:St) (H:Hp) (x:V) (xs:List V) (v:Value) (us:List Value) (Q:VK),Inv X aA σ H s->RelV x v->Vals xs us->r x xs H Q->
  wpAny (model X.prog X.w) X.A (call (.builtin id) (v::us)) (EP X aA σ Q) X.xe s
section
variable{X:Cx}{a b:Expr}{ta tb:TE}{pos:Pos}
theorem IxR.or(h:IxR X r)(h':IxR X r'):IxR X (λx y H Q=>r x y H Q\/r' x y H Q):=by
 intro value slice aA s σ H x y v u Q I rx ry q hs
 rcases q with q|q
 ·exact h value slice aA s σ H x y v u Q I rx ry q hs
 ·exact h' value slice aA s σ H x y v u Q I rx ry q hs
theorem MtR.or{id:String}{r r':V->List V->Hp->VK->Prop}(h:MtR X id r)(h':MtR X id r'):MtR X id (λx xs H Q=>r x xs H Q\/r' x xs H Q):=by
 intro aA s σ H x xs v us Q I rx rs q
 rcases q with q|q
 ·exact h aA s σ H x xs v us Q I rx rs q
 ·exact h' aA s σ H x xs v us Q I rx rs q
theorem axk(hr:IxR X r)(ha:PE X a ta)(hb:PE X b tb)(hs:a8q b):PE X (.Subscript a b pos) (tOp r ta tb):=by
 intro aA s σ H Q I h
 exact Subscript_ (ax9 ha hb I h λv u s2 x y H2 I2 rx ry q=>hr a b aA s2 σ H2 x y v u Q I2 rx ry q (hs _ _))
def awf(K:Fg):R2:=λx y H Q=>∃p xs i v,x=.ref p/\y=.int i/\SqL K H p xs/\atI xs i=some v/\Q v H
def ayv(K:Fg):R2:=λx y H Q=>∃p xs i v,x=.ref p/\y=.int i/\SqT K H p xs/\atI xs i=some v/\Q v H
def ayw:R2:=λx y H Q=>∃z i c,x=.str z/\y=.int i/\z.length<=sizeLine/\atI z.cps.toList i=some c/\Q (.str ⟨#[c]⟩) H
theorem aos:IxR X (awf X.K):=by
 intro value slice aA s σ H x y v u Q I rx ry h hs
 obtain⟨p,xs,i,z,rfl,rfl,hq,he,q⟩:=h;cases rx
 obtain⟨t,rfl⟩:=ry;obtain⟨its,r,pl,hz⟩:=I.list hq;obtain⟨j,h1,h2,h3,h4,h5⟩:=a8p he;obtain⟨w,ew,rw'⟩:=r.get h2;have hl:=r.length;have hn:=a4y;have fin:EP X aA σ Q w s:=⟨z,H,I,rw',q⟩
 by_cases h0:0<=i
 ·have hj:i.toNat=j:=by
   rw[i8 h0 h5]at h1;exact bQ h1
  exact item_listR pl.isList h0 (by omega) (by rw[hj];simpa using ew) fin hs
 ·have hj:(i+(its.toArray.size:Int)).toNat=j:=by
   rw[hW (by omega) h4]at h1
   rw[aL,<-hl];exact bQ h1
  exact subscriptTail_builtinR (x:=w) pl.isList.typeIs slot_list_getitem.lookup
   (wpAny_getItem_list_neg (Q:=λr s'=>r=w/\EP X aA σ Q r s') pl.isList (by omega) (by rw[aL]<;>omega) (by omega) (by rw[hj];simpa using ew) ⟨rfl,fin⟩) hs
theorem a66:IxR X (ayv X.K):=by
 intro value slice aA s σ H x y v u Q I rx ry h hs
 obtain⟨p,xs,i,z,rfl,rfl,hq,he,q⟩:=h;cases rx
 obtain⟨t,rfl⟩:=ry;obtain⟨its,r,pl,hz⟩:=I.tuple hq;obtain⟨j,h1,h2,h3,h4,h5⟩:=a8p he;obtain⟨w,ew,rw'⟩:=r.get h2;have hl:=r.length;have hn:=a4y;have fin:EP X aA σ Q w s:=⟨z,H,I,rw',q⟩;exact subscriptTail_builtinR (x:=w) pl.typeIs slot_tuple_getitem.lookup
  (getItem_tuple (j:=j) (Q:=λr s'=>r=w/\EP X aA σ Q r s') pl (by omega) (by omega) (by rw[aL,<-hl];exact h1) (by simpa using ew) ⟨rfl,fin⟩) hs
theorem ass:IxR X ayw:=by
 intro value slice aA s σ H x y v u Q I rx ry h hs
 obtain⟨z,i,c,rfl,rfl,hz,he,q⟩:=h;obtain⟨t,rfl⟩:=rx;obtain⟨t',rfl⟩:=ry;obtain⟨j,h1,h2,h3,h4,h5⟩:=a8p he;have hl:z.cps.toList.length=z.length:=by simp[Str.length]
 rw[hl]at h1 h4 h5;have hn:=a4y;exact tail_any (typeIs_str s z t) slot_str_getitem.lookup (getItem_str (c:=c) (by
  have e1:decide (i < -(2^63:Int))=false:=bA (by omega)
  have e2:decide (i≥2^63)=false:=bA (by omega)
  rw[e1,e2,Bool.or_false]) (by rw[h1];simpa using h2) ⟨.str ⟨#[c]⟩,H,I.tok _,⟨_,rfl⟩,q⟩) hs
def rIx(K:Fg):R2:=λx y H Q=>awf K x y H Q\/ayv K x y H Q\/ayw x y H Q
theorem asu:IxR X (rIx X.K):=aos.or (a66.or ass)
theorem af6(its:List Value)(n j:Nat)(u:Value):Obj.mapSeq (·.setIfInBounds j u) {cls:=.type "list",data:=.seq its.toArray n}={cls:=.type "list",data:=.seq (its.set j u).toArray n}:=by
 simp[Obj.mapSeq]
theorem Inv.lst{aA:List (Addr×Obj)}{σ:St}{H:Hp}{s:Shared}{p:Addr}{xs:List V}(I:Inv X aA σ H s)(h:H p=some (.lst xs)) :
  ∃(its:List Value) (n:Nat),Vals xs its/\s.heap.get? p=some {cls:=.type "list",data:=.seq its.toArray n}/\xs.length<=sizeLine:=by
 obtain⟨z,its,n,r,e⟩:=I.hok p _ h;exact⟨its,n,r,e,z⟩
theorem Inv.lstUpd{its its':List Value}(I:Inv X aA σ H s)(h:H p=some (.lst xs))
  (ho:s.heap.get? p=some {cls:=.type "list",data:=.seq its.toArray n}) (hf:f {cls:=.type "list",data:=.seq its.toArray n}={cls:=.type "list",data:=.seq its'.toArray n' }) (r:Vals ys its') (hz:ys.length<=sizeLine) (t:Nat) :
  Inv X aA σ (upd H p (.lst ys)) {s with heap:=s.heap.update p f,toks:=t}:=by
 have e:(s.heap.update p f).get? p=some {cls:=.type "list",data:=.seq its'.toArray n' }:=by
  rw[cY f ho (by rw[hf]<;>rfl),hf]
 refine I.write (x:=p) (e:=p) (by rw[h];trivial) (.inl rfl) (λb u hb q=>(cO _ _ (eX hb)).trans q) ⟨_,e⟩ ?_
 exact⟨hz,its',n',r,e⟩
def asv:V->V->V->Hp->(Hp->Prop)->Prop:=λo i v H Q=>∃p xs k j,o=.ref p/\i=.int k/\H p=some (.lst xs)/\ixN xs.length k=some j/\Q (upd H p (.lst (xs.set j v)))
theorem set_list:ax4 X asv:=by
 intro aA s σ H o i v ov iv u Q I ro ri rv h
 obtain⟨p,xs,k,j,rfl,rfl,hp,hj,q⟩:=h;cases ro
 obtain⟨t,rfl⟩:=ri;obtain⟨its,n,r,ho,hz⟩:=I.lst hp;obtain⟨h1,h2,h3,h4⟩:=agv hj;have hl:=r.length;have hn:=a4y;have I':Inv X aA σ (upd H p (.lst (xs.set j v))) {s with heap:=s.heap.update p (Obj.mapSeq (·.setIfInBounds j u))} :=
  I.lstUpd hp ho (af6 its n j u) (r.set rv j) (by rw[hX];exact hz) s.toks
 by_cases h0:0<=k
 ·have hk:k.toNat=j:=by
   rw[i8 h0 h4]at h1;exact bQ h1
  exact PySem.W.ki_setAt ho h0 (by omega) (by rw[aL,<-hl];exact h4) (by rw[hk];exact⟨_,I',q⟩)
 ·have hk:(k+(its.toArray.size:Int)).toNat=j:=by
   rw[hW (by omega) h3]at h1
   rw[aL,<-hl];exact bQ h1
  exact PySem.W.ki_setBack ho (by omega) (by rw[aL,<-hl];exact h3) (by omega) (by rw[hk];exact⟨_,I',q⟩)
theorem aag(lo hi:Option Int)(n:Nat):(sliceBounds lo hi none n).1=((HT.sIx n 0 lo:Nat):Int)/\(sliceBounds lo hi none n).2.1=((HT.sIx n n hi:Nat):Int)/\(sliceBounds lo hi none n).2.2=1:=by
 refine⟨?_,?_,rfl⟩
 ·cases lo with
  |none=>simp[sliceBounds,HT.sIx]
  |some i =>
   simp only[sliceBounds,HT.sIx,gZ,show(1:Int) > 0 by decide,dI]
   by_cases h:i<0
   ·simp only[h,dI]<;>omega
   ·simp only[h,eY]<;>omega
 ·cases hi with
  |none=>simp[sliceBounds,HT.sIx]
  |some i =>
   simp only[sliceBounds,HT.sIx,gZ,show(1:Int) > 0 by decide,dI]
   by_cases h:i<0
   ·simp only[h,dI]<;>omega
   ·simp only[h,eY]<;>omega
theorem a8r(its:List Value)(lo hi:Option Int):slicePick its.toArray lo hi none=((its.drop (HT.sIx its.length 0 lo)).take (HT.sIx its.length its.length hi-HT.sIx its.length 0 lo)).toArray:=by
 obtain⟨h1,h2,h3⟩:=aag lo hi its.toArray.size;unfold slicePick;rw[h1,h2,h3];simp only[sliceRange_one,pick_run,aL]<;>rfl
def axl(K:Fg):V->Option Int->Option Int->Hp->VK->Prop:=λx lo hi H Q=>∃a xs,x=.ref a/\SqL K H a xs/\∀p,H p=none->Q (.ref p) (upd H p (.lst (amo xs lo hi)))
theorem aot:SlR X (axl X.K):=by
 intro aA s σ H x v vl vu lo hi sl Q I rx hs pl pu h
 obtain⟨a,xs,rfl,hx,q⟩:=h;cases rx
 obtain⟨its,r,ht,hz⟩:=I.list hx;have aH:=r.length;refine⟨"list",_,slot_list_getitem.lookup,ht.isList.typeIs,?_⟩;refine wpAny_getItem_list_slice ht.isList hs pl pu .none (by simp) ?_ (by rw[aL]<;>omega)
 rw[a8r,<-aH];refine⟨.ref s.heap.objs.size,_,I.laid (t':=s.toks) (o:=.lst (amo xs lo hi)) (λb ob q=>aw _ q) (ay _) ?_,rfl,q _ (I.hok.fresh (ay _))⟩;exact⟨bO (a65 xs lo hi) hz,_,0,(r.drop (HT.sIx xs.length 0 lo)).take (HT.sIx xs.length xs.length hi-HT.sIx xs.length 0 lo),aT _ rfl⟩
def a3g:V->Bool
 |.non=>true
 |.bl _=>true
 |.int _=>true
 |.str _=>true
 |_=>false
def eqV:V->V->Bool
 |.non,.non=>true
 |.bl a,.bl b=>a == b
 |.bl a,.int b=>(if a then 1 else 0) == b
 |.int a,.bl b=>a == (if b then 1 else 0)
 |.int a,.int b=>a == b
 |.str a,.str b=>a == b
 |_,_=>false
theorem agw(ry:RelV y u)(rx:RelV x v)(fy:a3g y=true)(fx:a3g x=true):SeqAt.EqAt A s u v (eqV y x):=by
 cases y with
 |non =>
  cases ry
  cases x with
  |non=>cases rx;exact SeqAt.EqAt.same _
  |bl b=>cases rx;exact SeqAt.EqAt.none_bool b
  |int b=>obtain⟨t,rfl⟩:=rx;exact SeqAt.EqAt.none_int b t
  |str b=>obtain⟨t,rfl⟩:=rx;exact SeqAt.EqAt.none_str b t
  |_=>exact absurd (show false=true from fx) aU
 |bl a =>
  cases ry
  cases x with
  |non=>cases rx;exact SeqAt.EqAt.bool_none a
  |bl b=>cases rx;exact SeqAt.EqAt.bool_bool a b
  |int b=>obtain⟨t,rfl⟩:=rx;exact SeqAt.EqAt.bool_int a b t
  |str b=>obtain⟨t,rfl⟩:=rx;exact SeqAt.EqAt.bool_str a b t
  |_=>exact absurd (show false=true from fx) aU
 |int a =>
  obtain⟨t',rfl⟩:=ry
  cases x with
  |non=>cases rx;exact SeqAt.EqAt.int_none a t'
  |bl b=>cases rx;exact SeqAt.EqAt.int_bool a t' b
  |int b=>obtain⟨t,rfl⟩:=rx;exact SeqAt.EqAt.int_int a t' b t
  |str b=>obtain⟨t,rfl⟩:=rx;exact SeqAt.EqAt.int_str a t' b t
  |_=>exact absurd (show false=true from fx) aU
 |str a =>
  obtain⟨t',rfl⟩:=ry
  cases x with
  |non=>cases rx;exact SeqAt.EqAt.str_none a t'
  |bl b=>cases rx;exact SeqAt.EqAt.str_bool a t' b
  |int b=>obtain⟨t,rfl⟩:=rx;exact SeqAt.EqAt.str_int a t' b t
  |str b=>obtain⟨t,rfl⟩:=rx;exact SeqAt.EqAt.str_str a t' b t
  |_=>exact absurd (show false=true from fx) aU
 |_=>exact absurd (show false=true from fy) aU
def eqU(x:V)(u:Value):Bool:=match u with
 |.none=>eqV .non x
 |.bool b=>eqV (.bl b) x
 |.int i _=>eqV (.int i) x
 |.str z _=>eqV (.str z) x
 |_=>false
theorem amq(r:RelV y u)(f:a3g y=true):eqU x u=eqV y x:=by
 cases y with
 |non=>cases r;rfl
 |bl b=>cases r;rfl
 |int i=>obtain⟨t,rfl⟩:=r;rfl
 |str z=>obtain⟨t,rfl⟩:=r;rfl
 |_=>exact absurd (show false=true from f) aU
theorem a67:∀{xs:List V} {us:List Value},Vals xs us->xs.all a3g=true->us.any (eqU x)=xs.any λy=>eqV y x
 |_,_,.nil,_=>rfl
 |y::xs,u::us,.cons r t,f=>by
  rw[fP,bF]at f;rw[fQ,fQ,amq r f.1,a67 t f.2]
theorem a3n(rx:RelV x v)(fx:a3g x=true):∀{xs:List V} {us:List Value},Vals xs us->xs.all a3g=true->∀u∈us,SeqAt.EqAt A s u v (eqU x u)
 |_,_,.nil,_=>λu hu=>by cases hu
 |y::xs,u::us,.cons r t,f=>λu' hu=>by
  rw[fP,bF]at f
  rcases aO.mp hu with rfl|hu
  ·rw[amq r f.1];exact agw r rx f.1 fx
  ·exact a3n rx fx t f.2 u' hu
def inV(x:V)(xs:List V):Bool:=xs.any λy=>eqV y x
def rIn(K:Fg)(neg:Bool):R2:=λx y H Q=>∃p xs,y=.ref p/\(SqL K H p xs\/SqT K H p xs)/\a3g x=true/\xs.all a3g=true/\Q (.bl (if neg then !inV x xs else inV x xs)) H
theorem a3o:OpR X (compareOp .In) (rIn X.K false):=by
 intro aA s σ H x y v u Q I rx ry h
 obtain⟨p,xs,rfl,hq,fx,fs,q⟩:=h;cases ry
 rcases hq with hq|hq
 ·obtain⟨its,r,pl,hz⟩:=I.list hq;refine SeqAt.in_listAt (eqU x) pl.isList (λw hw=>a3n rx fx r fs w (by simpa using hw)) ⟨.bl _,H,I,rfl,?_⟩
  rw[show its.toArray.any (eqU x)=its.any (eqU x) by simp,a67 r fs]
  exact q
 ·obtain⟨its,r,pl,hz⟩:=I.tuple hq;refine SeqAt.in_tupleAt (eqU x) pl (λw hw=>a3n rx fx r fs w (by simpa using hw)) ⟨.bl _,H,I,rfl,?_⟩
  rw[show its.toArray.any (eqU x)=its.any (eqU x) by simp,a67 r fs]
  exact q
theorem a1p:OpR X (compareOp .NotIn) (rIn X.K true):=by
 intro aA s σ H x y v u Q I rx ry h
 obtain⟨p,xs,rfl,hq,fx,fs,q⟩:=h;cases ry
 rcases hq with hq|hq
 ·obtain⟨its,r,pl,hz⟩:=I.list hq;refine SeqAt.notIn_listAt (eqU x) pl.isList (λw hw=>a3n rx fx r fs w (by simpa using hw)) ⟨.bl _,H,I,rfl,?_⟩
  rw[show its.toArray.any (eqU x)=its.any (eqU x) by simp,a67 r fs]
  exact q
 ·obtain⟨its,r,pl,hz⟩:=I.tuple hq;refine SeqAt.notIn_tupleAt (eqU x) pl (λw hw=>a3n rx fx r fs w (by simpa using hw)) ⟨.bl _,H,I,rfl,?_⟩
  rw[show its.toArray.any (eqU x)=its.any (eqU x) by simp,a67 r fs]
  exact q
theorem aah:CallR X (.builtin "len") (λxs H Q=>∃p ys,xs=[.ref p]/\(SqL X.K H p ys\/SqT X.K H p ys)/\Q (.int ys.length) H):=by
 intro aA s σ H xs us Q I r h
 obtain⟨p,ys,rfl,hq,q⟩:=h;obtain⟨u,rfl,rx⟩:=vals1 r;cases rx
 have hn:=a4y
 rcases hq with hq|hq
 ·obtain⟨its,r',pl,hz⟩:=I.list hq;have aH:=r'.length;exact Calls.call_len_list pl.isList (by simp only[aL]<;>omega) ⟨.int ys.length,H,I.tok _,⟨s.toks+1,by rw[aL,aH]⟩,q⟩
 ·obtain⟨its,r',pl,hz⟩:=I.tuple hq;have aH:=r'.length;exact len_tuple pl (by simp only[aL]<;>omega) ⟨.int ys.length,H,I.tok _,⟨s.toks+1,by rw[aL,aH]⟩,q⟩
theorem aai:CallR X (.builtin "len") (λxs H Q=>∃z,xs=[.str z]/\z.length<=sizeLine/\Q (.int z.length) H):=by
 intro aA s σ H xs us Q I r h
 obtain⟨z,rfl,hz,q⟩:=h;obtain⟨u,rfl,t,rfl⟩:=vals1 r;have hn:=a4y;exact len_str (by omega) ⟨.int z.length,H,I.tok _,⟨_,rfl⟩,q⟩
theorem CallR.or(h:CallR X f r)(h':CallR X f r'):CallR X f (λxs H Q=>r xs H Q\/r' xs H Q):=by
 intro aA s σ H xs us Q I rs q
 rcases q with q|q
 ·exact h aA s σ H xs us Q I rs q
 ·exact h' aA s σ H xs us Q I rs q
theorem yx:CallR X (.type "tuple") (λxs H Q=>∃p ys,xs=[.ref p]/\((SqL X.K H p ys/\∀l,H l=none->Q (.ref l) (upd H l (.tup ys)))\/(SqT X.K H p ys/\Q (.ref p) H))):=by
 intro aA s σ H xs us Q I r h
 obtain⟨p,ys,rfl,h⟩:=h;obtain⟨u,rfl,rx⟩:=vals1 r;cases rx
 rcases h with⟨hq,q⟩|⟨hq,q⟩
 ·obtain⟨its,r',pl,hz⟩:=I.list hq;have aH:=r'.length;refine call_tuple_list pl.isList (λh' kp=>?_) (by simp only[aL]<;>omega)
  have I1:Inv X aA σ H {s with heap:=h' }:=I.kept (t':=s.toks) kp
  have I2:Inv X aA σ (upd H h'.objs.size (.tup ys)) {s with heap:=h'.push {cls:=.type "tuple",data:=.seq its.toArray} } :=
   I1.laid (t':=s.toks) (λb o e=>aw _ e) (ay _) (show ObjOk X.prog X.w _ _ _ (.tup ys) from ⟨hz,its,r',IsTup.new _ _⟩)
  exact⟨.ref h'.objs.size,_,I2,rfl,q _ (I1.hok.fresh (ay _))⟩
 ·obtain⟨its,r',pl,hz⟩:=I.tuple hq;exact call_tuple_same pl ⟨.ref p,H,I,rfl,q⟩
def tyV(K:Fg)(T:String)(x:V)(H:Hp):Prop:=match x with
 |.str _=>T = "str"
 |.int _=>T = "int"
 | .ref p=>(T = "list"/\∃xs,SqL K H p xs)\/(T = "tuple"/\∃o,K.lookup p=some o/\o.cls=.type "tuple"/\o.dict=none) \/
   (T = "dict"/\((∃kvs,H p=some (.dK kvs))\/∃kvs,H p=some (.dT kvs)))\/(T = "set"/\∃S n,H p=some (.set S n))
 |_=>False
theorem asw(I:Inv X aA σ H s)(r:RelV x v)(ty:tyV X.K T x H) :
  s.TypeIs v T/\∀a,v=.ref a->∃ob,s.heap.get? a=some ob/\ob.dict=none:=by
 cases x with
 |str z =>
  obtain⟨t,rfl⟩:=r
  cases (show T = "str" from ty)
  exact⟨typeIs_str s z t,λ_ e=>nomatch e⟩
 |int i =>
  obtain⟨t,rfl⟩:=r
  cases (show T = "int" from ty)
  exact⟨eF s i t,λ_ e=>nomatch e⟩
 |ref p =>
  cases r
  rcases ty with⟨rfl,xs,hq⟩|⟨rfl,o,hk,hc,hd⟩|⟨rfl,hk⟩|⟨rfl,S,n,hk⟩
  ·obtain⟨its,_,pl,_⟩:=I.list hq;refine⟨pl.isList.typeIs,λa e=>?_⟩;cases e
   obtain⟨o,n,e,c,hd,_⟩:=pl;exact⟨o,e,hd⟩
  ·refine⟨⟨o,I.kIn p o hk,hc⟩,λa e=>?_⟩;cases e
   exact⟨o,I.kIn _ o hk,hd⟩
  ·have z:∃o,s.heap.get? p=some o/\o.ExactDict:=by
    rcases hk with⟨kvs,hk⟩|⟨kvs,hk⟩
    ·obtain⟨_,_,_,_,o,_,_,e,ex,_⟩:=I.hok p _ hk;exact⟨o,e,ex⟩
    ·obtain⟨_,_,_,_,o,_,_,e,ex,_⟩:=I.hok p _ hk;exact⟨o,e,ex⟩
   obtain⟨o,e,ex⟩:=z;refine⟨⟨o,e,ex.1⟩,λa e2=>?_⟩;cases e2
   exact⟨o,e,ex.2.1⟩
  ·obtain⟨o,_,_,_,e,ex,_⟩:=I.hok p _ hk;refine⟨⟨o,e,ex.1⟩,λa e2=>?_⟩;cases e2
   exact⟨o,e,ex.2.1⟩
 |_=>exact False.elim ty
def tBM(K:Fg)(T:String)(r:V->List V->Hp->VK->Prop)(to:TE)(t:TA):TE:=λσ H Q=>to σ H λx H1=>tyV K T x H1/\t σ H1 λxs H2=>r x xs H2 Q
variable{o e:Expr}{es:List Expr}{to:TE}{t:TA}{name:Str}{apos cpos:Pos}{T id:String}{r:V->List V->Hp->VK->Prop}
theorem axm(pa:PlainAttrs T)(slot:Slot T name id)(hty:typeOf (.builtin id)=pure (.type "method_descriptor"))(hm:MtR X id r)(ho:PE X o to)(ha:PA X (e::es) t)
  (hbase:attributeBase o name X.env (eval o X.env)=eval o X.env:=by rfl)
  (hfew:((backTo cpos (starEach (e::es) X.env)).all (λx => !x.1) && (backToKw cpos (keywordEach [] X.env)).all (λx=>x.1.isSome)
   && decide ((e::es).length+([]:List Keyword).length+(if ([]:List Keyword).isEmpty then 0 else 1)<30))=true:=by rfl)
  (hline:(apos.endLine == cpos.line)=true:=by rfl) (hs:starEach (e::es) X.env=(false,eval e X.env)::starEach es X.env:=by rfl) (hplain:(backTo cpos (starEach es X.env)).any (·.1)=false:=by rfl) :
  PE X (.Call (.Attribute o name apos) (e::es) [] cpos) (tBM X.K T r to t):=by
 intro aA s σ H Q I h
 refine wpAny_Call_method_late hbase hfew hline rfl (thn (ho aA s σ H _ I h) λv s1 ⟨x,H1,I1,r1,ty,q1⟩=>?_);obtain⟨h1,h2⟩:=asw I1 r1 ty;refine⟨T,id,pa,slot,hty,h1,h2,?_⟩;have hA:=ha cpos aA s1 σ H1 _ I1 q1;rw[hs]at hA ⊢;refine Calls.callWith_builtin (by show(false || (backTo cpos (starEach es X.env)).any (·.1))=false;rw[hplain]<;>rfl) (Calls.evalArgs_plain ?_)
 exact thn hA λus s2 ⟨vs,H2,I2,r2,q2⟩=>hm aA s2 σ H2 x vs v us Q I2 r1 r2 q2
end
def MtM(X:Cx)(id:String)(r:V->List V->Hp->VK->Prop):Prop :=
 ∀(aA:List (Addr×Obj)) (s:Shared) (σ:St) (H:Hp) (x:V) (xs:List V) (v:Value) (us:List Value) (Q:VK),Inv X aA σ H s->RelV x v->Vals xs us->r x xs H Q->
  wpAny (model X.prog X.w) X.A (call (.builtin id) (v::us)) (EP X aA σ Q) X.xe s
theorem Vals.one:∀{x:V} {us:List Value},Vals [x] us->∃u,us=[u]/\RelV x u
 |_,_,.cons r .nil=>⟨_,rfl,r⟩
theorem Vals.rep(h:Vals xs us):∀k:Nat,Vals (List.replicate k xs).flatten (List.replicate k us).flatten
 |0=>.nil
 |k+1=>by
  rw[aV,aV,cP,cP];exact Vals.append h (Vals.rep h k)
theorem foldl_rep(its:List Value):∀(k:Nat) (acc:List Value),
  List.foldl (λx1 x2=>x1++x2) acc.toArray (List.replicate k its.toArray)=(acc++(List.replicate k its).flatten).toArray
 |0,acc=>by simp
 |k+1,acc=>by
  have e:acc.toArray++its.toArray=(acc++its).toArray:=by simp
  have e2:(acc++its)++(List.replicate k its).flatten=acc++(List.replicate (k+1) its).flatten:=by
   rw[aV,cP,cJ]
  rw[<-e2,<-foldl_rep its k (acc++its),<-e,aV,fV]
section
variable{X:Cx}{aA:List (Addr×Obj)}{σ:St}{H:Hp}{s:Shared}{l b:Addr}{xs ys zs:List V}
theorem Inv.lset{its its':List Value}(I:Inv X aA σ H s)(hH:H l=some (.lst xs))
  (e:s.heap.get? l=some {cls:=.type "list",data:=.seq its.toArray n}) (hf:f its.toArray=its'.toArray) (hv:Vals ys its') (hz:ys.length<=sizeLine) :
  Inv X aA σ (upd H l (.lst ys)) {s with heap:=s.heap.update l (Obj.mapSeq f),toks:=t' }:=by
 have q:=hG e f;rw[hf]at q;refine I.write (x:=l) (e:=l) (by rw[hH];exact trivial) (.inl rfl) (λb' u hb hu=>(cO s.heap (Obj.mapSeq f) (eX hb)).trans hu) ⟨_,q⟩ ?_
 exact⟨hz,its',_,hv,q⟩
theorem Inv.lnew(I:Inv X aA σ H s)(hv:Vals ys its)(hz:ys.length<=sizeLine) :
  Inv X aA σ (upd H s.heap.objs.size (.lst ys)) {s with heap:=s.heap.push {cls:=.type "list",data:=.seq its.toArray},toks:=t' } :=
 I.laid (λ_ _ q=>aw _ q) (ay _) ⟨hz,its,0,hv,aT _ rfl⟩
theorem Inv.fresh(I:Inv X aA σ H s):H s.heap.objs.size=none:=I.hok.fresh (ay _)
theorem Inv.lstM(I:Inv X aA σ H s)(hH:H l=some (.lst xs)):xs.length<=sizeLine/\∃(its:List Value) (n:Nat),Vals xs its/\xs.length=its.length/\s.heap.get? l=some {cls:=.type "list",data:=.seq its.toArray n}:=by
 obtain⟨z,its,n,r,e⟩:=I.hok l _ hH;exact⟨z,its,n,r,r.length,e⟩
theorem a3p(h:n<=sizeLine):Builtin.List.listTooLong n=false:=by
 unfold Builtin.List.listTooLong;exact bA (by omega)
end
section
variable{X:Cx}
def agx:V->List V->Hp->VK->Prop:=λx vs H Q=>∃l xs y,x=.ref l/\vs=[y]/\H l=some (.lst xs)/\xs.length<sizeLine/\Q .non (upd H l (.lst (xs++[y])))
theorem a1q:MtM X "list.append" agx:=by
 intro aA s σ H x vs v us Q I rx rv h
 obtain⟨l,xs,y,rfl,rfl,hH,hz,q⟩:=h;cases rx
 obtain⟨u,rfl,ru⟩:=rv.one;obtain⟨z,its,n,r,hl,e⟩:=I.lstM hH;refine cQ c8 ⟨_,e,rfl⟩ fW (fN _ _) (gP l its.toArray n u (by rw[aL];omega)) ⟨e,?_⟩
 refine⟨.non,_,I.lset (its':=its++[u]) hH e (by simp) (r.append (.cons ru .nil)) ?_,rfl,q⟩
 rw[ae,aM];omega
def asx:R2:=λx y H Q=>∃l k xs,x=.ref l/\y=.int k/\H l=some (.lst xs) /\ -(2^63)<=k/\k<2^63/\xs.length*k.toNat<=sizeLine /\
 ∀p,H p=none->Q (.ref p) (upd H p (.lst (List.replicate k.toNat xs).flatten))
theorem len_rep{α:Type}(xs:List α)(k:Nat):(List.replicate k xs).flatten.length=k*xs.length:=by
 induction k with
 |zero=>simp
 |succ k ih=>rw[aV,cP,ae,ih,bX,gz]
theorem asy:OpR X (binaryOp .Mult) asx:=by
 intro aA s σ H x y v u Q I rx ry h
 obtain⟨l,k,xs,rfl,rfl,hH,h1,h2,hz,q⟩:=h;cases rx
 obtain⟨t,rfl⟩:=ry;obtain⟨z,its,n,r,hl,e⟩:=I.lstM hH;have aH:its.toArray.size*k.toNat<=sizeLine:=by rw[aL,<-hl];exact hz
 have hcap:¬ its.toArray.size*k.toNat > (2^63-1) / 8:=by
  have:(sizeLine:Nat)<=(2^63-1) / 8:=by decide
  omega
 have hfit:¬ (!Builtin.List.listFitsIndex k)=true:=by
  rw[fitsIndex_both h1 h2];exact aU
 have hlong:¬ Builtin.List.listTooLong (its.toArray.size*k.toNat)=true:=by
  rw[a3p aH];exact aU
 have hnew:List.foldl (λx1 x2=>x1++x2) #[] (List.replicate (if its.toArray.isEmpty=true then 0 else k.toNat) its.toArray)=(List.replicate k.toNat its).flatten.toArray:=by
  have f0:∀m:Nat,List.foldl (λx1 x2=>x1++x2) #[] (List.replicate m its.toArray)=(List.replicate m its).flatten.toArray:=λm=>by
   have:=foldl_rep its m []
   rw[dH]at this;exact this
  rw[f0]
  cases its with
  |nil=>simp
  |cons a r'=>rw[bp (by simp)]
 refine cU (T := "list") (U := "int") (by decide) ⟨_,e,rfl⟩ (λs'=>eF s' k t) noFill_list_mul fg cM repeat_list eP.lookup
  (cQ cM (eF s k t) eQ (eN _ _) (int___rmul___int_list k t l its.toArray n)
   ⟨e,rfl,⟨_,e,rfl⟩,cQ F.slot_list_mul ⟨_,e,rfl⟩ F.entry_list_mul (F.args_list_mul_2 _ _) (fh l its.toArray n k t hfit hcap hlong) ⟨e,?_⟩⟩)
 rw[hnew];exact⟨.ref _,_,I.lnew (t':=s.toks) (r.rep k.toNat) (by rw[len_rep,eH];exact hz),rfl,q _ I.fresh⟩
end
end L2
namespace Att
open PySem.W PySem.Calls PyProof.Rows
theorem a68:∀(ns:List Int) (vs:List Value),WellAll P h vs (ns.map WData.int)->IntsAre vs ns:=by
 intro ns
 induction ns with
 |nil =>
  intro vs w
  rw[dB]at w;cases w
  exact .nil
 |cons n ns ih =>
  intro vs w
  rw[bH]at w
  cases w with
  |cons a b =>
   cases a
   exact .cons _ _ (ih _ b)
theorem agy{l:OpenLaw}(hn:l.most=some n)
  (hpre:l.row.toRowW.claim.pre args=true) (hwl:WellAll P h vals args) :
  ∃a vs ns,vals=[Value.ref a]/\args=[WData.list (ns.map WData.int)]/\h.get? a=some {cls:=.type "list",data:=.seq vs.toArray}/\IntsAre vs ns/\ns.length<=n:=by
 have hsh:WShape.hasAll [] args [.list .int]=true:=(pre_splitW hpre).1;have hc:l.pre.holds [] {args:=args}=true:=(pre_splitW hpre).2;obtain⟨d,r,rfl,h1,h2⟩:=hasAllW_cons hsh;obtain rfl:=hasAllW_nil h2;obtain⟨xs,rfl,h3⟩:=hasW_list h1;obtain⟨ns,rfl⟩:=items_int h3;have aH:ns.length<=n:=by
  unfold OpenLaw.pre at hc;have h4:(WTm.not (.lt (.lit (.int (n:Int))) (.len (.arg 0)))).holds [] {args:=[.list (ns.map .int)]}=true:=by
   have h4:=(holds_andW hc).1;rw[hn]at h4;exact h4
  have h5:=condW_of h4 (w_not (w_lt w_lit (w_len_list (w_arg rfl))));rw[ah]at h5;refine Nat.le_of_not_lt λq=>?_;have q':(n:Int)<((ns.length:Nat):Int):=by omega
  first
   |(rw[cV q']at h5;exact absurd h5 (by decide))
   |(simp at h5;omega)
 cases hwl with
 |cons w1 w2 =>
  cases w2
  cases w1 with
  |list ho hall=>exact⟨_,_,ns,rfl,rfl,ho,a68 ns _ hall,aH⟩
theorem agz(l:OpenLaw)(args:List WData):l.row.toRowW.claim.post args (.bool true) args=true :=
 postW_of (r:=l.row.toRowW) (X:=(true == true))
  (show WShape.has [] (.bool true) .bool=true by first|rfl|decide|simp[WShape.has,WShape.arms,WShape.armsAll])
  (show(WTm.eq .res (.lit (.bool true))).value [] {args:=args,res:=some (.bool true),after:=args}=some (.bool (true == true)) from w_eq_bool (w_res rfl) w_lit) rfl
theorem aby{l:OpenLaw}{d:DefRec}
  (hn:l.most=some n) (hdf:d.params.defaults=[])
  (call:∀(w:World) (s₀ s₁:Shared) (mg mb:Str->Option Value) (fa:Addr) (o:Obj) (pm cd doc:Value) (a:Addr) (vs:List Value) (ns:List Int),
   Ground q loose [] XP w s₀ mg mb s₁.heap->YP w s₁.heap->
   s₁.heap.get? fa=some o->o.data=.func (docDef d.name d.params d.body d.scope pm cd doc)->s₁.heap.CodeRec cd d.name->mg d.name=some (.ref fa)->
   s₁.heap.get? a=some {cls:=.type "list",data:=.seq vs.toArray}->IntsAre vs ns->ns.length<=n->s₁.gens = #[]->
   codeAny (model l.prog w) callerA (.call (.ref fa) ⟨[.ref a],[]⟩) (λr s'=>r=.ok (.ret (.bool true))/\OldK s₁.heap s'.heap/\s'.os=s₁.os/\AllBare s'.gens) s₁) :
  WalkO q loose XP YP l.row.toRowW d [] (λf vs=>PySem.call f vs):=by
 intro w s₀ s₁ mg mb G Y fa o pm cd doc dV kV ho hd hcd hD hmg hg args vals as hpre hlay hrd hwl hlo
 obtain rfl:dV=.none:=Dflts.none hD hdf
 obtain rfl:kV=.none:=Dflts.noKw hD
 obtain⟨a,vs,ns,rfl,rfl,hobj,hints,aH⟩:=agy hn hpre hwl;refine enter_call (eV (call w s₀ s₁ mg mb fa o pm cd doc a vs ns G Y ho (fd_plain hd) hcd hmg hobj hints aH hg) λr s' hq=>?_);obtain⟨rfl,h2,h3,h4⟩:=hq;exact⟨.inl ⟨.bool true,.bool true,[],rfl,λ_=>rfl,.bool true,agz l _,λ_=>⟨List.Pairwise.nil,λ_ hm=>(nomatch hm)⟩⟩,h2,h3,h4⟩
end Att
namespace L2
open PyProof.Rows
theorem a3q:∀{vs:List Value} {ns:List Int},IntsAre vs ns->Vals (ns.map V.int) vs
 |_,_,.nil=>.nil
 |_,_,.cons n t h=>.cons ⟨t,rfl⟩ (a3q h)
def Only(H:Hp):Prop:=∀b,H b=none\/∃o xs,H b=some (.frz o (.lst xs))
theorem aka{K:Fg}{s₁:Shared}{vs:List Value}
  (KX:K.In s₁.heap) (hns:s₁.heap.Ns mainGlobals mg) (hb:s₁.heap.Ns builtinsNs mb) (hbb:∀x:Str,x ≠ "__name__"->mb x=bootBuiltins x) (hlim:s₁.heap.NoLimit) (hg:s₁.gens = #[])
  (ha:s₁.heap.get? a=some {cls:=.type "list",data:=.seq vs.toArray}) (hi:IntsAre vs ns) (hl:ns.length<=sizeLine) (hr:Room k callerA)
  (F:∀base:Heap,K.In base->base.Ns mainGlobals mg->FnOk P w K mg base CX k fa fd [x] sp) (hbind:∀(s:Shared) (u:Value),BindsTo s fd ⟨[u],[]⟩ [(x,u)])
  (hsp:∀H:Hp,Only H->SqL K H a (ns.map V.int)->sp [.ref a] H (λv _=>v=.bl true) λ_ _ _=>False)
  (hCX:∀H e s',CX [] H s₁ (λ_ _ _=>False) e s'->False) :
  codeAny (model P w) callerA (.call (.ref fa) ⟨[.ref a],[]⟩) (λr s'=>r=.ok (.ret (.bool true))/\OldK s₁.heap s'.heap/\s'.os=s₁.os/\AllBare s'.gens) s₁:=by
 have rv:=a3q hi;have lenV:=hi.length;have core:∀H:Hp,Only H->SqL K H a (ns.map V.int)->HOk P w H s₁.heap->(∀b,H b≠none->b=a)->(H a≠none->K.lookup a=none)->
   codeAny (model P w) callerA (.call (.ref fa) ⟨[.ref a],[]⟩) (λr s'=>r=.ok (.ret (.bool true))/\OldK s₁.heap s'.heap/\s'.os=s₁.os/\AllBare s'.gens) s₁:=by
  intro H hO hS hok hA hK
  have base_of:∀{b:Addr} {o:Obj},s₁.heap.get? b=some o->H b=none->(ajw s₁.heap H).get? b=some o:=λe n=>ajx e n;have noA:∀{b:Addr} {o:Obj} {es:Array DictEntry} {ep:Nat},s₁.heap.get? b=some o->o.data=.dict es ep->H b=none:=λ{b o es ep} e d=>by
   cases q:H b with
   |none=>rfl
   |some u =>
    have e':b=a:=hA b (by rw[q];simp)
    subst e';rw[ha]at e;cases e
    have d':Data.seq vs.toArray _=Data.dict es ep:=d
    cases d'
  have nsK:∀{b:Addr} {m:Str->Option Value},s₁.heap.Ns b m->(ajw s₁.heap H).Ns b m:=λ{b m} ⟨o,es,ep,e,d,r⟩=>⟨o,es,ep,base_of e (noA e d),d,r⟩;have hKb:K.In (ajw s₁.heap H):=λb o e=>base_of (KX b o e) (by
   cases q:H b with
   |none=>rfl
   |some u =>
    have e':b=a:=hA b (by rw[q];simp)
    subst e';rw[hK (by rw[q];simp)]at e;cases e)
  have hM:Mod K mg (ajw s₁.heap H):=⟨hKb,nsK hns,⟨mb,nsK hb,hbb⟩,let ⟨mc,h1,h2⟩:=hlim; ⟨mc,nsK h1,h2⟩⟩;have e0:Env0 P w K mg (ajw s₁.heap H) callerA [] s₁ H:=⟨rfl,hM,λb o e=>ao5 e,Nat.le_of_eq (agc _ _),trivial,λb hb=>absurd (show b∈([]:List Addr) from hb) (by simp),hok,.of_eq hg⟩
  refine eV ((F _ hKb (nsK hns)).run callerA [] s₁ H ⟨[.ref a],[]⟩ [.ref a] [.ref a] _ _ hr e0 (hbind s₁ (.ref a)) (.cons rfl .nil) (hsp H hO hS)) λr s' h=>?_
  cases r with
  |error e=>exact(hCX H e s' h).elim
  |ok fl =>
   cases fl with
   |next=>exact False.elim h
   |brk=>exact False.elim h
   |cont=>exact False.elim h
   |ret u =>
    obtain⟨v,H',os,bare,un,hok',r',q⟩:=h;have q':v=.bl true:=q;subst q';obtain rfl:u=Value.bool true:=r';refine⟨rfl,OldK.of_keep λb o e=>?_,os,bare⟩
    cases q:H b with
    |none=>exact un.keep b o e q (by intro z;exact absurd (show b∈([]:List Addr) from z) (by simp)) (by simp)
    |some u =>
     rcases hO b with z|⟨ob,xs,z⟩
     ·rw[q]at z;cases z
     ·have z2:=un.frzs b ob _ z;obtain⟨e1,_⟩:=hok b _ z;obtain⟨e2,_⟩:=hok' b _ z2;rw[e]at e1;cases e1
      exact e2
 cases hk:K.lookup a with
 |some o =>
  have e:=KX a o hk;rw[ha]at e;cases e
  refine core (λ_=>none) (λ_=>.inl rfl) (.inr ⟨_,vs.toArray,_,hk,rfl,rfl,rfl,by rw[aL,lenV];exact hl,by simpa using rv⟩) (λb u z=>by have z':(none:Option HO)=some u:=z;cases z') (λb z=>absurd rfl z) λz=>absurd rfl z
 |none =>
  refine core (λb=>if b=a then some (.frz {cls:=.type "list",data:=.seq vs.toArray} (.lst (ns.map V.int))) else none) (λb=>?_) (.inl (.inr ⟨{cls:=.type "list",data:=.seq vs.toArray},aN rfl⟩)) (λb u z=>?_) (λb z=>?_) λ_=>hk
  ·by_cases hb:b=a
   ·exact .inr ⟨_,_,aN hb⟩
   ·exact .inl (bp hb)
  ·by_cases hb:b=a
   ·have z':=(aN hb).symm.trans z
    cases z'
    subst hb;exact⟨ha,by rw[ah];exact hl,vs,_,rv,ha⟩
   ·have z':=(bp hb).symm.trans z
    cases z'
  ·by_cases hb:b=a
   ·exact hb
   ·exact absurd (bp hb) z
theorem aou{l:PySem.W.OpenLaw}{n k:Nat}{q:Program}{loose:List Str}{XP:(Str->Option Value)->Heap->Prop}{YP:World->Heap->Prop}{d:DefRec}{K:Params->Fg}{CX:World->CXT}{sp:World->Sp}{x:Str}
  (hn:l.most=some n) (hn2:n<=sizeLine) (hdf:d.params.defaults=[]) (hr:Room k callerA)
  (hY:∀(w:World) (h:Heap),YP w h->(K w.params).In h)
  (F:∀(w:World) (mg:Str->Option Value) (fa:Addr) (h:Heap),(K w.params).In h->h.Ns mainGlobals mg->mg d.name=some (.ref fa)->
   ∃fd:FuncData,(∀(s:Shared) (u:Value),BindsTo s fd ⟨[u],[]⟩ [(x,u)]) /\
    ∀base:Heap,(K w.params).In base->base.Ns mainGlobals mg->FnOk l.prog w (K w.params) mg base (CX w) k fa fd [x] (sp w))
  (hsp:∀(w:World) (H:Hp) (a:Addr) (ns:List Int),ns.length<=n->Only H->SqL (K w.params) H a (ns.map V.int)->sp w [.ref a] H (λv _=>v=.bl true) λ_ _ _=>False)
  (hCX:∀(w:World) (H:Hp) (s:Shared) (e:Value) (s':Shared),CX w [] H s (λ_ _ _=>False) e s'->False) :
  PySem.W.WalkO q loose XP YP l.row.toRowW d [] (λf vs=>PySem.call f vs):=by
 refine Att.aby hn hdf λw s₀ s₁ mg mb fa o pm cd doc a vs ns G Y ho hd hcd hmg hobj hints aH hg=>?_;have KX:=hY w _ Y;obtain⟨fd,hb,hF⟩:=F w mg fa _ KX G.T.g hmg;exact aka KX G.T.g G.T.b G.T.builtins G.T.nolimit hg hobj hints (bO aH hn2) hr hF hb (λH hO hS=>hsp w H a ns aH hO hS) λH e s'=>hCX w H s₁ e s'
def a1r(s:Stmt):Arguments:=match s with
 |.FunctionDef _ a _ _ _ _ _ _ _ _=>a
 |_=>{posonlyargs:=[],args:=[],vararg:=none,kwonlyargs:=[],kw_defaults:=[],kwarg:=none,defaults:=[]}
def vo(s:Stmt):List Stmt:=match s with
 |.FunctionDef _ _ b _ _ _ _ _ _ _=>b
 |_=>[]
def cz(s:Stmt):Scope:=match s with
 |.FunctionDef _ _ _ _ _ _ sc _ _ _=>sc
 |_=>{kind:=.function,names:=[],isGenerator:=false,isCoroutine:=false}
abbrev CX0:CXT:=λ_ _ _ _ _ _=>False
abbrev E0:XK:=λ_ _ _=>False
theorem aov:a7l CX0 X E0:=λ_ _ _ _ _ _ _ h=>h.elim
structure Fun (K:Fg) (x qual:Str) (st:Stmt) (f:Addr) (fd:FuncData):Prop where
 ex:∃(oc:Value) (od:Option Addr) (kV doc pm:Value) (an:Option Addr) (cdv ct:Value) (osl:Array (Option Value)),
  fd=PySem.W.fnOf x qual (a1r st) (vo st) (cz st) .none kV doc pm an cdv ct/\K.lookup f=some ⟨oc,od,.func fd,osl⟩/\PySem.W.codeIn K cdv qual=true
 kp:PySem.W.keepIn K (.ref f)=true
section
variable{P:Program}{w:World}{K:Fg}{mg:Str->Option Value}{base:Heap}
theorem Fun.ok{x qual:Str}{st:Stmt}{f:Addr}{fd:FuncData}{N ps:List Str}{k:Nat}{sp:Sp}(F:Fun K x qual st f fd)(S:FnScope N ps (cz st))(len:∀vs H Q E,sp vs H Q E->vs.length=ps.length)
  (hbody:∀(cdv:Value) (A:Around) (outer:List Env) (s:Shared) (H:Hp) (vs:List V) (Q:VK) (E:XK),Room k (A.deeper (envOfC qual (cz st) s.heap.objs.size f cdv))->sp vs H Q E->
   ∃t,PSs (agq CX0 P w K mg base N qual (cz st) f cdv A outer s H E).nox (vo st) t/\t {nx:=λ_ H'=>Q .non H',rt:=Q} (start N vs) H):FnOk P w K mg base CX0 (k+1) f fd ps sp:=by
 obtain⟨oc,od,kV,doc,pm,an,cdv,ct,osl,rfl,lk,hcd⟩:=F.ex;refine axh lk hcd S len λA outer s H vs Q E hr hsp=>?_;obtain⟨t,h,q⟩:=hbody cdv A outer s H vs Q E hr hsp;exact⟨t,h.nox,q⟩
theorem Fun.binds{x qual:Str}{st:Stmt}{f:Addr}{fd:FuncData}{ps:List Str}(F:Fun K x qual st f fd)
  (h:∀(kV doc pm:Value) (an:Option Addr) (cdv ct:Value) (us:List Value),us.length=ps.length->bindArgs (PySem.W.fnOf x qual (a1r st) (vo st) (cz st) .none kV doc pm an cdv ct) ⟨us,[]⟩=pure (ps.zip us)):Binds K fd ps []:=by
 obtain⟨oc,od,kV,doc,pm,an,cdv,ct,osl,rfl,lk,hcd⟩:=F.ex;exact .all (h kV doc pm an cdv ct)
theorem amr{x qual:Str}{st:Stmt}{f:Addr}{oc:Value}{od an:Option Addr}{osl:Array (Option Value)}{kV doc pm cdv ct:Value}(l:K.lookup f=some ⟨oc,od,.func (PySem.W.fnOf x qual (a1r st) (vo st) (cz st) .none kV doc pm an cdv ct),osl⟩)
  (c:PySem.W.codeIn K cdv qual=true) (k:PySem.W.keepIn K (.ref f)=true):Fun K x qual st f (PySem.W.fnOf x qual (a1r st) (vo st) (cz st) .none kV doc pm an cdv ct):=⟨⟨oc,od,kV,doc,pm,an,cdv,ct,osl,rfl,l,c⟩,k⟩
end
def Same(H H':Hp):Prop:=∀b o,H b=some o->H' b=some o
theorem Same.seq{K:Fg}{H H':Hp}{a:Addr}{xs:List V}(e:Same H H')(h:SqL K H a xs):SqL K H' a xs:=by
 rcases h with(h|⟨o,h⟩)|h
 ·exact .inl (.inl (e _ _ h))
 ·exact .inl (.inr ⟨o,e _ _ h⟩)
 ·exact .inr h
section
variable{κ:Type}[DecidableEq κ]
theorem RelO.getD{o:Option V}{u:Option Value}{d:V}{d':Value}(r:RelO o u)(rd:RelV d d'):RelV (o.getD d) (u.getD d'):=by
 cases o with
 |none=>cases u with
  |none=>exact rd
  |some _=>exact(show False from r).elim
 |some _=>cases u with
  |none=>exact(show False from r).elim
  |some _=>exact r
end
section
variable{X:Cx}
def a69{α:Type}(xs:List α)(lo hi:Option Int):List α:=(xs.drop (HT.sIx xs.length 0 lo)).take (HT.sIx xs.length xs.length hi-HT.sIx xs.length 0 lo)
def axn:V->Option Int->Option Int->Hp->VK->Prop:=λx lo hi H Q=>∃z,x=.str z/\z.length<=sizeLine/\Q (.str ⟨(a69 z.cps.toList lo hi).toArray⟩) H
theorem asz(lo hi:Option Int)(n:Nat):Builtin.Str.strSliceIndices lo hi 1 n=(List.range (HT.sIx n n hi-HT.sIx n 0 lo)).map λk=>HT.sIx n 0 lo+k:=by
 have e1:Builtin.Str.strSliceIndices lo hi 1 n=sliceRange ((HT.sIx n 0 lo:Nat):Int) ((HT.sIx n n hi:Nat):Int) 1:=by
  unfold Builtin.Str.strSliceIndices;dsimp only
  congr 1
  ·cases lo with
   |none=>simp[HT.sIx]
   |some i=>simp only[HT.sIx,show(1:Int) > 0 by decide,dI];split<;>omega
  ·cases hi with
   |none=>simp[HT.sIx]
   |some i=>simp only[HT.sIx,show(1:Int) > 0 by decide,dI];split<;>omega
 rw[e1];exact sliceRange_one _ _
theorem at3{α:Type}(xs:List α)(a:Nat):∀k,a+k<=xs.length->((List.range k).map λj=>a+j).filterMap (xs[·]?)=(xs.drop a).take k
 |0,_=>by simp
 |k+1,h=>by
  rw[List.range_succ,bg,List.filterMap_append,at3 xs a k (by omega)]
  have hk:a+k<xs.length:=by omega
  rw[List.take_succ]
  congr 1
  simp[gA,hk]
theorem at4:SlR X axn:=by
 intro aA s σ H x v vl vu lo hi sl Q I rx hs pl pu h
 obtain⟨z,rfl,hz,q⟩:=h;obtain⟨t,rfl⟩:=rx;refine⟨"str",_,PyProof.Rows.slot_str_getitem.lookup,typeIs_str s z t,?_⟩;have hl:z.cps.toList.length=z.length:=by simp[Str.length]
 have fin:∀(l u:Option (Int×Tok)),vl=partValue l->vu=partValue u->l.map (·.1)=lo->u.map (·.1)=hi->wpAny (model X.prog X.w) X.A (getItem (.str z t) (.ref sl)) (EP X aA σ Q) X.xe s:=by
  intro l u e1 e2 e3 e4
  subst e1 e2;refine wpAny_getItem_str_slice (l:=l) (u:=u) (st:=none) hs rfl ?_;have hp:slicePicked z l u none=(List.range (HT.sIx z.length z.length hi-HT.sIx z.length 0 lo)).map λk=>HT.sIx z.length 0 lo+k:=by
   unfold slicePicked;rw[e3,e4];exact asz lo hi z.length
  have hb1:HT.sIx z.length z.length hi<=z.length:=HT.agt _ _ (ay _) _;have hb2:HT.sIx z.length 0 lo<=z.length:=HT.agt _ _ (ba _) _;unfold sliceMade
  split
  ·rename_i c;simp only[bF,eM]at c;obtain⟨_,c⟩:=c;rw[hp,ah,bK]at c;have e:(⟨(a69 z.cps.toList lo hi).toArray⟩:Str)=z:=by
    unfold a69;rw[hl];have z1:HT.sIx z.length 0 lo=0:=by omega
    have z2:HT.sIx z.length z.length hi=z.length:=by omega
    rw[z1,z2,gG,Nat.sub_zero,bZ (by omega)]
   rw[e]at q;exact⟨.str z,H,I,⟨_,rfl⟩,q⟩
  ·have e:(⟨(a69 z.cps.toList lo hi).toArray⟩:Str)=⟨((slicePicked z l u none).filterMap (z.cps[·]?)).toArray⟩:=by
    rw[hp];unfold a69;rw[hl]
    by_cases hc:HT.sIx z.length 0 lo<=HT.sIx z.length z.length hi
    ·rw[<-at3 z.cps.toList _ _ (by omega)]
     simp only[Array.getElem?_toList]
    ·rw[show HT.sIx z.length z.length hi-HT.sIx z.length 0 lo=0 by omega]
     simp
   rw[e]at q;refine⟨?_,.str _,H,I.tok _,⟨_,rfl⟩,q⟩;rw[<-e];show(a69 z.cps.toList lo hi).toArray.size<=sizeLine;rw[aL];unfold a69;rw[bb,bq,hl];omega
 cases pl with
 |none=>cases pu with
  |none=>exact fin none none rfl rfl rfl rfl
  |int j t'=>exact fin none (some (j,t')) rfl rfl rfl rfl
 |int i t'=>cases pu with
  |none=>exact fin (some (i,t')) none rfl rfl rfl rfl
  |int j t''=>exact fin (some (i,t')) (some (j,t'')) rfl rfl rfl rfl
def a1i(x:Str):List V:=x.cps.toList.map λc=>V.str ⟨#[c]⟩
theorem af7(h:ItemsOf (SignAt x) acc x.cps.size):Vals (a1i x) acc.toList:=by
 obtain⟨hs,ha⟩:=h;have key:∀(cs:List Nat) (us:List Value),us.length=cs.length->(∀(j:Nat) (v:Value),us[j]? = some v->∃c u,cs[j]? = some c/\v=.str ⟨#[c]⟩ u)->Vals (cs.map λc=>V.str ⟨#[c]⟩) us:=by
  intro cs
  induction cs with
  |nil=>intro us hl _;cases us with|nil=>exact .nil|cons _ _=>simp at hl
  |cons c cs ih =>
   intro us hl hp
   cases us with
   |nil=>simp at hl
   |cons u us =>
    refine .cons ?_ (ih us (by simpa using hl) λj v e=>hp (j+1) v (by simpa using e))
    obtain⟨c',t,e1,e2⟩:=hp 0 u rfl;simp at e1;subst e1;exact⟨t,e2⟩
 refine key _ _ (by simp[hs]) λj v e=>?_
 obtain⟨c,u,e1,e2⟩:=ha j v (by simpa using e)
 exact⟨c,u,by simpa using e1,e2⟩
theorem a05(hc:X.calm=true):CallR X (.type "tuple") (λxs H Q=>∃z,xs=[.str z]/\z.length<=sizeLine/\∀l,H l=none->Q (.ref l) (upd H l (.tup (a1i z)))):=by
 intro aA s σ H xs us Q I r h
 obtain⟨z,rfl,hz,q⟩:=h;obtain⟨u,rfl,t,rfl⟩:=vals1 r;refine PySem.call_tuple_str (I.ok.hd hc) z t (λh' tk acc kp hi=>?_) (by simpa[Str.length] using hz)
 have I1:Inv X aA σ H {s with heap:=h',toks:=tk}:=I.kept kp
 have I2:Inv X aA σ (upd H h'.objs.size (.tup (a1i z))) {s with heap:=h'.push {cls:=.type "tuple",data:=.seq acc},toks:=tk} :=
  I1.laid (t':=tk) (λb o e=>aw _ e) (ay _) (show ObjOk X.prog X.w _ _ _ (.tup (a1i z)) from ⟨by simpa[a1i,Str.length] using hz,acc.toList,af7 hi,by simpa using IsTup.new h' acc⟩)
 exact⟨.ref h'.objs.size,_,I2,rfl,q _ (I1.hok.fresh (ay _))⟩
end
def Its(x:Str):It:=⟨λi _=>i<x.cps.size,λi H v H'=>H'=H/\∃c,x.cps.toList[i]? = some c/\v=.str ⟨#[c]⟩,λi _=>i=x.cps.size⟩
theorem adc{P:Program}{w:World}{K:Fg}{tg:Expr}(it:Addr)(x:Str)(t:Tok)(ty:String)
  (hty:["enumerate","zip","dict_itemiterator","dict_reverseitemiterator","odict_iterator","itertools.zip_longest","itertools.pairwise"].contains ty=false)
  (W:∀A':Around,A'.handled=none->Walks P w A' it [it] [it] x.cps.size (SignAt x) (λi h=>h.IsStrIter it ty x t i))
  (slf:∀(A:Around) (i:Nat) (s:Shared) (Q:Value->Shared->Prop) (E:Value->Shared->Prop),s.heap.IsStrIter it ty x t i->Q (.ref it) s->wpAny (model P w) A (pyIter (.ref it)) Q E s) :
  Turn P w K tg (Its x) [it] it (λi h=>h.IsStrIter it ty x t i) where
 mem:=by simp
 obj:=λi h st b hb=>by
  have e:b=it:=by simpa using hb
  subst e;obtain⟨o,e,c,d⟩:=st;exact⟨o,e,λv z=>by rw[d]at z;cases z⟩
 keep:=λi h h' st k=>by
  obtain⟨o,e,c,d⟩:=st;exact⟨o,k it (by simp) o e,c,d⟩
 item:=by
  intro X hP hw hK hc i aA s σ H E I hf st hg
  subst hP hw hK;obtain⟨f0,f1,f2,f3,f4,f5⟩:=hf it (by simp)
  refine(W X.A (I.ok.hd hc)).item i s _ _ hg st λv h' tk hv st' kk=>?_;obtain⟨c,u,hx,rfl⟩:=hv;have I1:Inv X aA σ H {s with heap:=h',toks:=tk}:=I.turned (λb o hb e=>kk b o (by simpa using hb) e) f0 f1 f3 f4 f5
  obtain⟨o,e,oc,d⟩:=id st';exact⟨_,rfl,age (s:={s with heap:=h',toks:=tk}) e oc d hty ⟨.str ⟨#[c]⟩,H,I1,⟨_,rfl⟩,⟨rfl,c,by simpa using hx,rfl⟩,st',λb hb=>(hf b hb).1⟩⟩
 done:=by
  intro X hP hw hK hc i aA s σ H E I hf st hg
  subst hP hw hK;obtain⟨f0,f1,f2,f3,f4,f5⟩:=hf it (by simp)
  have hg':i=x.cps.size:=hg;subst hg';exact(W X.A (I.ok.hd hc)).done s _ _ st λh' tk eb=>⟨rfl,I.turned (λb o hb e=>eb b o (by simpa using hb) e) f0 f1 f3 f4 f5⟩
 self:=slf
section
variable{X:Cx}{tg:Expr}
def b08(tl:TE):TI:=λσ H R=>tl σ H λx H1=>∃z,x=.str z/\R (Its z) H1
theorem ams{l:Expr}{tl:TE}(hl:PE X l tl):PI X tg l (b08 tl):=by
 intro aA s σ H R I h
 refine thn (hl aA s σ H _ I h) ?_
 rintro v s1 ⟨x,H1,I1,r1,q1⟩
 obtain⟨z,e,q⟩:=q1;subst e;obtain⟨t,rfl⟩:=r1;have fp:∀b∈[s1.heap.objs.size],FpOk X aA H1 b:=λb hb=>by
  have e:b=s1.heap.objs.size:=by simpa using hb
  subst e;exact I1.fpOk (ay _) (I1.hok.fresh (ay _))
 cases ha:z.cps.all (· < 128)
 ·exact wpAny_pyIter_wide ha ⟨s1.heap.objs.size,[s1.heap.objs.size],_,_,H1,rfl,I1.kept (t':=s1.toks) λb o e=>aw _ e,
   adc _ z t "str_iterator" (by decide) (λA' hA=>Walks.strWide hA _ z t) (λ_ _ _ _ _ st h=>wpAny_pyIter_striter_wide st h),⟨_,aT _ rfl,rfl,rfl⟩,fp,q⟩
 ·exact wpAny_pyIter_ascii ha ⟨s1.heap.objs.size,[s1.heap.objs.size],_,_,H1,rfl,I1.kept (t':=s1.toks) λb o e=>aw _ e,
   adc _ z t "str_ascii_iterator" (by decide) (λA' hA=>Walks.strAscii hA _ z t) (λ_ _ _ _ _ st h=>wpAny_pyIter_striter_ascii st h),⟨_,aT _ rfl,rfl,rfl⟩,fp,q⟩
end
def cxC(X:Cx)(N:List Str)(aB:Scope)(cl:List (Str×Addr))(C:Addr)(fp:List Addr)(s:Shared)(H:Hp):Cx where
 prog:=X.prog
 w:=X.w
 K:=X.K
 mg:=X.mg
 base:=X.base
 A:=X.A
 N:=N
 s₀:=s
 H₀:=H
 env:=compEnvC aB cl C X.env
 outer:=X.stack
 stack:=X.stack
 ex:=fp
 fn:=λ_=>false
 calm:=X.calm
 pn:=[]
 xe:=λ_ _=>False
structure CSc (X:Cx) (aB:Scope) (cl:List (Str×Addr)) (ts fr:List Str) (ix:List Nat):Prop where
 clos:closureFor aB X.env=pure cl
 kind:aB.kind=.function
 nocell:∀y∈aB.names,y.2≠.cell
 names:∀y∈aB.names,y.2=.local->aB.names.lookup y.1=some .local
 sub:∀y c,cl.lookup y=some c->X.env.cells.lookup y=some c
 has:∀y,((relabel aB X.env).names.lookup y=some .cell\/(relabel aB X.env).names.lookup y=some .free)->∃c,cl.lookup y=some c
 nofn:∀y∈ts,(relabel aB X.env).names.lookup y=some .local
 len:ix.length=fr.length
 vis:∀(j:Nat) (y:Str),fr[j]? = some y->∃i:Nat,ix[j]? = some i/\X.N[i]? = some y/\(X.env.kindOf y=some .cell\/X.env.kindOf y=some .free)/\((relabel aB X.env).names.lookup y=some .cell\/(relabel aB X.env).names.lookup y=some .free)
def Ext(a b:St):Prop:=b.length=a.length/\∀(i:Nat) v,a[i]? = some (some v)->b[i]? = some (some v)
def qx(nt:Nat)(ix:List Nat)(σ:St):St:=List.replicate nt none++ix.map λi=>(σ[i]?).join
def aow(J:It)(s0:St)(g:TG)(te:TE)(Q:VK)(H1:Hp):Prop:=∃W:Nat->Nat->List V->Hp->Prop,(∃m,W 0 m [] H1)/\∀i m ys H,W i m ys H->
 (J.stop i H/\∀p,H p=none->Q (.ref p) (upd H p (.lst ys))) \/
 (J.go i H/\ys.length<sizeLine/\∀x H',J.yld i H x H'->g x s0 H' λσ2 H2=>Ext s0 σ2/\te σ2 H2 λy H3=>∃m',m'<m/\W (i+1) m' (ys++[y]) H3)
def ah0(wi:TI)(s0:St->St)(g:TG)(te:TE):TE:=λσ H Q=>wi σ H λJ H1=>aow J (s0 σ) g te Q H1
def abz(J:It)(s0:St)(g:TG)(tc:TT)(te:TE)(Q:VK)(H1:Hp):Prop:=∃W:Nat->Nat->List V->Hp->Prop,(∃m,W 0 m [] H1)/\∀i m ys H,W i m ys H->
 (J.stop i H/\∀p,H p=none->Q (.ref p) (upd H p (.lst ys))) \/
 (J.go i H/\ys.length<sizeLine/\∀x H',J.yld i H x H'->g x s0 H' λσ2 H2=>Ext s0 σ2/\tc σ2 H2 λok H2'=>if ok=true then te σ2 H2' (λy H3=>∃m',m'<m/\W (i+1) m' (ys++[y]) H3) else ∃m',m'<m/\W (i+1) m' ys H2')
def a8s(wi:TI)(s0:St->St)(g:TG)(tc:TT)(te:TE):TE:=λσ H Q=>wi σ H λJ H1=>abz J (s0 σ) g tc te Q H1
theorem a6a(aD target aF cnd:Expr)(aB:Scope)(pos:Pos)(it acc:Value)(env:Env) :
  compTurn (.ListComp aD [⟨target,aF,[cnd],0⟩] aB pos) 0 it acc env=(standAt aF.pos>>=λ_=>pyNext it>>=λr=>match r with
   |none=>pure (.done .next)
   |some v=>letOwnedTupleGo target it v>>=λ_=>assign target env v>>=λ_=>isTrue cnd env (eval cnd env)>>=λok =>
    (if ok=true then (eval aD env>>=λx=>call (.builtin "list.append") [acc,x]>>=λ_=>pure ()) else pure ())>>=λ_ =>
     again (.compLoop (.ListComp aD [⟨target,aF,[cnd],0⟩] aB pos) 0 it acc env)):=by
 first
  |rfl
  |(unfold compTurn;simp only[gU];rfl)
  | (show(standAt aF.pos>>=λ_=>pyNext it>>=λr=>_)=_
     congr 1;funext _;congr 1;funext r
     cases r with
     |none=>rfl
     |some v =>
      show(letOwnedTupleGo target it v>>=λ_=>assign target env v>>=λ_=>_)=(letOwnedTupleGo target it v>>=λ_=>assign target env v>>=λ_=>_)
      congr 1;funext _;congr 1;funext _
      simp
      congr 1;funext ok
      cases ok with
      |false=>rw[bp aU,bp aU,pure_bind]
      |true =>
       rw[aN rfl,aN rfl,bind_assoc]
       congr 1;funext x
       rw[map_eq_pure_bind,bind_assoc]
       congr 1)
def runC(cnd:Option Expr)(env:Env):Sem Bool:=match cnd with
 |none=>pure true
 |some c=>isTrue c env (eval c env)
def PTO(X:Cx)(cnd:Option Expr)(t:TT):Prop :=
 ∀(aA:List (Addr×Obj)) (s:Shared) (σ:St) (H:Hp) (Q:Bool->Hp->Prop),Inv X aA σ H s->t σ H Q->wpAny (model X.prog X.w) X.A (runC cnd X.env) (TP X aA σ Q) X.xe s
theorem a7e(aD target aF:Expr)(cnd:Option Expr)(aB:Scope)(pos:Pos)(it acc:Value)(env:Env) :
  compTurn (.ListComp aD [⟨target,aF,cnd.toList,0⟩] aB pos) 0 it acc env=(standAt aF.pos>>=λ_=>pyNext it>>=λr=>match r with
   |none=>pure (.done .next)
   |some v=>letOwnedTupleGo target it v>>=λ_=>assign target env v>>=λ_=>runC cnd env>>=λok =>
    (if ok=true then (eval aD env>>=λx=>call (.builtin "list.append") [acc,x]>>=λ_=>pure ()) else pure ())>>=λ_ =>
     again (.compLoop (.ListComp aD [⟨target,aF,cnd.toList,0⟩] aB pos) 0 it acc env)):=by
 cases cnd with
 |some c=>exact a6a ..
 |none =>
  rw[show(none:Option Expr).toList=[] from rfl,compTurn_list1]
  congr 1
theorem ah1{cnd:Option Expr}{E:Value->Shared->Prop}(no:∀v s,E v s->False)(J:Nat->Shared->Prop)
  (step:∀m z,J m z->wpAny (model prog w) A (pyNext it) (λgot z1=>match got with
   |none=>R (.ok .next) z1
   |some v=>wpAny (model prog w) A (letOwnedTupleGo target it v) (λ_ z2=>wpAny (model prog w) A (assign target env v) (λ_ z3=>wpAny (model prog w) A (runC cnd env) (λok z3'=>if ok=true then wpAny (model prog w) A (eval aD env) (λx z4 =>
     wpAny (model prog w) A (call (.builtin "list.append") [acc,x]) (λ_ z5=>∃m',m'<m/\J m' z5) E z4)
     E z3' else ∃m',m'<m/\J m' z3') E z3) E z2) E z1) E z)
  (m:Nat) (j0:J m s):codeAny (model prog w) A (.compLoop (.ListComp aD [⟨target,aF,cnd.toList,0⟩] aB pos) 0 it acc env) R s:=by
 refine codeAny_loop rfl J (λm z hj=>(wpAny_noted ?_:wpAny _ _ ((compTurn (.ListComp aD [⟨target,aF,cnd.toList,0⟩] aB pos) 0 it acc env).onRaise _) _ _ z)) m j0;rw[a7e];refine af (dO (af (bI (step m z hj) (λgot z1 h1=>?_) λ_ _ e=>(no _ _ e).elim)))
 match got,h1 with
 |none,h1=>exact ax h1
 |some v,h1 =>
  refine af (bI h1 (λ_ z2 h2=>af (bI h2 (λ_ z3 h3=>af (bI h3 (λok z3' h3'=>?_) λ_ _ e=>(no _ _ e).elim)) λ_ _ e=>(no _ _ e).elim)) λ_ _ e=>(no _ _ e).elim)
  match ok,h3' with
  |true,h3' =>
   rw[aN rfl]at h3';refine af (af (bI h3' (λx z4 h4=>?_) λ_ _ e=>(no _ _ e).elim));exact af (bI h4 (λ_ z5 h5=>ax (ax ⟨rfl,h5⟩)) λ_ _ e=>(no _ _ e).elim)
  |false,h3' =>
   rw[bp aU]at h3';exact af (ax (ax ⟨rfl,h3'⟩))
section
variable{X:Cx}
theorem aaj(S:CSc X aB cl ts fr ix)(I:Inv X aA σ H s)
  (hf:∀b∈fp,FpOk X aA H b) (hb:∀b∈fp,b<s.heap.objs.size) (hC:s.heap.objs.size<=C):(cxC X (ts++fr) aB cl C fp s H).Ok where
 mod:=I.ok.mod
 kind:=S.kind
 glob:=I.ok.glob
 blt:=I.ok.blt
 above:=hC
 inj:=λx y c h1 h2=>I.ok.inj x y c (S.sub x c h1) (S.sub y c h2)
 has:=S.has
 cab:=λ_ _ z=>nomatch z
 hd:=I.ok.hd
 frames:=I.ok.frames
 stk:=.inl rfl
 exf:=λb hb'=>⟨bG (b9 (hb b hb') hC),λx c e=>(hf b hb').2.2.2.2.1 x c (S.sub x c e)⟩
 bs:=λb o e=>I.bs b o e
 bsz:=bO I.ok.bsz I.sz
 noex:=λb o e hb'=>by
  rcases(hf b hb').2.2.2.1 with z|z
  ·exact I.ok.noex b o e z
  ·exact absurd (b9 (aS e) (bO I.ok.bsz z)) (cv _)
 exfs:=λb hb' z=>by
  rcases aO.mp (I.stkSub b z) with e|e
  ·exact(hf b hb').2.1 e
  ·exact(hf b hb').2.2.1 e
 funs:=I.stack
 frf:=λb hb'=>I.stkFree b hb'
theorem af8:(qx nt ix σ).length=nt+ix.length:=by
 unfold qx;rw[ae,cI,ah]
theorem ah2{s4:Shared}(S:CSc X aB cl ts fr ix)(I:Inv X aA σ H s)
  (hf:∀b∈fp,FpOk X aA H b) (hb:∀b∈fp,b<s.heap.objs.size) (hC:s.heap.objs.size<=C)
  (k:∀b o,s.heap.get? b=some o->s4.heap.get? b=some o) (hn:s4.heap.Ns C m) (ho:s4.os=s.os) (hg:s4.gens=s.gens) :
  Inv (cxC X (ts++fr) aB cl C fp s H) [] (qx ts.length ix σ) H s4 where
 ok:=aaj S I hf hb hC
 os:=ho
 bare:=by rw[hg];exact I.bare
 base:=Un.kept k
 loc:=by
  refine⟨m,hn,λi x v e1 e2 e3=>?_⟩;have e1:(ts++fr)[i]? = some x:=e1
  by_cases hi:i<ts.length
  ·unfold qx at e2;rw[aZ (by simpa using hi),ei,aN hi]at e2
   cases e2
  ·rw[aP (by omega)]at e1
   unfold qx at e2;rw[aP (by simpa using hi),cI,bJ]at e2
   obtain⟨j,h1,h2,h3,h4⟩:=S.vis _ x e1;rw[h1]at e2;have e2':(σ[j]?).join=some v:=bQ e2;have e5:σ[j]? = some (some v):=by
    cases q:σ[j]? with
    |none=>rw[q]at e2';cases e2'
    |some o=>rw[q]at e2';simp at e2';rw[e2']
   obtain⟨m0,_,hl⟩:=I.loc;have vis:Vis X.env.scope x:=h3.elim (λz=>.inr (.inl z)) λz=>.inr (.inr z);obtain⟨u,ru,l⟩:=hl j x v h2 e5 vis;refine⟨u,ru,?_⟩
   rcases l with⟨z,_⟩|⟨_,c,hc,hcell⟩
   ·rcases h3 with h3|h3<;>rw[h3]at z<;>cases z
   ·obtain⟨c',hc'⟩:=S.has x h4;have e6:c'=c:=bQ ((S.sub x c' hc').symm.trans hc);subst e6;obtain⟨o,ho,hd⟩:=hcell;exact .inr ⟨h4,c',hc',o,k _ _ ho,hd⟩
 cell:=λx c e=>by
  obtain⟨v,o,ho,hd⟩:=I.cell x c (S.sub x c e);exact⟨v,o,k _ _ ho,hd⟩
 free:=I.hok.fresh hC
 freeC:=λx c e=>I.freeC x c (S.sub x c e)
 pin:=λp hp=>absurd (show p∈([]:List (Addr×Obj)) from hp) (by simp)
 hok:=I.hok.kept k
 len:=by
  rw[af8];show _=(ts++fr).length;rw[ae,S.len]
theorem Inv.unpinned'(I:Inv X aA σ H s):Inv X [] σ H s:=I.pins_of λ_ hp=>nomatch hp
theorem comp_back{its:List Value}(I:Inv X aA σ H s)
  (hf:∀b∈fp,FpOk X aA H b) (hC:s.heap.objs.size<=C) (hacc:s.heap.objs.size<=acc) (hCa:C≠acc)
  (J:Inv (cxC X N aB cl C fp s H) [] σ' H' s') (hn:H' acc=none) (ha:s'.heap.get? acc=some {cls:=.type "list",data:=.seq its.toArray n}) (rv:Vals ys its) (hz:ys.length<=sizeLine) (sb:Heap.SameBut C s'.heap h') :
  Inv X aA σ (upd H' acc (.lst ys)) {s' with heap:=h' }:=by
 have k:∀b o,b≠C->s'.heap.get? b=some o->h'.get? b=some o:=λb o hb e=>sb.extBut b o hb e;have old:∀b o,s.heap.get? b=some o->b≠C/\b≠acc:=λb o e=>⟨bG (b9 (aS e) hC),bG (b9 (aS e) hacc)⟩;have u0:Un (frs X.stack) fp H H' s.heap s'.heap:=J.base;have fC:H' C=none:=J.free;have u:Un (frs X.stack) fp H (upd H' acc (.lst ys)) s.heap h':=by
  refine⟨λb o e n' hb hx=>k b o (old b o e).1 (u0.keep b o e n' hb hx),λb o e n' hb hx=>?_,λb o e n' hx=>?_,λb o e hx=>?_,λb xs e=>?_,λb o v e=>?_,λb ps e=>?_⟩
  ·obtain⟨sl,e1⟩:=u0.slot b o e n' hb hx;exact⟨sl,k b _ (old b o e).1 e1⟩
  ·rw[jc (old b o e).2];exact u0.free b o e n' hx
  ·obtain⟨o',e1⟩:=u0.there b o e hx;exact⟨o',k b _ (old b o e).1 e1⟩
  ·rw[jc (j9 (u0.tups b xs e) hn)];exact u0.tups b xs e
  ·rw[jc (j9 (u0.frzs b o v e) hn)];exact u0.frzs b o v e
  ·obtain⟨more,e1⟩:=u0.tbls b ps e;exact⟨more,by rw[jc (j9 e1 hn)];exact e1⟩
 have hok:HOk X.prog X.w (upd H' acc (.lst ys)) h':=λb o e=>by
  by_cases hb:b=acc
  ·subst hb;rw[uc]at e;cases e
   exact⟨hz,its,n,rv,k _ _ (eX hCa) ha⟩
  ·rw[jc hb]at e;refine(J.hok b o e).stay (λc v hc q=>k c v ?_ q) (λc q=>by rw[jc (j9 q hn)];exact q) λc xs q=>by rw[jc (j9 q hn)];exact q
   rcases hc with z|z
   ·rw[z];exact j9 e fC
   ·exact j9 z fC
 have J':=I.call (g':=s'.gens) (t':=s'.toks) (d':=s'.drawn) (ch:=fp) u hok J.bare λb hb=>⟨(hf b hb).2.2.2.1,(hf b hb).2.1,(hf b hb).2.2.2.2.1,(hf b hb).2.2.2.2.2⟩;have eo:s'.os=s.os:=J.os;obtain⟨hp,g,d,t,o⟩:=s';have eo':o=s.os:=eo;subst eo';exact J'
def a4j(X:Cx)(aA:List (Addr×Obj))(σ:St)(use:Option (Value->Sem Unit))(Q:VK)(Qf:Value->Shared->Prop):Prop :=
 ∀(acc C:Addr) (s6:Shared) (H6:Hp) (m6:Str->Option Value),s6.heap.Ns C m6->FpOk X aA H6 C->(∀h',Heap.SameBut C s6.heap h'->Inv X aA σ H6 {s6 with heap:=h' })->Q (.ref acc) H6->
  compPost (model X.prog X.w) X.A X.xe use Qf (.ref acc) C (.ok .next) s6
theorem ade:a4j X aA σ none Q (EP X aA σ Q):=λacc C s6 H6 m6 hn _ k q=>⟨m6,hn,λh' sb=>⟨.ref acc,H6,k h' sb,rfl,q⟩⟩
theorem adf{D:Ends}(hN:X.N.Nodup)(hi:X.N[i]? = some x)(hx:Loc X.env.scope x)(hf:X.fn x=true\/X.env.scope.names.lookup x=some .local) :
  a4j X aA σ (some (assign (.Name x pos') X.env)) (λv H1=>a0g i v σ H1 D.nx) (λ_ s'=>SP X aA D .next s'):=by
 intro acc C s6 H6 m6 hn fp k q
 obtain⟨f1,f2,f3,f4,f5,f6⟩:=fp;have I6:Inv X aA σ H6 s6:=k s6.heap (Heap.SameBut.refl _ _);refine wpAny_assign_Name (aa6 (v:=.ref acc) I6 hN hi hx rfl (λs' I' ⟨a,sb,ha⟩=>⟨m6,hn.sameBut sb ?_,λh' sb'=>⟨_,H6,I'.turned (t':=s'.toks) (it:=C) (λb o hb e=>sb'.extBut b o hb e) f1 f2 f4 f5 f6,q⟩⟩) hf)
 rcases ha with ha|ha
 ·rw[ha];exact f2
 ·exact λz=>f5 x a ha z.symm
theorem ah3{Y:Cx}{cnd:Option Expr}{N it:Addr}{fp:List Addr}{tn:Nat->Heap->Prop}{J:It}{σ0:St}{H2:Hp}{s4:Shared}{W:Nat->Nat->List V->Hp->Prop}{Q:VK}(hc:Y.calm=true)(no:∀v s,Y.xe v s->False)(hp0:Y.pn=[])(T:Turn Y.prog Y.w Y.K tg J fp it tn)
  (stat:∀{H':Hp},(∀b∈fp,H' b=none)->∀b∈fp,FpOk Y [] H' b) (statA:∀{H':Hp},H' N=none->FpOk Y [] H' N) (accF:N∉fp) (hg:PG Y tg g) (he:PE Y aD te) (ht:PTO Y cnd tc)
  (turn:∀i m ys H,W i m ys H->(J.stop i H/\∀p,H p=none->Q (.ref p) (upd H p (.lst ys)))\/(J.go i H/\ys.length<sizeLine/\∀x H',J.yld i H x H'->g x σ0 H' λσ2 H2=>Ext σ0 σ2/\tc σ2 H2 λok H2'=>if ok=true then te σ2 H2' (λy H3=>∃m',m'<m/\W (i+1) m' (ys++[y]) H3) else ∃m',m'<m/\W (i+1) m' ys H2'))
  (w0:W 0 m0 [] H2) (K0:Inv Y [] σ0 H2 s4) (st4:tn 0 s4.heap) (f0:∀b∈fp,H2 b=none) (fa:H2 N=none) (hacc:s4.heap.get? N=some {cls:=.type "list",data:=.seq ([]:List Value).toArray 0})
  (fin:∀s6 H6 ys its k,Inv Y [(N,{cls:=.type "list",data:=.seq its.toArray k})] σ0 H6 s6->H6 N=none->Vals ys its->ys.length<=sizeLine->(∀p,H6 p=none->Q (.ref p) (upd H6 p (.lst ys)))->R (.ok .next) s6) :
  codeAny (model Y.prog Y.w) Y.A (.compLoop (.ListComp aD [⟨tg,aF,cnd.toList,0⟩] aB pos) 0 (.ref it) (.ref N) Y.env) R s4:=by
 refine ah1 no (λn s'=>∃i σ' H' ys its k,Inv Y [] σ' H' s'/\Ext σ0 σ'/\tn i s'.heap/\(∀b∈fp,H' b=none)/\H' N=none /\
  s'.heap.get? N=some {cls:=.type "list",data:=.seq its.toArray k}/\Vals ys its/\ys.length<=sizeLine/\W i n ys H') ?_ m0
  ⟨0,_,H2,[],[],0,K0,⟨rfl,λ_ _ z=>z⟩,st4,f0,fa,hacc,.nil,ba _,w0⟩
 rintro n s5 ⟨i,σ5,H5,ys,its,k5,I5,x5,st5,fr5,fa5,ac5,rv5,hz5,w5⟩
 have I5':Inv Y [] σ0 H5 s5:=I5.weak x5.1.symm x5.2;obtain⟨ob,hob⟩:∃ob:Obj,ob={cls:=.type "list",data:=.seq its.toArray k5}:=⟨_,rfl⟩;rw[<-hob]at ac5;have IP:Inv Y [(N,ob)] σ0 H5 s5:=I5'.pins_of λp hp=>by
  rw[aI.mp hp];obtain⟨a0,a1,a2,_⟩:=statA fa5;exact⟨ac5,a0,a1,a2,λv z=>by rw[hob]at z;cases z⟩
 have FB:∀b∈fp,FpOk Y [(N,ob)] H5 b:=λb hb=>by
  obtain⟨b0,b1,b2,b3,b4,b5⟩:=stat fr5 b hb;refine⟨b0,b1,b2,b3,b4,λp hp=>?_⟩;rw[hp0]at hp;rw[aI.mp hp];exact λz=>accF (by have z':N=b:=z;rw[z'];exact hb)
 rcases turn i n ys H5 w5 with⟨stop,qn⟩|⟨go,hlt,step⟩
 ·refine thn (T.done Y rfl rfl rfl hc i [(N,ob)] s5 _ H5 _ IP FB st5 stop) ?_
  rintro r s6 ⟨hr,I6⟩
  subst hr;rw[hob]at I6;exact fin s6 H5 ys its k5 I6 fa5 rv5 hz5 qn
 ·refine thn (T.item Y rfl rfl rfl hc i [(N,ob)] s5 _ H5 _ IP FB st5 go) ?_
  rintro r s6 ⟨u,hr,h6⟩
  subst hr;refine thn h6 ?_
  rintro _ s7 ⟨x,H7,I7,r7,y7,st7,fr7⟩
  obtain⟨ac7,fa7,_⟩:=I7.pin (N,ob) (by simp)
  have I7':Inv Y (wk (N::fp) s7.heap) σ0 H7 s7:=by
   show Inv Y ([]++wk (N::fp) s7.heap) _ _ _;refine Inv.pinned I7.unpinned' (λb hb=>?_) λb hb=>?_
   ·rcases aO.mp hb with e|e
    ·subst e;exact statA fa7
    ·exact stat fr7 b e
   ·rcases aO.mp hb with e|e
    ·subst e;exact⟨_,ac7,λv z=>by rw[hob]at z;cases z⟩
    ·exact T.obj _ _ st7 b e
  have keep:∀{σ':St} {H9:Hp} {s9:Shared} {ps:List (Addr×Obj)},Inv Y (wk (N::fp) s7.heap) σ' H9 s9->(s9.heap.get? N=some ob/\H9 N=none)/\∀b∈fp,(∀o,s7.heap.get? b=some o->s9.heap.get? b=some o)/\H9 b=none:=λI9=>by
   refine⟨?_,λb hb=>?_⟩
   ·obtain⟨z1,z2,_⟩:=I9.pin (N,ob) (aQ _ (jq bE ac7));exact⟨z1,z2⟩
   ·obtain⟨o,e,_⟩:=T.obj _ _ st7 b hb;obtain⟨z1,z2,_⟩:=I9.pin (b,o) (aQ _ (jq (aY _ hb) e));exact⟨λo' e'=>by rw[e]at e';cases e';exact z1,z2⟩
  refine thn (hg _ s7 _ H7 x u _ I7' r7 (step x H7 y7)) ?_
  rintro _ s8 ⟨σ8,H8,I8,x8,q8⟩
  refine thn (ht _ s8 _ H8 _ I8 q8) ?_
  rintro ok s8' ⟨H8',I8',q8'⟩
  cases ok with
  |false =>
   rw[bp aU]at q8' ⊢;obtain⟨m',hm',w9⟩:=q8';obtain⟨⟨ac9,fa9⟩,k9⟩:=keep (ps:=[]) I8';exact⟨m',hm',i+1,σ8,H8',ys,its,k5,I8'.unpinned',x8,T.keep _ _ _ st7 λb hb o e=>(k9 b hb).1 o e,λb hb=>(k9 b hb).2,fa9,by rw[ac9,hob],rv5,hz5,w9⟩
  |true =>
   rw[aN rfl]at q8' ⊢;refine thn (he _ s8' _ H8' _ I8' q8') ?_
   rintro yv s9 ⟨y,H9,I9,r9,m',hm',w9⟩
   obtain⟨⟨ac9,fa9⟩,k9⟩:=keep (ps:=[]) I9;rw[hob]at ac9;have hl:=rv5.length;refine cQ c8 ⟨_,ac9,rfl⟩ fW (fN _ _) (gP N its.toArray k5 yv (by rw[aL];omega)) ⟨ac9,?_⟩
   have q:=hG ac9 (λa=>a.push yv);have qo:∀b o,b≠N->s9.heap.get? b=some o->(s9.heap.update N (Obj.mapSeq (λa=>a.push yv))).get? b=some o:=λb o hb e=>(cO s9.heap _ (eX hb)).trans e;have q':∃k,(s9.heap.update N (Obj.mapSeq (λa=>a.push yv))).get? N=some {cls:=.type "list",data:=.seq (its++[yv]).toArray k}:=⟨_,by rw[q];simp;rfl⟩
   obtain⟨k9',q9⟩:=q';obtain⟨a0,a1,a2,a3,a4,a5⟩:=statA fa9;refine⟨m',hm',i+1,σ8,H9,ys++[y],its++[yv],k9',(I9.unpinned').turned qo a0 a1 a3 a4 a5,x8,T.keep _ _ _ st7 λb hb o e=>qo b o (λz=>accF (z ▸ hb)) ((k9 b hb).1 o e),λb hb=>(k9 b hb).2,fa9,q9,rv5.append (.cons r9 .nil),?_,w9⟩;rw[ae,aM];omega
theorem a7n{cnd:Option Expr}(hc:X.calm=true)(S:CSc X aB cl ts fr ix)(hi:PI X tg aF wi)
  (hg:∀C fp s H,PG (cxC X (ts++fr) aB cl C fp s H) tg g) (he:∀C fp s H,PE (cxC X (ts++fr) aB cl C fp s H) aD te) (ht:∀C fp s H,PTO (cxC X (ts++fr) aB cl C fp s H) cnd tc) (hs:∀x,foldedSetIterable aF X.env x=pure x)
  (use:Option (Value->Sem Unit)) (I:Inv X aA σ H s) (h:a8s wi (qx ts.length ix) g tc te σ H Q) (fin:a4j X aA σ use Q Qf) :
  wpAny (model X.prog X.w) X.A (comprehension (.ListComp aD [⟨tg,aF,cnd.toList,0⟩] aB pos) aB X.env ppos (newList []) false (eval aF X.env) use) Qf X.xe s:=by
 refine wpAny_comprehension_free (use:=use) rfl hs S.clos S.kind S.names (thn (hi aA s σ H _ I h) λv s1 h1=>thn h1 λitv s2 h2=>?_);obtain⟨it,fp,tn,J,H2,e,I2,T,st2,f2,W,⟨m0,w0⟩,turn⟩:=h2;subst e;have hob:∀b∈fp,b<s2.heap.objs.size:=λb hb=>let ⟨o,e,_⟩:=T.obj _ _ st2 b hb;aS e;refine cA (wpAny_newFunctionEnv S.nocell (by intro y hy;simp at hy) (λh4 hns4 hsb4=>?_) S.kind)
 dsimp only at hns4 hsb4 ⊢
 generalize hH2:s2.heap.push {cls:=.type "list",dict:=none,data:=.seq ([]:List Value).toArray}=G at hns4 hsb4 ⊢
 have hCs:G.objs.size=s2.heap.objs.size+1:=by rw[<-hH2,dS]
 have hCle:s2.heap.objs.size<=G.objs.size:=by omega
 have hne:G.objs.size≠s2.heap.objs.size:=by omega
 have old:∀b o,s2.heap.get? b=some o->h4.get? b=some o:=λb o e=>by
  have hlt:=aS e;exact hsb4.extBut b o (bG (b9 hlt hCle)) (aw _ (hH2 ▸ aw _ e))
 have hacc:h4.get? s2.heap.objs.size=some {cls:=.type "list",data:=.seq ([]:List Value).toArray 0} :=
  hsb4.extBut _ _ (eX hne) (aw _ (hH2 ▸ aT _ rfl))
 have K0:Inv (cxC X (ts++fr) aB cl G.objs.size fp s2 H2) [] (qx ts.length ix σ) H2 {s2 with heap:=h4,toks:=s2.toks+([]:List (Str×Value)).length} :=
  ah2 S I2 f2 hob hCle old hns4 rfl rfl
 have st4:tn 0 h4:=T.keep _ _ _ st2 λb _ o e=>old b o e;have accF:s2.heap.objs.size∉fp:=λz=>cv _ (hob _ z);have stat:∀{H':Hp},(∀b∈fp,H' b=none)->∀b∈fp,FpOk (cxC X (ts++fr) aB cl G.objs.size fp s2 H2) [] H' b:=λhn b hb =>
  ⟨hn b hb,λz=>by have h1:=hob b hb;have z':b=G.objs.size:=z;exact bG (b9 h1 hCle) z',λz=>(aaj S I2 f2 hob hCle).exfs b hb z,.inl hb,λx c e=>(f2 b hb).2.2.2.2.1 x c (S.sub x c e),λp hp=>absurd (show p∈([]:List (Addr×Obj)) from hp) (by simp)⟩
 have statA:∀{H':Hp},H' s2.heap.objs.size=none->FpOk (cxC X (ts++fr) aB cl G.objs.size fp s2 H2) [] H' s2.heap.objs.size:=λhn =>
  ⟨hn,λz=>hne (show G.objs.size=s2.heap.objs.size from z.symm),λz=>by
   obtain⟨_,o,ho,_⟩:=(aaj S I2 f2 hob hCle).funs.mem z;exact cv _ (aS ho),.inr (ay _),λx c e z=>by
   obtain⟨v,o,ho,_⟩:=I2.cell x c (S.sub x c e);rw[z]at ho;exact cv _ (aS ho),λp hp=>absurd (show p∈([]:List (Addr×Obj)) from hp) (by simp)⟩
 have loop:codeAny (model X.prog X.w) X.A (.compLoop (.ListComp aD [⟨tg,aF,cnd.toList,0⟩] aB pos) 0 (.ref it) (.ref s2.heap.objs.size) (compEnvC aB cl G.objs.size X.env))
   (compPost (model X.prog X.w) X.A X.xe use Qf (.ref s2.heap.objs.size) G.objs.size) {s2 with heap:=h4,toks:=s2.toks+([]:List (Str×Value)).length} :=
  ah3 (Y:=cxC X (ts++fr) aB cl G.objs.size fp s2 H2) hc (λ_ _ h=>h) rfl T stat statA accF (hg _ _ _ _) (he _ _ _ _) (ht _ _ _ _) turn w0 K0 st4 (λb hb=>(f2 b hb).1) (I2.hok.fresh (ay _)) hacc λs6 H6 ys its k I6 fa rv hz qn=>by
   have e6:=(I6.pin (s2.heap.objs.size,{cls:=.type "list",data:=.seq its.toArray k}) (by show _∈[]++[_];simp)).1
   obtain⟨m6,hn6,_⟩:=I6.loc;exact fin _ _ s6 _ m6 hn6 (I2.fpOk hCle (by rw[jc hne];exact I6.free)) (λh' sb=>comp_back I2 f2 hCle (ay _) hne I6.unpinned' fa e6 rv hz sb) (qn _ fa)
 exact codeAny_compStart_list loop (T.self _ 0 _ _ _ st4 loop)
theorem aak(hc:X.calm=true)(S:CSc X aB cl ts fr ix)(hi:PI X tg aF wi)
  (hg:∀C fp s H,PG (cxC X (ts++fr) aB cl C fp s H) tg g) (he:∀C fp s H,PE (cxC X (ts++fr) aB cl C fp s H) aD te) (hs:∀x,foldedSetIterable aF X.env x=pure x)
  (use:Option (Value->Sem Unit)) (I:Inv X aA σ H s) (h:ah0 wi (qx ts.length ix) g te σ H Q) (fin:a4j X aA σ use Q Qf) :
  wpAny (model X.prog X.w) X.A (comprehension (.ListComp aD [⟨tg,aF,[],0⟩] aB pos) aB X.env ppos (newList []) false (eval aF X.env) use) Qf X.xe s:=by
 refine a7n (cnd:=none) (tc:=λσ H Q=>Q true H) hc S hi hg he (λ_ _ _ _ aA s σ H Q I h=>ax ⟨H,I,h⟩) hs use I ?_ fin;unfold a8s abz;unfold ah0 aow at h;simpa only[dI] using h
theorem akb(hc:X.calm=true)(S:CSc X aB cl ts fr ix)(hi:PI X tg aF wi)
  (hg:∀C fp s H,PG (cxC X (ts++fr) aB cl C fp s H) tg g) (he:∀C fp s H,PE (cxC X (ts++fr) aB cl C fp s H) aD te)
  (hs:∀x,foldedSetIterable aF X.env x=pure x:=by intro _;rfl) :
  PE X (.ListComp aD [⟨tg,aF,[],0⟩] aB pos) (ah0 wi (qx ts.length ix) g te):=by
 intro aA s σ H Q I h
 rw[eval_ListComp];exact aak hc S hi hg he hs none I h ade
theorem akc{spos:Pos}(hN:X.N.Nodup)(hi':X.N[i]? = some x)(hx:Loc X.env.scope x)(hc:X.calm=true)(S:CSc X aB cl ts fr ix)(hi:PI X tg aF wi)
  (hg:∀C fp s H,PG (cxC X (ts++fr) aB cl C fp s H) tg g) (he:∀C fp s H,PE (cxC X (ts++fr) aB cl C fp s H) aD te)
  (hs:∀x,foldedSetIterable aF X.env x=pure x:=by intro _;rfl) (hsw:swapsWith (.ListComp aD [⟨tg,aF,[],0⟩] aB pos) (some (.Name x pos')) spos.line X.env=pure true:=by rfl) (hf:Hf X x:=by first|exact .inl rfl|exact .inr rfl|assumption) :
  PS X (.Assign [.Name x pos'] (.ListComp aD [⟨tg,aF,[],0⟩] aB pos) spos) (awd (ah0 wi (qx ts.length ix) g te) (a0g i)):=by
 intro aA s σ H D I h
 rw[exec_Assign_Name_used _ _ _ _ hsw];refine af (dO (af ?_));refine af (bI (aak hc S hi hg he hs (some (assign (.Name x pos') X.env)) I h (adf hN hi' hx hf)) (λ_ s' hq=>ax (ax hq)) λ_ _ e=>e)
end
section
variable{K:Type}[DecidableEq K]
def stepK(l:List K)(v:K):List K:=if v∈l then l else l++[v]
end
end L2
namespace L2
theorem at5:bootBuiltins "len" = some (.builtin "len"):=PySem.boot_len
theorem at6:bootBuiltins "abs" = some (.builtin "abs"):=by first|exact PySem.boot_abs|exact PyProof.Rows.boot_abs
theorem at7:bootBuiltins "int" = some (.type "int"):=by first|exact PySem.boot_int|exact PyProof.Rows.boot_int
theorem a5j:bootBuiltins "tuple" = some (.type "tuple"):=by first|exact PySem.boot_tuple|exact PyProof.Rows.boot_tuple
structure Dn (P:Program) (w:World) (K:Fg) (mg:Str->Option Value) (base:Heap) (k:Nat) (x:Str) (ps:List Str) (sp:Sp) (f:Addr) (fd:FuncData):Prop where
 ok:FnOk P w K mg base CX0 k f fd ps sp
 m:mg x=some (.ref f)
 kp:PySem.W.keepIn K (.ref f)=true
 b:Binds K fd ps []
theorem axo:sizeLine=16777216:=eU
theorem aox(h:n<=16777216):n<=sizeLine:=by rw[eU];exact h
theorem CSc.noFree{aB:Scope}(kind:aB.kind=.function)(h:∀y∈aB.names,y.2≠.cell/\y.2≠.free)(names:∀y∈aB.names,y.2=.local->aB.names.lookup y.1=some .local)
  (ht:∀y∈ts,aB.names.lookup y=some .local):CSc X aB [] ts [] []:=by
 have e:(relabel aB X.env).names=aB.names:=by
  show aB.names.map _=_;refine map_eq_self λy hy=>?_;obtain⟨n,k⟩:=y;have:(k == NameKind.free)=false:=by simpa using (h _ hy).2
  simp[this]
 refine⟨closureFor_none λy hy=>(h y hy).2,kind,λy hy=>(h y hy).1,names,(λ_ _ z=>nomatch z),λy z=>?_,λy hy=>by rw[e];exact ht y hy,rfl,(λ_ _ z=>by simp at z)⟩
 rw[e]at z
 rcases z with z|z
 ·exact absurd rfl (h _ (cm z)).1
 ·exact absurd rfl (h _ (cm z)).2
theorem axp(x y:Str):(x++y).cps.toList=x.cps.toList++y.cps.toList:=by
 show(x.cps++y.cps).toList=_;simp
theorem a6b{α:Type}(xs:List α)(k:Nat):a69 xs none (some (k:Int))=xs.take k:=by
 unfold a69;rw[HT.a8o,HT.ags,gG,Nat.sub_zero]
 by_cases h:k<=xs.length
 ·rw[Nat.min_eq_left h]
 ·rw[Nat.min_eq_right (by omega),bZ (ay _),bZ (by omega)]
theorem a6c{α:Type}(xs:List α)(k:Nat):a69 xs (some (k:Int)) none=xs.drop k:=by
 unfold a69;rw[HT.a8o,HT.ags]
 by_cases h:k<=xs.length
 ·rw[Nat.min_eq_left h,bZ (by rw[bq];omega)]
 ·rw[Nat.min_eq_right (by omega),c6 (ay _),c6 (by omega),List.take_nil]
end L2
namespace L2
open PyProof.Rows
section
variable{X:Cx}
theorem ac0(hc:X.calm=true)(S:CSc X aB cl ts fr ix)(hi:PI X tg aF wi)
  (hg:∀C fp s H,PG (cxC X (ts++fr) aB cl C fp s H) tg g) (he:∀C fp s H,PE (cxC X (ts++fr) aB cl C fp s H) aD te) (ht:∀C fp s H,PT (cxC X (ts++fr) aB cl C fp s H) cnd tc) (hs:∀x,foldedSetIterable aF X.env x=pure x)
  (use:Option (Value->Sem Unit)) (I:Inv X aA σ H s) (h:a8s wi (qx ts.length ix) g tc te σ H Q) (fin:a4j X aA σ use Q Qf) :
  wpAny (model X.prog X.w) X.A (comprehension (.ListComp aD [⟨tg,aF,[cnd],0⟩] aB pos) aB X.env ppos (newList []) false (eval aF X.env) use) Qf X.xe s :=
 a7n (cnd:=some cnd) hc S hi hg he ht hs use I h fin
theorem af9(hc:X.calm=true)(S:CSc X aB cl ts fr ix)(hi:PI X tg aF wi)
  (hg:∀C fp s H,PG (cxC X (ts++fr) aB cl C fp s H) tg g) (he:∀C fp s H,PE (cxC X (ts++fr) aB cl C fp s H) aD te) (ht:∀C fp s H,PT (cxC X (ts++fr) aB cl C fp s H) cnd tc)
  (hs:∀x,foldedSetIterable aF X.env x=pure x:=by intro _;rfl) :
  PE X (.ListComp aD [⟨tg,aF,[cnd],0⟩] aB pos) (a8s wi (qx ts.length ix) g tc te):=by
 intro aA s σ H Q I h
 rw[eval_ListComp];exact ac0 hc S hi hg he ht hs none I h ade
end
section
variable{X:Cx}
theorem a8t:OpR X (compareOp .In) (λx y H Q=>∃c T,x=.str ⟨#[c]⟩/\y=.str T/\Q (.bl (decide (c∈T.cps.toList))) H):=by
 intro aA s σ H x y v u Q I rx ry h
 obtain⟨c,T,rfl,rfl,q⟩:=h;exact agl aA s σ H _ _ v u Q I rx ry ⟨_,_,rfl,rfl,by rw[StrLaws.found_one];exact q⟩
theorem a4k:OpR X (compareOp .NotIn) (λx y H Q=>∃c T,x=.str ⟨#[c]⟩/\y=.str T/\Q (.bl (!decide (c∈T.cps.toList))) H):=by
 intro aA s σ H x y v u Q I rx ry h
 obtain⟨c,T,rfl,rfl,q⟩:=h;exact aa8 aA s σ H _ _ v u Q I rx ry ⟨_,_,rfl,rfl,by rw[StrLaws.found_one];exact q⟩
end
theorem CSc.of{X:Cx}{ts fr:List Str}{ix:List Nat}(clos:closureFor aB X.env=pure cl)(kind:aB.kind=.function)
  (nocell:(aB.names.all λp=>p.2 != .cell)=true) (names:(aB.names.all λp=>p.2 != .local || aB.names.lookup p.1 == some .local)=true) (sub:∀p∈cl,X.env.cells.lookup p.1=some p.2)
  (has:((relabel aB X.env).names.all λp => !(p.2 == .cell || p.2 == .free) || (cl.lookup p.1).isSome)=true) (nofn:(ts.all λy=>(relabel aB X.env).names.lookup y == some .local)=true)
  (len:ix.length=fr.length) (vis:((fr.zip ix).all λp=>X.N[p.2]? == some p.1 && (X.env.kindOf p.1 == some .cell || X.env.kindOf p.1 == some .free) && ((relabel aB X.env).names.lookup p.1 == some .cell || (relabel aB X.env).names.lookup p.1 == some .free))=true) :
  CSc X aB cl ts fr ix:=by
 refine⟨clos,kind,λy hy=>?_,λy hy e=>?_,λy c e=>sub _ (cm e),λy z=>?_,λy hy=>?_,len,λj y e=>?_⟩
 ·have:=bU.mp nocell y hy
  simpa using this
 ·have:=bU.mp names y hy
  rw[e]at this;simpa using this
 ·have key:∀k,(relabel aB X.env).names.lookup y=some k->(k == .cell || k == .free)=true->∃c,cl.lookup y=some c:=λk e hk=>by
   have:=bU.mp has _ (cm e)
   rw[hk]at this;exact gM.mp (by simpa using this)
  rcases z with z|z
  ·exact key _ z rfl
  ·exact key _ z rfl
 ·have:=bU.mp nofn y hy
  simpa using this
 ·obtain⟨hj,_⟩:=av.mp e;have hj2:j<ix.length:=by omega
  have hm:(y,ix[j])∈fr.zip ix:=by
   rw[List.mem_iff_getElem?];exact⟨j,by rw[gH];exact⟨e,ai hj2⟩⟩
  have:=bU.mp vis _ hm
  simp only[bF,br,eM]at this;exact⟨ix[j],ai hj2,this.1.1,this.1.2,this.2⟩
section
variable{X:Cx}
theorem a4l(hc:X.calm=true):CallR X (.builtin "sum") (λxs H Q=>∃(p:Addr) (ns:List Int),xs=[.ref p]/\SqL X.K H p (ns.map V.int)/\Q (.int ns.sum) H):=by
 intro aA s σ H xs us Q I r h
 obtain⟨p,ns,rfl,hq,q⟩:=h;obtain⟨u,rfl,rx⟩:=vals1 r;cases rx
 obtain⟨its,r',pl,hz⟩:=I.list hq;have hInts:IntsAre its ns:=intsAre_of r';obtain⟨prs,ep⟩:=hInts.allInts.items;refine sum_intListG (xs:=prs) (I.ok.hd hc) (ep ▸ pl.isList) λh' tk t' hk=>⟨.int ns.sum,H,I.kept hk,⟨t',?_⟩,q⟩;have nums:prs.toList.map (·.1)=ns:=by
  rw[<-nums_intItems,<-ep];exact hInts.numsOf
 have tot:preSum (numAt prs) prs.size=ns.sum:=by
  rw[preSum_eq,<-nums]
  congr 1
  exact bZ (by simp)
 rw[tot]
end
open PySem.AutoSeq1 in
theorem a6d(l b:Addr)(xs ys:Array Value)(n m:Nat)(dd:Option Addr)(sl:Array (Option Value))(long:¬(!xs.isEmpty && Builtin.List.listTooLong (xs.size+ys.size))=true)(fit1:xs.size<=sizeLine)(fit2:xs.size+ys.size<=sizeLine+1) :
  Meets (Builtin.«list.extend» ⟨[.ref l,.ref b],[]⟩) (λ_ R s=>(s.heap.get? l=some {cls:=.type "list",dict:=none,data:=.seq xs n,slots := #[]}/\s.heap.get? b=some {cls:=.type "tuple",dict:=dd,data:=.seq ys m,slots:=sl})/\R (.ok (.ret Value.none)) {s with heap:=s.heap.update l (Obj.mapSeq (·++ys))}) :=
 .of_wp λprog w A R ⟨hp,gn,dr,tk,os⟩ ⟨⟨hl,hb⟩,q⟩=>by
  have a1:=idx_int;have a2:=AutoSeq1.sub_tuple_tuple;have a3:=AutoSeq1.sub_list_list;have a4:=AutoSeq1.sub_tuple_list;have a5:=AutoSeq1.sub_list_tuple;have both:(xs++ys).size<=sizeLine+1:=by simpa using fit2
  wp_walk using hZ hl rfl (hz:=fit1) (_hz':=both),wpAny_loadPart' hl,wpAny_loadPart' hb
  exact⟨_,rfl,q⟩
section
variable{X:Cx}
def adg(K:Fg):V->List V->Hp->VK->Prop:=λx vs H Q=>∃l b xs zs,x=.ref l/\vs=[.ref b]/\H l=some (.lst xs)/\SqT K H b zs/\xs.length+zs.length<=sizeLine/\Q .non (upd H l (.lst (xs++zs)))
theorem a2l:MtM X "list.extend" (adg X.K):=by
 intro aA s σ H x vs v us Q I rx rv h
 obtain⟨l,b,xs,zs,rfl,rfl,hH,hB,hz,q⟩:=h;cases rx
 obtain⟨u,rfl,ru⟩:=rv.one;cases ru
 obtain⟨z,its,n,r,hl,e⟩:=I.lstM hH;obtain⟨its2,r2,p2,_⟩:=I.tuple hB;have hl2:=r2.length;obtain⟨⟨cls,dd,data,sl⟩,e2,hc,hrest⟩:=id p2;have hsz:its.toArray.size+its2.toArray.size<=sizeLine:=by rw[aL,aL];omega
 have hlong:¬ (!its.toArray.isEmpty && Builtin.List.listTooLong (its.toArray.size+its2.toArray.size))=true:=by
  rw[a3p hsz,gI];exact aU
 obtain⟨n2,hd⟩:=(show ∃n2,data=.seq its2.toArray n2 from by first|exact hrest|exact⟨_,hrest.2⟩|(obtain⟨_,n,hd⟩:=hrest;exact⟨n,hd⟩))
 have hc':cls=.type "tuple":=hc;subst hc' hd;refine cQ F.slot_list_extend ⟨_,e,rfl⟩ F.entry_list_extend (F.args_list_extend_2 _ _)
  (a6d l b its.toArray its2.toArray n n2 dd sl hlong (by rw[aL];omega) (by omega)) ⟨⟨e,e2⟩,?_⟩
 refine⟨.non,_,I.lset (its':=its++its2) hH e (by simp) (r.append r2) ?_,rfl,q⟩
 rw[ae];omega
end
end L2
namespace MI
open L2
inductive D where
 |non|bl (b:Bool)|int (i:Int)|str (x:Str)|ty (n:String)|tup (xs:List D)|rol (xs:List D)|ref (i:Nat)|scr (xs:List D)|rod (ks:List Key) (xs:List D)|rdT (ks:List (List Key)) (xs:List D)|exc (c:Str)|ins (c:Str) (ks:List Str) (xs:List D)
inductive O where
 |lst (xs:List D)|dK (kvs:List (Key×D))|dT (kvs:List (List Key×D))|ins (c:Str) (fs:List (Str×D))
abbrev Hd:=List O
abbrev Sd:=List (Option D)
inductive R (α:Type) where
 |ok (a:α) (h:Hd)|ex (c:Str) (h:Hd)|no
def R.bind{α β:Type}:R α->(α->Hd->R β)->R β
 |.ok a h,k=>k a h
 |.ex c h,_=>.ex c h
 |.no,_=>.no
inductive Fl where
 |nx (σ:Sd) (h:Hd)|rt (d:D) (h:Hd)|bk (σ:Sd) (h:Hd)|ct (σ:Sd) (h:Hd)|ex (c:Str) (h:Hd)|no
def R.fl{α:Type}:R α->(α->Hd->Fl)->Fl
 |.ok a h,k=>k a h
 |.ex c h,_=>.ex c h
 |.no,_=>.no
abbrev SE:=Sd->Hd->R D
abbrev ST:=Sd->Hd->R Bool
abbrev SA:=Sd->Hd->R (List D)
abbrev SS:=Sd->Hd->Fl
def SqF(K:Fg)(H:Hp)(a:Addr)(vs:List V):Prop:=(∃o,H a=some (.frz o (.lst vs)))\/SqL K (λ_=>none) a vs
theorem SqF.l(h:SqF K H a vs):SqL K H a vs:=by
 rcases h with⟨o,h⟩|h
 ·exact .inl (.inr ⟨o,h⟩)
 ·rcases h with(h|⟨o,h⟩)|h
  ·cases h
  ·cases h
  ·exact .inr h
def SqZ(H:Hp)(a:Addr)(vs:List V):Prop:=∃o,H a=some (.frz o (.lst vs))
theorem SqZ.l(h:SqZ H a vs):SqL K H a vs:=let ⟨o,e⟩:=h; .inl (.inr ⟨o,e⟩)
def exO(a:Addr):HO:=.ext λh=>∃o,h.get? a=some o
mutual
inductive Rep (K:Fg) (ι:List Addr) (H:Hp):V->D->Prop
 |non:Rep K ι H .non .non
 |bl (b:Bool):Rep K ι H (.bl b) (.bl b)
 |int (i:Int):Rep K ι H (.int i) (.int i)
 |str (x:Str):Rep K ι H (.str x) (.str x)
 |ty (n:String):Rep K ι H (.ty n) (.ty n)
 |tup {a:Addr} {vs:List V} {xs:List D} (h:H a=some (.tup vs)) (r:Reps K ι H vs xs):Rep K ι H (.ref a) (.tup xs)
 |rol {a:Addr} {vs:List V} {xs:List D} (h:SqZ H a vs) (r:Reps K ι H vs xs):Rep K ι H (.ref a) (.rol xs)
 |scr {a:Addr} {vs:List V} {xs:List D} (h:SqF K H a vs) (r:Reps K ι H vs xs):Rep K ι H (.ref a) (.scr xs)
 |ref {a:Addr} {i:Nat} (h:ι[i]? = some a):Rep K ι H (.ref a) (.ref i)
 |rod {a:Addr} {o:Obj} {us:List (Key×V)} {ks:List Key} {xs:List D} (h:H a=some (.frz o (.dK us))) (e:us.map (·.1)=ks) (r:Reps K ι H (us.map (·.2)) xs):Rep K ι H (.ref a) (.rod ks xs)
 |rdT {a:Addr} {o:Obj} {us:List (List Key×V)} {ks:List (List Key)} {xs:List D} (h:H a=some (.frz o (.dT us))) (e:us.map (·.1)=ks) (r:Reps K ι H (us.map (·.2)) xs):Rep K ι H (.ref a) (.rdT ks xs)
 |exc {a C:Addr} {o:Obj} {c:Str} (h:H a=some (.frz o (exO a))) (hc:o.cls=.ref C) (hn:PySem.W.nsIn K mainGlobals c=some (some (.ref C))):Rep K ι H (.ref a) (.exc c)
 |ins {a C dx:Addr} {o:Obj} {c:Str} {us:List (Str×V)} {ks:List Str} {xs:List D} (h:H a=some (.frz o (.ins C dx us))) (hn:PySem.W.nsIn K mainGlobals c=some (some (.ref C))) (e:us.map (·.1)=ks) (r:Reps K ι H (us.map (·.2)) xs):Rep K ι H (.ref a) (.ins c ks xs)
inductive Reps (K:Fg) (ι:List Addr) (H:Hp):List V->List D->Prop
 |nil:Reps K ι H [] []
 |cons {v:V} {d:D} {vs:List V} {ds:List D} (r:Rep K ι H v d) (rs:Reps K ι H vs ds):Reps K ι H (v::vs) (d::ds)
end
structure Gw (ι:List Addr) (H:Hp) (ι':List Addr) (H':Hp):Prop where
 pre:∃m,ι'=ι++m
 tup:∀a vs,H a=some (.tup vs)->H' a=some (.tup vs)
 frz:∀a o u,H a=some (.frz o u)->H' a=some (.frz o u)
structure Gr (ι:List Addr) (H:Hp) (ι':List Addr) (H':Hp):Prop where
 pre:∃m,ι'=ι++m/\∀a∈m,H a=none
 tup:∀a vs,H a=some (.tup vs)->H' a=some (.tup vs)
 frz:∀a o u,H a=some (.frz o u)->H' a=some (.frz o u)
 oth:∀a u,H a=some u->a∉ι->H' a=some u
 kp:∀a u,H a=some u->∃u',H' a=some u'
theorem Gr.w(g:Gr ι H ι' H'):Gw ι H ι' H':=⟨let ⟨m,e,_⟩:=g.pre; ⟨m,e⟩,g.tup,g.frz⟩
theorem Gr.refl(ι:List Addr)(H:Hp):Gr ι H ι H:=⟨⟨[],by simp,by simp⟩,λ_ _ h=>h,λ_ _ _ h=>h,λ_ _ h _=>h,λ_ u h=>⟨u,h⟩⟩
theorem Gr.trans(a:Gr ι H ι1 H1)(b:Gr ι1 H1 ι2 H2):Gr ι H ι2 H2:=by
 obtain⟨m,rfl,hm⟩:=a.pre;obtain⟨n,rfl,hn⟩:=b.pre;refine⟨⟨m++n,by simp,λx hx=>?_⟩,λx vs h=>b.tup x vs (a.tup x vs h),λx o u h=>b.frz x o u (a.frz x o u h),λx u h hx=>?_,λx u h=>?_⟩
 ·rcases aX.mp hx with hx|hx
  ·exact hm x hx
  ·cases e:H x with
   |none=>rfl
   |some u =>
    obtain⟨u',e'⟩:=a.kp x u e;rw[hn x hx]at e';cases e'
 ·refine b.oth x u (a.oth x u h hx) λz=>?_
  rcases aX.mp z with z|z
  ·exact hx z
  ·rw[hm x z]at h;cases h
 ·obtain⟨u',e⟩:=a.kp x u h;exact b.kp x u' e
theorem Gw.at(g:Gw ι H ι' H'){i:Nat}(h:ι[i]? = some a):ι'[i]? = some a:=by
 obtain⟨m,rfl⟩:=g.pre;rw[aZ (av.mp h).1];exact h
theorem Gr.at(g:Gr ι H ι' H'){i:Nat}(h:ι[i]? = some a):ι'[i]? = some a:=g.w.at h
theorem SqF.monoW(g:Gw ι H ι' H')(h:SqF K H a vs):SqF K H' a vs:=by
 rcases h with⟨o,h⟩|h
 ·exact .inl ⟨o,g.frz _ _ _ h⟩
 ·exact .inr h
theorem SqZ.monoW(g:Gw ι H ι' H')(h:SqZ H a vs):SqZ H' a vs:=let ⟨o,e⟩:=h; ⟨o,g.frz _ _ _ e⟩
theorem SqZ.mono(g:Gr ι H ι' H')(h:SqZ H a vs):SqZ H' a vs:=h.monoW g.w
mutual
theorem Rep.monoW(g:Gw ι H ι' H'):∀{v:V} {d:D},Rep K ι H v d->Rep K ι' H' v d
 |_,_,.non=>.non
 |_,_,.bl b=>.bl b
 |_,_,.int i=>.int i
 |_,_,.str x=>.str x
 |_,_,.ty n=>.ty n
 |_,_,.tup h r=>.tup (g.tup _ _ h) (Reps.monoW g r)
 |_,_,.rol h r=>.rol (h.monoW g) (Reps.monoW g r)
 |_,_,.scr h r=>.scr (h.monoW g) (Reps.monoW g r)
 |_,_,.ref h=>.ref (g.at h)
 |_,_,.rod h e r=>.rod (g.frz _ _ _ h) e (Reps.monoW g r)
 |_,_,.rdT h e r=>.rdT (g.frz _ _ _ h) e (Reps.monoW g r)
 |_,_,.exc h hc hn=>.exc (g.frz _ _ _ h) hc hn
 |_,_,.ins h hn e r=>.ins (g.frz _ _ _ h) hn e (Reps.monoW g r)
theorem Reps.monoW(g:Gw ι H ι' H'):∀{vs:List V} {ds:List D},Reps K ι H vs ds->Reps K ι' H' vs ds
 |_,_,.nil=>.nil
 |_,_,.cons r rs=>.cons (Rep.monoW g r) (Reps.monoW g rs)
end
theorem Rep.mono(g:Gr ι H ι' H')(r:Rep K ι H v d):Rep K ι' H' v d:=r.monoW g.w
theorem Reps.mono(g:Gr ι H ι' H')(r:Reps K ι H vs ds):Reps K ι' H' vs ds:=r.monoW g.w
section
variable{K:Fg}{ι:List Addr}{H:Hp}
theorem Reps.len:Reps K ι H vs ds->vs.length=ds.length
 |.nil=>rfl
 |.cons _ rs=>by rw[aJ,aJ,rs.len]
theorem Reps.get:∀{vs:List V} {ds:List D} {i:Nat} {d:D},Reps K ι H vs ds->ds[i]? = some d->∃v,vs[i]? = some v/\Rep K ι H v d
 |_,_,_,_,.nil,e=>by simp at e
 |_,_,0,_,.cons r _,e=>by simp at e;subst e;exact⟨_,rfl,r⟩
 |_,_,i+1,d,.cons _ rs,e=>by
  obtain⟨u,h1,h2⟩:=Reps.get (i:=i) (d:=d) rs (by simpa using e)
  exact⟨u,by simpa using h1,h2⟩
theorem Reps.app:∀{vs us:List V} {ds es:List D},Reps K ι H vs ds->Reps K ι H us es->Reps K ι H (vs++us) (ds++es)
 |_,_,_,_,.nil,s=>s
 |_,_,_,_,.cons r rs,s=>.cons r (Reps.app rs s)
theorem Reps.set(q:Rep K ι H v d):∀{vs:List V} {ds:List D} (i:Nat),Reps K ι H vs ds->Reps K ι H (vs.set i v) (ds.set i d)
 |_,_,_,.nil=>.nil
 |_,_,0,.cons _ rs=>.cons q rs
 |_,_,i+1,.cons r rs=>.cons r (Reps.set q i rs)
theorem Reps.take:∀{vs:List V} {ds:List D} (n:Nat),Reps K ι H vs ds->Reps K ι H (vs.take n) (ds.take n)
 |_,_,0,_=>.nil
 |_,_,_+1,.nil=>.nil
 |_,_,n+1,.cons r rs=>.cons r (Reps.take n rs)
theorem Reps.drop:∀{vs:List V} {ds:List D} (n:Nat),Reps K ι H vs ds->Reps K ι H (vs.drop n) (ds.drop n)
 |_,_,0,r=>r
 |_,_,_+1,.nil=>.nil
 |_,_,n+1,.cons _ rs=>Reps.drop n rs
theorem Reps.snoc(r:Reps K ι H vs ds)(q:Rep K ι H v d):Reps K ι H (vs++[v]) (ds++[d]):=r.app (.cons q .nil)
theorem Reps.flat:∀{vs:List V} {ds:List D} (k:Nat),Reps K ι H vs ds->Reps K ι H (List.replicate k vs).flatten (List.replicate k ds).flatten
 |_,_,0,_=>.nil
 |vs,ds,k+1,r=>by
  rw[aV,aV,cP,cP];exact r.app (Reps.flat k r)
end
def KRep{κ:Type}(K:Fg)(ι:List Addr)(H:Hp)(us:List (κ×V))(kvs:List (κ×D)):Prop:=us.map (·.1)=kvs.map (·.1)/\Reps K ι H (us.map (·.2)) (kvs.map (·.2))
def ORep(K:Fg)(ι:List Addr)(H:Hp)(a:Addr):O->Prop
 |.lst xs=>∃vs,H a=some (.lst vs)/\Reps K ι H vs xs
 |.dK kvs=>∃us,H a=some (.dK us)/\KRep K ι H us kvs
 |.dT kvs=>∃us,H a=some (.dT us)/\KRep K ι H us kvs
 |.ins c fs=>∃C dx us,H a=some (.ins C dx us)/\PySem.W.nsIn K mainGlobals c=some (some (.ref C))/\KRep K ι H us fs
structure HRep (K:Fg) (ι:List Addr) (H:Hp) (h:Hd):Prop where
 nd:ι.Nodup
 len:ι.length=h.length
 obj:∀(i:Nat) (a:Addr) (o:O),ι[i]? = some a->h[i]? = some o->ORep K ι H a o
section
variable{K:Fg}{ι:List Addr}{H:Hp}{h:Hd}
theorem ORep.some(r:ORep K ι H a o):∃u,H a=some u/\(∀vs,u≠.tup vs)/\(∀o' u',u≠.frz o' u'):=by
 cases o with
 |lst xs=>obtain⟨vs,e,_⟩:=r;exact⟨_,e,λ_ z=>(by cases z),λ_ _ z=>(by cases z)⟩
 |dK kvs=>obtain⟨us,e,_⟩:=r;exact⟨_,e,λ_ z=>(by cases z),λ_ _ z=>(by cases z)⟩
 |dT kvs=>obtain⟨us,e,_⟩:=r;exact⟨_,e,λ_ z=>(by cases z),λ_ _ z=>(by cases z)⟩
 |ins c fs=>obtain⟨C,dx,us,e,_⟩:=r;exact⟨_,e,λ_ z=>(by cases z),λ_ _ z=>(by cases z)⟩
theorem HRep.at(r:HRep K ι H h){i:Nat}(e:ι[i]? = some a):∃o,h[i]? = some o/\ORep K ι H a o:=by
 have hi:i<h.length:=by rw[<-r.len];exact(av.mp e).1
 exact⟨h[i],ai hi,r.obj i a _ e (ai hi)⟩
theorem HRep.addr(r:HRep K ι H h){i:Nat}(e:h[i]? = some o):∃a,ι[i]? = some a/\ORep K ι H a o:=by
 have hi:i<ι.length:=by rw[r.len];exact(av.mp e).1
 exact⟨ι[i],ai hi,r.obj i _ o (ai hi) e⟩
theorem HRep.notin(r:HRep K ι H h)(e:H p=none):p∉ι:=λz=>by
 obtain⟨i,hi⟩:=bY z;obtain⟨o,_,q⟩:=r.at hi;obtain⟨u,q,_⟩:=q.some;rw[e]at q;cases q
theorem ORep.monoW(g:Gw ι H ι' H')(e:H' a=H a)(r:ORep K ι H a o):ORep K ι' H' a o:=by
 cases o with
 |lst xs=>obtain⟨vs,h1,h2⟩:=r;exact⟨vs,by rw[e];exact h1,h2.monoW g⟩
 |dK kvs=>obtain⟨us,h1,h2,h3⟩:=r;exact⟨us,by rw[e];exact h1,h2,h3.monoW g⟩
 |dT kvs=>obtain⟨us,h1,h2,h3⟩:=r;exact⟨us,by rw[e];exact h1,h2,h3.monoW g⟩
 |ins c fs=>obtain⟨C,dx,us,h1,hn,h2,h3⟩:=r;exact⟨C,dx,us,by rw[e];exact h1,hn,h2,h3.monoW g⟩
theorem ORep.mono(g:Gr ι H ι' H')(e:H' a=H a)(r:ORep K ι H a o):ORep K ι' H' a o:=r.monoW g.w e
theorem a1s(e:H p=none)(o:HO):Gr ι H ι (upd H p o) :=
 ⟨⟨[],by simp,by simp⟩,λa vs h=>by rw[jc (j9 h e)];exact h,λa o u h=>by rw[jc (j9 h e)];exact h,λa u h _=>by rw[jc (j9 h e)];exact h,λa u h=>⟨u,by rw[jc (j9 h e)];exact h⟩⟩
theorem HRep.aside(r:HRep K ι H h)(e:H p=none)(o:HO):HRep K ι (upd H p o) h:=by
 refine⟨r.nd,r.len,λi a o' e1 e2=>?_⟩;have q:=r.obj i a o' e1 e2;obtain⟨u,hu,_⟩:=q.some;exact q.mono (a1s e o) (jc (j9 hu e))
theorem adh(e:H p=none)(o:HO):Gr ι H (ι++[p]) (upd H p o) :=
 ⟨⟨[p],rfl,by simpa using e⟩,(a1s (ι:=ι) e o).tup,(a1s (ι:=ι) e o).frz,(a1s (ι:=ι) e o).oth,(a1s (ι:=ι) e o).kp⟩
theorem HRep.add(r:HRep K ι H h)(e:H p=none)(q:ORep K (ι++[p]) (upd H p o) p ob):HRep K (ι++[p]) (upd H p o) (h++[ob]):=by
 refine⟨?_,by simp[r.len],λi a o' e1 e2=>?_⟩
 ·rw[bS];exact⟨r.nd,by simp,λa ha b hb z=>r.notin e (by rw[aI.mp hb]at z;rw[<-z];exact ha)⟩
 ·by_cases hi:i<ι.length
  ·rw[aZ hi]at e1;rw[aZ (by rw[<-r.len];exact hi)]at e2
   have q:=r.obj i a o' e1 e2;obtain⟨u,hu,_⟩:=q.some;exact q.mono (adh e o) (jc (j9 hu e))
  ·have hi2:i<(ι++[p]).length:=(av.mp e1).1;have:i=ι.length:=by simp at hi2;omega
   subst this;rw[aP (ay _)]at e1;rw[r.len,aP (ay _)]at e2;simp at e1 e2;subst e1 e2;exact q
theorem a6e{i:Nat}(r:HRep K ι H h)(e:ι[i]? = some a)(o:HO):Gr ι H ι (upd H a o):=by
 obtain⟨_,_,q⟩:=r.at e;obtain⟨u,hu,n1,n2⟩:=q.some;refine⟨⟨[],by simp,by simp⟩,λb vs hb=>?_,λb o' u' hb=>?_,λb u' hb hn=>?_,λb u' hb=>?_⟩
 ·rw[jc (λz=>by subst z;rw[hu]at hb;exact n1 _ (bQ hb))];exact hb
 ·rw[jc (λz=>by subst z;rw[hu]at hb;exact n2 _ _ (bQ hb))];exact hb
 ·rw[jc (λz=>hn (by subst z;exact bM e))];exact hb
 ·by_cases z:b=a
  ·subst z;exact⟨o,uc⟩
  ·exact⟨u',by rw[jc z];exact hb⟩
theorem HRep.put(r:HRep K ι H h){i:Nat}(e:ι[i]? = some a)(q:ORep K ι (upd H a o) a ob):HRep K ι (upd H a o) (h.set i ob):=by
 refine⟨r.nd,by rw[hX];exact r.len,λj b o' e1 e2=>?_⟩
 by_cases hj:i=j
 ·subst hj;rw[e]at e1;cases e1
  have hi:i<h.length:=by rw[<-r.len];exact(av.mp e).1
  rw[cE hi]at e2;cases e2
  exact q
 ·rw[dW hj]at e2;have hne:b≠a:=λz=>by
   subst z;obtain⟨h1,g1⟩:=av.mp e;obtain⟨h2,g2⟩:=av.mp e1;have np:=cF.mp r.nd
   rcases gB hj with l|l
   ·exact np i j h1 h2 l (g1.trans g2.symm)
   ·exact np j i h2 h1 l (g2.trans g1.symm)
  exact(r.obj j b o' e1 e2).mono (a6e r e o) (jc hne)
end
structure SRep (K:Fg) (ι:List Addr) (H:Hp) (σ:St) (τ:Sd):Prop where
 len:σ.length=τ.length
 val:∀(i:Nat) (d:D),τ[i]? = some (some d)->∃v,σ[i]? = some (some v)/\Rep K ι H v d
theorem SRep.mono(g:Gr ι H ι' H')(s:SRep K ι H σ τ):SRep K ι' H' σ τ :=
 ⟨s.len,λi d e=>let ⟨v,h1,h2⟩:=s.val i d e; ⟨v,h1,h2.mono g⟩⟩
theorem SRep.set(s:SRep K ι H σ τ)(r:Rep K ι H v d)(i:Nat):SRep K ι H (σ.set i (some v)) (τ.set i (some d)):=by
 refine⟨by simp[s.len],λj d' e=>?_⟩
 by_cases hj:i=j
 ·subst hj;have hi:i<τ.length:=by
   have:=(av.mp e).1
   simpa using this
  rw[cE hi]at e;cases e
  exact⟨v,by rw[cE (by rw[s.len];exact hi)],r⟩
 ·rw[dW hj]at e ⊢;exact s.val j d' e
abbrev XD:=Str->List Addr->Hp->Hd->Prop
def out{α β:Type}(K:Fg)(E:XD)(Rp:List Addr->Hp->β->α->Prop)(ι:List Addr)(H:Hp)(r:R α)(Q:β->Hp->Prop):Prop :=
 match r with
 |.ok a h=>∀ι' H' b,Gr ι H ι' H'->Rp ι' H' b a->HRep K ι' H' h->Q b H'
 |.ex c h=>∀ι' H',Gr ι H ι' H'->HRep K ι' H' h->E c ι' H' h
 |.no=>False
theorem a2m{α β:Type}{K:Fg}{E:XD}{Rp:List Addr->Hp->β->α->Prop}{ι ι1:List Addr}{H H1:Hp}{r:R α}{Q:β->Hp->Prop}(o:out K E Rp ι H r Q)(g:Gr ι H ι1 H1):out K E Rp ι1 H1 r Q:=by
 cases r with
 |ok a h=>exact λι' H' b g'=>o ι' H' b (g.trans g')
 |ex c h=>exact λι' H' g'=>o ι' H' (g.trans g')
 |no=>exact o
theorem dz{α β γ δ:Type}{K:Fg}{E:XD}{Rp:List Addr->Hp->β->α->Prop}{Sp:List Addr->Hp->δ->γ->Prop}{ι:List Addr}{H:Hp}{r:R α}{k:α->Hd->R γ}{Q:δ->Hp->Prop}{P:β->Hp->Prop}
  (o:out K E Sp ι H (r.bind k) Q) (hP:∀a h ι1 H1 b,Gr ι H ι1 H1->Rp ι1 H1 b a->HRep K ι1 H1 h->out K E Sp ι1 H1 (k a h) Q->P b H1):out K E Rp ι H r P:=by
 cases r with
 |ok a h=>exact λι' H' b g r' hr=>hP a h ι' H' b g r' hr (a2m o g)
 |ex c h=>exact o
 |no=>exact o
abbrev a04(K:Fg):List Addr->Hp->V->D->Prop:=λι H v d=>Rep K ι H v d
abbrev b09(K:Fg):List Addr->Hp->List V->List D->Prop:=λι H v d=>Reps K ι H v d
abbrev afa:List Addr->Hp->Bool->Bool->Prop:=λ_ _ a b=>a=b
abbrev b0a:List Addr->Hp->Option Int->Option Int->Prop:=λ_ _ a b=>a=b
def ajq(K:Fg)(E:XD)(ι:List Addr)(H:Hp)(r:Fl)(N:Ends):Prop :=
 match r with
 |.nx τ h=>∀ι' H' σ,Gr ι H ι' H'->SRep K ι' H' σ τ->HRep K ι' H' h->N.nx σ H'
 |.bk τ h=>∀ι' H' σ,Gr ι H ι' H'->SRep K ι' H' σ τ->HRep K ι' H' h->N.bk σ H'
 |.ct τ h=>∀ι' H' σ,Gr ι H ι' H'->SRep K ι' H' σ τ->HRep K ι' H' h->N.ct σ H'
 |.rt d h=>∀ι' H' v,Gr ι H ι' H'->Rep K ι' H' v d->HRep K ι' H' h->N.rt v H'
 |.ex c h=>∀ι' H',Gr ι H ι' H'->HRep K ι' H' h->E c ι' H' h
 |.no=>False
theorem vp(o:ajq K E ι H r N)(g:Gr ι H ι1 H1):ajq K E ι1 H1 r N:=by
 cases r with
 |nx τ h=>exact λι' H' b g'=>o ι' H' b (g.trans g')
 |bk τ h=>exact λι' H' b g'=>o ι' H' b (g.trans g')
 |ct τ h=>exact λι' H' b g'=>o ι' H' b (g.trans g')
 |rt d h=>exact λι' H' b g'=>o ι' H' b (g.trans g')
 |ex c h=>exact λι' H' g'=>o ι' H' (g.trans g')
 |no=>exact o
theorem vq{α β:Type}{K:Fg}{E:XD}{Rp:List Addr->Hp->β->α->Prop}{ι:List Addr}{H:Hp}{r:R α}{k:α->Hd->Fl}{N:Ends}{P:β->Hp->Prop}
  (o:ajq K E ι H (r.fl k) N) (hP:∀a h ι1 H1 b,Gr ι H ι1 H1->Rp ι1 H1 b a->HRep K ι1 H1 h->ajq K E ι1 H1 (k a h) N->P b H1):out K E Rp ι H r P:=by
 cases r with
 |ok a h=>exact λι' H' b g r' hr=>hP a h ι' H' b g r' hr (vp o g)
 |ex c h=>exact o
 |no=>exact o
def lift{α β:Type}(K:Fg)(E:XD)(Rp:List Addr->Hp->β->α->Prop)(f:Sd->Hd->R α):St->Hp->(β->Hp->Prop)->Prop:=λσ H Q =>
 ∃ι τ h,SRep K ι H σ τ/\HRep K ι H h/\out K E Rp ι H (f τ h) Q
def a8u(K:Fg)(E:XD)(f:SS):TS:=λN σ H=>∃ι τ h,SRep K ι H σ τ/\HRep K ι H h/\ajq K E ι H (f τ h) N
abbrev ME(X:Cx)(E:XD)(e:Expr)(f:SE):Prop:=PE X e (lift X.K E (a04 X.K) f)
abbrev MT(X:Cx)(E:XD)(e:Expr)(f:ST):Prop:=PT X e (lift X.K E afa f)
abbrev MW(X:Cx)(E:XD)(e:Expr)(f:ST):Prop:=PW X e (lift X.K E afa f)
abbrev MA(X:Cx)(E:XD)(es:List Expr)(f:SA):Prop:=PA X es (lift X.K E (b09 X.K) f)
abbrev MS(X:Cx)(E:XD)(st:Stmt)(f:SS):Prop:=PS X st (a8u X.K E f)
abbrev MSs(X:Cx)(E:XD)(st:List Stmt)(f:SS):Prop:=PSs X st (a8u X.K E f)
theorem PE.weak(h:PE X e t)(i:∀σ H Q,t' σ H Q->t σ H Q):PE X e t':=λaA s σ H Q I q=>h aA s σ H Q I (i _ _ _ q)
theorem PT.weak(h:PT X e t)(i:∀σ H Q,t' σ H Q->t σ H Q):PT X e t':=λaA s σ H Q I q=>h aA s σ H Q I (i _ _ _ q)
theorem PW.weak(h:PW X e t)(i:∀σ H Q,t' σ H Q->t σ H Q):PW X e t':=λwh aA s σ H Q I q=>h wh aA s σ H Q I (i _ _ _ q)
theorem PA.weak(h:PA X e t)(i:∀σ H Q,t' σ H Q->t σ H Q):PA X e t':=λpos aA s σ H Q I q=>h pos aA s σ H Q I (i _ _ _ q)
theorem PS.weak(h:PS X e t)(i:∀N σ H,t' N σ H->t N σ H):PS X e t':=λaA s σ H N I q=>h aA s σ H N I (i _ _ _ q)
theorem PSs.weak(h:PSs X e t)(i:∀N σ H,t' N σ H->t N σ H):PSs X e t':=λaA s σ H N I q=>h aA s σ H N I (i _ _ _ q)
abbrev LINE:Nat:=16777216
theorem ll{n:Nat}(h:n<=LINE):n<=sizeLine:=aox h
def sV(i:Nat):SE:=λτ h=>match τ[i]? with|some (some d)=>.ok d h|_=>.no
def sC(d:D):SE:=λ_ h=>.ok d h
abbrev sI(i:Int):SE:=sC (.int i)
section
variable{X:Cx}{E:XD}{a b c e:Expr}{fa fb fc:SE}{pos:Pos}
theorem bj(i:Nat)(hN:X.N[i]? = some x:=by rfl)(hv:Vis X.env.scope x:=by first|exact Or.inl rfl|exact Or.inr (Or.inl rfl)|exact Or.inr (Or.inr rfl))(hd:(x == ("__debug__" : Str))=false:=by decide)
  (hcd:(x == ("__classdict__" : Str))=false:=by decide):ME X E (.Name x pos) (sV i):=by
 refine PE.weak (ars hN hv hd hcd) ?_
 rintro σ H Q ⟨ι,τ,h,S,Rh,o⟩
 unfold sV at o
 split at o
 ·rename_i d e;obtain⟨v,h1,h2⟩:=S.val i d e;exact⟨v,h1,o ι H v (.refl _ _) h2 Rh⟩
 ·exact o.elim
theorem awg(h:PE X e (tC v))(r:∀ι H,Rep X.K ι H v d):ME X E e (sC d) :=
 PE.weak h λσ H Q ⟨ι,τ,h,S,Rh,o⟩=>o ι H v (.refl _ _) (r ι H) Rh
theorem az{i j pos}:ME X E (.Constant (.int i) j pos) (sC (.int i)):=awg art λ_ _=>.int i
theorem aal{i j pos}:ME X E (.Constant (.bool i) j pos) (sC (.bl i)):=awg awx λ_ _=>.bl i
theorem jg{i j pos}:ME X E (.Constant (.str i) j pos) (sC (.str i)):=awg aru λ_ _=>.str i
theorem aoy(hg:Gl X x)(hm:X.mg x=some (.int i t))(hd:(x == ("__debug__" : Str))=false:=by decide):ME X E (.Name x pos) (sC (.int i)) :=
 awg (ao7 (v:=.int i) hg hm ⟨t,rfl⟩ hd) λ_ _=>.int i
def s2(g:D->D->Hd->R D)(fa fb:SE):SE:=λτ h=>(fa τ h).bind λx h1=>(fb τ h1).bind λy h2=>g x y h2
def s1(g:D->Hd->R D)(fa:SE):SE:=λτ h=>(fa τ h).bind g
def a3m(K:Fg)(g:D->D->Hd->R D)(r:R2):Prop:=∀(E:XD) ι H h x y dx dy Q,Rep K ι H x dx->Rep K ι H y dy->HRep K ι H h->out K E (a04 K) ι H (g dx dy h) Q->r x y H Q
def b0b(K:Fg)(g:D->Hd->R D)(r:V->Hp->VK->Prop):Prop:=∀(E:XD) ι H h x dx Q,Rep K ι H x dx->HRep K ι H h->out K E (a04 K) ι H (g dx h) Q->r x H Q
def akd(K:Fg)(g:List D->Hd->R D)(r:List V->Hp->VK->Prop):Prop:=∀(E:XD) ι H h xs ds Q,Reps K ι H xs ds->HRep K ι H h->out K E (a04 K) ι H (g ds h) Q->r xs H Q
theorem awh(hs:a3m K g r)(q:lift K E (a04 K) (s2 g fa fb) σ H Q):tOp r (lift K E (a04 K) fa) (lift K E (a04 K) fb) σ H Q:=by
 obtain⟨ι,τ,h,S,Rh,o⟩:=q;refine⟨ι,τ,h,S,Rh,dz o λd h1 ι1 H1 v g1 r1 hr1 o1=>?_⟩;refine⟨ι1,τ,h1,S.mono g1,hr1,dz o1 λd2 h2 ι2 H2 u g2 r2 hr2 o2=>?_⟩;exact hs E ι2 H2 h2 v u d d2 Q (r1.mono g2) r2 hr2 o2
theorem ac1(ho:OpR X (binaryOp op) r)(hs:a3m X.K g r)(ha:ME X E a fa)(hb:ME X E b fb):ME X E (.BinOp a op b pos) (s2 g fa fb) :=
 PE.weak (axa ho ha hb) λσ H Q q=>awh hs q
theorem ac2(ho:OpR X (compareOp op) r)(hs:a3m X.K g r)(ha:ME X E a fa)(hb:ME X E b fb)(hm:behindInMarks op b=false):ME X E (.Compare a [op] [b] pos) (s2 g fa fb) :=
 PE.weak (aog ho ha hb hm) λσ H Q q=>awh hs q
theorem axq(ho:UnR X (unaryOp op) r)(hs:b0b X.K g r)(ha:ME X E a fa):ME X E (.UnaryOp op a pos) (s1 g fa):=by
 refine PE.weak (axb ho ha) ?_
 rintro σ H Q ⟨ι,τ,h,S,Rh,o⟩
 exact⟨ι,τ,h,S,Rh,dz o λd h1 ι1 H1 v g1 r1 hr1 o1=>hs E ι1 H1 h1 v d Q r1 hr1 o1⟩
theorem axr(ho:IxR X r)(hs:a3m X.K g r)(ha:ME X E a fa)(hb:ME X E b fb)(hp:a8q b):ME X E (.Subscript a b pos) (s2 g fa fb) :=
 PE.weak (axk ho ha hb hp) λσ H Q q=>awh hs q
def asB(d:D)(h:Hd):R Bool:=match d with|.bl b=>.ok b h|_=>.no
def sT(f:SE):ST:=λτ h=>(f τ h).bind asB
theorem aoz(hi:∀σ H Q,lift K E (a04 K) f σ H Q->t σ H Q)(q:lift K E afa (sT f) σ H Q):asj t σ H Q:=by
 refine hi σ H _ ?_;obtain⟨ι,τ,h,S,Rh,o⟩:=q;refine⟨ι,τ,h,S,Rh,dz o λd h1 ι1 H1 v g1 r1 hr1 o1=>?_⟩
 cases r1 with
 |bl b=>exact⟨b,rfl,o1 ι1 H1 b (.refl _ _) rfl hr1⟩
 |_=>exact o1.elim
theorem a0h(ho:OpR X (compareOp op) r)(hs:a3m X.K g r)(ha:ME X E a fa)(hb:ME X E b fb)(hm:behindInMarks op b=false):MT X E (.Compare a [op] [b] pos) (sT (s2 g fa fb)) :=
 PT.weak (aoh ho ha hb hm) λσ H Q q=>aoz (λ_ _ _=>awh hs) q
def sCh(g g':D->D->Hd->R D)(fa fb fc:SE):SE:=λτ h=>(fa τ h).bind λx h1=>(fb τ h1).bind λy h2=>(g x y h2).bind λz h3=>match z with
 |.bl true=>(fc τ h3).bind λw h4=>g' y w h4
 |.bl false=>.ok (.bl false) h3
 |_=>.no
def tru(d:D)(h:Hd):R Bool:=match d with
 |.non=>.ok false h
 |.bl b=>.ok b h
 |.int i=>.ok (i != 0) h
 |.str x=>if x.length<=LINE then .ok ((x.length:Int) != 0) h else .no
 |.tup xs=>.ok (!xs.isEmpty) h
 |.rol xs=>.ok (!xs.isEmpty) h
 |.ref i=>match h[i]? with
  |some (.lst xs)=>.ok (!xs.isEmpty) h
  |some (.dK kvs)=>.ok (!kvs.isEmpty) h
  |_=>.no
 |_=>.no
theorem Reps.emp{K:Fg}{ι:List Addr}{H:Hp}{vs:List V}{ds:List D}(r:Reps K ι H vs ds):vs.isEmpty=ds.isEmpty:=by cases r<;>rfl
theorem KRep.emp{κ:Type}{K:Fg}{ι:List Addr}{H:Hp}{us:List (κ×V)}{kvs:List (κ×D)}(r:KRep K ι H us kvs):us.isEmpty=kvs.isEmpty:=by
 have:=aK List.length r.1
 cases us<;>cases kvs<;>simp at this ⊢
theorem ap0{K:Fg}{ι:List Addr}{H:Hp}{h:Hd}{x:V}{d:D}{Q:Bool->Hp->Prop}(r:Rep K ι H x d)(hr:HRep K ι H h)(o:out K E afa ι H (tru d h) Q):∃k,axe K x H k/\Q k H:=by
 cases r with
 |non=>exact⟨false,rfl,o ι H _ (.refl _ _) rfl hr⟩
 |bl b=>exact⟨b,rfl,o ι H _ (.refl _ _) rfl hr⟩
 |int i=>exact⟨_,rfl,o ι H _ (.refl _ _) rfl hr⟩
 |str x =>
  by_cases hl:x.length<=LINE
  ·simp only[tru,aN hl]at o;exact⟨_,⟨ll hl,rfl⟩,o ι H _ (.refl _ _) rfl hr⟩
  ·simp only[tru,bp hl]at o;exact o.elim
 |ty n=>exact o.elim
 |rod _ _ _=>exact o.elim
 |scr _ _=>exact o.elim
 |rdT _ _ _=>exact o.elim
 |exc _ _ _=>exact o.elim
 |ins _ _ _ _=>exact o.elim
 |tup e rs=>exact⟨_,.inr (.inl ⟨_,SqT.of e,rfl⟩),by rw[rs.emp];exact o ι H _ (.refl _ _) rfl hr⟩
 |rol e rs=>exact⟨_,.inl ⟨_,e.l,rfl⟩,by rw[rs.emp];exact o ι H _ (.refl _ _) rfl hr⟩
 |@ref a i e =>
  obtain⟨ob,h1,h2⟩:=hr.at e;simp only[tru,h1]at o
  cases ob with
  |lst xs =>
   obtain⟨vs,h3,h4⟩:=h2;exact⟨_,.inl ⟨_,SqL.of h3,rfl⟩,by rw[h4.emp];exact o ι H _ (.refl _ _) rfl hr⟩
  |dK kvs =>
   obtain⟨us,h3,h4⟩:=h2;exact⟨_,.inr (.inr ⟨_,h3,rfl⟩),by rw[h4.emp];exact o ι H _ (.refl _ _) rfl hr⟩
  |dT kvs=>exact o.elim
  |ins _ _=>exact o.elim
def ah4(f:SE):ST:=λτ h=>(f τ h).bind tru
theorem ah5(ha:ME X E a fa)(he:∀whole,isTrue a X.env whole=(do let v <-whole;standAt a.pos;holding [v] (truthy v)):=by intro _;rfl):MT X E a (ah4 fa):=by
 refine PT.weak (ak3 ha he) ?_
 rintro σ H Q ⟨ι,τ,h,S,Rh,o⟩
 exact⟨ι,τ,h,S,Rh,dz o λd h1 ι1 H1 v g1 r1 hr1 o1=>ap0 r1 hr1 o1⟩
def a7o(f g:ST):ST:=λτ h=>(f τ h).bind λb h1=>if b=true then g τ h1 else .ok false h1
def sOr(f g:ST):ST:=λτ h=>(f τ h).bind λb h1=>if b=true then .ok true h1 else g τ h1
def amt(f:ST):ST:=λτ h=>(f τ h).bind λb h1=>.ok (!b) h1
variable{ga gb:ST}
theorem a6f(ha:MT X E a ga):MW X E (.BoolOp .And [a] pos) ga:=ao8 ha
theorem a7p(ha:MT X E a ga):MW X E (.BoolOp .Or [a] pos) ga:=arv ha
theorem a7q{aG:List Expr}(ha:MT X E a ga)(hb:MW X E (.BoolOp .And (b::aG) pos) gb):MW X E (.BoolOp .And (a::b::aG) pos) (a7o ga gb):=by
 refine PW.weak (arw ha hb) ?_
 rintro σ H Q ⟨ι,τ,h,S,Rh,o⟩
 refine⟨ι,τ,h,S,Rh,dz o λd h1 ι1 H1 v g1 r1 hr1 o1=>?_⟩;cases r1
 cases d with
 |true=>exact⟨ι1,τ,h1,S.mono g1,hr1,o1⟩
 |false=>exact o1 ι1 H1 false (.refl _ _) rfl hr1
theorem ac3{aG:List Expr}(ha:MT X E a ga)(hb:MW X E (.BoolOp .Or (b::aG) pos) gb):MW X E (.BoolOp .Or (a::b::aG) pos) (sOr ga gb):=by
 refine PW.weak (awy ha hb) ?_
 rintro σ H Q ⟨ι,τ,h,S,Rh,o⟩
 refine⟨ι,τ,h,S,Rh,dz o λd h1 ι1 H1 v g1 r1 hr1 o1=>?_⟩;cases r1
 cases d with
 |true=>exact o1 ι1 H1 true (.refl _ _) rfl hr1
 |false=>exact⟨ι1,τ,h1,S.mono g1,hr1,o1⟩
def a6g(f g:SE):SE:=λτ h=>(f τ h).bind λd h1=>match d with|.bl true=>g τ h1|.bl false=>.ok (.bl false) h1|_=>.no
def ag9(f g:SE):SE:=λτ h=>(f τ h).bind λd h1=>match d with|.bl true=>.ok (.bl true) h1|.bl false=>g τ h1|_=>.no
def ake(f:SE):SE:=λτ h=>(f τ h).bind λd h1=>match d with|.bl b=>.ok (.bl (!b)) h1|_=>.no
theorem amu{op}(ha:ME X E a fa):ME X E (.BoolOp op [a] pos) fa:=arx ha
theorem at8{aG:List Expr}(ha:ME X E a fa)(hb:ME X E (.BoolOp .And (b::aG) pos) fb):ME X E (.BoolOp .And (a::b::aG) pos) (a6g fa fb):=by
 refine PE.weak (arz ha hb) ?_
 rintro σ H Q ⟨ι,τ,h,S,Rh,o⟩
 refine⟨ι,τ,h,S,Rh,dz o λd h1 ι1 H1 v g1 r1 hr1 o1=>?_⟩
 cases r1 with
 |bl k =>
  refine⟨k,rfl,?_⟩
  cases k with
  |true=>exact⟨ι1,τ,h1,S.mono g1,hr1,o1⟩
  |false=>exact o1 ι1 H1 _ (.refl _ _) (.bl _) hr1
 |_=>exact o1.elim
theorem axs{aG:List Expr}(ha:ME X E a fa)(hb:ME X E (.BoolOp .Or (b::aG) pos) fb):ME X E (.BoolOp .Or (a::b::aG) pos) (ag9 fa fb):=by
 refine PE.weak (ax0 ha hb) ?_
 rintro σ H Q ⟨ι,τ,h,S,Rh,o⟩
 refine⟨ι,τ,h,S,Rh,dz o λd h1 ι1 H1 v g1 r1 hr1 o1=>?_⟩
 cases r1 with
 |bl k =>
  refine⟨k,rfl,?_⟩
  cases k with
  |false=>exact⟨ι1,τ,h1,S.mono g1,hr1,o1⟩
  |true=>exact o1 ι1 H1 _ (.refl _ _) (.bl _) hr1
 |_=>exact o1.elim
def aam(c:ST)(f g:SE):SE:=λτ h=>(c τ h).bind λb h1=>if b=true then f τ h1 else g τ h1
theorem a7r(hc:MT X E c ga)(ha:ME X E a fa)(hb:ME X E b fb):ME X E (.IfExp c a b pos) (aam ga fa fb):=by
 refine PE.weak (ajy hc ha hb) ?_
 rintro σ H Q ⟨ι,τ,h,S,Rh,o⟩
 refine⟨ι,τ,h,S,Rh,dz o λd h1 ι1 H1 v g1 r1 hr1 o1=>?_⟩;cases r1
 cases d with
 |true=>exact⟨ι1,τ,h1,S.mono g1,hr1,o1⟩
 |false=>exact⟨ι1,τ,h1,S.mono g1,hr1,o1⟩
def cu:SA:=λ_ h=>.ok [] h
def aj(f:SE)(g:SA):SA:=λτ h=>(f τ h).bind λd h1=>(g τ h1).bind λds h2=>.ok (d::ds) h2
variable{es:List Expr}{ka:SA}
theorem bc:MA X E [] cu:=PA.weak ad9 λσ H Q ⟨ι,τ,h,S,Rh,o⟩=>o ι H [] (.refl _ _) .nil Rh
theorem aa(ha:ME X E e fa)(hr:MA X E es ka)(hs:starEach (e::es) X.env=(false,eval e X.env)::starEach es X.env:=by rfl):MA X E (e::es) (aj fa ka):=by
 refine PA.weak (a8n ha hr hs) ?_
 rintro σ H Q ⟨ι,τ,h,S,Rh,o⟩
 refine⟨ι,τ,h,S,Rh,dz o λd h1 ι1 H1 v g1 r1 hr1 o1=>?_⟩;refine⟨ι1,τ,h1,S.mono g1,hr1,dz o1 λd2 h2 ι2 H2 u g2 r2 hr2 o2=>?_⟩;exact o2 ι2 H2 _ (.refl _ _) (.cons (r1.mono g2) r2) hr2
def yg(ds:List D)(h:Hd):R D:=if ds.length<=LINE then .ok (.tup ds) h else .no
def u9(ds:List D)(h:Hd):R D:=if ds.length<=LINE then .ok (.ref h.length) (h++[.lst ds]) else .no
def sA(g:List D->Hd->R D)(k:SA):SE:=λτ h=>(k τ h).bind g
theorem a0s(r:Reps K ι H vs ds)(hr:HRep K ι H h)(o:out K E (a04 K) ι H (.ok (.tup ds) h) Q):∀p,H p=none->Q (.ref p) (upd H p (.tup vs)):=λp hp =>
 o ι _ _ (a1s hp _) (.tup uc (r.mono (a1s hp _))) (hr.aside hp _)
theorem yh(r:Reps K ι H vs ds)(hr:HRep K ι H h)(o:out K E (a04 K) ι H (.ok (.ref h.length) (h++[.lst ds])) Q):∀p,H p=none->Q (.ref p) (upd H p (.lst vs)):=λp hp =>
 o (ι++[p]) _ _ (adh hp _) (.ref (by rw[aP (by rw[hr.len];exact ay _),hr.len];simp)) (hr.add hp ⟨_,uc,r.mono (adh hp _)⟩)
theorem a8v{K:Fg}{ι:List Addr}{H:Hp}{h:Hd}{i:Nat}{a:Addr}{vs:List V}{ds:List D}{d:D}{v:V}{Q:VK}(r:Reps K ι H vs ds)(hr:HRep K ι H h)(hi:ι[i]? = some a)(rd:Rep K ι H v d)(o:out K E (a04 K) ι H (.ok d (h.set i (.lst ds))) Q):Q v (upd H a (.lst vs)) :=
 o ι _ _ (a6e hr hi _) (rd.mono (a6e hr hi _)) (hr.put hi ⟨_,uc,r.mono (a6e hr hi _)⟩)
theorem vf{x1}(h:MA X E es ka):ME X E (.Tuple es x1 pos) (sA yg ka):=by
 refine PE.weak (asn h) ?_
 rintro σ H Q ⟨ι,τ,h,S,Rh,o⟩
 refine⟨ι,τ,h,S,Rh,dz o λd h1 ι1 H1 v g1 r1 hr1 o1=>?_⟩;unfold yg at o1
 split at o1
 ·rename_i hl;exact⟨ll (by rw[r1.len];exact hl),a0s r1 hr1 o1⟩
 ·exact o1.elim
theorem jd(h:MA X E es ka):ME X E (.List es pos) (sA u9 ka):=by
 refine PE.weak (aso h) ?_
 rintro σ H Q ⟨ι,τ,h,S,Rh,o⟩
 refine⟨ι,τ,h,S,Rh,dz o λd h1 ι1 H1 v g1 r1 hr1 o1=>?_⟩;unfold u9 at o1
 split at o1
 ·rename_i hl;exact⟨ll (by rw[r1.len];exact hl),yh r1 hr1 o1⟩
 ·exact o1.elim
theorem aan{x:Str}{p:Pos}{id:String}{r:List V->Hp->VK->Prop}{g:List D->Hd->R D}(hc:CallR X (.builtin id) r)(hs:akd X.K g r)(hg:Gl X x)(hm:X.mg x=none)(hv:bootBuiltins x=some (.builtin id))(ha:MA X E (e::es) ka)(hn:x ≠ "__name__":=by decide)(hdb:(x == ("__debug__" : Str))=false:=by decide)
  (he:starEach (e::es) X.env=(false,eval e X.env)::starEach es X.env:=by rfl) (hpl:(backTo pos (starEach es X.env)).any (·.1)=false:=by rfl):ME X E (.Call (.Name x p) (e::es) [] pos) (sA g ka):=by
 refine PE.weak (adb hc hg hm hv ha hn hdb he hpl) ?_
 rintro σ H Q ⟨ι,τ,h,S,Rh,o⟩
 exact⟨ι,τ,h,S,Rh,dz o λd h1 ι1 H1 v g1 r1 hr1 o1=>hs E ι1 H1 h1 v d Q r1 hr1 o1⟩
theorem a6h{x:Str}{p:Pos}{id:String}{r:List V->Hp->VK->Prop}{g:List D->Hd->R D}(hc:CallR X (.type id) r)(hs:akd X.K g r)(hg:Gl X x)(hm:X.mg x=none)(hv:bootBuiltins x=some (.type id))(ha:MA X E (e::es) ka)(hn:x ≠ "__name__":=by decide)(hdb:(x == ("__debug__" : Str))=false:=by decide)
  (he:starEach (e::es) X.env=(false,eval e X.env)::starEach es X.env:=by rfl) (hpl:(backTo pos (starEach es X.env)).any (·.1)=false:=by rfl):ME X E (.Call (.Name x p) (e::es) [] pos) (sA g ka):=by
 refine PE.weak (aaf hc hg hm hv ha hn hdb he hpl) ?_
 rintro σ H Q ⟨ι,τ,h,S,Rh,o⟩
 exact⟨ι,τ,h,S,Rh,dz o λd h1 ι1 H1 v g1 r1 hr1 o1=>hs E ι1 H1 h1 v d Q r1 hr1 o1⟩
end
def iu(f g:SS):SS:=λτ h=>match f τ h with|.nx τ1 h1=>g τ1 h1|r=>r
def sNx:SS:=λτ h=>.nx τ h
def qg(f:SE):SS:=λτ h=>(f τ h).fl λd h1=>.rt d h1
def a0j(f:SE):SS:=λτ h=>(f τ h).fl λ_ h1=>.nx τ h1
def sIf(c:ST)(f g:SS):SS:=λτ h=>(c τ h).fl λb h1=>if b=true then f τ h1 else g τ h1
def m7(i:Nat)(f:SE):SS:=λτ h=>(f τ h).fl λd h1=>.nx (τ.set i (some d)) h1
def a4g(i:Nat)(g:D->D->Hd->R D)(f:SE):SS:=λτ h=>match τ[i]? with
 |some (some x)=>(f τ h).fl λy h1=>(g x y h1).fl λz h2=>.nx (τ.set i (some z)) h2
 |_=>.no
section
variable{X:Cx}{E:XD}{e o:Expr}{es:List Expr}{fa fb fc:SE}{ga:ST}{st:Stmt}{sts a b:List Stmt}{f g:SS}{pos:Pos}
theorem gm:MSs X E [] sNx:=PSs.weak ao9 λN σ H ⟨ι,τ,h,S,Rh,o⟩=>o ι H σ (.refl _ _) S Rh
theorem at9(q:a8u K E (iu f g) N σ H):a8u K E f {N with nx:=a8u K E g N} σ H:=by
 obtain⟨ι,τ,h,S,Rh,o⟩:=q;refine⟨ι,τ,h,S,Rh,?_⟩;unfold iu at o
 cases hf:f τ h with
 |nx τ1 h1 =>
  rw[hf]at o;exact λι1 H1 σ1 g1 S1 R1=>⟨ι1,τ1,h1,S1,R1,vp o g1⟩
 |_=>rw[hf]at o;exact o
theorem aq(h1:MS X E st f)(h2:MSs X E sts g):MSs X E (st::sts) (iu f g):=PSs.weak (ajz h1 h2) λN σ H q=>at9 q
theorem bx(h1:MS X E st f):MSs X E [st] f:=aoa h1
theorem gq(he:ME X E e fa):MS X E (.Return (some e) pos) (qg fa):=by
 refine PS.weak (as3 he) ?_
 rintro N σ H ⟨ι,τ,h,S,Rh,o⟩
 exact⟨ι,τ,h,S,Rh,vq o λd h1 ι1 H1 v g1 r1 hr1 o1=>o1 ι1 H1 v (.refl _ _) r1 hr1⟩
theorem a0t(he:ME X E e fa)(hs:swapsWith e none pos.line X.env=pure false:=by rfl):MS X E (.Expr e pos) (a0j fa):=by
 refine PS.weak (aob he hs) ?_
 rintro N σ H ⟨ι,τ,h,S,Rh,o⟩
 exact⟨ι,τ,h,S,Rh,vq o λd h1 ι1 H1 v g1 r1 hr1 o1=>o1 ι1 H1 σ (.refl _ _) (S.mono g1) hr1⟩
theorem nj(hc:MT X E c ga)(ha:MSs X E a f)(hb:MSs X E b g):MS X E (.If c a b pos) (sIf ga f g):=by
 refine PS.weak (ax3 hc ha hb) ?_
 rintro N σ H ⟨ι,τ,h,S,Rh,o⟩
 refine⟨ι,τ,h,S,Rh,vq o λd h1 ι1 H1 v g1 r1 hr1 o1=>?_⟩;cases r1
 cases d with
 |true=>exact⟨ι1,τ,h1,S.mono g1,hr1,o1⟩
 |false=>exact⟨ι1,τ,h1,S.mono g1,hr1,o1⟩
theorem ata(hN:X.N.Nodup)(hi:X.N[i]? = some x)(hx:Loc X.env.scope x)(he:ME X E e fa)(hs:swapsWith e (some (.Name x pos')) pos.line X.env=pure false:=by rfl)(hf:Hf X x:=by first|exact .inl rfl|exact .inr rfl|assumption) :
  MS X E (.Assign [.Name x pos'] e pos) (m7 i fa):=by
 refine PS.weak (as7 hN hi hx he hs hf) ?_
 rintro N σ H ⟨ι,τ,h,S,Rh,o⟩
 exact⟨ι,τ,h,S,Rh,vq o λd h1 ι1 H1 v g1 r1 hr1 o1=>o1 ι1 H1 _ (.refl _ _) ((S.mono g1).set r1 i) hr1⟩
theorem a06(hN:X.N.Nodup)(hi:X.N[i]? = some x)(hx:Loc X.env.scope x)(ho:OpR X (inplaceOp op) r)(hs:a3m X.K gg r)(he:ME X E e fa)(hf:Hf X x:=by first|exact .inl rfl|exact .inr rfl|assumption) :
  MS X E (.AugAssign (.Name x pos') op e pos) (a4g i gg fa):=by
 refine PS.weak (as8 hN hi hx he ho hf) ?_
 rintro N σ H ⟨ι,τ,h,S,Rh,o⟩
 unfold a4g at o
 split at o
 ·rename_i d ed;obtain⟨v,h1,h2⟩:=S.val i d ed;refine⟨v,h1,ι,τ,h,S,Rh,vq o λd2 h3 ι1 H1 u g1 r1 hr1 o1=>?_⟩;refine hs E ι1 H1 h3 v u d d2 _ (h2.mono g1) r1 hr1 (vq o1 λd3 h4 ι2 H2 z g2 r2 hr2 o2=>?_);exact o2 ι2 H2 _ (.refl _ _) (((S.mono g1).mono g2).set r2 i) hr2
 ·exact o.elim
def put(o k v:D)(h:Hd):Option Hd:=match o,k with
 |.ref i,.int j=>match h[i]? with
  |some (.lst xs)=>match ixN xs.length j with
   |some m=>some (h.set i (.lst (xs.set m v)))
   |none=>none
  |_=>none
 |_,_=>none
theorem ah6{K:Fg}{ι:List Addr}{H:Hp}{h h':Hd}{o k v:V}{od kd vd:D}{Q:Hp->Prop}(r1:Rep K ι H o od)(r2:Rep K ι H k kd)(r3:Rep K ι H v vd)(hr:HRep K ι H h)(e:put od kd vd h=some h')
  (q:∀H',Gr ι H ι H'->HRep K ι H' h'->Q H'):asv o k v H Q:=by
 cases r1 with
 |@ref a i ha =>
  cases r2 with
  |int j =>
   obtain⟨ob,h1,h2⟩:=hr.at ha
   cases ob with
   |lst xs =>
    obtain⟨vs,h3,h4⟩:=h2;simp only[put,h1]at e
    cases hm:ixN xs.length j with
    |none=>rw[hm]at e;cases e
    |some m =>
     rw[hm]at e;cases e
     exact⟨a,vs,j,m,rfl,rfl,h3,by rw[h4.len];exact hm,q _ (a6e hr ha _) (hr.put ha ⟨_,uc,(h4.set r3 m).mono (a6e hr ha _)⟩)⟩
   |dK _=>simp only[put,h1]at e;cases e
   |dT _=>simp only[put,h1]at e;cases e
   |ins _ _=>simp only[put,h1]at e;cases e
  |_=>cases e
 |_=>cases e
def afb(fe fo fi:SE):SS:=λτ h=>(fe τ h).fl λv h1=>(fo τ h1).fl λo h2=>(fi τ h2).fl λk h3=>match put o k v h3 with|some h4=>.nx τ h4|none=>.no
theorem amv(he:ME X E e fa)(ho:ME X E o fb)(hi:ME X E i fc)
  (hs:swapsWithSole [.Subscript o i pos'] e pos.line X.env=pure false:=by rfl) (hw:swappedStores [.Subscript o i pos'] e X.env=pure none:=by rfl)
  (h1:(assignEach [.Subscript o i pos'] X.env).map (·.2)=[assign (.Subscript o i pos') X.env]:=by rfl)
  (ha:∀v,assign (.Subscript o i pos') X.env v=(do
   let ov <-holding [v] (eval o X.env)
   let iv <-holding [v,ov] (eval i X.env)
   standAt pos'
   holding [v,ov,iv] (setItem ov iv v)
   release [v,ov,iv] []):=by intro _;rfl):MS X E (.Assign [.Subscript o i pos'] e pos) (afb fa fb fc):=by
 refine PS.weak (as6 he (as5 ho hi set_list ha) hs hw h1) ?_
 rintro N σ H ⟨ι,τ,h,S,Rh,oo⟩
 refine⟨ι,τ,h,S,Rh,vq oo λd h1 ι1 H1 v g1 r1 hr1 o1=>?_⟩;refine⟨ι1,τ,h1,S.mono g1,hr1,vq o1 λd2 h2 ι2 H2 u g2 r2 hr2 o2=>?_⟩;refine⟨ι2,τ,h2,(S.mono g1).mono g2,hr2,vq o2 λd3 h3 ι3 H3 w g3 r3 hr3 o3=>?_⟩
 cases hp:put d2 d3 d h3 with
 |none=>rw[hp]at o3;exact o3.elim
 |some h4 =>
  rw[hp]at o3;exact ah6 (r2.mono g3) r3 ((r1.mono g2).mono g3) hr3 hp λH' g4 hr4=>o3 ι3 H' σ g4 ((((S.mono g1).mono g2).mono g3).mono g4) hr4
def sWh(c:ST)(f:SS):Nat->SS
 |0,_,_=>.no
 |n+1,τ,h=>(c τ h).fl λb h1=>if b=true then (match f τ h1 with|.nx τ2 h2=>sWh c f n τ2 h2|.ct τ2 h2=>sWh c f n τ2 h2|.bk τ2 h2=>.nx τ2 h2|r=>r) else .nx τ h1
theorem adi(n:Nat)(hp:PassesOwn (model X.prog X.w) X.A X.env X.xe)(hc:MT X E c ga)(hb:MSs X E a f):MS X E (.While c a [] pos) (sWh ga f n):=by
 refine PS.weak (ak1 hp hc hb) λN σ H q=>?_;refine⟨λm σ H=>a8u X.K E (sWh ga f m) N σ H,⟨n,q⟩,?_⟩
 rintro m σ1 H1 ⟨ι,τ,h,S,Rh,o⟩
 cases m with
 |zero=>exact o.elim
 |succ m =>
  refine⟨ι,τ,h,S,Rh,vq o λd h1 ι1 H1 v g1 r1 hr1 o1=>?_⟩;cases r1
  cases d with
  |false=>exact o1 ι1 H1 _ (.refl _ _) (S.mono g1) hr1
  |true =>
   refine⟨λσ' H'=>a8u X.K E (sWh ga f m) N σ' H',λσ' H' q=>⟨m,eC m,q⟩,ι1,τ,h1,S.mono g1,hr1,?_⟩;rw[aN rfl]at o1
   cases hf:f τ h1 with
   |nx τ2 h2=>rw[hf]at o1;exact λι2 H2 σ2 g2 S2 R2=>⟨ι2,τ2,h2,S2,R2,vp o1 g2⟩
   |ct τ2 h2=>rw[hf]at o1;exact λι2 H2 σ2 g2 S2 R2=>⟨ι2,τ2,h2,S2,R2,vp o1 g2⟩
   |bk τ2 h2=>rw[hf]at o1;exact o1
   |rt d h2=>rw[hf]at o1;exact o1
   |ex c h2=>rw[hf]at o1;exact o1
   |no=>rw[hf]at o1;exact o1.elim
end
abbrev SG:=D->Sd->Hd->Fl
def ap1(K:Fg)(E:XD)(g:SG):TG:=λv σ H Q=>∃ι τ h d,Rep K ι H v d/\SRep K ι H σ τ/\HRep K ι H h/\ajq K E ι H (g d τ h) {nx:=Q,rt:=λ_ _=>False}
abbrev MG(X:Cx)(E:XD)(tg:Expr)(g:SG):Prop:=PG X tg (ap1 X.K E g)
abbrev SGs:=List D->Sd->Hd->Fl
def ah7(K:Fg)(E:XD)(g:SGs):TGs:=λvs σ H Q=>∃ι τ h ds,Reps K ι H vs ds/\SRep K ι H σ τ/\HRep K ι H h/\ajq K E ι H (g ds τ h) {nx:=Q,rt:=λ_ _=>False}
abbrev MGs(X:Cx)(E:XD)(tg:List Expr)(g:SGs):Prop:=PGs X tg (ah7 X.K E g)
theorem PG.weak(h:PG X e t)(i:∀v σ H Q,t' v σ H Q->t v σ H Q):PG X e t':=λaA s σ H v u Q I r q=>h aA s σ H v u Q I r (i _ _ _ _ q)
theorem PGs.weak(h:PGs X e t)(i:∀v σ H Q,t' v σ H Q->t v σ H Q):PGs X e t':=λaA s σ H v u Q I r q=>h aA s σ H v u Q I r (i _ _ _ _ q)
def kN(i:Nat):SG:=λd τ h=>.nx (τ.set i (some d)) h
def ajr:SGs:=λds τ h=>match ds with|[]=>.nx τ h|_=>.no
def a1t(g:SG)(k:SGs):SGs:=λds τ h=>match ds with|d::r=>(match g d τ h with|.nx τ1 h1=>k r τ1 h1|_=>.no)|[]=>.no
def ah8(n:Nat)(k:SGs):SG:=λd τ h=>match d with|.tup ds=>if ds.length=n then k ds τ h else .no|_=>.no
section
variable{X:Cx}{E:XD}{e:Expr}{es:List Expr}{fa:SE}{pos:Pos}{g:SG}{ks:SGs}
theorem qz(hN:X.N.Nodup)(hi:X.N[i]? = some x)(hx:Loc X.env.scope x)(hf:Hf X x:=by first|exact .inl rfl|exact .inr rfl|assumption):MG X E (.Name x pos) (kN i) :=
 PG.weak (abw hN hi hx hf) λv σ H Q ⟨ι,τ,h,d,r,S,Rh,o⟩=>o ι H _ (.refl _ _) (S.set r i) Rh
theorem ah9:MGs X E [] ajr:=by
 refine PGs.weak agd ?_
 rintro vs σ H Q ⟨ι,τ,h,ds,r,S,Rh,o⟩
 cases r with
 |nil=>exact⟨rfl,o ι H σ (.refl _ _) S Rh⟩
 |cons _ _=>exact o.elim
theorem akf(q:ah7 K E (a1t g ks) vs σ H Q):ak0 (ap1 K E g) (ah7 K E ks) vs σ H Q:=by
 obtain⟨ι,τ,h,ds,r,S,Rh,o⟩:=q
 cases r with
 |nil=>exact o.elim
 |@cons v d vs ds r rs =>
  refine⟨v,vs,rfl,ι,τ,h,d,r,S,Rh,?_⟩;simp only[a1t]at o
  cases hg:g d τ h with
  |nx τ1 h1 =>
   rw[hg]at o;exact λι1 H1 σ1 g1 S1 R1=>⟨ι1,τ1,h1,ds,rs.mono g1,S1,R1,vp o g1⟩
  |_=>rw[hg]at o;exact o.elim
theorem amw(hc:X.calm=true)(h:MGs X E es ks)(hn:(assignEach es X.env).length=n:=by rfl)(hst:(assignEach es X.env).findIdx? (·.1)=none:=by rfl):MG X E (.Tuple es k pos) (ah8 n ks):=by
 refine PG.weak (aml hc h hn hst) ?_
 rintro v σ H Q ⟨ι,τ,h,d,r,S,Rh,o⟩
 cases r with
 |@tup a vs xs e rs =>
  simp only[ah8]at o
  by_cases hl:xs.length=n
  ·rw[aN hl]at o;exact⟨a,vs,rfl,SqT.of e,by rw[rs.len];exact hl,ι,τ,h,xs,rs,S,Rh,o⟩
  ·rw[bp hl]at o;exact o.elim
 |_=>exact o.elim
def awi(f:SE)(g:SG):SS:=λτ h=>(f τ h).fl λd h1=>match g d τ h1 with|.nx τ2 h2=>.nx τ2 h2|_=>.no
end
structure Itm where
 xs:List D
 ck:Hd->Prop
def akg(K:Fg)(ι0:List Addr)(H0:Hp)(J:It)(it:Itm):Prop:=∀ι H h,Gr ι0 H0 ι H->HRep K ι H h->it.ck h->
 (∀(i:Nat) (d:D),it.xs[i]? = some d->J.go i H/\∀x H',J.yld i H x H'->Gr ι H ι H'/\Rep K ι H' x d/\HRep K ι H' h)/\J.stop it.xs.length H
abbrev ap2(K:Fg):List Addr->Hp->It->Itm->Prop:=λι H J it=>akg K ι H J it
abbrev SI:=Sd->Hd->R Itm
abbrev MI(X:Cx)(E:XD)(tg aF:Expr)(f:SI):Prop:=PI X tg aF (lift X.K E (ap2 X.K) f)
def a1u(x:Str):List D:=x.cps.toList.map λc=>D.str ⟨#[c]⟩
def ajs(d:D)(h:Hd):R Itm:=match d with
 |.tup xs=>.ok ⟨xs,λ_=>True⟩ h
 |.rol xs=>.ok ⟨xs,λ_=>True⟩ h
 |.str x=>.ok ⟨a1u x,λ_=>True⟩ h
 |.ref i=>match h[i]? with
  |some (.lst xs)=>.ok ⟨xs,λh=>h[i]? = some (.lst xs)⟩ h
  |_=>.no
 |_=>.no
def sIt(f:SE):SI:=λτ h=>(f τ h).bind ajs
theorem amx(hl:∀ι H h,Gr ι0 H0 ι H->HRep K ι H h->ck h->∃vs,SqL K H a vs/\Reps K ι H vs xs):akg K ι0 H0 (Itl K a) ⟨xs,ck⟩:=by
 intro ι H h g hr c
 obtain⟨vs,h1,h2⟩:=hl ι H h g hr c;refine⟨λi d e=>?_,⟨vs,h1,by rw[h2.len];exact ay _⟩⟩
 obtain⟨v,e1,r⟩:=h2.get e;refine⟨⟨vs,v,h1,e1⟩,λx H' y=>?_⟩;obtain⟨rfl,y⟩:=y;have:=y vs h1;rw[e1]at this;cases this
 exact⟨.refl _ _,r,hr⟩
theorem zm(hl:ME X E l f):MI X E tg l (sIt f):=by
 rintro aA s σ H Rr I ⟨ι,τ,h,S,Rh,o⟩
 unfold sIt at o
 cases hf:f τ h with
 |no=>rw[hf]at o;exact o.elim
 |ex c h1 =>
  rw[hf]at o;exact ams hl aA s σ H Rr I ⟨ι,τ,h,S,Rh,by rw[hf];exact o⟩
 |ok d h1 =>
  rw[hf]at o
  cases d with
  |tup xs =>
   refine asa hl aA s σ H Rr I ⟨ι,τ,h,S,Rh,?_⟩;rw[hf]
   intro ι1 H1 v g1 r1 hr1
   cases r1 with
   |@tup a vs _ e rs =>
    refine⟨a,rfl,⟨vs,SqT.of e⟩,o ι1 H1 _ g1 ?_ hr1⟩
    intro ι2 H2 h2 g2 hr2 _
    have e2:=g2.tup _ _ e;have rs2:=rs.mono g2;refine⟨λi d ed=>?_,⟨vs,SqT.of e2,by rw[rs2.len];exact ay _⟩⟩
    obtain⟨v,e1,r⟩:=rs2.get ed;refine⟨⟨vs,v,SqT.of e2,e1⟩,λx H' y=>?_⟩;obtain⟨rfl,y⟩:=y;have:=y vs (SqT.of e2);rw[e1]at this;cases this
    exact⟨.refl _ _,r,hr2⟩
  |rol xs =>
   refine agg hl aA s σ H Rr I ⟨ι,τ,h,S,Rh,?_⟩;rw[hf]
   intro ι1 H1 v g1 r1 hr1
   cases r1 with
   |@rol a vs _ e rs =>
    refine⟨a,rfl,⟨vs,e.l⟩,o ι1 H1 _ g1 ?_ hr1⟩;exact amx (λι2 H2 h2 g2 hr2 _=>⟨vs,(e.mono g2).l,rs.mono g2⟩)
  |str x =>
   refine ams hl aA s σ H Rr I ⟨ι,τ,h,S,Rh,?_⟩;rw[hf]
   intro ι1 H1 v g1 r1 hr1
   cases r1
   refine⟨x,rfl,o ι1 H1 _ g1 ?_ hr1⟩
   intro ι2 H2 h2 g2 hr2 _
   refine⟨λi d ed=>?_,by show(a1u x).length=_;simp[a1u]⟩
   simp only[a1u,bJ,aW]at ed;obtain⟨c,ec,rfl⟩:=ed;refine⟨by show i<x.cps.size;have:=(av.mp ec).1;simpa using this,λy H' q=>?_⟩
   obtain⟨rfl,c',ec',rfl⟩:=q;rw[ec]at ec';cases ec'
   exact⟨.refl _ _,.str _,hr2⟩
  |ref i =>
   simp only[R.bind,ajs]at o
   cases ho:h1[i]? with
   |none=>rw[ho]at o;exact o.elim
   |some ob =>
    rw[ho]at o
    cases ob with
    |dK _=>exact o.elim
    |dT _=>exact o.elim
    |ins _ _=>exact o.elim
    |lst xs =>
     refine agg hl aA s σ H Rr I ⟨ι,τ,h,S,Rh,?_⟩;rw[hf]
     intro ι1 H1 v g1 r1 hr1
     cases r1 with
     |@ref a _ e =>
      obtain⟨vs,e1,rs⟩:=hr1.obj i a _ e ho;refine⟨a,rfl,⟨vs,SqL.of e1⟩,o ι1 H1 _ g1 ?_ hr1⟩;refine amx (λι2 H2 h2 g2 hr2 c=>?_);obtain⟨us,e3,rs3⟩:=hr2.obj i a _ (g2.at e) c;exact⟨us,SqL.of e3,rs3⟩
  |_=>exact o.elim
def rng(lo:Int)(n:Nat):List D:=(List.range n).map λi=>D.int (lo+(i:Nat))
def B62(j:Int):Prop := -(2^62)<=j/\j<2^62
instance (j:Int):Decidable (B62 j):=by unfold B62;exact inferInstance
def a2w(ds:List D)(h:Hd):R Itm:=match ds with
 |[.int j]=>if B62 j then .ok ⟨rng 0 j.toNat,λ_=>True⟩ h else .no
 |_=>.no
def aao(ds:List D)(h:Hd):R Itm:=match ds with
 |[.int i,.int j]=>if B62 i/\B62 j then .ok ⟨rng i (j-i).toNat,λ_=>True⟩ h else .no
 |_=>.no
def sRg(g:List D->Hd->R Itm)(k:SA):SI:=λτ h=>(k τ h).bind g
theorem amy(lo:Int)(n:Nat):akg K ι0 H0 (Itr lo n) ⟨rng lo n,λ_=>True⟩:=by
 intro ι H h g hr _
 refine⟨λi d ed=>?_,by show n<=(rng lo n).length;simp[rng]⟩
 simp only[rng,bJ,aW]at ed;obtain⟨j,ej,rfl⟩:=ed;obtain⟨hj,e⟩:=av.mp ej;simp at e hj;subst e;refine⟨hj,λy H' q=>?_⟩;obtain⟨rfl,rfl⟩:=q;exact⟨.refl _ _,.int _,hr⟩
theorem a6i(hg:Gl X "range")(hm:X.mg "range" = none)(ha:MA X E [a] k)(hs:starEach [a] X.env=[(false,eval a X.env)]:=by rfl):MI X E tg (.Call (.Name "range" p) [a] [] pos) (sRg a2w k):=by
 rintro aA s σ H Rr I ⟨ι,τ,h,S,Rh,o⟩
 refine agh hg hm ha hs aA s σ H Rr I ⟨ι,τ,h,S,Rh,dz o λds h1 ι1 H1 vs g1 r1 hr1 o1=>?_⟩;unfold a2w at o1
 split at o1
 ·rename_i j
  cases r1 with
  |cons r rs =>
   cases r;cases rs
   by_cases hb:B62 j
   ·rw[aN hb]at o1;exact⟨j,rfl,hb.1,hb.2,o1 ι1 H1 _ (.refl _ _) (amy 0 j.toNat) hr1⟩
   ·rw[bp hb]at o1;exact o1.elim
 ·exact o1.elim
theorem ap3(hg:Gl X "range")(hm:X.mg "range" = none)(ha:MA X E [a,b] k)(hs:starEach [a,b] X.env=[(false,eval a X.env),(false,eval b X.env)]:=by rfl)(hs2:starEach [b] X.env=[(false,eval b X.env)]:=by rfl):MI X E tg (.Call (.Name "range" p) [a,b] [] pos) (sRg aao k):=by
 rintro aA s σ H Rr I ⟨ι,τ,h,S,Rh,o⟩
 refine agi hg hm ha hs hs2 aA s σ H Rr I ⟨ι,τ,h,S,Rh,dz o λds h1 ι1 H1 vs g1 r1 hr1 o1=>?_⟩;unfold aao at o1
 split at o1
 ·rename_i i j
  cases r1 with
  |cons r rs =>
   cases r
   cases rs with
   |cons r rs =>
   cases r;cases rs
   by_cases hb:B62 i/\B62 j
   ·rw[aN hb]at o1;exact⟨i,j,rfl,⟨hb.1.1,hb.1.2,hb.2.1,hb.2.2⟩,o1 ι1 H1 _ (.refl _ _) (amy i _) hr1⟩
   ·rw[bp hb]at o1;exact o1.elim
 ·exact o1.elim
open Classical in
noncomputable def forL(ck:Hd->Prop)(g:SG)(b:SS):List D->Sd->Hd->Fl
 |[],τ,h=>if ck h then .nx τ h else .no
 | x::xs,τ,h=>if ck h then (match g x τ h with
   |.nx τ1 h1=>(match b τ1 h1 with
    |.nx τ2 h2=>forL ck g b xs τ2 h2
    |.ct τ2 h2=>forL ck g b xs τ2 h2
    |.bk τ2 h2=>.nx τ2 h2
    |r=>r)
   |_=>.no) else .no
noncomputable def a7f(f:SI)(g:SG)(b:SS):SS:=λτ h=>(f τ h).fl λit h1=>forL it.ck g b it.xs τ h1
theorem ap4(ir:akg K ι0 H0 J it)(S:SRep K ι0 H0 σ0 τ0)(Rh:HRep K ι0 H0 h0)(o:ajq K E ι0 H0 (forL it.ck g b it.xs τ0 h0) N) :
  ∃W:Nat->Nat->St->Hp->Prop,(∃m,W 0 m σ0 H0)/\∀i m σ H,W i m σ H->
   (J.stop i H/\N.nx σ H)\/(J.go i H/\∃M:St->Hp->Prop,(∀σ' H',M σ' H'->∃m',m'<m/\W (i+1) m' σ' H')/\∀x H',J.yld i H x H'->ap1 K E g x σ H' λσ2 H2=>a8u K E b {N with nx:=M,ct:=M,bk:=N.nx} σ2 H2):=by
 refine⟨λi m σ H=>m=it.xs.length-i/\i<=it.xs.length/\∃ι τ h,Gr ι0 H0 ι H/\SRep K ι H σ τ/\HRep K ι H h/\ajq K E ι H (forL it.ck g b (it.xs.drop i) τ h) N,⟨_,rfl,ba _,ι0,τ0,h0,.refl _ _,S,Rh,o⟩,?_⟩
 rintro i m σ H ⟨rfl,hi,ι,τ,h,g0,S,Rh,o⟩
 by_cases hlt:i<it.xs.length
 ·rw[cW hlt,forL]at o
  by_cases hc:it.ck h
  ·rw[aN hc]at o;obtain⟨go,yl⟩:=(ir ι H h g0 Rh hc).1 i _ (ai hlt);refine .inr ⟨go,λσ' H'=>it.xs.length-(i+1)<it.xs.length-i/\∃ι τ h,Gr ι0 H0 ι H'/\SRep K ι H' σ' τ/\HRep K ι H' h/\ajq K E ι H' (forL it.ck g b (it.xs.drop (i+1)) τ h) N,λσ' H' q=>⟨_,q.1,rfl,hlt,q.2⟩,λx H' y=>?_⟩;obtain⟨g1,r1,hr1⟩:=yl x H' y;refine⟨ι,τ,h,_,r1,S.mono g1,hr1,?_⟩;have o':=vp o g1
   cases hg:g it.xs[i] τ h with
   |nx τ1 h1 =>
    rw[hg]at o';dsimp only at o'
    intro ι2 H2 σ2 g2 S2 R2
    refine⟨ι2,τ1,h1,S2,R2,?_⟩;have o2:=vp o' g2;have gg:=(g0.trans g1).trans g2
    cases hb:b τ1 h1 with
    |nx τ2 h2=>rw[hb]at o2;exact λι3 H3 σ3 g3 S3 R3=>⟨by omega,ι3,τ2,h2,gg.trans g3,S3,R3,vp o2 g3⟩
    |ct τ2 h2=>rw[hb]at o2;exact λι3 H3 σ3 g3 S3 R3=>⟨by omega,ι3,τ2,h2,gg.trans g3,S3,R3,vp o2 g3⟩
    |bk τ2 h2=>rw[hb]at o2;exact o2
    |rt d h2=>rw[hb]at o2;exact o2
    |ex c h2=>rw[hb]at o2;exact o2
    |no=>rw[hb]at o2;exact o2.elim
   |_=>rw[hg]at o';exact o'.elim
  ·rw[bp hc]at o;exact o.elim
 ·have e:i=it.xs.length:=by omega
  subst e;rw[c6 (ay _),forL]at o
  by_cases hc:it.ck h
  ·rw[aN hc]at o;exact .inl ⟨(ir ι H h g0 Rh hc).2,o ι H σ (.refl _ _) S Rh⟩
  ·rw[bp hc]at o;exact o.elim
theorem zp{X:Cx}(hp:PassesOwn (model X.prog X.w) X.A X.env X.xe)(hc:X.calm=true)(hi:MI X E tg aF f)(hg:MG X E tg g)(hb:MSs X E body b)(hs:∀x,foldedSetIterable aF X.env x=pure x:=by intro _;rfl):MS X E (.For tg aF body [] pos) (a7f f g b):=by
 refine PS.weak (asb hp hc hi hg hb hs) ?_
 rintro N σ H ⟨ι,τ,h,S,Rh,o⟩
 exact⟨ι,τ,h,S,Rh,vq o λit h1 ι1 H1 J g1 r1 hr1 o1=>ap4 r1 (S.mono g1) hr1 o1⟩
end MI
namespace MI
open L2
theorem R.bind_assoc{α β γ:Type}(r:R α)(f:α->Hd->R β)(g:β->Hd->R γ):(r.bind f).bind g=r.bind λa h=>(f a h).bind g:=by cases r<;>rfl
open Classical in
noncomputable def mapR(ck:Hd->Prop)(f:D->Hd->R D):List D->Hd->R (List D)
 |[],h=>if ck h then .ok [] h else .no
 |x::xs,h=>if ck h then (f x h).bind λy h1=>(mapR ck f xs h1).bind λys h2=>.ok (y::ys) h2 else .no
open Classical in
noncomputable def ajt(ck:Hd->Prop)(f:D->Hd->R (Option D)):List D->Hd->R (List D)
 |[],h=>if ck h then .ok [] h else .no
 |x::xs,h=>if ck h then (f x h).bind λy h1=>(ajt ck f xs h1).bind λys h2=>.ok (y.toList++ys) h2 else .no
def frs'(ix:List Nat)(τ:Sd):Sd:=ix.map λi=>(τ[i]?).join
def t1(d:D):Option Sd:=some [some d]
def tN(n:Nat)(d:D):Option Sd:=match d with|.tup ds=>if ds.length=n then some (ds.map some) else none|_=>none
def a8w(t:D->Option Sd)(fe:SE)(aG:Sd)(x:D)(h:Hd):R D:=match t x with|some ts=>fe (ts++aG) h|none=>.no
def ac4(t:D->Option Sd)(c:ST)(fe:SE)(aG:Sd)(x:D)(h:Hd):R (Option D):=match t x with
 |some ts=>(c (ts++aG) h).bind λb h1=>if b=true then (fe (ts++aG) h1).bind λy h2=>.ok (some y) h2 else .ok none h1
 |none=>.no
def aa4(yd zs:List D)(h:Hd):R D:=.ok (.ref h.length) (h++[.lst (yd++zs)])
theorem atb(r:R D)(m:Hd->R (List D))(yd:List D):(r.bind λy h1=>(m h1).bind λys h2=>.ok (y::ys) h2).bind (aa4 yd)=r.bind λy h1=>(m h1).bind (aa4 (yd++[y])):=by
 cases r with
 |ok y h1 =>
  show((m h1).bind _).bind _=(m h1).bind _
  cases m h1 with
  |ok ys h2=>simp[R.bind,aa4]
  |_=>rfl
 |_=>rfl
theorem axt(r:R (Option D))(m:Hd->R (List D))(yd:List D):(r.bind λy h1=>(m h1).bind λys h2=>.ok (y.toList++ys) h2).bind (aa4 yd)=r.bind λy h1=>(m h1).bind (aa4 (yd++y.toList)):=by
 cases r with
 |ok y h1 =>
  show((m h1).bind _).bind _=(m h1).bind _
  cases m h1 with
  |ok ys h2=>simp[R.bind,aa4]
  |_=>rfl
 |_=>rfl
noncomputable def a1v(fi:SI)(t:D->Option Sd)(fe:SE)(ix:List Nat):SE:=λτ h=>(fi τ h).bind λit h1=>if it.xs.length<=LINE then (mapR it.ck (a8w t fe (frs' ix τ)) it.xs h1).bind (aa4 []) else .no
noncomputable def aap(fi:SI)(t:D->Option Sd)(c:ST)(fe:SE)(ix:List Nat):SE:=λτ h=>(fi τ h).bind λit h1=>if it.xs.length<=LINE then (ajt it.ck (ac4 t c fe (frs' ix τ)) it.xs h1).bind (aa4 []) else .no
def amz(K:Fg)(n:Nat)(g:TG)(t:D->Option Sd):Prop:=∀ι H v d ts (r:St) (Q:St->Hp->Prop),Rep K ι H v d->t d=some ts->(∀us:St,us.length=n->SRep K ι H us ts->Q (us++r) H)->g v (List.replicate n none++r) H Q
theorem a8x:SRep K ι H [] []:=⟨rfl,λi d e=>by simp at e⟩
theorem zr(r:Rep K ι H v d)(s:SRep K ι H σ τ):SRep K ι H (some v::σ) (some d::τ):=by
 refine⟨by simp[s.len],λi d' e=>?_⟩
 cases i with
 |zero=>simp at e;subst e;exact⟨v,rfl,r⟩
 |succ i=>simpa using s.val i d' (by simpa using e)
theorem a5k(s:SRep K ι H σ τ)(s':SRep K ι H σ' τ'):SRep K ι H (σ++σ') (τ++τ'):=by
 refine⟨by simp[s.len,s'.len],λi d e=>?_⟩
 by_cases hi:i<τ.length
 ·rw[aZ hi]at e;rw[aZ (by rw[s.len];exact hi)]
  exact s.val i d e
 ·rw[aP (by omega)]at e
  rw[aP (by rw[s.len];omega),s.len]
  exact s'.val _ d e
theorem a5l(s:SRep K ι H σ τ)(ix:List Nat):SRep K ι H (ix.map λi=>(σ[i]?).join) (frs' ix τ):=by
 refine⟨by simp[frs'],λj d e=>?_⟩
 simp only[frs',bJ,aW]at e;obtain⟨i,hi,e⟩:=e;have:τ[i]? = some (some d):=by
  cases q:τ[i]? with
  |none=>rw[q]at e;cases e
  |some o=>rw[q]at e;simp at e;rw[e]
 obtain⟨v,h1,h2⟩:=s.val i d this;exact⟨v,by simp[hi,h1],h2⟩
theorem adk:amz K 1 (a0g 0) t1:=λι H v d ts r Q hr e q=>by
 cases e
 exact q [some v] rfl (zr hr a8x)
theorem atc{α:Type}{xs:List α}(h:xs.length=n+1):∃x ys,xs=x::ys:=by cases xs with|nil=>cases h|cons x ys=>exact⟨x,ys,rfl⟩
theorem an0{vs:List V}{d:D}{ds:List D}(r:Reps K ι H vs (d::ds)):∃v us,vs=v::us/\Rep K ι H v d/\Reps K ι H us ds:=by cases r with|cons r rs=>exact⟨_,_,rfl,r,rs⟩
theorem atd:amz K 2 (L2.yg K 2 (ak0 (a0g 0) (ak0 (a0g 1) ayr))) (tN 2):=λι H v d ts r Q hr e q=>by
 unfold tN at e
 cases hr with
 |@tup a vs xs h rs =>
  simp only at e
  split at e
  ·rename_i hl;cases e
   obtain⟨x1,xs,rfl⟩:=atc hl;obtain⟨x2,xs,rfl⟩:=atc (i4 hl);obtain rfl:=gV.mp (i4 (i4 hl));obtain⟨v1,vs,rfl,r1,rs⟩:=an0 rs;obtain⟨v2,vs,rfl,r2,rs⟩:=an0 rs;cases rs
   exact⟨a,_,rfl,SqT.of h,rfl,_,_,rfl,_,_,rfl,rfl,q [some _,some _] rfl (zr r1 (zr r2 a8x))⟩
  ·cases e
 |_=>cases e
theorem aha{us:St}(h:us.length=n):L2.Ext (List.replicate n none++r) (us++r):=by
 refine⟨by simp[h],λi v e=>?_⟩
 by_cases hi:i<n
 ·rw[aZ (by simpa using hi),ei,aN hi]at e
  cases e
 ·rw[aP (by simpa using hi),cI]at e
  rw[aP (by omega),h]
  exact e
theorem adl(ir:akg K ι0 H0 J it)(tg:amz K n g t)(S:SRep K ι0 H0 r rd)(Rh:HRep K ι0 H0 h0)(hl:it.xs.length<=LINE)
  (o:out K E (a04 K) ι0 H0 ((mapR it.ck (a8w t fe rd) it.xs h0).bind (aa4 [])) Q):aow J (List.replicate n none++r) g (lift K E (a04 K) fe) Q H0:=by
 refine⟨λi m ys H=>m=it.xs.length-i/\i<=it.xs.length/\ys.length<=i/\∃ι h yd,Gr ι0 H0 ι H/\HRep K ι H h/\Reps K ι H ys yd/\out K E (a04 K) ι H ((mapR it.ck (a8w t fe rd) (it.xs.drop i) h).bind (aa4 yd)) Q,
  ⟨_,rfl,ba _,ba _,ι0,h0,[],.refl _ _,Rh,.nil,o⟩,?_⟩
 rintro i m ys H ⟨rfl,hi,hy,ι,h,yd,g0,Rh,ry,o⟩
 by_cases hlt:i<it.xs.length
 ·rw[cW hlt,mapR]at o
  by_cases hc:it.ck h
  ·rw[aN hc,atb]at o;obtain⟨go,yl⟩:=(ir ι H h g0 Rh hc).1 i _ (ai hlt);refine .inr ⟨go,Nat.lt_of_le_of_lt hy (b9 hlt (ll hl)),λx H' y=>?_⟩;obtain⟨g1,r1,hr1⟩:=yl x H' y;have o':=a2m o g1
   cases ht:t it.xs[i] with
   |none=>simp only[a8w,ht]at o';exact o'.elim
   |some ts =>
    simp only[a8w,ht]at o';refine tg ι H' x _ ts r _ r1 ht λus hus su=>⟨aha hus,ι,ts++rd,h,a5k su (S.mono (g0.trans g1)),hr1,dz o' λd2 h2 ι2 H2 u g2 r2 hr2 o2=>?_⟩;refine⟨it.xs.length-(i+1),by omega,rfl,hlt,by simp;omega,ι2,h2,yd++[d2],(g0.trans g1).trans g2,hr2,((ry.mono g1).mono g2).snoc r2,o2⟩
  ·rw[bp hc]at o;exact o.elim
 ·have e:i=it.xs.length:=by omega
  subst e;rw[c6 (ay _),mapR]at o
  by_cases hc:it.ck h
  ·rw[aN hc]at o;refine .inl ⟨(ir ι H h g0 Rh hc).2,yh (E:=E) ry Rh ?_⟩;simpa[R.bind,aa4] using o
  ·rw[bp hc]at o;exact o.elim
theorem ahb(ir:akg K ι0 H0 J it)(tg:amz K n g t)(S:SRep K ι0 H0 r rd)(Rh:HRep K ι0 H0 h0)(hl:it.xs.length<=LINE)
  (o:out K E (a04 K) ι0 H0 ((ajt it.ck (ac4 t c fe rd) it.xs h0).bind (aa4 [])) Q):abz J (List.replicate n none++r) g (lift K E afa c) (lift K E (a04 K) fe) Q H0:=by
 refine⟨λi m ys H=>m=it.xs.length-i/\i<=it.xs.length/\ys.length<=i/\∃ι h yd,Gr ι0 H0 ι H/\HRep K ι H h/\Reps K ι H ys yd/\out K E (a04 K) ι H ((ajt it.ck (ac4 t c fe rd) (it.xs.drop i) h).bind (aa4 yd)) Q,
  ⟨_,rfl,ba _,ba _,ι0,h0,[],.refl _ _,Rh,.nil,o⟩,?_⟩
 rintro i m ys H ⟨rfl,hi,hy,ι,h,yd,g0,Rh,ry,o⟩
 by_cases hlt:i<it.xs.length
 ·rw[cW hlt,ajt]at o
  by_cases hc:it.ck h
  ·rw[aN hc,axt]at o;obtain⟨go,yl⟩:=(ir ι H h g0 Rh hc).1 i _ (ai hlt);refine .inr ⟨go,Nat.lt_of_le_of_lt hy (b9 hlt (ll hl)),λx H' y=>?_⟩;obtain⟨g1,r1,hr1⟩:=yl x H' y;have o':=a2m o g1
   cases ht:t it.xs[i] with
   |none=>simp only[ac4,ht]at o';exact o'.elim
   |some ts =>
    simp only[ac4,ht]at o';rw[R.bind_assoc]at o';refine tg ι H' x _ ts r _ r1 ht λus hus su=>⟨aha hus,ι,ts++rd,h,a5k su (S.mono (g0.trans g1)),hr1,dz o' λb h1 ι1 H1 b' g2 rb hrb ob=>?_⟩;have su1:SRep K ι1 H1 (us++r) (ts++rd):=(a5k su (S.mono (g0.trans g1))).mono g2;cases rb
    cases b with
    |true =>
     rw[aN rfl]at ob ⊢;rw[R.bind_assoc]at ob;refine⟨ι1,ts++rd,h1,su1,hrb,dz ob λd2 h2 ι2 H2 u g3 r2 hr2 o2=>?_⟩;refine⟨it.xs.length-(i+1),by omega,rfl,hlt,by simp;omega,ι2,h2,yd++[d2],((g0.trans g1).trans g2).trans g3,hr2,(((ry.mono g1).mono g2).mono g3).snoc r2,?_⟩
     simpa[R.bind] using o2
    |false =>
     rw[bp aU]at ob ⊢;refine⟨it.xs.length-(i+1),by omega,rfl,hlt,by omega,ι1,h1,yd,(g0.trans g1).trans g2,hrb,(ry.mono g1).mono g2,?_⟩
     simpa[R.bind] using ob
  ·rw[bp hc]at o;exact o.elim
 ·have e:i=it.xs.length:=by omega
  subst e;rw[c6 (ay _),ajt]at o
  by_cases hc:it.ck h
  ·rw[aN hc]at o;refine .inl ⟨(ir ι H h g0 Rh hc).2,yh (E:=E) ry Rh ?_⟩;simpa[R.bind,aa4] using o
  ·rw[bp hc]at o;exact o.elim
section
variable{X:Cx}{E:XD}{aD tg aF cnd:Expr}{aB:Scope}{pos:Pos}{cl:List (Str×Addr)}{ts fr:List Str}{ix:List Nat}{fi:SI}{g:TG}{t:D->Option Sd}{fe:SE}{fc:ST}
theorem ac6(hc:X.calm=true)(S:CSc X aB cl ts fr ix)(hi:MI X E tg aF fi)(hg:∀C fp s H,PG (cxC X (ts++fr) aB cl C fp s H) tg g)(ht:amz X.K ts.length g t)(he:∀C fp s H,ME (cxC X (ts++fr) aB cl C fp s H) E aD fe)
  (hs:∀x,foldedSetIterable aF X.env x=pure x:=by intro _;rfl):ME X E (.ListComp aD [⟨tg,aF,[],0⟩] aB pos) (a1v fi t fe ix):=by
 refine PE.weak (akb (te:=lift X.K E (a04 X.K) fe) hc S hi hg he hs) ?_
 rintro σ H Q ⟨ι,τ,h,Sr,Rh,o⟩
 refine⟨ι,τ,h,Sr,Rh,dz o λit h1 ι1 H1 J g1 r1 hr1 o1=>?_⟩
 by_cases hl:it.xs.length<=LINE
 ·rw[aN hl]at o1;exact adl r1 ht (a5l (Sr.mono g1) ix) hr1 hl o1
 ·rw[bp hl]at o1;exact o1.elim
theorem akh(hc:X.calm=true)(S:CSc X aB cl ts fr ix)(hi:MI X E tg aF fi)(hg:∀C fp s H,PG (cxC X (ts++fr) aB cl C fp s H) tg g)(ht:amz X.K ts.length g t)(he:∀C fp s H,ME (cxC X (ts++fr) aB cl C fp s H) E aD fe)
  (hq:∀C fp s H,MT (cxC X (ts++fr) aB cl C fp s H) E cnd fc)
  (hs:∀x,foldedSetIterable aF X.env x=pure x:=by intro _;rfl):ME X E (.ListComp aD [⟨tg,aF,[cnd],0⟩] aB pos) (aap fi t fc fe ix):=by
 refine PE.weak (af9 (te:=lift X.K E (a04 X.K) fe) (tc:=lift X.K E afa fc) hc S hi hg he hq hs) ?_
 rintro σ H Q ⟨ι,τ,h,Sr,Rh,o⟩
 refine⟨ι,τ,h,Sr,Rh,dz o λit h1 ι1 H1 J g1 r1 hr1 o1=>?_⟩
 by_cases hl:it.xs.length<=LINE
 ·rw[aN hl]at o1;exact ahb r1 ht (a5l (Sr.mono g1) ix) hr1 hl o1
 ·rw[bp hl]at o1;exact o1.elim
end
mutual
def clo(n:Nat):D->Prop
 |.tup xs=>clos n xs
 |.rol xs=>clos n xs
 |.rod _ xs=>clos n xs
 |.scr xs=>clos n xs
 |.rdT _ xs=>clos n xs
 |.ins _ _ xs=>clos n xs
 |.ref i=>i<n
 |_=>True
def clos(n:Nat):List D->Prop
 |[]=>True
 |x::xs=>clo n x/\clos n xs
end
mutual
theorem Rep.clo:∀{v:V} {d:D},Rep K ι H v d->clo ι.length d
 |_,_,.non=>by simp[MI.clo]
 |_,_,.bl b=>by simp[MI.clo]
 |_,_,.int i=>by simp[MI.clo]
 |_,_,.str x=>by simp[MI.clo]
 |_,_,.ty n=>by simp[MI.clo]
 |_,_,.tup h r=>by simp only[MI.clo];exact Reps.clo r
 |_,_,.rol h r=>by simp only[MI.clo];exact Reps.clo r
 |_,_,.ref h=>by simp only[MI.clo];exact(av.mp h).1
 |_,_,.rod h e r=>by simp only[MI.clo];exact Reps.clo r
 |_,_,.scr h r=>by simp only[MI.clo];exact Reps.clo r
 |_,_,.rdT h e r=>by simp only[MI.clo];exact Reps.clo r
 |_,_,.exc h hc hn=>by simp[MI.clo]
 |_,_,.ins h hn e r=>by simp only[MI.clo];exact Reps.clo r
theorem Reps.clo:∀{vs:List V} {ds:List D},Reps K ι H vs ds->clos ι.length ds
 |_,_,.nil=>by simp[MI.clos]
 |_,_,.cons r rs=>by simp only[MI.clos];exact⟨Rep.clo r,Reps.clo rs⟩
end
mutual
theorem Rep.cut:∀{v:V} {d:D},Rep K ι H v d->clo n d->Rep K (ι.take n) H v d
 |_,_,.non,_=>.non
 |_,_,.bl b,_=>.bl b
 |_,_,.int i,_=>.int i
 |_,_,.str x,_=>.str x
 |_,_,.ty n,_=>.ty n
 |_,_,.tup h r,c=>.tup h (Reps.cut r (by simpa only[MI.clo] using c))
 |_,_,.rol h r,c=>.rol h (Reps.cut r (by simpa only[MI.clo] using c))
 |_,_,.ref h,c=>.ref (by simp only[MI.clo]at c;rw[fk,aN c];exact h)
 |_,_,.rod h e r,c=>.rod h e (Reps.cut r (by simpa only[MI.clo] using c))
 |_,_,.scr h r,c=>.scr h (Reps.cut r (by simpa only[MI.clo] using c))
 |_,_,.rdT h e r,c=>.rdT h e (Reps.cut r (by simpa only[MI.clo] using c))
 |_,_,.exc h hc hn,_=>.exc h hc hn
 |_,_,.ins h hn e r,c=>.ins h hn e (Reps.cut r (by simpa only[MI.clo] using c))
theorem Reps.cut:∀{vs:List V} {ds:List D},Reps K ι H vs ds->clos n ds->Reps K (ι.take n) H vs ds
 |_,_,.nil,_=>.nil
 |_,_,.cons r rs,c=>by simp only[MI.clos]at c;exact .cons (Rep.cut r c.1) (Reps.cut rs c.2)
end
def vg(n:Nat):O->Prop
 |.lst xs=>clos n xs
 |.dK kvs=>clos n (kvs.map (·.2))
 |.dT kvs=>clos n (kvs.map (·.2))
 |.ins _ fs=>clos n (fs.map (·.2))
def ate(n:Nat)(h:Hd):Prop:=∀o∈h,vg n o
theorem ORep.clo(r:ORep K ι H a o):vg ι.length o:=by
 cases o with
 |lst xs=>obtain⟨vs,_,r⟩:=r;exact r.clo
 |dK kvs=>obtain⟨us,_,_,r⟩:=r;exact r.clo
 |dT kvs=>obtain⟨us,_,_,r⟩:=r;exact r.clo
 |ins _ _=>obtain⟨_,_,us,_,_,_,r⟩:=r;exact r.clo
theorem ORep.cut(r:ORep K ι H a o)(c:vg n o):ORep K (ι.take n) H a o:=by
 cases o with
 |lst xs=>obtain⟨vs,h,r⟩:=r;exact⟨vs,h,r.cut c⟩
 |dK kvs=>obtain⟨us,h,e,r⟩:=r;exact⟨us,h,e,r.cut c⟩
 |dT kvs=>obtain⟨us,h,e,r⟩:=r;exact⟨us,h,e,r.cut c⟩
 |ins _ _=>obtain⟨C,dx,us,h,hn,e,r⟩:=r;exact⟨C,dx,us,h,hn,e,r.cut c⟩
theorem HRep.clo(r:HRep K ι H h):ate h.length h:=λo ho=>by
 obtain⟨i,hi⟩:=bY ho;obtain⟨a,_,q⟩:=r.addr hi;rw[<-r.len];exact q.clo
theorem HRep.cut(r:HRep K ι H (h++g))(c:ate h.length h):HRep K (ι.take h.length) H h:=by
 refine⟨r.nd.sublist (gN _ _),?_,λi a o e1 e2=>?_⟩
 ·have:=r.len
  rw[ae]at this;rw[bb];omega
 ·have hi:i<h.length:=(av.mp e2).1;rw[fk,aN hi]at e1;exact(r.obj i a o e1 (by rw[aZ hi];exact e2)).cut (c o (bM e2))
def X0:XD:=λ_ _ _ _=>False
abbrev SF:=List D->Hd->R D
def ph(K:Fg)(n:Nat)(F:SF):Sp:=λvs H Q _=>vs.length=n/\∃ι ds h,Reps K ι H vs ds/\HRep K ι H h/\out K X0 (a04 K) ι H (F ds h) Q
def a6j(n:Nat)(ds:List D):Sd:=ds.map some++List.replicate (n-ds.length) none
def nq(b:SS)(n:Nat)(ds:List D)(h:Hd):R D:=match b (a6j n ds) h with
 |.rt d h1=>.ok d h1
 |.nx _ h1=>.ok .non h1
 |.ex c h1=>.ex c h1
 |_=>.no
def Rf(n:Nat)(r' r:R D):Prop:=match r with
 |.no=>True
 |.ok d h1=>∃g,r'=.ok d (h1++g)/\(g=[]\/(n<=h1.length/\clo h1.length d/\ate h1.length h1))
 |.ex c h1=>∃g,r'=.ex c (h1++g)/\(g=[]\/(n<=h1.length/\ate h1.length h1))
theorem Rf.same(h:r'=r):Rf n r' r:=by
 subst h
 cases r' with
 |ok d h1=>exact⟨[],by simp,.inl rfl⟩
 |ex c h1=>exact⟨[],by simp,.inl rfl⟩
 |no=>exact True.intro
theorem afc(r:Reps K ι H vs ds):SRep K ι H (start N vs) (a6j N.length ds):=by
 refine a5k ?_ ?_
 ·clear N
  induction r using Reps.rec (motive_1:=λ_ _ _=>True) with
  |nil=>exact a8x
  |cons r rs _ ih=>exact zr r ih
  |_=>trivial
 ·rw[r.len];exact⟨by simp,λi d e=>by rw[ei]at e;split at e<;>cases e⟩
theorem an1(g:Gr ι H ι' H')(hn:ι.length<=n):Gr ι H (ι'.take n) H':=by
 obtain⟨m,rfl,hm⟩:=g.pre;exact⟨⟨m.take (n-ι.length),by rw[List.take_append,bZ hn],λa ha=>hm a (List.mem_of_mem_take ha)⟩,g.tup,g.frz,g.oth,g.kp⟩
section
variable{P:Program}{w:World}{K:Fg}{mg:Str->Option Value}{base:Heap}
theorem atf(Fu:Fun K x qual st f fd)(S:FnScope N ps (cz st))
  (hb:∀(cdv:Value) (A:Around) (outer:List Env) (s:Shared) (H:Hp) (E:XK),Room k (A.deeper (PyProof.Rows.envOfC qual (cz st) s.heap.objs.size f cdv))->MSs (agq CX0 P w K mg base N qual (cz st) f cdv A outer s H E).nox X0 (vo st) b)
  (hF:∀ds h,ds.length=ps.length->clos h.length ds->ate h.length h->Rf h.length (nq b N.length ds h) (F ds h)):FnOk P w K mg base CX0 (k+1) f fd ps (ph K ps.length F):=by
 refine Fu.ok S (λvs H Q E h=>h.1) λcdv A outer s H vs Q E hr h=>⟨_,hb cdv A outer s H E hr,?_⟩;obtain⟨hl,ι,ds,h,r,hr',o⟩:=h;refine⟨ι,a6j N.length ds,h,afc r,hr',?_⟩;have q:=hF ds h (by rw[<-r.len];exact hl) (by rw[<-hr'.len];exact r.clo) hr'.clo
 unfold nq at q
 cases hFd:F ds h with
 |no=>rw[hFd]at o;exact o.elim
 |ex c h1 =>
  rw[hFd]at q o;obtain⟨g,e,cl⟩:=q;have fin:∀ι' H',Gr ι H ι' H'->HRep K ι' H' (h1++g)->X0 c ι' H' (h1++g):=λι' H' g1 hr1=>by
   rcases cl with rfl|⟨hn,c2⟩
   ·rw[bP]at hr1;exact o ι' H' g1 hr1
   ·exact o (ι'.take h1.length) H' (an1 g1 (by rw[hr'.len];exact hn)) (hr1.cut c2)
  cases hbd:b (a6j N.length ds) h with
  |ex c' h' =>
   rw[hbd]at e
   injection e with e1 e2
   subst e1 e2;exact fin
  |_=>rw[hbd]at e;cases e
 |ok d h1 =>
  rw[hFd]at q o;obtain⟨g,e,cl⟩:=q;have fin:∀ι' H' v,Gr ι H ι' H'->Rep K ι' H' v d->HRep K ι' H' (h1++g)->Q v H':=λι' H' v g1 r1 hr1=>by
   rcases cl with rfl|⟨hn,c1,c2⟩
   ·rw[bP]at hr1;exact o ι' H' v g1 r1 hr1
   ·exact o (ι'.take h1.length) H' v (an1 g1 (by rw[hr'.len];exact hn)) (r1.cut c1) (hr1.cut c2)
  cases hbd:b (a6j N.length ds) h with
  |rt d' h' =>
   rw[hbd]at e
   injection e with e1 e2
   subst e1 e2;exact fin
  |nx τ' h' =>
   rw[hbd]at e
   injection e with e1 e2
   subst e1 e2;exact λι' H' σ' g1 S1 hr1=>fin ι' H' .non g1 .non hr1
  |_=>rw[hbd]at e;cases e
end
section
variable{K:Fg}{E:XD}{ι:List Addr}{H:Hp}{h:Hd}{Q:VK}
theorem ans(o:out K E (a04 K) ι H (.ok d h) Q)(r:Rep K ι H v d)(hr:HRep K ι H h):Q v H:=o ι H v (.refl _ _) r hr
theorem HRep.lst(hr:HRep K ι H h){i:Nat}{a:Addr}{xs:List D}(e:ι[i]? = some a)(hi:h[i]? = some (.lst xs)):∃vs,H a=some (.lst vs)/\Reps K ι H vs xs:=hr.obj i a _ e hi
end
def b0c:D->D->Hd->R D
 |.int i,.int j,h=>.ok (.int (i+j)) h
 |.str x,.str y,h=>if x.length+y.length<=LINE then .ok (.str (x++y)) h else .no
 |.tup xs,.tup ys,h=>if xs≠[]/\xs.length+ys.length<=LINE then .ok (.tup (xs++ys)) h else .no
 |.ref i,.ref j,h=>match h[i]?,h[j]? with
  |some (.lst xs),some (.lst ys)=>if xs.length+ys.length<=LINE then .ok (.ref h.length) (h++[.lst (xs++ys)]) else .no
  |_,_=>.no
 |_,_,_=>.no
def a8k:D->D->Hd->R D
 |.int i,.int j,h=>.ok (.int (i-j)) h
 |_,_,_=>.no
open Classical in
noncomputable def atg:D->D->Hd->R D
 |.int i,.int j,h=>if CMul i j then .ok (.int (i*j)) h else .no
 |.ref i,.int k,h=>match h[i]? with
  |some (.lst xs)=>if (-(2^63)<=k/\k<2^63)/\xs.length*k.toNat<=LINE then .ok (.ref h.length) (h++[.lst (List.replicate k.toNat xs).flatten]) else .no
  |_=>.no
 |_,_,_=>.no
def a4z:D->D->Hd->R D
 |.int i,.int j,h=>if 0<j then .ok (.int (i%j)) h else .no
 |_,_,_=>.no
def a5m:D->D->Hd->R D
 |.int i,.int j,h=>if 0<j/\j<1073741824 then .ok (.int (i / j)) h else .no
 |_,_,_=>.no
def a7s:D->D->Hd->R D
 |.int i,.int j,h=>if 0<=j/\j<=1000000/\i.natAbs<2^64 then .ok (.int (i^j.toNat)) h else .no
 |_,_,_=>.no
section
variable{X:Cx}{K:Fg}
theorem ac8:a3m K a8k (rI0 λi j=>.int (i-j)):=by
 intro E ι H h x y dx dy Q rx ry hr o
 cases rx with
 |int i =>
  cases ry with
  |int j=>exact⟨i,j,rfl,rfl,ans o (.int _) hr⟩
  |_=>exact o.elim
 |_=>exact o.elim
theorem ap5:a3m K a4z (rI (λ_ j=>0<j) λi j=>.int (i%j)):=by
 intro E ι H h x y dx dy Q rx ry hr o
 cases rx with
 |int i =>
  cases ry with
  |int j =>
   by_cases hc:0<j
   ·simp only[a4z,aN hc]at o;exact⟨i,j,rfl,rfl,hc,ans o (.int _) hr⟩
   ·simp only[a4z,bp hc]at o;exact o.elim
  |_=>exact o.elim
 |_=>exact o.elim
theorem ahc:a3m K a5m (rI axd λi j=>.int (i / j)):=by
 intro E ι H h x y dx dy Q rx ry hr o
 cases rx with
 |int i =>
  cases ry with
  |int j =>
   by_cases hc:0<j/\j<1073741824
   ·simp only[a5m,aN hc]at o;exact⟨i,j,rfl,rfl,hc,ans o (.int _) hr⟩
   ·simp only[a5m,bp hc]at o;exact o.elim
  |_=>exact o.elim
 |_=>exact o.elim
theorem ap6:a3m K a7s (rI ayt λi j=>.int (i^j.toNat)):=by
 intro E ι H h x y dx dy Q rx ry hr o
 cases rx with
 |int i =>
  cases ry with
  |int j =>
   by_cases hc:0<=j/\j<=1000000/\i.natAbs<2^64
   ·simp only[a7s,aN hc]at o;exact⟨i,j,rfl,rfl,hc,ans o (.int _) hr⟩
   ·simp only[a7s,bp hc]at o;exact o.elim
  |_=>exact o.elim
 |_=>exact o.elim
theorem ahd:a3m K atg (λx y H Q=>rI CMul (λi j=>.int (i*j)) x y H Q\/asx x y H Q):=by
 intro E ι H h x y dx dy Q rx ry hr o
 cases rx with
 |int i =>
  cases ry with
  |int j =>
   by_cases hc:CMul i j
   ·simp only[atg,aN hc]at o;exact .inl ⟨i,j,rfl,rfl,hc,ans o (.int _) hr⟩
   ·simp only[atg,bp hc]at o;exact o.elim
  |_=>exact o.elim
 |@ref a i ha =>
  cases ry with
  |int k =>
   simp only[atg]at o
   split at o
   ·rename_i xs hx;obtain⟨vs,h3,h4⟩:=hr.lst ha hx
    split at o
    ·rename_i hc;exact .inr ⟨a,k,vs,rfl,rfl,h3,hc.1.1,hc.1.2,ll (by rw[h4.len];exact hc.2),yh (h4.flat _) hr o⟩
    ·exact o.elim
   ·exact o.elim
  |_=>exact o.elim
 |_=>exact o.elim
variable{E:XD}{a b e:Expr}{es:List Expr}{fa fb:SE}{ka:SA}{pos:Pos}
theorem aaq(ha:ME X E a fa)(hb:ME X E b fb):ME X E (.BinOp a .Sub b pos) (s2 a8k fa fb):=ac1 ase ac8 ha hb
theorem a7t(ha:ME X E a fa)(hb:ME X E b fb):ME X E (.BinOp a .Mod b pos) (s2 a4z fa fb):=ac1 asf ap5 ha hb
theorem adm(ha:ME X E a fa)(hb:ME X E b fb):ME X E (.BinOp a .FloorDiv b pos) (s2 a5m fa fb):=ac1 aod ahc ha hb
theorem ahe(ha:ME X E a fa)(hb:ME X E b fb):ME X E (.BinOp a .Pow b pos) (s2 a7s fa fb):=ac1 ash ap6 ha hb
def ap7:D->Hd->R D
 |.int i,h=>.ok (.int (-i)) h
 |_,_=>.no
theorem ath(ha:ME X E a fa):ME X E (.UnaryOp .USub a pos) (s1 ap7 fa):=axq asi (λE ι H h x dx Q rx hr o=>by
 cases rx with
 |int i=>exact⟨i,rfl,ans o (.int _) hr⟩
 |_=>exact o.elim) ha
def gLt:D->D->Hd->R D
 |.int i,.int j,h=>.ok (.bl (decide (i<j))) h
 |.str i,.str j,h=>.ok (.bl (decide (i.cps.toList<j.cps.toList))) h
 |_,_,_=>.no
def gLe:D->D->Hd->R D
 |.int i,.int j,h=>.ok (.bl (decide (i<=j))) h
 |.str i,.str j,h=>.ok (.bl (!decide (j.cps.toList<i.cps.toList))) h
 |_,_,_=>.no
def gGt:D->D->Hd->R D
 |.int i,.int j,h=>.ok (.bl (decide (j<i))) h
 |_,_,_=>.no
def gGe:D->D->Hd->R D
 |.int i,.int j,h=>.ok (.bl (decide (j<=i))) h
 |_,_,_=>.no
theorem a3r:a3m K gLt (λx y H Q=>rI0 (λi j=>.bl (decide (i<j))) x y H Q\/∃i j,x=.str i/\y=.str j/\Q (.bl (decide (i.cps.toList<j.cps.toList))) H):=by
 intro E ι H h x y dx dy Q rx ry hr o
 cases rx with
 |int i =>
  cases ry with
  |int j=>exact .inl ⟨i,j,rfl,rfl,ans o (.bl _) hr⟩
  |_=>exact o.elim
 |str i =>
  cases ry with
  |str j=>exact .inr ⟨i,j,rfl,rfl,ans o (.bl _) hr⟩
  |_=>exact o.elim
 |_=>exact o.elim
theorem a7u:a3m K gGt (rI0 λi j=>.bl (decide (j<i))):=by
 intro E ι H h x y dx dy Q rx ry hr o
 cases rx with
 |int i =>
  cases ry with
  |int j=>exact⟨i,j,rfl,rfl,ans o (.bl _) hr⟩
  |_=>exact o.elim
 |_=>exact o.elim
theorem ahf:a3m K gGe (rI0 λi j=>.bl (decide (j<=i))):=by
 intro E ι H h x y dx dy Q rx ry hr o
 cases rx with
 |int i =>
  cases ry with
  |int j=>exact⟨i,j,rfl,rfl,ans o (.bl _) hr⟩
  |_=>exact o.elim
 |_=>exact o.elim
def aar:D->Bool
 |.non=>true
 |_=>false
theorem ahg{i:Int}(r:Rep K ι H x (.int i)):x=.int i:=by cases r;rfl
def gIs(x y:D)(h:Hd):R D:=match y with
 |.non=>.ok (.bl (aar x)) h
 |.bl j=>(match x with|.bl i=>.ok (.bl (i == j)) h|_=>.no)
 |_=>.no
def an2(x y:D)(h:Hd):R D:=match y with
 |.non=>.ok (.bl (!aar x)) h
 |.bl j=>(match x with|.bl i=>.ok (.bl (i != j)) h|_=>.no)
 |_=>.no
def xf:D->Bool
 |.non=>true|.bl _=>true|.int _=>true|.str _=>true
 |_=>false
def fvD:D->Option V
 |.non=>some .non|.bl b=>some (.bl b)|.int i=>some (.int i)|.str x=>some (.str x)
 |_=>none
theorem aki{d:D}(r:Rep K ι H x d)(f:xf d=true):fvD d=some x:=by
 cases r<;>first|rfl|(cases f;done)
theorem fvs{d e:D}{P:D->V->D->V->Prop}(h:∀d x e y,fvD d=some x->fvD e=some y->P d x e y)(r:Rep K ι H x d)(q:Rep K ι H y e)(f:xf d=true)(g:xf e=true):P d x e y:=h d x e y (aki r f) (aki q g)
def eqF:D->D->Bool
 |.non,.non=>true
 |.bl i,.bl j=>i == j
 |.int i,.int j=>i == j
 |.str i,.str j=>i == j
 |.int i,.bl j=>i == (if j then 1 else 0)
 |.bl i,.int j=>(if i then 1 else 0) == j
 |_,_=>false
end
section
variable{X:Cx}{K:Fg}{E:XD}{a b e o:Expr}{es:List Expr}{fa fb:SE}{ka:SA}{pos:Pos}
def a0u(d:D)(h:Hd):Option (List D):=match d with
 |.tup xs=>some xs
 |.rol xs=>some xs
 |.ref i=>match h[i]? with|some (.lst xs)=>some xs|_=>none
 |_=>none
def gIx(x y:D)(h:Hd):R D:=match y with
 |.int i=>(match x with
  |.str z=>if z.length<=LINE then (match atI z.cps.toList i with|some c=>.ok (.str ⟨#[c]⟩) h|none=>.no) else .no
  |x=>match a0u x h with
   |some xs=>(match atI xs i with|some d=>.ok d h|none=>.no)
   |none=>.no)
 |_=>.no
theorem adn(r:Reps K ι H vs xs)(e:atI xs i=some d):∃v,atI vs i=some v/\Rep K ι H v d:=by
 unfold atI at e ⊢;rw[r.len]
 cases hx:ixN xs.length i with
 |none=>rw[hx]at e;cases e
 |some j=>rw[hx]at e;exact r.get e
theorem ati:a3m K gIx (rIx K):=by
 intro E ι H h x y dx dy Q rx ry hr o
 cases ry with
 |int i =>
  have go:∀{p:Addr} {vs:List V} {xs:List D},Reps K ι H vs xs->out K E (a04 K) ι H (match atI xs i with|some d=>.ok d h|none=>.no) Q->∃v,atI vs i=some v/\Q v H:=λ{p vs xs} r o=>by
   cases he:atI xs i with
   |none=>rw[he]at o;exact o.elim
   |some d =>
    rw[he]at o;obtain⟨v,h1,h2⟩:=adn r he;exact⟨v,h1,ans o h2 hr⟩
  cases rx with
  |str z =>
   by_cases hc:z.length<=LINE
   ·simp only[gIx,aN hc]at o
    cases he:atI z.cps.toList i with
    |none=>rw[he]at o;exact o.elim
    |some c=>rw[he]at o;exact .inr (.inr ⟨z,i,c,rfl,rfl,ll hc,he,ans o (.str _) hr⟩)
   ·simp only[gIx,bp hc]at o;exact o.elim
  |@tup p vs xs hp r =>
   simp only[gIx,a0u]at o;obtain⟨v,h1,h2⟩:=go (p:=p) r o;exact .inr (.inl ⟨p,vs,i,v,rfl,rfl,SqT.of hp,h1,h2⟩)
  |@rol p vs xs hp r =>
   simp only[gIx,a0u]at o;obtain⟨v,h1,h2⟩:=go (p:=p) r o;exact .inl ⟨p,vs,i,v,rfl,rfl,hp.l,h1,h2⟩
  |@ref p j hp =>
   obtain⟨ob,e1,e2⟩:=hr.at hp
   cases ob with
   |lst xs =>
    simp only[gIx,a0u,e1]at o;obtain⟨vs,h3,h4⟩:=e2;obtain⟨v,h1,h2⟩:=go (p:=p) h4 o;exact .inl ⟨p,vs,i,v,rfl,rfl,SqL.of h3,h1,h2⟩
   |dK _=>simp only[gIx,a0u,e1]at o;exact o.elim
   |dT _=>simp only[gIx,a0u,e1]at o;exact o.elim
   |ins _ _=>simp only[gIx,a0u,e1]at o;exact o.elim
  |_=>exact o.elim
 |_=>exact o.elim
theorem a4m(ha:ME X E a fa)(hb:ME X E b fb)(hp:a8q b):ME X E (.Subscript a b pos) (s2 gIx fa fb):=axr asu ati ha hb hp
abbrev SO:=Sd->Hd->R (Option Int)
abbrev MO(X:Cx)(E:XD)(e:Option Expr)(f:SO):Prop:=PO X e (lift X.K E b0a f)
def oN:SO:=λ_ h=>.ok none h
def oS(f:SE):SO:=λτ h=>(f τ h).bind λd h1=>match d with|.int i=>.ok (some i) h1|_=>.no
theorem PO.weak{e:Option Expr}{t t':St->Hp->(Option Int->Hp->Prop)->Prop}(h:PO X e t)(i:∀σ H Q,t' σ H Q->t σ H Q):PO X e t':=λaA s σ H Q I q=>h aA s σ H Q I (i _ _ _ q)
theorem yj:MO X E none oN:=PO.weak aop λσ H Q ⟨ι,τ,h,S,Rh,o⟩=>o ι H none (.refl _ _) rfl Rh
theorem ym(he:ME X E e fa):MO X E (some e) (oS fa):=by
 refine PO.weak (aoq he) ?_
 rintro σ H Q ⟨ι,τ,h,S,Rh,o⟩
 refine⟨ι,τ,h,S,Rh,dz o λd h1 ι1 H1 v g1 r1 hr1 o1=>?_⟩
 cases r1 with
 |int i=>exact⟨i,rfl,o1 ι1 H1 _ (.refl _ _) rfl hr1⟩
 |_=>exact o1.elim
def whole(n:Nat)(lo hi:Option Int):Prop:=HT.sIx n 0 lo=0/\HT.sIx n n hi=n
instance (n:Nat) (lo hi:Option Int):Decidable (whole n lo hi):=by unfold whole;exact inferInstance
def gSl(d:D)(lo hi:Option Int)(h:Hd):R D:=match d with
 |.str z=>if z.length<=LINE then .ok (.str ⟨(a69 z.cps.toList lo hi).toArray⟩) h else .no
 |.tup xs=>if ¬ whole xs.length lo hi then .ok (.tup (a69 xs lo hi)) h else .no
 |.rol xs=>.ok (.ref h.length) (h++[.lst (a69 xs lo hi)])
 |.scr xs=>.ok (.ref h.length) (h++[.lst (a69 xs lo hi)])
 |.ref i=>match h[i]? with|some (.lst xs)=>.ok (.ref h.length) (h++[.lst (a69 xs lo hi)])|_=>.no
 |_=>.no
theorem a3s(r:Reps K ι H vs xs)(lo hi:Option Int):Reps K ι H (amo vs lo hi) (a69 xs lo hi):=by
 unfold amo a69;rw[r.len];exact(r.drop _).take _
theorem ado(rx:Rep K ι H x d)(hr:HRep K ι H h)(o:out K E (a04 K) ι H (gSl d lo hi h) Q):axn x lo hi H Q\/axj K x lo hi H Q\/axl K x lo hi H Q:=by
 cases rx with
 |str z =>
  by_cases hc:z.length<=LINE
  ·simp only[gSl,aN hc]at o;exact .inl ⟨z,rfl,ll hc,ans o (.str _) hr⟩
  ·simp only[gSl,bp hc]at o;exact o.elim
 |@tup p vs xs hp r =>
  by_cases hc:¬ whole xs.length lo hi
  ·simp only[gSl,aN hc]at o;exact .inr (.inl ⟨p,vs,rfl,SqT.of hp,by rw[r.len];exact hc,a0s (a3s r lo hi) hr o⟩)
  ·simp only[gSl,bp hc]at o;exact o.elim
 |@rol p vs xs hp r=>exact .inr (.inr ⟨p,vs,rfl,hp.l,yh (a3s r lo hi) hr o⟩)
 |@scr p vs xs hp r=>exact .inr (.inr ⟨p,vs,rfl,hp.l,yh (a3s r lo hi) hr o⟩)
 |@ref p j hp =>
  obtain⟨ob,e1,e2⟩:=hr.at hp
  cases ob with
  |lst xs =>
   simp only[gSl,e1]at o;obtain⟨vs,h3,h4⟩:=e2;exact .inr (.inr ⟨p,vs,rfl,SqL.of h3,yh (a3s h4 lo hi) hr o⟩)
  |dK _=>simp only[gSl,e1]at o;exact o.elim
  |dT _=>simp only[gSl,e1]at o;exact o.elim
  |ins _ _=>simp only[gSl,e1]at o;exact o.elim
 |_=>exact o.elim
theorem ahh(r:Rep K ι H x d)(f:xf d=true):a3g x=true:=by cases r<;>first|rfl|cases f
theorem atj(r:Rep K ι H x d)(q:Rep K ι H y c):xf d=true->xf c=true->eqV x y=eqF d c:=λf g=>by
 refine fvs (P:=λd x c y=>eqV x y=eqF d c) (λd x e y h h'=>?_) r q f g
 cases d<;>first|(cases h;done)|(cases h;cases e<;>first|(cases h';done)|(cases h';rfl))
def inD(x:D)(xs:List D):Bool:=xs.any λy=>eqF y x
theorem akj(r:Reps K ι H vs xs)(f:xs.all xf=true):vs.all a3g=true:=by
 induction r using Reps.rec (motive_1:=λ_ _ _=>True) with
 |nil=>rfl
 |cons r rs _ ih =>
  rw[fP,bF]at f ⊢;exact⟨ahh r f.1,ih f.2⟩
 |_=>trivial
theorem atk(rx:Rep K ι H x d)(fx:xf d=true)(r:Reps K ι H vs xs)(f:xs.all xf=true):inV x vs=inD d xs:=by
 unfold inV inD
 induction r using Reps.rec (motive_1:=λ_ _ _=>True) with
 |nil=>rfl
 |cons r rs _ ih =>
  rw[fP,bF]at f;rw[fQ,fQ,ih f.2,atj r rx f.1 fx]
 |_=>trivial
def gIn(neg:Bool)(x y:D)(h:Hd):R D:=match y with
 |.str T=>(match x with
  |.str z=>(match z.cps.toList with|[c]=>.ok (.bl (if neg then !decide (c∈T.cps.toList) else decide (c∈T.cps.toList))) h|_=>.no)
  |_=>.no)
 |y=>match a0u y h with
  |some xs=>if xf x=true/\xs.all xf=true then .ok (.bl (if neg then !inD x xs else inD x xs)) h else .no
  |none=>.no
theorem one_sign{z:Str}(h:z.cps.toList=[c]):z=⟨#[c]⟩:=by
 obtain⟨cps⟩:=z
 congr
 exact Array.ext' (by simpa using h)
theorem an3(neg:Bool){r1:R2}(h1:∀c T H (Q:VK),Q (.bl (if neg then !decide (c∈T.cps.toList) else decide (c∈T.cps.toList))) H->r1 (.str ⟨#[c]⟩) (.str T) H Q):a3m K (gIn neg) (λx y H Q=>r1 x y H Q\/rIn K neg x y H Q):=by
 intro E ι H h x y dx dy Q rx ry hr o
 have go:∀{p:Addr} {vs:List V} {xs:List D},(SqL K H p vs\/SqT K H p vs)->Reps K ι H vs xs->out K E (a04 K) ι H (if xf dx=true/\xs.all xf=true then .ok (.bl (if neg then !inD dx xs else inD dx xs)) h else .no) Q->rIn K neg x (.ref p) H Q:=λ{p vs xs} sq r o=>by
  split at o
  ·rename_i hc;exact⟨p,vs,rfl,sq,ahh rx hc.1,akj r hc.2,by rw[atk rx hc.1 r hc.2];exact ans o (.bl _) hr⟩
  ·exact o.elim
 cases ry with
 |str T =>
  cases rx with
  |str z =>
   simp only[gIn]at o
   split at o
   ·rename_i c hz;rw[one_sign hz];exact .inl (h1 c T H Q (ans o (.bl _) hr))
   ·exact o.elim
  |_=>exact o.elim
 |@tup p vs xs hp r=>simp only[gIn,a0u]at o;exact .inr (go (.inr (SqT.of hp)) r o)
 |@rol p vs xs hp r=>simp only[gIn,a0u]at o;exact .inr (go (.inl hp.l) r o)
 |@ref p j hp =>
  obtain⟨ob,e1,e2⟩:=hr.at hp
  cases ob with
  |lst xs =>
   simp only[gIn,a0u,e1]at o;obtain⟨vs,h3,h4⟩:=e2;exact .inr (go (.inl (SqL.of h3)) h4 o)
  |dK _=>simp only[gIn,a0u,e1]at o;exact o.elim
  |dT _=>simp only[gIn,a0u,e1]at o;exact o.elim
  |ins _ _=>simp only[gIn,a0u,e1]at o;exact o.elim
 |_=>exact o.elim
theorem a8y:a3m K (gIn false) (λx y H Q=>(∃c T,x=.str ⟨#[c]⟩/\y=.str T/\Q (.bl (decide (c∈T.cps.toList))) H)\/rIn K false x y H Q):=an3 false λc T H Q q=>⟨c,T,rfl,rfl,q⟩
theorem aca:a3m K (gIn true) (λx y H Q=>(∃c T,x=.str ⟨#[c]⟩/\y=.str T/\Q (.bl (!decide (c∈T.cps.toList))) H)\/rIn K true x y H Q):=an3 true λc T H Q q=>⟨c,T,rfl,rfl,q⟩
def xq:List D->Hd->R D
 |[.str z],h=>if z.length<=LINE then .ok (.int z.length) h else .no
 |[x],h=>(match a0u x h with|some xs=>.ok (.int xs.length) h|none=>.no)
 |_,_=>.no
theorem ap8:akd K xq (λxs H Q=>(∃p ys,xs=[.ref p]/\(SqL K H p ys\/SqT K H p ys)/\Q (.int ys.length) H)\/∃z,xs=[.str z]/\z.length<=sizeLine/\Q (.int z.length) H):=by
 intro E ι H h xs ds Q r hr o
 cases r with
 |nil=>exact o.elim
 |cons r rs =>
  cases rs with
  |cons _ _=>exact(show False by cases r<;>exact o).elim
  |nil =>
   cases r with
   |str z =>
    by_cases hc:z.length<=LINE
    ·simp only[xq,aN hc]at o;exact .inr ⟨z,rfl,ll hc,ans o (.int _) hr⟩
    ·simp only[xq,bp hc]at o;exact o.elim
   |@tup p vs xs hp r=>simp only[xq,a0u]at o;exact .inl ⟨p,vs,rfl,.inr (SqT.of hp),by rw[r.len];exact ans o (.int _) hr⟩
   |@rol p vs xs hp r=>simp only[xq,a0u]at o;exact .inl ⟨p,vs,rfl,.inl hp.l,by rw[r.len];exact ans o (.int _) hr⟩
   |@ref p j hp =>
    obtain⟨ob,e1,e2⟩:=hr.at hp
    cases ob with
    |lst xs =>
     simp only[xq,a0u,e1]at o;obtain⟨vs,h3,h4⟩:=e2;exact .inl ⟨p,vs,rfl,.inl (SqL.of h3),by rw[h4.len];exact ans o (.int _) hr⟩
    |dK _=>simp only[xq,a0u,e1]at o;exact o.elim
    |dT _=>simp only[xq,a0u,e1]at o;exact o.elim
    |ins _ _=>simp only[xq,a0u,e1]at o;exact o.elim
   |_=>exact o.elim
def awj:List D->Hd->R D
 |[.int i],h=>.ok (.int (if i<0 then -i else i)) h
 |_,_=>.no
theorem ap9:akd K awj (λxs H Q=>∃i,xs=[.int i]/\Q (.int (if i<0 then -i else i)) H):=by
 intro E ι H h xs ds Q r hr o
 unfold awj at o
 split at o
 ·cases r with|cons r rs=>cases r;cases rs;exact⟨_,rfl,ans o (.int _) hr⟩
 ·exact o.elim
def a6k:List D->Hd->R D
 |[.int i,.int j],h=>.ok (.int (if j > i then j else i)) h
 |_,_=>.no
def akk:List D->Hd->R D
 |[.int i,.int j],h=>.ok (.int (if j<i then j else i)) h
 |_,_=>.no
theorem adp:akd K a6k (λxs H Q=>∃i j,xs=[.int i,.int j]/\Q (.int (if j > i then j else i)) H):=by
 intro E ι H h xs ds Q r hr o
 unfold a6k at o
 split at o
 ·cases r with|cons r rs=>cases rs with|cons q rs=>cases r;cases q;cases rs;exact⟨_,_,rfl,ans o (.int _) hr⟩
 ·exact o.elim
def apa:List D->Hd->R D
 |[.int i],h=>.ok (.int i) h
 |[.bl k],h=>.ok (.int (if k then 1 else 0)) h
 |_,_=>.no
theorem apb:akd K apa (λxs H Q=>(∃i,xs=[.int i]/\Q (.int i) H)\/∃k,xs=[.bl k]/\Q (.int (if k then 1 else 0)) H):=by
 intro E ι H h xs ds Q r hr o
 unfold apa at o
 split at o
 ·cases r with|cons r rs=>cases r;cases rs;exact .inl ⟨_,rfl,ans o (.int _) hr⟩
 ·cases r with|cons r rs=>cases r;cases rs;exact .inr ⟨_,rfl,ans o (.int _) hr⟩
 ·exact o.elim
end
section
variable{X:Cx}{K:Fg}{E:XD}{a b e o:Expr}{es:List Expr}{fa fb fo:SE}{ka:SA}{pos apos cpos:Pos}{name:Str}{idn:String}
def axu(K:Fg)(g:D->List D->Hd->R D)(r:V->List V->Hp->VK->Prop):Prop:=∀(E:XD) ι H h x dx xs ds Q,Rep K ι H x dx->Reps K ι H xs ds->HRep K ι H h->out K E (a04 K) ι H (g dx ds h) Q->r x xs H Q
def isL(d:D)(h:Hd):Bool:=match d with|.ref i=>(match h[i]? with|some (.lst _)=>true|_=>false)|.rol _=>true|_=>false
def sML(g:D->List D->Hd->R D)(f:SE)(k:SA):SE:=λτ h=>(f τ h).bind λd h1=>if isL d h1=true then (k τ h1).bind λds h2=>g d ds h2 else .no
theorem atl(r:Rep K ι H x d)(hr:HRep K ι H h)(e:isL d h=true):tyV K "list" x H:=by
 cases r with
 |rol hp _=>exact .inl ⟨rfl,_,hp.l⟩
 |ref hp =>
  obtain⟨ob,e1,e2⟩:=hr.at hp
  cases ob with
  |lst xs=>obtain⟨vs,h3,_⟩:=e2;exact .inl ⟨rfl,_,SqL.of h3⟩
  |dK _=>simp[isL,e1]at e
  |dT _=>simp[isL,e1]at e
  |ins _ _=>simp[isL,e1]at e
 |_=>cases e
theorem a8z(slot:Slot "list" name idn)(hty:typeOf (.builtin idn)=pure (.type "method_descriptor"))(hm:MtR X idn r)(hs:axu X.K g r)(ho:ME X E o fo)(ha:MA X E (e::es) ka)
  (hbase:attributeBase o name X.env (eval o X.env)=eval o X.env:=by rfl)
  (hfew:((backTo cpos (starEach (e::es) X.env)).all (λx => !x.1) && (backToKw cpos (keywordEach [] X.env)).all (λx=>x.1.isSome)
   && decide ((e::es).length+([]:List Keyword).length+(if ([]:List Keyword).isEmpty then 0 else 1)<30))=true:=by rfl)
  (hline:(apos.endLine == cpos.line)=true:=by rfl) (hst:starEach (e::es) X.env=(false,eval e X.env)::starEach es X.env:=by rfl) (hplain:(backTo cpos (starEach es X.env)).any (·.1)=false:=by rfl) :
  ME X E (.Call (.Attribute o name apos) (e::es) [] cpos) (sML g fo ka):=by
 refine PE.weak (axm PySem.F.plainAttrs_list slot hty hm ho ha hbase hfew hline hst hplain) ?_
 rintro σ H Q ⟨ι,τ,h,S,Rh,o⟩
 refine⟨ι,τ,h,S,Rh,dz o λd h1 ι1 H1 v g1 r1 hr1 o1=>?_⟩
 by_cases hc:isL d h1=true
 ·rw[aN hc]at o1;refine⟨atl r1 hr1 hc,ι1,τ,h1,S.mono g1,hr1,dz o1 λds h2 ι2 H2 vs g2 r2 hr2 o2=>?_⟩;exact hs E ι2 H2 h2 v d vs ds Q (r1.mono g2) r2 hr2 o2
 ·rw[bp hc]at o1;exact o1.elim
def afd:D->List D->Hd->R D
 |.ref i,[y],h=>(match h[i]? with|some (.lst xs)=>if xs.length<LINE then .ok .non (h.set i (.lst (xs++[y]))) else .no|_=>.no)
 |_,_,_=>.no
theorem a6l:axu K afd agx:=by
 intro E ι H h x dx xs ds Q rx r hr o
 unfold afd at o
 split at o
 ·rename_i i y
  cases rx with
  |@ref p _ hp =>
   cases r with
   |cons r1 rs =>
    cases rs
    split at o
    ·rename_i xs hx;obtain⟨vs,h3,h4⟩:=hr.lst hp hx
     split at o
     ·rename_i hc;exact⟨p,vs,_,rfl,rfl,h3,by rw[h4.len,axo];exact hc,a8v (h4.snoc r1) hr hp .non o⟩
     ·exact o.elim
    ·exact o.elim
 ·exact o.elim
def apc:List D->Option (List Str)
 |[]=>some []
 |.str z::r=>(apc r).map (z::·)
 |_::_=>none
theorem akl:∀{vs:List V} {xs:List D} {zs:List Str},Reps K ι H vs xs->apc xs=some zs->vs=zs.map V.str
 |_,_,_,.nil,e=>by cases e;rfl
 |_,_,zs,.cons (d:=d) r rs,e=>by
  cases r with
  |str z =>
   simp only[apc,aW]at e;obtain⟨ws,h1,rfl⟩:=e;rw[akl rs h1];rfl
  |_=>cases e
def atm:List D->Hd->R D
 |[.str z],h=>if z.length<=LINE then .ok (.ref h.length) (h++[.lst (a1u z)]) else .no
 |[x],h=>(match a0u x h with|some xs=>.ok (.ref h.length) (h++[.lst xs])|none=>.no)
 |_,_=>.no
theorem a7v(z:Str):Reps K ι H (a1i z) (a1u z):=by
 unfold a1i a1u
 induction z.cps.toList with
 |nil=>exact .nil
 |cons c cs ih=>exact .cons (.str _) ih
def wu:List D->Hd->R D
 |[.str z],h=>if z.length<=LINE then .ok (.tup (a1u z)) h else .no
 |[x],h=>(match a0u x h with|some xs=>.ok (.tup xs) h|none=>.no)
 |_,_=>.no
theorem a3t:akd K wu (λxs H Q=>(∃p ys,xs=[.ref p]/\((SqL K H p ys/\∀l,H l=none->Q (.ref l) (upd H l (.tup ys)))\/(SqT K H p ys/\Q (.ref p) H)))\/∃z,xs=[.str z]/\z.length<=sizeLine/\∀l,H l=none->Q (.ref l) (upd H l (.tup (a1i z)))):=by
 intro E ι H h xs ds Q r hr o
 cases r with
 |nil=>exact o.elim
 |cons r rs =>
  cases rs with
  |cons _ _=>exact(show False by cases r<;>exact o).elim
  |nil =>
   cases r with
   |str z =>
    by_cases hc:z.length<=LINE
    ·simp only[wu,aN hc]at o;exact .inr ⟨z,rfl,ll hc,a0s (a7v z) hr o⟩
    ·simp only[wu,bp hc]at o;exact o.elim
   |@tup p vs xs hp r=>simp only[wu,a0u]at o;exact .inl ⟨p,vs,rfl,.inr ⟨SqT.of hp,ans o (.tup hp r) hr⟩⟩
   |@rol p vs xs hp r=>simp only[wu,a0u]at o;exact .inl ⟨p,vs,rfl,.inl ⟨hp.l,a0s r hr o⟩⟩
   |@ref p j hp =>
    obtain⟨ob,e1,e2⟩:=hr.at hp
    cases ob with
    |lst xs =>
     simp only[wu,a0u,e1]at o;obtain⟨vs,h3,h4⟩:=e2;exact .inl ⟨p,vs,rfl,.inl ⟨SqL.of h3,a0s h4 hr o⟩⟩
    |dK _=>simp only[wu,a0u,e1]at o;exact o.elim
    |dT _=>simp only[wu,a0u,e1]at o;exact o.elim
    |ins _ _=>simp only[wu,a0u,e1]at o;exact o.elim
   |_=>exact o.elim
def a4n:List D->Option (List Int)
 |[]=>some []
 |.int z::r=>(a4n r).map (z::·)
 |_::_=>none
theorem a2n:∀{vs:List V} {xs:List D} {zs:List Int},Reps K ι H vs xs->a4n xs=some zs->vs=zs.map V.int
 |_,_,_,.nil,e=>by cases e;rfl
 |_,_,zs,.cons (d:=d) r rs,e=>by
  cases r with
  |int z =>
   simp only[a4n,aW]at e;obtain⟨ws,h1,rfl⟩:=e;rw[a2n rs h1];rfl
  |_=>cases e
def ahi:List D->Hd->R D
 |[.ref i],h=>(match h[i]? with|some (.lst xs)=>(match a4n xs with|some bs=>.ok (.int bs.sum) h|none=>.no)|_=>.no)
 |[.rol xs],h=>(match a4n xs with|some bs=>.ok (.int bs.sum) h|none=>.no)
 |_,_=>.no
theorem acb:akd K ahi (λxs H Q=>∃(p:Addr) (ns:List Int),xs=[.ref p]/\SqL K H p (ns.map V.int)/\Q (.int ns.sum) H):=by
 intro E ι H h xs ds Q r hr o
 unfold ahi at o
 split at o
 ·cases r with
  |cons r rs =>
   cases rs
   cases r with
   |@ref p _ hp =>
    split at o
    ·rename_i xs hx;obtain⟨vs,h3,h4⟩:=hr.lst hp hx
     split at o
     ·rename_i bs hb;exact⟨p,bs,rfl,SqL.of (by rw[h3,a2n h4 hb]),ans o (.int _) hr⟩
     ·exact o.elim
    ·exact o.elim
 ·cases r with
  |cons r rs =>
   cases rs
   cases r with
   |@rol p vs xs hp r =>
    split at o
    ·rename_i bs hb;exact⟨p,bs,rfl,by rw[<-a2n r hb];exact hp.l,ans o (.int _) hr⟩
    ·exact o.elim
 ·exact o.elim
end
end MI
theorem L2.Room.u(r:L2.Room k A):A.units+64<PySem.cLine:=r.units
namespace MI
open L2
mutual
def eqD:D->D->Bool
 |.non,.non=>true
 |.bl a,.bl b=>a == b
 |.bl a,.int b=>(if a then 1 else 0) == b
 |.int a,.bl b=>a == (if b then 1 else 0)
 |.int a,.int b=>a == b
 |.str a,.str b=>a == b
 |.tup xs,.tup ys=>an4 xs ys
 |_,_=>false
def an4:List D->List D->Bool
 |[],[]=>true
 |x::xs,y::ys=>eqD x y && an4 xs ys
 |_,_=>false
end
def pur:Nat->D->Bool
 |_,.non=>true
 |_,.bl _=>true
 |_,.int _=>true
 |_,.str _=>true
 |n+1,.tup xs=>xs.all (pur n)
 |_,_=>false
def pairE(xs ys:List D)(j:Nat):Bool:=match xs[j]?,ys[j]? with|some x,some y=>eqD x y|_,_=>false
theorem a90:∀xs ys:List D,((List.range (min xs.length ys.length)).all (pairE xs ys) && xs.length == ys.length)=an4 xs ys
 |[],[]=>by simp[an4]
 |[],_::_=>by simp[an4]
 |_::_,[]=>by simp[an4]
 |x::xs,y::ys=>by
  have ih:=a90 xs ys;rw[show min (x::xs).length (y::ys).length=min xs.length ys.length+1 by simp only[aJ];omega,List.range_succ_eq_map]
  rw[fP,List.all_map];have e:(pairE (x::xs) (y::ys) ∘ Nat.succ)=pairE xs ys:=by funext j;simp[pairE]
  rw[e];simp only[an4];rw[<-ih];have e2:((x::xs).length == (y::ys).length)=(xs.length == ys.length):=by simp
  rw[e2,Bool.and_assoc];rfl
section
variable{K:Fg}{ι:List Addr}{H:Hp}
theorem a91{xs:List D}(r:Rep K ι H v (.tup xs)):∃a vs,v=.ref a/\H a=some (.tup vs)/\Reps K ι H vs xs:=by cases r with|@tup a vs _ h rs=>exact⟨a,vs,rfl,h,rs⟩
theorem an5(r:Rep K ι H v d)(q:Rep K ι H v e)(f:xf d=true)(g:xf e=true):eqD d e=true:=by
 have h:=aki r f;have h':=aki q g
 cases d<;>first|(cases h;done)|(cases h;cases e<;>first|(cases h';done)|(cases h';simp[eqD]))
theorem a0k(r:Rep K ι H v d)(p:pur n d=true):(∃xs,d=.tup xs)\/(a3g v=true/\xf d=true):=by
 cases r<;>first|exact .inr ⟨rfl,rfl⟩|exact .inl ⟨_,rfl⟩|(cases n<;>cases p)
theorem a92(r:Rep K ι H x d)(q:Rep K ι H y e)(f:xf d=true)(g:xf e=true):eqV x y=eqD d e:=by
 refine fvs (P:=λd x c y=>eqV x y=eqD d c) (λd x e y h h'=>?_) r q f g
 cases d<;>first|(cases h;done)|(cases h;cases e<;>first|(cases h';done)|(cases h';first|rfl|(simp[eqV,eqD];done)))
theorem akm:∀(n:Nat) {v:V} {d e:D},Rep K ι H v d->Rep K ι H v e->pur n d=true->pur n e=true->eqD d e=true:=by
 intro n
 induction n with
 |zero =>
  intro v d e r q p1 p2
  rcases a0k r p1 with⟨xs,rfl⟩|⟨f1,g1⟩
  ·cases p1
  rcases a0k q p2 with⟨xs,rfl⟩|⟨f2,g2⟩
  ·cases p2
  exact an5 r q g1 g2
 |succ n ih =>
  intro v d e r q p1 p2
  rcases a0k r p1 with⟨xs,rfl⟩|⟨f1,g1⟩
  ·rcases a0k q p2 with⟨ys,rfl⟩|⟨f2,g2⟩
   ·obtain⟨a,vs,rfl,h,rs⟩:=a91 r;obtain⟨b,us,z,h',qs⟩:=a91 q;cases z
    rw[h]at h';cases h'
    simp only[eqD];simp only[pur,bU]at p1 p2
    clear h r q
    induction rs using Reps.rec (motive_1:=λ_ _ _=>True) generalizing ys with
    |nil=>cases qs;rfl
    |cons r rs _ ih2 =>
     cases qs with
     |cons q qs =>
      simp only[an4,bF];exact⟨ih r q (p1 _ (bE ..)) (p2 _ (bE ..)),ih2 _ qs (λx hx=>p1 x (aY _ hx)) (λx hx=>p2 x (aY _ hx))⟩
    |_=>trivial
   ·obtain⟨a,vs,rfl,h,rs⟩:=a91 r;cases f2
  ·rcases a0k q p2 with⟨ys,rfl⟩|⟨f2,g2⟩
   ·obtain⟨a,vs,rfl,h,rs⟩:=a91 q;cases f1
   ·exact an5 r q g1 g2
open SeqAt in
theorem atn{s:Shared}(hok:HOk P w H s.heap):∀(n:Nat) (A:Around) {x y:V} {u v:Value} {d e:D},Rep K ι H x d->Rep K ι H y e->RelV x u->RelV y v->pur n d=true->pur n e=true->A.units+n<cLine->EqAt A s u v (eqD d e):=by
 intro n
 induction n with
 |zero =>
  intro A x y u v d e r q rx ry p1 p2 hu
  rcases a0k r p1 with⟨xs,rfl⟩|⟨f1,f2⟩
  ·cases p1
  ·rcases a0k q p2 with⟨xs,rfl⟩|⟨g1,g2⟩
   ·cases p2
   ·rw[<-a92 r q f2 g2];exact agw rx ry f1 g1
 |succ n ih =>
  intro A x y u v d e r q rx ry p1 p2 hu
  rcases a0k r p1 with⟨xs,rfl⟩|⟨f1,f2⟩
  ·cases r with
   |@tup a vs _ ha rs =>
    cases rx
    obtain⟨_,its,r1,t1⟩:=(Rd.of ha).ok hok
    rcases a0k q p2 with⟨ys,rfl⟩|⟨g1,g2⟩
    ·cases q with
     |@tup b us _ hb qs =>
      cases ry
      obtain⟨_,its2,r2,t2⟩:=(Rd.of hb).ok hok
      by_cases hab:a=b
      ·subst hab;rw[akm (n+1) (.tup ha rs) (.tup hb qs) p1 p2];exact EqAt.same _
      ·have l1:its.toArray.size=xs.length:=by rw[aL,<-r1.length,rs.len]
       have l2:its2.toArray.size=ys.length:=by rw[aL,<-r2.length,qs.len]
       have:=RcAt.tuples (A:=A) (s:=s) (e:=pairE xs ys) t1 t2 (by omega) (λj h1 h2=>by
        have j1:j<xs.length:=by omega
        have j2:j<ys.length:=by omega
        obtain⟨v1,e1,q1⟩:=rs.get (ai j1);obtain⟨v2,e2,q2⟩:=qs.get (ai j2);obtain⟨u1,e3,q3⟩:=r1.get e1;obtain⟨u2,e4,q4⟩:=r2.get e2;have f1:its.toArray[j]=u1:=by simpa using (av.mp e3).2
        have f2:its2.toArray[j]=u2:=by simpa using (av.mp e4).2
        have pe:pairE xs ys j=eqD xs[j] ys[j]:=by simp[pairE,ai j1,ai j2]
        rw[f1,f2,pe];simp only[pur,bU]at p1 p2;exact ih A.in1 q1 q2 q3 q4 (p1 _ (dN j1)) (p2 _ (dN j2)) (by rw[Around.in1_units];omega))
       rw[l1,l2,a90]at this;exact EqAt.of_refs hab this
    ·have e0:eqD (.tup xs) e=false:=by cases e<;>first|rfl|(cases g2;done)
     rw[e0]
     cases y with
     |non=>cases ry;exact EqAt.tuple_none t1 (by omega)
     |bl b=>cases ry;exact EqAt.tuple_bool b t1 (by omega)
     |int b=>obtain⟨t,rfl⟩:=ry;exact EqAt.tuple_int b t t1 (by omega)
     |str b=>obtain⟨t,rfl⟩:=ry;exact EqAt.tuple_str b t t1 (by omega)
     |_=>cases g1
  ·rcases a0k q p2 with⟨ys,rfl⟩|⟨g1,g2⟩
   ·cases q with
    |@tup b us _ hb qs =>
     cases ry
     obtain⟨_,its2,r2,t2⟩:=(Rd.of hb).ok hok;have e0:eqD d (.tup ys)=false:=by cases d<;>first|rfl|(cases f2;done)
     rw[e0]
     cases x with
     |non=>cases rx;exact EqAt.none_tuple t2 (by omega)
     |bl b=>cases rx;exact EqAt.bool_tuple b t2 (by omega)
     |int b=>obtain⟨t,rfl⟩:=rx;exact EqAt.int_tuple b t t2 (by omega)
     |str b=>obtain⟨t,rfl⟩:=rx;exact EqAt.str_tuple b t t2 (by omega)
     |_=>cases f1
   ·rw[<-a92 r q f2 g2];exact agw rx ry f1 g1
open SeqAt in
theorem ato(ry:RelV y u)(rx:RelV x v)(fy:a3g y=true)(fx:a3g x=true):RcAt A s u v (eqV y x):=by
 cases y with
 |non =>
  cases ry
  cases x with
  |non=>cases rx;exact RcAt.none_none
  |bl b=>cases rx;exact RcAt.none_bool b
  |int b=>obtain⟨t,rfl⟩:=rx;exact RcAt.none_int b t
  |str b=>obtain⟨t,rfl⟩:=rx;exact RcAt.none_str b t
  |_=>cases fx
 |bl a =>
  cases ry
  cases x with
  |non=>cases rx;exact RcAt.bool_none a
  |bl b=>cases rx;exact RcAt.bool_bool a b
  |int b=>obtain⟨t,rfl⟩:=rx;exact RcAt.bool_int a b t
  |str b=>obtain⟨t,rfl⟩:=rx;exact RcAt.bool_str a b t
  |_=>cases fx
 |int a =>
  obtain⟨t',rfl⟩:=ry
  cases x with
  |non=>cases rx;exact RcAt.int_none a t'
  |bl b=>cases rx;exact RcAt.int_bool a t' b
  |int b=>obtain⟨t,rfl⟩:=rx;exact RcAt.int_int a t' b t
  |str b=>obtain⟨t,rfl⟩:=rx;exact RcAt.int_str a t' b t
  |_=>cases fx
 |str a =>
  obtain⟨t',rfl⟩:=ry
  cases x with
  |non=>cases rx;exact RcAt.str_none a t'
  |bl b=>cases rx;exact RcAt.str_bool a t' b
  |int b=>obtain⟨t,rfl⟩:=rx;exact RcAt.str_int a t' b t
  |str b=>obtain⟨t,rfl⟩:=rx;exact RcAt.str_str a t' b t
  |_=>cases fx
 |_=>cases fy
open SeqAt in
theorem akn(ry:RelV y u)(rx:RelV x v)(fy:a3g y=true)(fx:a3g x=true):RcNeAt A s u v (!eqV y x):=by
 cases y with
 |non =>
  cases ry
  cases x with
  |non=>cases rx;exact RcNeAt.none_none
  |bl b=>cases rx;exact RcNeAt.none_bool b
  |int b=>obtain⟨t,rfl⟩:=rx;exact RcNeAt.none_int b t
  |str b=>obtain⟨t,rfl⟩:=rx;exact RcNeAt.none_str b t
  |_=>cases fx
 |bl a =>
  cases ry
  cases x with
  |non=>cases rx;exact RcNeAt.bool_none a
  |bl b=>cases rx;exact RcNeAt.bool_bool a b
  |int b=>obtain⟨t,rfl⟩:=rx;exact RcNeAt.bool_int a b t
  |str b=>obtain⟨t,rfl⟩:=rx;exact RcNeAt.bool_str a b t
  |_=>cases fx
 |int a =>
  obtain⟨t',rfl⟩:=ry
  cases x with
  |non=>cases rx;exact RcNeAt.int_none a t'
  |bl b=>cases rx;exact RcNeAt.int_bool a t' b
  |int b=>obtain⟨t,rfl⟩:=rx;exact RcNeAt.int_int a t' b t
  |str b=>obtain⟨t,rfl⟩:=rx;exact RcNeAt.int_str a t' b t
  |_=>cases fx
 |str a =>
  obtain⟨t',rfl⟩:=ry
  cases x with
  |non=>cases rx;exact RcNeAt.str_none a t'
  |bl b=>cases rx;exact RcNeAt.str_bool a t' b
  |int b=>obtain⟨t,rfl⟩:=rx;exact RcNeAt.str_int a t' b t
  |str b=>obtain⟨t,rfl⟩:=rx;exact RcNeAt.str_str a t' b t
  |_=>cases fx
 |_=>cases fy
open SeqAt in
theorem tops{s:Shared}{A:Around}(hok:HOk P w H s.heap)(r:Rep K ι H x d)(q:Rep K ι H y e)(rx:RelV x u)(ry:RelV y v)(p1:pur 60 d=true)(p2:pur 60 e=true)(hu:A.units+64<cLine) :
  RcAt A s u v (eqD d e)/\RcNeAt A s u v (!eqD d e):=by
 rcases a0k r p1 with⟨xs,rfl⟩|⟨f1,f2⟩
 ·cases r with
  |@tup a vs _ ha rs =>
   cases rx
   obtain⟨_,its,r1,t1⟩:=(Rd.of ha).ok hok
   rcases a0k q p2 with⟨ys,rfl⟩|⟨g1,g2⟩
   ·cases q with
    |@tup b us _ hb qs =>
     cases ry
     obtain⟨_,its2,r2,t2⟩:=(Rd.of hb).ok hok;have l1:its.toArray.size=xs.length:=by rw[aL,<-r1.length,rs.len]
     have l2:its2.toArray.size=ys.length:=by rw[aL,<-r2.length,qs.len]
     have step:∀j (h1:j<its.toArray.size) (h2:j<its2.toArray.size),EqAt A.in1 s its.toArray[j] its2.toArray[j] (pairE xs ys j):=λj h1 h2=>by
      have j1:j<xs.length:=by omega
      have j2:j<ys.length:=by omega
      obtain⟨v1,e1,q1⟩:=rs.get (ai j1);obtain⟨v2,e2,q2⟩:=qs.get (ai j2);obtain⟨u1,e3,q3⟩:=r1.get e1;obtain⟨u2,e4,q4⟩:=r2.get e2;have f1:its.toArray[j]=u1:=by simpa using (av.mp e3).2
      have f2:its2.toArray[j]=u2:=by simpa using (av.mp e4).2
      have pe:pairE xs ys j=eqD xs[j] ys[j]:=by simp[pairE,ai j1,ai j2]
      rw[f1,f2,pe];simp only[pur,bU]at p1 p2;exact atn hok 59 A.in1 q1 q2 q3 q4 (p1 _ (dN j1)) (p2 _ (dN j2)) (by rw[Around.in1_units];omega)
     have c1:=RcAt.tuples (A:=A) (s:=s) (e:=pairE xs ys) t1 t2 (by omega) step
     have c2:=RcNeAt.tuples (A:=A) (s:=s) (e:=pairE xs ys) t1 t2 (by omega) step
     rw[l1,l2,a90]at c1 c2;exact⟨c1,c2⟩
   ·have e0:eqD (.tup xs) e=false:=by cases e<;>first|rfl|(cases g2;done)
    rw[e0]
    cases y with
    |non=>cases ry;exact⟨RcAt.tuple_none t1 (by omega),RcNeAt.tuple_none t1 (by omega)⟩
    |bl b=>cases ry;exact⟨RcAt.tuple_bool b t1 (by omega),RcNeAt.tuple_bool b t1 (by omega)⟩
    |int b=>obtain⟨t,rfl⟩:=ry;exact⟨RcAt.tuple_int b t t1 (by omega),RcNeAt.tuple_int b t t1 (by omega)⟩
    |str b=>obtain⟨t,rfl⟩:=ry;exact⟨RcAt.tuple_str b t t1 (by omega),RcNeAt.tuple_str b t t1 (by omega)⟩
    |_=>cases g1
 ·rcases a0k q p2 with⟨ys,rfl⟩|⟨g1,g2⟩
  ·cases q with
   |@tup b us _ hb qs =>
    cases ry
    obtain⟨_,its2,r2,t2⟩:=(Rd.of hb).ok hok;have e0:eqD d (.tup ys)=false:=by cases d<;>first|rfl|(cases f2;done)
    rw[e0]
    cases x with
    |non=>cases rx;exact⟨RcAt.none_tuple t2 (by omega),RcNeAt.none_tuple t2 (by omega)⟩
    |bl b=>cases rx;exact⟨RcAt.bool_tuple b t2 (by omega),RcNeAt.bool_tuple b t2 (by omega)⟩
    |int b=>obtain⟨t,rfl⟩:=rx;exact⟨RcAt.int_tuple b t t2 (by omega),RcNeAt.int_tuple b t t2 (by omega)⟩
    |str b=>obtain⟨t,rfl⟩:=rx;exact⟨RcAt.str_tuple b t t2 (by omega),RcNeAt.str_tuple b t t2 (by omega)⟩
    |_=>cases f1
  ·rw[<-a92 r q f2 g2];exact⟨ato rx ry f1 g1,akn rx ry f1 g1⟩
def ayz(K:Fg):R2:=λx y H Q=>∃ι d e,Rep K ι H x d/\Rep K ι H y e/\pur 60 d=true/\pur 60 e=true/\Q (.bl (eqD d e)) H
def az0(K:Fg):R2:=λx y H Q=>∃ι d e,Rep K ι H x d/\Rep K ι H y e/\pur 60 d=true/\pur 60 e=true/\Q (.bl (!eqD d e)) H
theorem adq{X:Cx}(hu:X.A.units+64<cLine):OpR X (compareOp .Eq) (ayz X.K):=by
 intro aA s σ H x y v u Q I rx ry h
 obtain⟨ι,d,e,r,q,p1,p2,hq⟩:=h;exact(tops (A:=X.A) I.hok r q rx ry p1 p2 hu).1 X.prog X.w X.xe _ ⟨.bl _,H,I,rfl,hq⟩
theorem a7w{X:Cx}(hu:X.A.units+64<cLine):OpR X (compareOp .NotEq) (az0 X.K):=by
 intro aA s σ H x y v u Q I rx ry h
 obtain⟨ι,d,e,r,q,p1,p2,hq⟩:=h;exact(tops (A:=X.A) I.hok r q rx ry p1 p2 hu).2 X.prog X.w X.xe _ ⟨.bl _,H,I,rfl,hq⟩
def hEq(x y:D)(h:Hd):R D:=if pur 60 x=true/\pur 60 y=true then .ok (.bl (eqD x y)) h else .no
def hNe(x y:D)(h:Hd):R D:=if pur 60 x=true/\pur 60 y=true then .ok (.bl (!eqD x y)) h else .no
theorem a93:a3m K hEq (ayz K):=by
 intro E ι H h x y dx dy Q rx ry hr o
 unfold hEq at o
 split at o
 ·rename_i hc;exact⟨ι,dx,dy,rx,ry,hc.1,hc.2,ans o (.bl _) hr⟩
 ·exact o.elim
theorem a4o:a3m K hNe (az0 K):=by
 intro E ι H h x y dx dy Q rx ry hr o
 unfold hNe at o
 split at o
 ·rename_i hc;exact⟨ι,dx,dy,rx,ry,hc.1,hc.2,ans o (.bl _) hr⟩
 ·exact o.elim
end
section
variable{X:Cx}{E:XD}{K:Fg}
def apd:SE:=λ_ h=>.ok (.ref h.length) (h++[.dK []])
def yz:D->D->Hd->R D
 |.int i,.int j,h=>.ok (.int (i+j)) h
 |.str x,.str y,h=>if x.length+y.length<=LINE then .ok (.str (x++y)) h else .no
 |_,_,_=>.no
theorem a07:a3m K yz (λx y H Q=>rI0 (λi j=>.int (i+j)) x y H Q\/∃i j,x=.str i/\y=.str j/\i.length+j.length<=sizeLine/\Q (.str (i++j)) H):=by
 intro E ι H h x y dx dy Q rx ry hr o
 cases rx with
 |int i =>
  cases ry with
  |int j=>exact .inl ⟨i,j,rfl,rfl,ans o (.int _) hr⟩
  |_=>exact o.elim
 |str i =>
  cases ry with
  |str j =>
   by_cases hc:i.length+j.length<=LINE
   ·simp only[yz,aN hc]at o;exact .inr ⟨i,j,rfl,rfl,ll hc,ans o (.str _) hr⟩
   ·simp only[yz,bp hc]at o;exact o.elim
  |_=>exact o.elim
 |_=>exact o.elim
theorem an6:bootBuiltins "max" = some (.builtin "max"):=by first|exact PySem.boot_max|exact PyProof.Rows.boot_max
theorem ahj:bootBuiltins "sum" = some (.builtin "sum"):=by first|exact PySem.boot_sum|exact PyProof.Rows.boot_sum
theorem a5n(h1:MG X E e g)(h2:MGs X E es ks)(hs:(assignEach (e::es) X.env).map (·.2)=assign e X.env::(assignEach es X.env).map (·.2):=by rfl):MGs X E (e::es) (a1t g ks) :=
 PGs.weak (a8j h1 h2 hs) λvs σ H Q q=>akf q
end
end MI
namespace ZP
open PySem.Builtin PySem.Builtin.SmallTypes
section
variable{prog:Program}{w:World}{A:Around}{E:Value->Shared->Prop}{s:Shared}
theorem ape{α:Type}{Q:α->Shared->Prop}(hh:A.handled=none)(q:∀h' e,(∀b o,s.heap.get? b=some o->h'.get? b=some o)->(∃o,h'.get? e=some o/\o.cls=.type "StopIteration")->E (.ref e) {s with heap:=h' }) :
  wpAny (model prog w) A (stopIteration:Sem α) Q E s:=by
 have none_first:firstArgMember (.type "StopIteration") []=pure Value.none:=by first|rfl|(simp only[firstArgMember];rfl)
 rw[stopIteration]
 apply af
 rw[newExc,newTuple]
 apply af
 apply cA _ (by size_fits)
 rw[none_first,pure_bind]
 apply cA _ (by size_fits)
 apply wpAny_raiseNew_none hh
 exact q _ _ (λb o z=>aw _ (aw _ z)) ⟨_,aT _ rfl,rfl⟩
theorem ako(hi:s.heap.IsTupleIter it t i)(ht:s.heap.IsTuple t aC)(hx:aC[i]? = some x)
  (q:∀h',h'.IsTupleIter it t (i+1)->Heap.SameBut it s.heap h'->Q x {s with heap:=h' }):wpAny (model prog w) A (nextOf (.ref it)) Q E s:=by
 have ty:=hi.typeIs;obtain⟨o,e1,e2,e3⟩:=id hi;obtain⟨p,f1,f2,n,f3⟩:=ht;rw[nextOf]
 apply af
 apply cL (name:=Str.ofString "__next__") ty dJ
 apply cG dJ ty fX _ (fR _)
 change wpAny (model prog w) A.in1 (field (.ref it) 0>>=_) _ _ _
 apply af;apply fE e1 e3 (x:=.ref t) rfl
 change wpAny (model prog w) A.in1 (field (.ref it) 1>>=_) _ _ _
 apply af;apply fE e1 e3 (x:=.int i 0) rfl
 change wpAny (model prog w) A.in1 (seqItems? (.ref t)>>=_) _ _ _
 apply af;apply wpAny_seqItems f1 f3
 dsimp only;rw[dC,hx]
 apply af
 obtain⟨c,dd,dt,sl⟩:=o;simp only at e2 e3;subst e2 e3
 apply wpAny_setField e1 rfl (eC 1)
 apply ax
 exact⟨x,rfl,ax (q _ ⟨_,cY _ e1 rfl,rfl,rfl⟩ (cR ..))⟩
theorem apf{it t:Addr}{i:Nat}{aC:Array Value}{Q:Value->Shared->Prop}(hh:A.handled=none)(hi:s.heap.IsTupleIter it t i)(ht:s.heap.IsTuple t aC)(hx:aC[i]? = none)
  (q:∀h' e,Heap.ExtBut it s.heap h'->(∃o,h'.get? e=some o/\o.cls=.type "StopIteration")->E (.ref e) {s with heap:=h' }):wpAny (model prog w) A (nextOf (.ref it)) Q E s:=by
 have ty:=hi.typeIs;obtain⟨o,e1,e2,e3⟩:=id hi;obtain⟨p,f1,f2,n,f3⟩:=ht;rw[nextOf]
 apply af
 apply cL (name:=Str.ofString "__next__") ty dJ
 apply cG dJ ty fX _ (fR _)
 change wpAny (model prog w) A.in1 (field (.ref it) 0>>=_) _ _ _
 apply af;apply fE e1 e3 (x:=.ref t) rfl
 change wpAny (model prog w) A.in1 (field (.ref it) 1>>=_) _ _ _
 apply af;apply fE e1 e3 (x:=.int i 0) rfl
 change wpAny (model prog w) A.in1 (seqItems? (.ref t)>>=_) _ _ _
 apply af;apply wpAny_seqItems f1 f3
 dsimp only;rw[dC,hx];dsimp only;obtain⟨c,dd,dt,sl⟩:=o;simp only at e2 e3;subst e2 e3
 apply af;apply eW
 apply af;apply wpAny_setField e1 rfl (eI 1)
 apply ape (show A.in1.handled=none from hh)
 exact λh' e k z=>q h' e (λb o nb eb=>k b o ((cR ..).extBut b o nb eb)) z
theorem ahk{A:Around}(hh:A.handled=none)(it t:Addr)(ne:t≠it)(aC:Array Value):Draws prog w A it [it,t] aC.size (λi v=>aC[i]? = some v) (λi h=>h.IsTupleIter it t i/\h.IsTuple t aC) where
 live:=λ_ _ st=>let ⟨o,e,_⟩:=st.1; ⟨o,e⟩
 frame:=λ_ _ _ st k=>⟨let ⟨o,e,r⟩:=st.1; ⟨o,k it (by simp) o e,r⟩,let ⟨o,e,r⟩:=st.2; ⟨o,k t (by simp) o e,r⟩⟩
 item:=λi s Q E hi st q=>ako st.1 st.2 (bW hi) λh' a b=>q _ h' s.toks (bW hi) ⟨a,st.2.extBut b.extBut ne⟩ b
 done:=λs Q E st q=>apf hh st.1 st.2 (by simp) q
end
end ZP
namespace ZP
open PySem.Builtin PySem.Builtin.SmallTypes L2
inductive Srk where
 |tup (a:Addr)|lst (a:Addr)|str (x:Str)
def Srk.v:Srk->V
 |.tup a=>.ref a
 |.lst a=>.ref a
 |.str x=>.str x
def its(H:Hp):Srk->Option (List V)
 |.tup a=>match H a with|some (.tup vs)=>some vs|_=>none
 |.lst a=>match H a with|some (.lst vs)=>some vs|some (.frz _ (.lst vs))=>some vs|_=>none
 |.str x=>some (a1i x)
def own(it:Addr)(t:Tok):Srk->Nat->Heap->Prop
 |.tup a,i,h=>h.IsTupleIter it a i
 |.lst a,i,h=>h.IsListIter it a i
 |.str x,i,h=>h.IsStrIter it (strIterType x) x t i
def iob(t:Tok):Srk->Obj
 |.tup a=>{cls:=.type "tuple_iterator",data:=.fields #[.ref a,.int 0 0]}
 |.lst a=>{cls:=.type "list_iterator",data:=.fields #[.ref a,.int 0 0]}
 |.str x=>{cls:=.type (strIterType x),data:=.fields #[.str x t,.int 0 0]}
def val(t:Tok):Srk->Value
 |.tup a=>.ref a
 |.lst a=>.ref a
 |.str x=>.str x t
def cont(h:Heap):Srk->List Value->Prop
 |.tup a,us=>h.IsTuple a us.toArray
 |.lst a,us=>h.IsList a us.toArray
 |.str x,us=>True
theorem b0d{h:Heap}(e:h.get? it=some (iob t k)):own it t k 0 h:=by
 cases k with
 |tup a=>exact⟨_,e,rfl,rfl⟩
 |lst a=>exact⟨_,e,rfl,rfl⟩
 |str x=>exact⟨_,e,rfl,rfl⟩
theorem ahl(o:own it t k i h):∃ob,h.get? it=some ob/\∀v,ob.data≠.cell v:=by
 cases k with
 |tup a=>obtain⟨ob,e,_,d⟩:=o;exact⟨ob,e,λv z=>by rw[d]at z;cases z⟩
 |lst a=>obtain⟨ob,e,_,d⟩:=o;exact⟨ob,e,λv z=>by rw[d]at z;cases z⟩
 |str x=>obtain⟨ob,e,_,d⟩:=o;exact⟨ob,e,λv z=>by rw[d]at z;cases z⟩
theorem adt{h':Heap}(o:own it t k i h)(kk:∀ob,h.get? it=some ob->h'.get? it=some ob):own it t k i h':=by
 cases k with
 |tup a=>obtain⟨ob,e,r⟩:=o;exact⟨ob,kk _ e,r⟩
 |lst a=>obtain⟨ob,e,r⟩:=o;exact⟨ob,kk _ e,r⟩
 |str x=>obtain⟨ob,e,r⟩:=o;exact⟨ob,kk _ e,r⟩
section
variable{P:Program}{w:World}{H:Hp}{s:Shared}
theorem acd(I:Inv X aA σ H s)(e:its H k=some xs):∃us,cont s.heap k us/\((∀x,k≠.str x)->Vals xs us):=by
 cases k with
 |tup a =>
  cases q:H a with
  |none=>simp[its,q]at e
  |some o =>
   cases o with
   |tup vs =>
    simp[its,q]at e;subst e
    obtain⟨us,r,t,_⟩:=I.tuple (SqT.of q);exact⟨us,t,λ_=>r⟩
   |_=>simp[its,q]at e
 |lst a =>
  cases q:H a with
  |none=>simp[its,q]at e
  |some o =>
   cases o with
   |lst vs =>
    simp[its,q]at e;subst e
    obtain⟨us,r,t,_⟩:=I.list (SqL.of q);exact⟨us,t.isList,λ_=>r⟩
   |frz ob u =>
    cases u with
    |lst vs =>
     simp[its,q]at e;subst e
     obtain⟨us,r,t,_⟩:=I.list (.inl (.inr ⟨_,q⟩));exact⟨us,t.isList,λ_=>r⟩
    |_=>simp[its,q]at e
   |_=>simp[its,q]at e
 |str x=>exact⟨[],True.intro,λn=>absurd rfl (n x)⟩
theorem ahm(I:Inv X aA σ H s)(e:its H k=some xs)(hn:H it=none) :
  ∃(cs:List Addr) (P1:Nat->Value->Prop) (S1:Nat->Heap->Prop),(∀A:Around,A.handled=none->Draws X.prog X.w A it (it::cs) xs.length P1 S1)/\(∀i,own it t k i s.heap->S1 i s.heap)/\(∀i h,S1 i h->own it t k i h)/\(∀c∈cs,H c≠none) /\
   ∀i v,P1 i v->∃x,xs[i]? = some x/\RelV x v:=by
 cases k with
 |tup a =>
  obtain⟨us,c,r⟩:=acd I e;have r:=r (by intro x z;cases z)
  have ha:H a≠none:=λz=>by simp[its,z]at e
  have l:us.toArray.size=xs.length:=by rw[aL,r.length]
  refine⟨[a],λi v=>us.toArray[i]? = some v,λi h=>h.IsTupleIter it a i/\h.IsTuple a us.toArray,λA hA=>?_,λi o=>⟨o,c⟩,λi h z=>z.1,λc hc=>by rw[aI.mp hc];exact ha,λi v z=>?_⟩
  ·have:=ahk (prog:=X.prog) (w:=X.w) hA it a (λy=>ha (y ▸ hn)) us.toArray
   rw[l]at this;exact this
  ·have z':us[i]? = some v:=by simpa using z
   have hi:i<xs.length:=by rw[r.length];exact(av.mp z').1
   obtain⟨u,e1,e2⟩:=r.get (ai hi);rw[z']at e1;cases e1
   exact⟨_,ai hi,e2⟩
 |lst a =>
  obtain⟨us,c,r⟩:=acd I e;have r:=r (by intro x z;cases z)
  have ha:H a≠none:=λz=>by simp[its,z]at e
  have l:us.toArray.size=xs.length:=by rw[aL,r.length]
  refine⟨[a],λi v=>us.toArray[i]? = some v,λi h=>h.IsListIter it a i/\h.IsList a us.toArray,λA hA=>?_,λi o=>⟨o,c⟩,λi h z=>z.1,λc hc=>by rw[aI.mp hc];exact ha,λi v z=>?_⟩
  ·have:=Draws.list (prog:=X.prog) (w:=X.w) hA it a (λy=>ha (y ▸ hn)) us.toArray
   rw[l]at this;exact this
  ·have z':us[i]? = some v:=by simpa using z
   have hi:i<xs.length:=by rw[r.length];exact(av.mp z').1
   obtain⟨u,e1,e2⟩:=r.get (ai hi);rw[z']at e1;cases e1
   exact⟨_,ai hi,e2⟩
 |str x =>
  cases e
  have l:(a1i x).length=x.cps.size:=by simp[a1i]
  refine⟨[],λi v=>∃c u,x.cps[i]? = some c/\v=.str ⟨#[c]⟩ u,λi h=>h.IsStrIter it (strIterType x) x t i,λA hA=>?_,λi o=>o,λi h z=>z,λc hc=>(by cases hc),λi v z=>?_⟩
  ·rw[l]
   cases ha:x.cps.all (· < 128)
   ·have:=Draws.strWide (prog:=X.prog) (w:=X.w) hA it x t
    simpa[strIterType,ha] using this
   ·have:=Draws.strAscii (prog:=X.prog) (w:=X.w) hA it x t
    simpa[strIterType,ha] using this
  ·obtain⟨c,u,e1,rfl⟩:=z;exact⟨.str ⟨#[c]⟩,by simp[a1i,e1],⟨_,rfl⟩⟩
end
theorem ahn{X:Cx}{aA:List (Addr×Obj)}{σ:St}{H:Hp}{s:Shared}{h':Heap}{t':Nat}{ch:List Addr}(I:Inv X aA σ H s)(hf:∀b∈ch,FpOk X aA H b)(k:∀b o,b∉ch->s.heap.get? b=some o->h'.get? b=some o) :
  Inv X aA σ H {s with heap:=h',toks:=t' }:=by
 have nit:∀b u,H b=some u->b∉ch:=λb u e z=>by rw[(hf b z).1]at e;cases e
 refine I.step (g':=s.gens) (d':=s.drawn) (ch:=ch) (λb hb=>?_) (λb o _ _ hc e _=>k b o hc e) (λb o _ _ hc e _=>⟨o.slots,k b o hc e⟩) (λ_ _ _ _ n=>n) (λb o hc e=>⟨o,k b o hc e⟩) (λ_ _ e=>e) (λ_ _ _ e=>e)
  (λb ps e=>⟨#[],by rw[e];simp⟩) (λm hm=>?_) (λb u e=>?_) I.bare
 ·obtain⟨_,f1,_,f3,f4,f5⟩:=hf b hb;exact⟨f3,f1,f4,f5⟩
 ·obtain⟨o,es,ep,ho,r⟩:=hm;exact⟨o,es,ep,k _ o (λz=>(hf _ z).2.1 rfl) ho,r⟩
 ·refine(I.hok b u e).stay (λc v hc q=>k c v ?_ q) (λ_ q=>q) λ_ _ q=>q
  rcases hc with z|z
  ·rw[z];exact nit b u e
  ·exact nit c _ z
theorem a94{s:Shared}(c:cont s.heap k us)(q:Q (.ref s.heap.objs.size) {s with heap:=s.heap.push (iob t k)}) :
  wpAny (model prog w) A (pyIter (val t k)) Q E s:=by
 cases k with
 |tup a=>exact gu c q
 |lst a=>exact gL c q
 |str x=>exact wpAny_pyIter_strU q
section
variable{X:Cx}{elts:List Expr}{x1:Nat}{tpos:Pos}
theorem atp{k:Srk}(r:RelV k.v u):∃t,u=val t k:=by
 cases k with
 |tup a=>cases r;exact⟨0,rfl⟩
 |lst a=>cases r;exact⟨0,rfl⟩
 |str x=>obtain⟨t,rfl⟩:=r;exact⟨t,rfl⟩
end
end ZP
namespace MI
open L2 ZP
def srcOf(d:D)(h:Hd):Option (List D×(Hd->Prop)):=match d with
 |.tup xs=>some (xs,λ_=>True)
 |.rol xs=>some (xs,λ_=>True)
 |.str x=>some (a1u x,λ_=>True)
 |.ref i=>(match h[i]? with|some (.lst xs)=>some (xs,λh=>h[i]? = some (.lst xs))|_=>none)
 |_=>none
def axv(x y:D)(h:Hd):R Itm:=match srcOf x h,srcOf y h with
 |some (xs,c1),some (ys,c2)=>.ok ⟨(xs.zip ys).map λp=>.tup [p.1,p.2],λh=>c1 h/\c2 h⟩ h
 |_,_=>.no
def az1(f g:SE):SI:=λτ h=>(f τ h).bind λx h1=>(g τ h1).bind λy h2=>axv x y h2
theorem atq(r:Rep K ι H v d)(hr:HRep K ι H h)(e:srcOf d h=some (xs,ck)) :
  ∃k:Srk,v=k.v/\ck h/\∀ι' H' h',Gr ι H ι' H'->HRep K ι' H' h'->ck h'->∃vs,its H' k=some vs/\Reps K ι' H' vs xs:=by
 cases r with
 |@tup a vs ys ha rs =>
  cases e
  exact⟨.tup a,rfl,True.intro,λι' H' h' g _ _=>⟨vs,by simp[its,g.tup _ _ ha],rs.mono g⟩⟩
 |@rol a vs ys ha rs =>
  cases e
  refine⟨.lst a,rfl,True.intro,λι' H' h' g _ _=>⟨vs,?_,rs.mono g⟩⟩;obtain⟨o,q⟩:=ha.mono g;simp[its,q]
 |str x =>
  cases e
  exact⟨.str x,rfl,True.intro,λι' H' h' g _ _=>⟨_,rfl,a7v x⟩⟩
 |@ref a i ha =>
  obtain⟨ob,e1,e2⟩:=hr.at ha
  cases ob with
  |lst zs =>
   simp only[srcOf,e1]at e;cases e
   refine⟨.lst a,rfl,e1,λι' H' h' g hr' c=>?_⟩;obtain⟨us,q1,q2⟩:=hr'.obj i a _ (g.at ha) c;exact⟨us,by simp[its,q1],q2⟩
  |dK _=>simp only[srcOf,e1]at e;cases e
  |dT _=>simp only[srcOf,e1]at e;cases e
  |ins _ _=>simp only[srcOf,e1]at e;cases e
 |_=>cases e
end MI
namespace MI
open L2
section
variable{P:Program}{w:World}{K:Fg}{mg:Str->Option Value}{base:Heap}
theorem a95:FnOk P w K mg base CX0 k f fd ps (ph K ps.length λ_ _=>.no) :=
 ⟨λvs H Q E h=>h.1,λA outer s H args us vs Q E hr he hb hv hs=>by obtain⟨_,ι,ds,h,_,_,o⟩:=hs;exact o.elim⟩
end
def FrzOf(L:List Addr)(H H2:Hp):Prop:=∀a,(a∉L->H2 a=H a)/\(a∈L->∃o u,H a=some u/\H2 a=some (.frz o u))
def afe(H:Hp)(L:List Addr):Prop:=∀a∈L,(∃xs,H a=some (.lst xs))\/(∃kvs,H a=some (.dK kvs))\/(∃kvs,H a=some (.dT kvs))\/∃C dx fs,H a=some (.ins C dx fs)
def still:HO->Prop
 |.lst _=>False|.dK _=>False|.dT _=>False|.ins _ _ _=>False
 |_=>True
theorem FrzOf.still(f:FrzOf L H H2)(ab:afe H L)(e:H a=some u)(st:MI.still u):H2 a=some u:=by
 rw[(f a).1 λz=>?_]
 ·exact e
 ·rcases ab a z with⟨_,q⟩|⟨_,q⟩|⟨_,q⟩|⟨_,_,_,q⟩<;>(rw[e]at q;cases q;exact st)
theorem Inv.frz{X:Cx}{aA:List (Addr×Obj)}{σ:St}{H:Hp}{s:Shared}{L:List Addr}(I:Inv X aA σ H s)(ab:afe H L):∃H2,FrzOf L H H2/\Inv X aA σ H2 s:=by
 have obj:∀a∈L,∀u,H a=some u->∃o,s.heap.get? a=some o:=λa ha u e=>by
  rcases ab a ha with⟨_,q⟩|⟨_,q⟩|⟨_,q⟩|⟨_,_,_,q⟩
  ·obtain⟨_,_,_,_,z⟩:=I.hok a _ q;exact⟨_,z⟩
  ·obtain⟨_,_,_,_,z⟩:=I.hok a _ q;obtain⟨o,_,_,z,_⟩:=z;exact⟨o,z⟩
  ·obtain⟨_,_,_,_,o,_,_,z,_⟩:=I.hok a _ q;exact⟨o,z⟩
  ·obtain⟨_,_,_,z,_⟩:=I.hok a _ q;exact⟨_,z⟩
 let H2:Hp:=λa=>if a∈L then (match s.heap.get? a,H a with|some o,some u=>some (.frz o u)|_,w=>w) else H a
 have f:FrzOf L H H2:=λa=>⟨λh=>by simp[H2,h],λh=>by
  obtain⟨u,e⟩:∃u,H a=some u:=by
   rcases ab a h with⟨_,q⟩|⟨_,q⟩|⟨_,q⟩|⟨_,_,_,q⟩<;>exact⟨_,q⟩
  obtain⟨o,eo⟩:=obj a h u e;exact⟨o,u,e,by simp[H2,h,e,eo]⟩⟩
 refine⟨H2,f,?_⟩;have mv:∀a u,ObjOk X.prog X.w H s.heap a u->ObjOk X.prog X.w H2 s.heap a u:=λa u x=>x.stay (λb v _ q=>q) (λc q=>f.still ab q True.intro) λc xs q=>f.still ab q True.intro;have ok:HOk X.prog X.w H2 s.heap:=λa u e=>by
  by_cases hl:a∈L
  ·obtain⟨u0,e0⟩:∃u,H a=some u:=by
    rcases ab a hl with⟨_,q⟩|⟨_,q⟩|⟨_,q⟩|⟨_,_,_,q⟩<;>exact⟨_,q⟩
   obtain⟨o,eo⟩:=obj a hl u0 e0;have e':H2 a=some (.frz o u0):=by simp[H2,hl,e0,eo]
   rw[e']at e;cases e
   exact⟨eo,mv a u0 (I.hok a u0 e0)⟩
  ·rw[(f a).1 hl]at e;exact mv a u (I.hok a u e)
 have fn:∀b,H b=none->H2 b=none:=λb n=>by
  rw[(f b).1 λz=>?_]
  ·exact n
  ·rcases ab b z with⟨_,q⟩|⟨_,q⟩|⟨_,q⟩|⟨_,_,_,q⟩<;>(rw[n]at q;cases q)
 have un:Un X.fs [] H H2 s.heap s.heap:=⟨λb o q _ _ _=>q,λb o q _ _ _=>⟨o.slots,q⟩,λb o _ n _=>fn b n,λb o q _=>⟨o,q⟩,λb xs q=>f.still ab q True.intro,λb o u q=>f.still ab q True.intro,λb ps q=>⟨#[],by rw[f.still ab q True.intro];simp⟩⟩
 exact I.un (t':=s.toks) un ok
theorem aho(h:PE X e t):PE X e (λσ H Q=>t σ H λv H1=>∃L,afe H1 L/\∀H2,FrzOf L H1 H2->Q v H2):=λaA s σ H Q I q =>
 thn (h aA s σ H _ I q) λu s' ⟨v,H1,I1,r,L,ab,k⟩=>let ⟨H2,f,I2⟩:=Inv.frz I1 ab; ⟨v,H2,I2,r,k H2 f⟩
def a0r{α β:Type}(f:α->Option β):List α->Option (List β)
 |[]=>some []
 |x::xs=>match f x,a0r f xs with|some y,some ys=>some (y::ys)|_,_=>none
open Classical in
noncomputable def a1l(n:Nat)(h:Hd):Nat->D->Option D
 |0,_=>none
 |k+1,d=>if clo n d then some d else match d with
  |.tup xs=>(a0r (a1l n h k) xs).map .tup
  |.rol xs=>(a0r (a1l n h k) xs).map .rol
  |.scr xs=>(a0r (a1l n h k) xs).map .scr
  |.rod ks xs=>(a0r (a1l n h k) xs).map (.rod ks)
  |.rdT ks xs=>(a0r (a1l n h k) xs).map (.rdT ks)
  |.ins c ks xs=>(a0r (a1l n h k) xs).map (.ins c ks)
  |.ref i=>match h[i]? with
   |some (.lst xs)=>(a0r (a1l n h k) xs).map .rol
   |some (.dK kvs)=>(a0r (a1l n h k) (kvs.map (·.2))).map (.rod (kvs.map (·.1)))
   |some (.dT kvs)=>(a0r (a1l n h k) (kvs.map (·.2))).map (.rdT (kvs.map (·.1)))
   |some (.ins c kvs)=>(a0r (a1l n h k) (kvs.map (·.2))).map (.ins c (kvs.map (·.1)))
   |none=>none
  |_=>none
open Classical in
noncomputable def atr(n:Nat)(h:Hd)(k:Nat)(o:O):Option O:=if vg n o then some o else match o with
 |.lst xs=>(a0r (a1l n h k) xs).map .lst
 |.dK kvs=>(a0r (a1l n h k) (kvs.map (·.2))).map λys=>.dK ((kvs.map (·.1)).zip ys)
 |.dT kvs=>(a0r (a1l n h k) (kvs.map (·.2))).map λys=>.dT ((kvs.map (·.1)).zip ys)
 |.ins c kvs=>(a0r (a1l n h k) (kvs.map (·.2))).map λys=>.ins c ((kvs.map (·.1)).zip ys)
abbrev FU:Nat:=20
noncomputable def a7x(n:Nat):R D->R D
 |.ok d h1=>match a1l n h1 FU d,a0r (atr n h1 FU) (h1.take n) with|some d',some g=>.ok d' g|_,_=>.no
 |_=>.no
open Classical in
noncomputable def arh(n:Nat):R D->R D
 | .ok (.ref i) h1=>(match h1[i]? with
   |some o=>if n<=i/\vg n o/\∀u∈h1.take n,vg n u then .ok (.ref n) (h1.take n++[o]) else .no
   |none=>.no)
 |_=>.no
section
variable{K:Fg}{ι ι':List Addr}{H H' H2:Hp}{h1:Hd}{n:Nat}{L:List Addr}
theorem adu(f:FrzOf L H' H2)(ab:afe H' L)(κ:List Addr):Gw κ H' κ H2:=⟨⟨[],by simp⟩,λa vs e=>f.still ab e True.intro,λa o u e=>f.still ab e True.intro⟩
theorem lw(ih:∀{v d d'},Rep K ι H v d->f d=some d'->Rep K κ H2 v d'):∀{vs:List V} {ds ds':List D},Reps K ι H vs ds->a0r f ds=some ds'->Reps K κ H2 vs ds'
 |_,_,_,.nil,e=>by cases e;exact .nil
 |_,x::xs,_,.cons r rs,e=>by
  unfold a0r at e
  split at e
  ·rename_i y ys h1 h2;cases e
   exact .cons (ih r h1) (lw ih rs h2)
  ·cases e
theorem a6m(hr:HRep K ι' H' h1)(hL:∀(i:Nat) a,ι'[i]? = some a->n<=i->a∈L)(f:FrzOf L H' H2)(ab:afe H' L):∀(k:Nat) {v:V} {d d':D},Rep K ι' H' v d->a1l n h1 k d=some d'->Rep K (ι'.take n) H2 v d':=by
 intro k
 induction k with
 |zero=>intro v d d' r e;cases e
 |succ k ih =>
  intro v d d' r e
  unfold a1l at e
  split at e
  ·rename_i c;cases e
   exact(r.cut c).monoW (adu f ab _)
  ·rename_i c
   cases r with
   |tup h rs =>
    simp only[aW]at e;obtain⟨ys,e1,rfl⟩:=e;exact .tup (f.still ab h True.intro) (lw (λr e=>ih r e) rs e1)
   |rol h rs =>
    simp only[aW]at e;obtain⟨ys,e1,rfl⟩:=e;exact .rol (h.monoW (adu f ab ι')) (lw (λr e=>ih r e) rs e1)
   |scr h rs =>
    simp only[aW]at e;obtain⟨ys,e1,rfl⟩:=e;exact .scr (h.monoW (adu f ab ι')) (lw (λr e=>ih r e) rs e1)
   |rod h ek rs =>
    simp only[aW]at e;obtain⟨ys,e1,rfl⟩:=e;exact .rod (f.still ab h True.intro) ek (lw (λr e=>ih r e) rs e1)
   |rdT h ek rs =>
    simp only[aW]at e;obtain⟨ys,e1,rfl⟩:=e;exact .rdT (f.still ab h True.intro) ek (lw (λr e=>ih r e) rs e1)
   |@ref a i ha =>
    have hi:n<=i:=by
     simp only[clo]at c;omega
    obtain⟨o,u,e1,e2⟩:=(f a).2 (hL i a ha hi);obtain⟨ob,h3,h4⟩:=hr.at ha;simp only[h3]at e
    cases ob with
    |lst xs =>
     simp only[aW]at e;obtain⟨ys,e3,rfl⟩:=e;obtain⟨vs,h5,h6⟩:=h4;rw[e1]at h5;cases h5
     exact .rol ⟨o,e2⟩ (lw (λr e=>ih r e) h6 e3)
    |dK kvs =>
     simp only[aW]at e;obtain⟨ys,e3,rfl⟩:=e;obtain⟨us,h5,h6,h7⟩:=h4;rw[e1]at h5;cases h5
     exact .rod e2 h6 (lw (λr e=>ih r e) h7 e3)
    |dT kvs =>
     simp only[aW]at e;obtain⟨ys,e3,rfl⟩:=e;obtain⟨us,h5,h6,h7⟩:=h4;rw[e1]at h5;cases h5
     exact .rdT e2 h6 (lw (λr e=>ih r e) h7 e3)
    |ins c kvs =>
     simp only[aW]at e;obtain⟨ys,e3,rfl⟩:=e;obtain⟨C,dx,us,h5,hn,h6,h7⟩:=h4;rw[e1]at h5;cases h5
     exact .ins e2 hn h6 (lw (λr e=>ih r e) h7 e3)
   |non=>simp only[clo,dY]at c
   |exc _ _ _=>simp only[clo,dY]at c
   |ins h hn ek rs =>
    simp only[aW]at e;obtain⟨ys,e1,rfl⟩:=e;exact .ins (f.still ab h True.intro) hn ek (lw (λr e=>ih r e) rs e1)
   |bl b=>simp only[clo,dY]at c
   |int b=>simp only[clo,dY]at c
   |str b=>simp only[clo,dY]at c
   |ty b=>simp only[clo,dY]at c
theorem a5o{κ:Type}{H:Hp}{us:List (κ×V)}{ks:List κ}{ys:List D}(e:us.map (·.1)=ks)(r:Reps K ι H (us.map (·.2)) ys):KRep K ι H us (ks.zip ys):=by
 have l:ks.length=ys.length:=by rw[<-e,ah,<-r.len,ah]
 refine⟨?_,?_⟩
 ·rw[List.map_fst_zip (by omega)];exact e
 ·rw[List.map_snd_zip (by omega)];exact r
theorem apg(hr:HRep K ι' H' h1)(hL:∀(i:Nat) a,ι'[i]? = some a->n<=i->a∈L)(f:FrzOf L H' H2)(ab:afe H' L){k:Nat}(na:a∉L)(r:ORep K ι' H' a o)(e:atr n h1 k o=some o'):ORep K (ι'.take n) H2 a o':=by
 have same:H2 a=H' a:=(f a).1 na;unfold atr at e
 split at e
 ·rename_i c;cases e
  exact(r.cut c).monoW (adu f ab _) same
 ·cases o with
  |lst xs =>
   simp only[aW]at e;obtain⟨ys,e1,rfl⟩:=e;obtain⟨vs,h3,h4⟩:=r;exact⟨vs,by rw[same];exact h3,lw (λr e=>a6m hr hL f ab k r e) h4 e1⟩
  |dK kvs =>
   simp only[aW]at e;obtain⟨ys,e1,rfl⟩:=e;obtain⟨us,h3,h4,h5⟩:=r;exact⟨us,by rw[same];exact h3,a5o h4 (lw (λr e=>a6m hr hL f ab k r e) h5 e1)⟩
  |dT kvs =>
   simp only[aW]at e;obtain⟨ys,e1,rfl⟩:=e;obtain⟨us,h3,h4,h5⟩:=r;exact⟨us,by rw[same];exact h3,a5o h4 (lw (λr e=>a6m hr hL f ab k r e) h5 e1)⟩
  |ins c kvs =>
   simp only[aW]at e;obtain⟨ys,e1,rfl⟩:=e;obtain⟨C,dx,us,h3,hn,h4,h5⟩:=r;exact⟨C,dx,us,by rw[same];exact h3,hn,a5o h4 (lw (λr e=>a6m hr hL f ab k r e) h5 e1)⟩
theorem a2o{α β:Type}{f:α->Option β}:∀{xs:List α} {ys:List β},a0r f xs=some ys->xs.length=ys.length/\∀(i:Nat) y,ys[i]? = some y->∃x,xs[i]? = some x/\f x=some y
 |[],_,e=>by cases e;exact⟨rfl,λi y e=>by simp at e⟩
 |x::xs,ys,e=>by
  unfold a0r at e
  split at e
  ·rename_i y ys h1 h2;cases e
   obtain⟨l,g⟩:=a2o h2;refine⟨by simp[l],λi z e=>?_⟩
   cases i with
   |zero=>simp at e;subst e;exact⟨x,rfl,h1⟩
   |succ i=>simpa using g i z (by simpa using e)
  ·cases e
theorem ahp(hr:HRep K ι' H' h1)(M:List Addr)(hM:∀a∈M,a∈ι'):afe H' M:=λa ha=>by
 obtain⟨i,hi⟩:=bY (hM a ha);obtain⟨o,_,q⟩:=hr.at hi
 cases o with
 |lst xs=>obtain⟨vs,h,_⟩:=q;exact .inl ⟨_,h⟩
 |dK xs=>obtain⟨vs,h,_⟩:=q;exact .inr (.inl ⟨_,h⟩)
 |dT xs=>obtain⟨vs,h,_⟩:=q;exact .inr (.inr (.inl ⟨_,h⟩))
 |ins _ _=>obtain⟨C,dx,vs,h,_⟩:=q;exact .inr (.inr (.inr ⟨_,_,_,h⟩))
theorem a6n{α:Type}{l:List α}(nd:l.Nodup){i j:Nat}{a:α}(h1:l[i]? = some a)(h2:l[j]? = some a):i=j:=by
 obtain⟨l1,e1⟩:=av.mp h1;obtain⟨l2,e2⟩:=av.mp h2
 rcases Nat.lt_trichotomy i j with l|l|l
 ·exact absurd (e1.trans e2.symm) (cF.mp nd i j l1 l2 l)
 ·exact l
 ·exact absurd (e2.trans e1.symm) (cF.mp nd j i l2 l1 l)
theorem atu(g:Gr ι H ι' H')(f:FrzOf L H' H2)(ab:afe H' L)(hL:∀a∈L,H a=none)(hm:∀a∈m,H a=none):Gr ι H (ι++m) H2:=by
 refine⟨⟨m,rfl,hm⟩,λa vs e=>f.still ab (g.tup a vs e) True.intro,λa o u e=>f.still ab (g.frz a o u e) True.intro,λa u e hn=>?_,λa u e=>?_⟩
 ·rw[(f a).1 λz=>by rw[hL a z]at e;cases e]
  exact g.oth a u e hn
 ·obtain⟨u',e'⟩:=g.kp a u e;rw[(f a).1 λz=>by rw[hL a z]at e;cases e]
  exact⟨u',e'⟩
theorem ahq{d d':D}{v:V}{g':Hd}(g:Gr ι H ι' H')(rb:Rep K ι' H' v d)(hr:HRep K ι' H' h1)(e:a7x ι.length (.ok d h1)=.ok d' g') :
  ∃L,afe H' L/\∀H2,FrzOf L H' H2->Gr ι H ι H2/\Rep K ι H2 v d'/\HRep K ι H2 g':=by
 obtain⟨m,rfl,hm⟩:=g.pre;have tk:(ι++m).take ι.length=ι:=by simp
 have ab:afe H' m:=ahp hr m λa ha=>aQ _ ha;have hL:∀(i:Nat) a,(ι++m)[i]? = some a->ι.length<=i->a∈m:=λi a e hi=>by
  rw[aP hi]at e;exact bM e
 refine⟨m,ab,λH2 f=>?_⟩;unfold a7x at e;simp only at e
 split at e
 ·rename_i dd gg e1 e2;cases e
  refine⟨by simpa using atu g f ab hm (m:=[]) (by simp),by have:=a6m hr hL f ab FU rb e1;rwa[tk]at this,?_⟩
  obtain⟨l,gt⟩:=a2o e2;have hl:=hr.len;have ln:ι.length<=h1.length:=by rw[<-hl];simp
  refine⟨(bS.mp hr.nd).1,by rw[<-l,bb];omega,λi a o q1 q2=>?_⟩
  obtain⟨x,hx,fx⟩:=gt i o q2;have hi:i<ι.length:=(av.mp q1).1;rw[fk,aN hi]at hx;have q3:(ι++m)[i]? = some a:=by rw[aZ hi];exact q1
  have na:a∉m:=λz=>(bS.mp hr.nd).2.2 a (bM q1) a z rfl;have:=apg hr hL f ab na (hr.obj i a x q3 hx) fx
  rwa[tk]at this
 ·cases e
theorem akp(g:Gr ι H ι' H')(rb:Rep K ι' H' v d)(hr:HRep K ι' H' h1)(e:arh ι.length (.ok d h1)=.ok d' g') :
  ∃b,H b=none/\Gr ι H (ι++[b]) H'/\Rep K (ι++[b]) H' v d'/\HRep K (ι++[b]) H' g':=by
 obtain⟨m,rfl,hm⟩:=g.pre;have tk:(ι++m).take ι.length=ι:=by simp
 have up:∀b,Gw ι H' (ι++[b]) H':=λb=>⟨⟨[b],rfl⟩,λ_ _ h=>h,λ_ _ _ h=>h⟩
 cases rb with
 |@ref b i hb =>
  unfold arh at e;simp only at e
  split at e
  ·rename_i ob ho
   split at e
   ·rename_i hc;obtain⟨hi,c1,c2⟩:=hc;cases e
    have hb':=hb;rw[aP hi]at hb';have bm:b∈m:=bM hb';obtain⟨nd1,nd2,nd3⟩:=bS.mp hr.nd;have hl:=hr.len;have ln:ι.length<=h1.length:=by rw[<-hl];simp
    have lt:(h1.take ι.length).length=ι.length:=by rw[bb];omega
    refine⟨b,hm b bm,⟨⟨[b],rfl,by simpa using hm b bm⟩,g.tup,g.frz,g.oth,g.kp⟩,.ref (by simp),?_⟩
    refine⟨bS.mpr ⟨nd1,by simp,λa ha c hc z=>nd3 a ha c (by rw[aI.mp hc];exact bm) z⟩,by simp[lt],λj a o q1 q2=>?_⟩
    by_cases hj:j<ι.length
    ·rw[aZ hj]at q1;rw[aZ (by omega)]at q2
     have q2':=q2;rw[fk,aN hj]at q2';have:=(hr.obj j a o (by rw[aZ hj];exact q1) q2').cut (c2 o (bM q2))
     rw[tk]at this;exact this.monoW (up b) rfl
    ·have hj2:j<(ι++[b]).length:=(av.mp q1).1;have:j=ι.length:=by simp at hj2;omega
     subst this;rw[aP (ay _)]at q1;rw[aP (by omega),lt]at q2
     simp at q1 q2
     subst q1 q2;have:=(hr.obj i b ob hb ho).cut c1;rw[tk]at this;exact this.monoW (up b) rfl
   ·cases e
  ·cases e
 |_=>cases e
end
noncomputable def sZ(f:SE):SE:=λτ h=>a7x h.length (f τ h)
abbrev b0e(Q:VK):VK:=λv H1=>∃L,afe H1 L/\∀H2,FrzOf L H1 H2->Q v H2
theorem axw(q:lift K E (a04 K) (sZ fa) σ H Q):lift K E (a04 K) fa σ H (b0e Q):=by
 obtain⟨ι,τ,h,S,Rh,o⟩:=q;refine⟨ι,τ,h,S,Rh,?_⟩;unfold sZ at o;rw[<-Rh.len]at o
 cases hf:fa τ h with
 |ok d h1 =>
  rw[hf]at o
  intro ι' H' v g r hr
  cases hz:a7x ι.length (.ok d h1) with
  |ok d' g' =>
   rw[hz]at o;obtain⟨L,ab,k⟩:=ahq g r hr hz;refine⟨L,ab,λH2 f=>?_⟩;obtain⟨k1,k2,k3⟩:=k H2 f;exact o ι H2 v k1 k2 k3
  |ex c hx=>unfold a7x at hz;simp only at hz;split at hz<;>cases hz
  |no=>rw[hz]at o;exact o.elim
 |ex c h1=>rw[hf]at o;exact o.elim
 |no=>rw[hf]at o;exact o.elim
theorem zb(ha:ME X E e fa):ME X E e (sZ fa):=PE.weak (aho ha) λσ H Q q=>axw q
def refOf:D->Option Nat
 |.ref i=>some i
 |_=>none
def a0v(ds:List D):List Nat:=ds.filterMap refOf
def a0i:Nat->List D->List D
 |_,[]=>[]
 |k,d::ds=>match d with
  |.ref _=>.ref k::a0i (k+1) ds
  |d=>d::a0i k ds
def vh:Hd->List Nat->List O->Hd
 |h,i::is,o::os=>vh (h.set i o) is os
 |h,_,_=>h
def isRef(d:D):Prop:=∃i,d=.ref i
open Classical in
noncomputable def aph(m:Bool)(F:SF)(ds:List D)(h:Hd):R D:=match a0r (λi=>h[i]?) (a0v ds) with
 |none=>.no
 | some os=>if (a0v ds).Nodup/\(∀d∈ds,clo 0 d\/isRef d)/\(∀o∈os,vg 0 o) then
   (match (if m then arh os.length (F (a0i 0 ds) os) else a7x os.length (F (a0i 0 ds) os)) with
   | .ok d h1=>if ∀o∈h1,vg 0 o then
     (if m then .ok (.ref h.length) (vh h (a0v ds) h1++h1.drop os.length)
      else if clo 0 d then .ok d (vh h (a0v ds) h1) else .no) else .no
   |_=>.no)
  else .no
noncomputable def jh(m:Bool)(n:Nat)(F:SF):SF:=λds h=>if ds.length=n then aph m F ds h else .no
section
variable{K:Fg}{ι ι':List Addr}{H H' H2:Hp}{h h1:Hd}{n:Nat}
theorem an7(κ:List Addr):Gw [] H κ H:=⟨⟨κ,rfl⟩,λ_ _ h=>h,λ_ _ _ h=>h⟩
theorem Rep.any(r:Rep K ι H v d)(c:MI.clo 0 d)(κ:List Addr):Rep K κ H v d:=by
 have:=r.cut c
 rw[i7]at this;exact this.monoW (an7 κ)
theorem ORep.any(r:ORep K ι H a o)(c:vg 0 o)(κ:List Addr):ORep K κ H a o:=by
 have:=r.cut c
 rw[i7]at this;exact this.monoW (an7 κ) rfl
theorem aas{α:Type}(l:List α):∀{is:List Nat},(∀i∈is,i<l.length)->∃ys,a0r (λi=>l[i]?) is=some ys
 |[],_=>⟨[],rfl⟩
 |i::is,hi=>by
  obtain⟨ys,e⟩:=aas l (is:=is) λj hj=>hi j (aY _ hj);have:=hi i bE;exact⟨l[i]::ys,by unfold a0r;rw[e,ai this]⟩
theorem a4p:∀{ds:List D} {vs:List V} {pre κ:List Addr},Reps K ι H vs ds->(∀d∈ds,clo 0 d\/isRef d)->a0r (λi=>ι[i]?) (a0v ds)=some κ->Reps K (pre++κ) H vs (a0i pre.length ds)
 |[],_,_,_,.nil,_,_=>.nil
 |d::ds,_,pre,κ,.cons r rs,hc,e=>by
  have hc':∀d∈ds,clo 0 d\/isRef d:=λx hx=>hc x (aY _ hx)
  by_cases hd:isRef d
  ·obtain⟨i,rfl⟩:=hd;have e':a0r (λi=>ι[i]?) (i::a0v ds)=some κ:=e;unfold a0r at e'
   split at e'
   ·rename_i a κ' h1 h2
    cases e'
    cases r with
    |ref ha =>
     rw[ha]at h1;cases h1
     have:=a4p (pre:=pre++[a]) rs hc' h2
     simp only[cJ,List.singleton_append,ae,aM]at this;refine .cons (.ref ?_) this;rw[aP (ay _)];simp
   ·cases e'
  ·have c:=(hc d bE).resolve_right hd;have e1:a0v (d::ds)=a0v ds:=by
    unfold a0v
    cases d<;>first|rfl|exact absurd ⟨_,rfl⟩ hd
   have e2:a0i pre.length (d::ds)=d::a0i pre.length ds:=by
    cases d<;>first|rfl|exact absurd ⟨_,rfl⟩ hd
   rw[e1]at e;rw[e2];exact .cons (r.any c _) (a4p rs hc' e)
theorem a0l:∀{is:List Nat} {os:List O} {h:Hd},(vh h is os).length=h.length
 |[],_,_=>by simp[vh]
 |_::_,[],_=>by simp[vh]
 |i::is,o::os,h=>by rw[vh,a0l,hX]
theorem a4q:∀{is:List Nat} {os:List O} {h:Hd},i∉is->(vh h is os)[i]? = h[i]?
 |[],_,_,_=>by simp[vh]
 |_::_,[],_,_=>by simp[vh]
 |j::is,o::os,h,n=>by
  rw[vh,a4q λz=>n (aY _ z),dW λz=>n (by rw[z];exact bE)]
theorem aat:∀{is:List Nat} {os:List O} {h:Hd} {j:Nat},is.Nodup->is[j]? = some i->os[j]? = some o->i<h.length->(vh h is os)[i]? = some o
 |[],_,_,_,_,e,_,_=>by simp at e
 |_::_,[],_,_,_,_,e,_=>by simp at e
 |k::is,o'::os,h,j,nd,e1,e2,hl=>by
  cases j with
  |zero =>
   simp at e1 e2
   subst e1 e2;rw[vh,a4q (eG.mp nd).1,cE hl]
  |succ j =>
   rw[vh];exact aat (j:=j) (eG.mp nd).2 (by simpa using e1) (by simpa using e2) (by simpa using hl)
theorem aau{α:Type}{l:List α}(nl:l.Nodup){is:List Nat}{ys:List α}(e:a0r (λi=>l[i]?) is=some ys)(ni:is.Nodup):ys.Nodup:=by
 obtain⟨le,g⟩:=a2o e;refine cF.mpr λi j hi hj lt z=>?_;obtain⟨x,h1,h2⟩:=g i _ (ai hi);obtain⟨y,h3,h4⟩:=g j _ (ai hj);rw[<-z]at h4;have:=a6n nl h2 h4;subst this;have:=a6n ni h1 h3;omega
theorem adv{is:List Nat}{κ m:List Addr}{g:Hd}(hr:HRep K ι H h)(e1:a0r (λi=>ι[i]?) is=some κ)(nd:is.Nodup)(gr:Gr κ H (κ++m) H2)(hg:HRep K (κ++m) H2 g)(cg:∀o∈g,vg 0 o)(hm:m.length<=1) :
  Gr ι H (ι++m) H2/\HRep K (ι++m) H2 (vh h is g++g.drop κ.length):=by
 obtain⟨l1,g1⟩:=a2o e1;have mn:∀a∈m,H a=none:=by
  obtain⟨m',e,hm'⟩:=gr.pre;rw[List.append_cancel_left e];exact hm'
 have sub:∀a∈κ,a∈ι:=λa ha=>by
  obtain⟨j,hj⟩:=bY ha;obtain⟨i,_,q⟩:=g1 j a hj;exact bM q
 have some_of:∀a∈ι,∃u,H a=some u:=λa ha=>by
  obtain⟨i,hi⟩:=bY ha;obtain⟨o,_,q⟩:=hr.at hi;obtain⟨u,q,_⟩:=q.some;exact⟨u,q⟩
 have G:Gr ι H (ι++m) H2:=⟨⟨m,rfl,mn⟩,gr.tup,gr.frz,λa u e n=>gr.oth a u e λz=>n (sub a z),gr.kp⟩;have lg:=hg.len;rw[ae]at lg;refine⟨G,?_,?_,λj a o q1 q2=>?_⟩
 ·refine bS.mpr ⟨hr.nd,(bS.mp hg.nd).2.1,λa ha b hb z=>?_⟩;obtain⟨u,q⟩:=some_of a ha;rw[z,mn b hb]at q;cases q
 ·rw[ae,ae,a0l,bq,hr.len];omega
 ·by_cases hj:j<ι.length
  ·rw[aZ hj]at q1;rw[aZ (by rw[a0l,<-hr.len];exact hj)]at q2
   by_cases hp:j∈is
   ·obtain⟨k,hk⟩:=bY hp;have hkl:k<κ.length:=by rw[<-l1];exact(av.mp hk).1
    obtain⟨i,h3,h4⟩:=g1 k _ (ai hkl);rw[hk]at h3;cases h3
    rw[q1]at h4;have hkg:k<g.length:=by omega
    have e5:=aat (h:=h) nd hk (ai hkg) (by rw[<-hr.len];exact hj)
    rw[e5]at q2;cases q2
    have ea:(κ++m)[k]? = some a:=by rw[aZ hkl,ai hkl];exact h4.symm
    exact(hg.obj k a _ ea (ai hkg)).any (cg _ (dN hkg)) _
   ·rw[a4q hp]at q2;have r:=hr.obj j a o q1 q2;obtain⟨u,hu,_⟩:=r.some;have na:a∉κ:=λz=>by
     obtain⟨k,hk⟩:=bY z;obtain⟨i,h3,h4⟩:=g1 k a hk;have:=a6n hr.nd q1 h4;subst this;exact hp (bM h3)
    exact r.mono G (by rw[hu];exact gr.oth a u hu na)
  ·have q1':=q1;rw[aP (by omega)]at q1
   rw[aP (by rw[a0l,<-hr.len];omega),a0l,<-hr.len,gA]at q2
   have ea:(κ++m)[κ.length+(j-ι.length)]? = some a:=by rw[aP (by omega)];simpa using q1
   exact(hg.obj _ a o ea q2).any (cg o (bM q2)) _
theorem ahr{m:Bool}{F:SF}{vs:List V}{ds:List D}{Q:VK}(r:Reps K ι H vs ds)(hr:HRep K ι H h)(o:out K X0 (a04 K) ι H (jh m n F ds h) Q)(E:XK) :
  ph K n F vs H (λv H1=>∃L,afe H1 L/\∀H2,FrzOf L H1 H2->Q v H2) E:=by
 unfold jh at o
 split at o
 ·rename_i hl;refine⟨by rw[r.len];exact hl,?_⟩
  unfold aph at o
  split at o
  ·exact o.elim
  ·rename_i os hos
   split at o
   ·rename_i hc;obtain⟨nd,hd,hcl⟩:=hc;obtain⟨l0,g0⟩:=a2o hos;obtain⟨κ,e1⟩:=aas ι (is:=a0v ds) λi hi=>by
     obtain⟨j,hj⟩:=bY hi;have hjl:j<os.length:=by rw[<-l0];exact(av.mp hj).1
     obtain⟨x,h3,h4⟩:=g0 j _ (ai hjl);rw[hj]at h3;cases h3
     rw[hr.len];exact(av.mp h4).1
    obtain⟨l1,g1⟩:=a2o e1;have lk:κ.length=os.length:=by omega
    have R0:Reps K κ H vs (a0i 0 ds):=by simpa using a4p (pre:=[]) r hd e1
    have H0:HRep K κ H os:=by
     refine⟨aau hr.nd e1 nd,lk,λj a ob q1 q2=>?_⟩;obtain⟨i,h3,h4⟩:=g1 j a q1;obtain⟨i',h5,h6⟩:=g0 j ob q2;rw[h3]at h5;cases h5
     exact(hr.obj i a ob h4 h6).any (hcl ob (bM q2)) _
    refine⟨κ,a0i 0 ds,os,R0,H0,?_⟩
    cases hF:F (a0i 0 ds) os with
    |no=>rw[hF]at o;cases m<;>exact o.elim
    |ex c hx=>rw[hF]at o;cases m<;>exact o.elim
    |ok d h1 =>
     rw[hF]at o
     intro ι' H' v g rb hr1
     rw[<-lk]at o
     cases m with
     |false =>
      simp only[cD,eY]at o
      cases hz:a7x κ.length (.ok d h1) with
      |ok d' g' =>
       rw[hz]at o;simp only at o;obtain⟨L,ab,k⟩:=ahq g rb hr1 hz;refine⟨L,ab,λH2 f=>?_⟩;obtain⟨k1,k2,k3⟩:=k H2 f
       split at o
       ·rename_i cg
        split at o
        ·rename_i cd;have q:=adv (m:=[]) hr e1 nd (by simpa using k1) (by simpa using k3) cg (by simp)
         have lg:=k3.len;have dr:g'.drop κ.length=[]:=c6 (by omega)
         rw[dr,bP,bP]at q;exact o ι H2 v q.1 (k2.any cd _) q.2
        ·exact o.elim
       ·exact o.elim
      |ex c hx=>rw[hz]at o;exact o.elim
      |no=>rw[hz]at o;exact o.elim
     |true =>
      simp only[dI]at o
      cases hz:arh κ.length (.ok d h1) with
      |ok d' g' =>
       rw[hz]at o;simp only at o;obtain⟨b,hb,k1,k2,k3⟩:=akp g rb hr1 hz;refine⟨[],λa ha=>(by simp at ha),λH2 f=>?_⟩
       have e2:H2=H':=by funext a;exact(f a).1 (by simp)
       subst e2
       split at o
       ·rename_i cg;have q:=adv (m:=[b]) hr e1 nd k1 k3 cg (by simp)
        refine o (ι++[b]) H2 v q.1 ?_ q.2;have hd':d'=.ref κ.length:=by
         unfold arh at hz
         split at hz
         ·rename_i i h2 hh
          injection hh with z1 z2
          split at hz
          ·split at hz
           ·injection hz with z3 z4;exact z3.symm
           ·cases hz
          ·cases hz
         ·cases hz
        subst hd'
        cases k2 with
        |ref hk =>
         rw[aP (ay _)]at hk;simp at hk;subst hk;exact .ref (by rw[<-hr.len];simp)
       ·exact o.elim
      |ex c hx=>rw[hz]at o;exact o.elim
      |no=>rw[hz]at o;exact o.elim
   ·exact o.elim
 ·exact o.elim
end
theorem adw(m:Bool){X:Cx}(G:Dn X.prog X.w X.K X.mg X.base k x ps (ph X.K n F) f fd)(hr:Room k X.A)(hg:Gl X x)(ha:MA X X0 (e::es) ka)
  (hdb:(x == ("__debug__" : Str))=false:=by decide) (he:starEach (e::es) X.env=(false,eval e X.env)::starEach es X.env:=by rfl) (hpl:(backTo pos (starEach es X.env)).any (·.1)=false:=by rfl):ME X X0 (.Call (.Name x p) (e::es) [] pos) (sA (jh m n F) ka):=by
 refine PE.weak (aho (aok G.ok hr hg G.m G.kp G.b .nil aov ha hdb he hpl)) ?_
 rintro σ H Q ⟨ι,τ,h,S,Rh,o⟩
 refine⟨ι,τ,h,S,Rh,dz o λds h1 ι1 H1 vs g1 r1 hr1 o1=>?_⟩;rw[bP];exact ahr r1 hr1 o1 _
theorem ahs(m:Bool){X:Cx}(G:Dn X.prog X.w X.K X.mg X.base k x ps (ph X.K n F) f fd)(hr:Room k X.A)(hg:Gl X x)(hdb:(x == ("__debug__" : Str))=false:=by decide) :
  ME X X0 (.Call (.Name x p) [] [] pos) (sA (jh m n F) cu):=by
 refine PE.weak (aho (ak6 G.ok hr hg G.m G.kp G.b .nil aov hdb)) ?_
 rintro σ H Q ⟨ι,τ,h,S,Rh,o⟩
 exact ahr (vs:=[]) .nil Rh o E0
def atv:SS:=λ_ _=>.no
section
variable{X:Cx}{E:XD}
theorem aht:MSs X E st atv:=λ_ _ _ _ _ _ ⟨_,_,_,_,_,o⟩=>o.elim
end
theorem an8(h:PS X st t):PS X st (λD σ H=>t {D with nx:=λσ' H1=>∃L,afe H1 L/\∀H2,FrzOf L H1 H2->D.nx σ' H2} σ H):=λaA s σ H D I q =>
 thn (h aA s σ H _ I q) λf s' k=>by
  cases f with
  |next =>
   obtain⟨σ',H1,I1,L,ab,k⟩:=k;obtain⟨H2,f,I2⟩:=Inv.frz I1 ab;exact⟨σ',H2,I2,k H2 f⟩
  |brk=>exact k
  |cont=>exact k
  |ret u=>exact k
theorem an9(q:a8u K E (m7 i f) N σ H):lift K E (a04 K) f σ H (λv H1=>N.nx (σ.set i (some v)) H1):=by
 obtain⟨ι,τ,h,S,Rh,o⟩:=q;exact⟨ι,τ,h,S,Rh,vq o λd h1 ι1 H1 v g1 r1 hr1 o1=>o1 ι1 H1 _ (.refl _ _) ((S.mono g1).set r1 i) hr1⟩
theorem api(ht:amz K n g t)(q:lift K E (a04 K) (a1v fi t fe ix) σ H Q):ah0 (lift K E (ap2 K) fi) (qx n ix) g (lift K E (a04 K) fe) σ H Q:=by
 obtain⟨ι,τ,h,Sr,Rh,o⟩:=q;refine⟨ι,τ,h,Sr,Rh,dz o λit h1 ι1 H1 J g1 r1 hr1 o1=>?_⟩
 by_cases hl:it.xs.length<=LINE
 ·rw[aN hl]at o1;exact adl r1 ht (a5l (Sr.mono g1) ix) hr1 hl o1
 ·rw[bp hl]at o1;exact o1.elim
section
variable{X:Cx}{E:XD}{aD tg aF cnd:Expr}{aB:Scope}{pos spos pos':Pos}{cl:List (Str×Addr)}{ts fr:List Str}{ix:List Nat}{fi:SI}{g:TG}{t:D->Option Sd}{fe:SE}{fc:ST}{i:Nat}{x:Str}
theorem akq(hN:X.N.Nodup)(hi':X.N[i]? = some x)(hx:Loc X.env.scope x)(hc:X.calm=true)(S:CSc X aB cl ts fr ix)(hi:MI X E tg aF fi)(hg:∀C fp s H,PG (cxC X (ts++fr) aB cl C fp s H) tg g)(ht:amz X.K ts.length g t)(he:∀C fp s H,ME (cxC X (ts++fr) aB cl C fp s H) E aD fe)
  (hs:∀x,foldedSetIterable aF X.env x=pure x:=by intro _;rfl) (hsw:swapsWith (.ListComp aD [⟨tg,aF,[],0⟩] aB pos) (some (.Name x pos')) spos.line X.env=pure true:=by rfl) (hf:Hf X x:=by first|exact .inl rfl|exact .inr rfl|assumption) :
  MS X E (.Assign [.Name x pos'] (.ListComp aD [⟨tg,aF,[],0⟩] aB pos) spos) (m7 i (sZ (a1v fi t fe ix))) :=
 PS.weak (an8 (akc (te:=lift X.K E (a04 X.K) fe) hN hi' hx hc S hi hg he hs hsw hf)) λN σ H q=>api ht (axw (an9 q))
end
theorem a1j(Fu:Fun K x qual st f fd)(S:FnScope N ps (cz st))
  (hb:∀(cdv:Value) (A:Around) (outer:List Env) (s:Shared) (H:Hp) (E:XK),Room k (A.deeper (PyProof.Rows.envOfC qual (cz st) s.heap.objs.size f cdv))->MSs (agq CX0 P w K mg base N qual (cz st) f cdv A outer s H E).nox X0 (vo st) b) :
  FnOk P w K mg base CX0 (k+1) f fd ps (ph K ps.length (nq b N.length)):=atf Fu S hb λds h _ _ _=>Rf.same rfl
end MI
namespace MI
open L2 HT
theorem afg{s:Shared}(ht:PyProof.Rows.IsTup s.heap t aC)(hs:s.heap.IsSliceOf sl vl vu .none)(pl:IsPart vl lo)(pu:IsPart vu hi)
  (hw:HT.sIx aC.size 0 lo=0/\HT.sIx aC.size aC.size hi=aC.size) (h:Q (.ref t) s):wpAny (model prog w) A (getItem (.ref t) (.ref sl)) Q E s:=by
 obtain⟨os,f1,f2,f3⟩:=id hs;have ty:s.TypeIs (.ref sl) "slice":=⟨os,f1,f2⟩;have tt:s.TypeIs (.ref t) "tuple":=ht.typeIs;rw[getItem]
 try apply cK
 first|(apply af;apply ax)|skip
 apply af;apply wpAny_sequenceKey tt (by decide)
 apply af
 apply cL (name:=Str.ofString "__getitem__") tt bR
 apply cG bR tt PyProof.Rows.entry_tuple_getitem _ (PyProof.Rows.args_tuple_getitem _ _)
 change wpAny (model prog w) A.in1 (Builtin.Tuple.tupleItemsOf (.ref t)>>=_) _ _ s
 apply af;apply PyProof.Rows.tupleItemsOf_ ht
 apply af;apply fI ty
 rw[aN (by decide)]
 apply af;apply HT.a1h hs pl pu
 rw[hw.1,hw.2];dsimp only;rw[aN (by simp)]
 apply af
 rw[Builtin.Tuple.tupleIsExact]
 apply af;apply fI tt
 apply ax
 rw[aN (by decide)]
 apply af;apply eW
 apply ax
 exact⟨_,rfl,ax h⟩
def az2(K:Fg):V->Option Int->Option Int->Hp->VK->Prop:=λx lo hi H Q=>∃a xs,x=.ref a/\SqT K H a xs/\whole xs.length lo hi/\Q (.ref a) H
theorem akr:SlR X (az2 X.K):=by
 intro aA s σ H x v vl vu lo hi sl Q I rx hs pl pu h
 obtain⟨a,xs,rfl,hx,hw,q⟩:=h;cases rx
 obtain⟨its,r,ht,hz⟩:=I.tuple hx;have aH:its.toArray.size=xs.length:=by rw[aL];exact r.length.symm
 exact⟨"tuple",_,bR.lookup,ht.typeIs,afg ht hs pl pu (by rw[aH];exact hw) ⟨.ref a,H,I,rfl,q⟩⟩
def ace(d:D)(lo hi:Option Int)(h:Hd):R D:=match d with
 |.tup xs=>if whole xs.length lo hi then .ok (.tup xs) h else .ok (.tup (a69 xs lo hi)) h
 |d=>gSl d lo hi h
def a5a(f:SE)(l u:SO):SE:=λτ h=>(f τ h).bind λd h1=>(l τ h1).bind λlo h2=>(u τ h2).bind λhi h3=>ace d lo hi h3
theorem apj(rx:Rep K ι H x d)(hr:HRep K ι H h)(o:out K E (a04 K) ι H (ace d lo hi h) Q):(axn x lo hi H Q\/axj K x lo hi H Q\/axl K x lo hi H Q)\/az2 K x lo hi H Q:=by
 cases rx with
 |@tup p vs xs hp r =>
  by_cases hc:whole xs.length lo hi
  ·simp only[ace,aN hc]at o;exact .inr ⟨p,vs,rfl,SqT.of hp,by rw[r.len];exact hc,ans o (.tup hp r) hr⟩
  ·simp only[ace,bp hc]at o;exact .inl (.inr (.inl ⟨p,vs,rfl,SqT.of hp,by rw[r.len];exact hc,a0s (a3s r lo hi) hr o⟩))
 |non=>exact o.elim
 |bl _=>exact o.elim
 |int _=>exact o.elim
 |ty _=>exact o.elim
 |str z=>exact .inl (ado (.str z) hr o)
 |rol a b=>exact .inl (ado (.rol a b) hr o)
 |scr a b=>exact .inl (ado (.scr a b) hr o)
 |rod a b c=>exact o.elim
 |rdT a b c=>exact o.elim
 |exc a b c=>exact o.elim
 |ins _ _ _ _=>exact o.elim
 |ref a=>exact .inl (ado (.ref a) hr o)
theorem qe(he:ME X E e fa)(hl:MO X E lo l)(hu:MO X E hi u):ME X E (.Subscript e (.Slice lo hi none p2) pos) (a5a fa l u):=by
 refine PE.weak (ak9 ((at4.or (asq.or aot)).or akr) he hl hu) ?_
 rintro σ H Q ⟨ι,τ,h,S,Rh,o⟩
 refine⟨ι,τ,h,S,Rh,dz o λd h1 ι1 H1 v g1 r1 hr1 o1=>?_⟩;refine⟨ι1,τ,h1,S.mono g1,hr1,dz o1 λlo h2 ι2 H2 lv g2 r2 hr2 o2=>?_⟩;refine⟨ι2,τ,h2,(S.mono g1).mono g2,hr2,dz o2 λhi h3 ι3 H3 hv g3 r3 hr3 o3=>?_⟩
 cases r2;cases r3
 exact apj ((r1.mono g2).mono g3) hr3 o3
end MI
namespace TPM
open PySem.W L2 HT MI
theorem yo:fillsNumberSlot (.type "tuple") "mul" = pure false :=
 fillsNumberSlot_seq (id := "tuple.__mul__") (r:=some (.builtin "tuple.__rmul__")) eR.lookup (by decide +kernel) F.slot_tuple_rmul.lookup (by decide +kernel)
theorem ahu(t:Addr)(aC:Array Value)(n:Nat)(dd:Option Addr)(sl:Array (Option Value))(x:Int)(u:Tok)(h0:aC.isEmpty=false)(h2:2<=x)(h3:x<2^63)(hz:aC.size*x.toNat<=sizeLine) :
  Meets (Builtin.«tuple.__mul__» ⟨[.ref t,.int x u],[]⟩) (λ_ R s=>s.heap.get? t=some {cls:=.type "tuple",dict:=dd,data:=.seq aC n,slots:=sl}/\R (.ok (.ret (.ref s.heap.objs.size))) {s with heap:=s.heap.push {cls:=.type "tuple",data:=.seq (List.foldl (λx1 x2=>x1++x2) #[] (List.replicate x.toNat aC))} }) :=
 .of_wp λprog w A R s h=>by
  obtain⟨hp,g,d,tk,os⟩:=s;obtain⟨hl,h⟩:=h;have c1:¬ (decide (x < -2^63) || decide (x≥2^63))=true:=by
   rw[br,dD,dD];omega
  have c2:¬ (aC.isEmpty || x == 1)=true:=by
   rw[h0,Bool.false_or];simp;omega
  have c3:¬ (decide (x<=0) || aC.isEmpty)=true:=by
   rw[h0,Bool.or_false,dD];omega
  have ex:((aC.size:Nat):Int)*x=((aC.size*x.toNat:Nat):Int):=by
   rw[i5,Int.toNat_of_nonneg (by omega)]
  have sl':(sizeLine:Nat)<=(2^63-1) / 8:=by decide
  have c4:¬ (aC.size:Int)*x > (2^63-1) / 8:=by rw[ex];omega
  have c5:¬ Builtin.Tuple.tupleTooMany ((aC.size:Int)*x)=true:=by
   rw[ex];simp only[Builtin.Tuple.tupleTooMany,dD];omega
  wp_walk
  rw[bp c1]
  wp_walk
  rw[bp c2]
  wp_walk
  rw[bp c3]
  wp_walk
  rw[bp c4]
  wp_walk
  rw[bp c5]
  wp_walk
  have fs:¬ (List.foldl (λx1 x2=>x1++x2) #[] (List.replicate x.toNat aC)).size > sizeLine:=by
   have:=foldl_rep aC.toList x.toNat []
   rw[dH,Array.toArray_toList]at this;rw[show(#[]:Array Value)=([]:List Value).toArray from rfl,this,aL,len_rep,bB,eH]
   omega
  rw[bp fs]
  wp_walk
  exact⟨_,rfl,h⟩
theorem a1w(a:Int)(t:Tok)(l:Addr)(aC:Array Value)(n:Nat)(dd:Option Addr)(sl:Array (Option Value)) :
  Meets (Builtin.«int.__rmul__» ⟨[.int a t,.ref l],[]⟩) (λ_ R s=>s.heap.get? l=some {cls:=.type "tuple",dict:=dd,data:=.seq aC n,slots:=sl}/\R (.ok (.ret Value.notImplemented)) s):=by
 refine .of_wp λprog w A R s h=>?_;obtain⟨hp,g,d,tk,os⟩:=s;obtain⟨hl,h⟩:=h
 wp_walk
 exact⟨_,rfl,h⟩
theorem a6o:seqRepeat? (.type "tuple")=pure (some (.builtin "tuple.__mul__")):=by
 unfold seqRepeat?;rw[seqSlot_of (T := "tuple") (name := "__mul__") (id := "tuple.__mul__") eR.lookup (by decide +kernel),seqSlot_of (T := "tuple") (name := "__rmul__") (id := "tuple.__rmul__") F.slot_tuple_rmul.lookup (by decide +kernel)]
 rfl
def aks(K:Fg):R2:=λx y H Q=>∃a k xs,x=.ref a/\y=.int k/\SqT K H a xs/\xs≠[]/\2<=k/\k<2^63/\xs.length*k.toNat<=sizeLine/\∀p,H p=none->Q (.ref p) (upd H p (.tup (List.replicate k.toNat xs).flatten))
theorem apk:OpR X (binaryOp .Mult) (aks X.K):=by
 intro aA s σ H x y v u Q I rx ry h
 obtain⟨a,k,xs,rfl,rfl,ha,hx,h1,h2,hz,q⟩:=h;cases rx
 obtain⟨t,rfl⟩:=ry;obtain⟨its,r1,p1,_⟩:=I.tuple ha;obtain⟨⟨cls,dd,data,sl⟩,ho,hc,n,hd⟩:=id p1;simp only at hc hd;subst hc hd;have he:its.toArray.isEmpty=false:=by
  cases its with
  |nil=>exact(hx (r1.nil_iff.mp rfl)).elim
  |cons _ _=>rfl
 have hz2:its.toArray.size*k.toNat<=sizeLine:=by rw[aL,<-r1.length];exact hz
 have hnew:List.foldl (λx1 x2=>x1++x2) #[] (List.replicate k.toNat its.toArray)=(List.replicate k.toNat its).flatten.toArray:=by
  have:=foldl_rep its k.toNat []
  rw[dH]at this;exact this
 refine cU (T := "tuple") (U := "int") (by decide) ⟨_,ho,rfl⟩ (λs'=>eF s' k t) yo fg cM a6o eP.lookup
  (cQ cM (eF s k t) eQ (eN _ _) (a1w k t a its.toArray n dd sl)
   ⟨ho,rfl,⟨_,ho,rfl⟩,cQ eR ⟨_,ho,rfl⟩ gQ (gC _ _) (ahu a its.toArray n dd sl k t he h1 h2 hz2) ⟨ho,?_⟩⟩)
 rw[hnew];refine⟨.ref s.heap.objs.size,_,I.laid (t':=s.toks) (o:=.tup (List.replicate k.toNat xs).flatten) (λb ob q=>aw _ q) (ay _) ?_,rfl,q _ (I.hok.fresh (ay _))⟩;exact⟨by rw[len_rep,eH];exact hz,_,r1.rep k.toNat,PyProof.Rows.IsTup.new _ _⟩
end TPM
namespace MI
open L2 TPM
open Classical in
noncomputable def ahv(x y:D)(h:Hd):R D:=match x,y with
 |.tup xs,.int k=>if (xs≠[]/\2<=k/\k<2^63)/\xs.length*k.toNat<=LINE then .ok (.tup (List.replicate k.toNat xs).flatten) h else .no
 |x,y=>atg x y h
theorem a96:a3m K ahv (λx y H Q=>(rI CMul (λi j=>.int (i*j)) x y H Q\/asx x y H Q)\/aks K x y H Q):=by
 intro E ι H h x y dx dy Q rx ry hr o
 cases rx with
 |@tup a vs xs ha rs =>
  cases ry with
  |int k =>
   simp only[ahv]at o
   split at o
   ·rename_i hc;refine .inr ⟨a,k,vs,rfl,rfl,SqT.of ha,λz=>?_,hc.1.2.1,hc.1.2.2,ll (by rw[rs.len];exact hc.2),a0s (rs.flat _) hr o⟩
    subst z;cases rs
    exact hc.1.1 rfl
   ·exact o.elim
  |_=>exact o.elim
 |int i=>exact .inl (ahd _ _ _ _ _ _ _ _ _ (.int i) ry hr o)
 |ref e=>exact .inl (ahd _ _ _ _ _ _ _ _ _ (.ref e) ry hr o)
 |_=>exact o.elim
end MI
namespace L2
open PyProof.Rows
theorem akt:ays X (awf X.K):=by
 intro aA s σ H o i ov iv Q I ro ri h
 obtain⟨p,xs,k,z,rfl,rfl,hq,he,q⟩:=h;cases ro
 obtain⟨t,rfl⟩:=ri;obtain⟨its,r,pl,hz⟩:=I.list hq;obtain⟨j,h1,h2,h3,h4,h5⟩:=a8p he;obtain⟨w,ew,rw'⟩:=r.get h2;have len:=r.length;have l63:=a4y;have done:EP X aA σ Q w s:=⟨z,H,I,rw',q⟩
 by_cases neg:k<0
 ·have ej:(k+(its.toArray.size:Int)).toNat=j:=by
   rw[hW neg h4]at h1;rw[aL,<-len];exact bQ h1
  exact wpAny_getItem_list_neg pl.isList neg (by rw[aL];omega) (by omega) (by rw[ej];simpa using ew) done
 ·have ej:k.toNat=j:=by
   rw[i8 (by omega) h5]at h1
   exact bQ h1
  exact wpAny_getItem_list pl.isList (by omega) (by omega) (by rw[ej];simpa using ew) done
end L2
namespace MI
open L2
def aju(x y:D)(h:Hd):R D:=match x,y with
 |.ref p,.int i=>(match h[p]? with|some (.lst xs)=>(match atI xs i with|some d=>.ok d h|none=>.no)|_=>.no)
 |_,_=>.no
theorem apl:a3m K aju (awf K):=by
 intro E ι H h x y dx dy Q rx ry hr o
 cases rx with
 |@ref p i hp =>
  cases ry with
  |int k =>
   simp only[aju]at o
   split at o
   ·rename_i xs hx;obtain⟨vs,h3,h4⟩:=hr.lst hp hx
    split at o
    ·rename_i d he;obtain⟨v,h1,h2⟩:=adn h4 he;exact⟨p,vs,k,v,rfl,rfl,SqL.of h3,h1,ans o h2 hr⟩
    ·exact o.elim
   ·exact o.elim
  |_=>exact o.elim
 |_=>exact o.elim
def a1x(g:D->D->Hd->R D)(fo fi fe:SE):SS:=λτ h=>(fo τ h).fl λo h1=>(fi τ h1).fl λi h2=>(aju o i h2).fl λx h3=>(fe τ h3).fl λy h4=>(g x y h4).fl λz h5=>match put o i z h5 with|some h6=>.nx τ h6|none=>.no
section
variable{X:Cx}{E:XD}{e o i:Expr}{fa fb fc:SE}{pos:Pos}
theorem a97(ho:ME X E o fa)(hi:ME X E i fb)(he:ME X E e fc)(hp:OpR X (inplaceOp op) r)(hs:a3m X.K gg r)
  (ha:∀ov iv new,augStore i ov iv new=(do holding [new,ov,iv] (setItem ov iv new);release [new,ov,iv] [];pure .next):=by intros;rfl):MS X E (.AugAssign (.Subscript o i tpos) op e pos) (a1x gg fa fb fc):=by
 refine PS.weak (aoc ho hi akt he hp set_list ha) ?_
 rintro N σ H ⟨ι,τ,h,S,Rh,oo⟩
 refine⟨ι,τ,h,S,Rh,vq oo λd h1 ι1 H1 v g1 r1 hr1 o1=>?_⟩;refine⟨ι1,τ,h1,S.mono g1,hr1,vq o1 λd2 h2 ι2 H2 u g2 r2 hr2 o2=>?_⟩;refine apl E ι2 H2 h2 v u d d2 _ (r1.mono g2) r2 hr2 (vq o2 λd3 h3 ι3 H3 w g3 r3 hr3 o3=>?_);have S3:=((S.mono g1).mono g2).mono g3;refine⟨ι3,τ,h3,S3,hr3,vq o3 λd4 h4 ι4 H4 y g4 r4 hr4 o4=>?_⟩;refine hs E ι4 H4 h4 w y d3 d4 _ (r3.mono g4) r4 hr4 (vq o4 λd5 h5 ι5 H5 z g5 r5 hr5 o5=>?_)
 cases hq:put d d2 d5 h5 with
 |none=>rw[hq]at o5;exact o5.elim
 |some h6 =>
  rw[hq]at o5;exact ah6 ((((r1.mono g2).mono g3).mono g4).mono g5) (((r2.mono g3).mono g4).mono g5) r5 hr5 hq λH' g6 hr6=>o5 ι5 H' σ g6 (((S3.mono g4).mono g5).mono g6) hr6
end
end MI
namespace TPM
open PySem.W L2 HT MI
theorem afh(t b:Addr)(items2:Array Value)(n n2:Nat)(dd dd2:Option Addr)(sl sl2:Array (Option Value)) :
  Meets (Builtin.«tuple.__add__» ⟨[.ref t,.ref b],[]⟩) (λ_ R s=>s.heap.get? t=some {cls:=.type "tuple",dict:=dd,data:=.seq #[] n,slots:=sl}/\s.heap.get? b=some {cls:=.type "tuple",dict:=dd2,data:=.seq items2 n2,slots:=sl2}/\R (.ok (.ret (.ref b))) s):=by
 refine .of_wp λprog w A R s h=>?_;obtain⟨hp,g,d,tk,os⟩:=s;obtain⟨hl,hb,h⟩:=h
 wp_walk
 refine eA sub_tuple_self ?_
 wp_walk
 exact⟨_,rfl,h⟩
def atw(K:Fg):R2:=λx y H Q=>∃a b ys,x=.ref a/\y=.ref b/\SqT K H a []/\SqT K H b ys/\Q (.ref b) H
theorem apm:OpR X (binaryOp .Add) (atw X.K):=by
 intro aA s σ H x y v u Q I rx ry h
 obtain⟨a,b,ys,rfl,rfl,ha,hb,q⟩:=h;cases rx
 cases ry
 obtain⟨its,r1,p1,_⟩:=I.tuple ha;obtain⟨its2,r2,p2,_⟩:=I.tuple hb;cases r1
 obtain⟨⟨cls,dd,data,sl⟩,ho,hc,n,hd⟩:=id p1;obtain⟨⟨cls2,dd2,data2,sl2⟩,ho2,hc2,n2,hd2⟩:=id p2;simp only at hc hd hc2 hd2;subst hc hd hc2 hd2;exact concat_meets ⟨_,ho,rfl⟩ ⟨_,ho2,rfl⟩ gY seq_tuple_add F.slot_tuple_add F.entry_tuple_add (F.args_tuple_add_2 _ _) (afh a b its2.toArray n n2 dd dd2 sl sl2) ⟨ho,ho2,⟨.ref b,H,I,rfl,q⟩⟩
end TPM
namespace L2
open PyProof.Rows
section
variable{X:Cx}
theorem Inv.lstR(I:Inv X aA σ H s)(hH:Rd H l (.lst xs)):xs.length<=sizeLine/\∃(its:List Value) (n:Nat),Vals xs its/\xs.length=its.length/\s.heap.get? l=some {cls:=.type "list",data:=.seq its.toArray n}:=by
 obtain⟨z,its,n,r,e⟩:=hH.ok I.hok;exact⟨z,its,n,r,r.length,e⟩
def atx:R2:=λx y H Q=>∃l b xs zs,x=.ref l/\y=.ref b/\Rd H l (.lst xs)/\Rd H b (.lst zs)/\xs.length+zs.length<=sizeLine/\∀p,H p=none->Q (.ref p) (upd H p (.lst (xs++zs)))
theorem apn:OpR X (binaryOp .Add) atx:=λaA s σ H x y v u Q I rx ry ⟨l,b,xs,zs,ex,ey,h1,h2,hz,q⟩=>by
 subst ex ey;cases rx
 cases ry
 obtain⟨_,as,_,va,la,ea⟩:=I.lstR h1;obtain⟨_,bs,_,vb,lb,eb⟩:=I.lstR h2;have app:as.toArray++bs.toArray=(as++bs).toArray:=by simp
 refine PySem.P.add_list ea eb ?_ (by simp;omega)
 rw[app];exact⟨.ref _,_,I.lnew (t':=s.toks) (va.append vb) (by simpa using hz),rfl,q _ I.fresh⟩
def aty:V->List V->Hp->VK->Prop:=λx vs H Q=>∃l b xs zs,x=.ref l/\vs=[.ref b]/\H l=some (.lst xs)/\Rd H b (.lst zs)/\xs.length+zs.length<=sizeLine/\Q .non (upd H l (.lst (xs++zs)))
theorem a2p:MtM X "list.extend" aty:=λaA s σ H x vs v us Q I rx rv ⟨l,b,xs,zs,ex,ev,h1,h2,hz,q⟩=>by
 subst ex ev;cases rx
 obtain⟨u,rfl,ru⟩:=rv.one;cases ru
 obtain⟨_,as,n,va,la,ea⟩:=I.lstM h1;obtain⟨_,bs,m,vb,lb,eb⟩:=I.lstR h2;have few:as.toArray.size+bs.toArray.size<=sizeLine:=by simp;omega
 have long:¬ (!as.toArray.isEmpty && Builtin.List.listTooLong (as.toArray.size+bs.toArray.size))=true:=by rw[a3p few,gI];exact aU
 exact cQ F.slot_list_extend ⟨_,ea,rfl⟩ F.entry_list_extend (F.args_list_extend_2 _ _) (AutoSeq1.list_extend_list_list_0 l as.toArray n b bs.toArray m long (by simp;omega) (by omega))
  ⟨ea,eb,.non,_,I.lset (its':=as++bs) h1 ea (by simp) (va.append vb) (by simpa using hz),rfl,q⟩
def atz:R2:=λx y H Q=>∃l k xs,x=.ref l/\y=.int k/\Rd H l (.lst xs) /\ -(2^63)<=k/\k<2^63/\xs.length*k.toNat<=sizeLine/\∀p,H p=none->Q (.ref p) (upd H p (.lst (List.replicate k.toNat xs).flatten))
theorem apo(its:List Value)(k:Nat):List.foldl (λx1 x2=>x1++x2) #[] (List.replicate (if its.toArray.isEmpty=true then 0 else k) its.toArray)=(List.replicate k its).flatten.toArray:=by
 have g:∀m:Nat,List.foldl (λx1 x2=>x1++x2) #[] (List.replicate m its.toArray)=(List.replicate m its).flatten.toArray:=λm=>by simpa using foldl_rep its m []
 cases its with
 |nil=>simp
 |cons a r=>rw[bp (by simp),g]
theorem apq:OpR X (binaryOp .Mult) atz:=λaA s σ H x y v u Q I rx ry ⟨l,k,xs,ex,ey,h1,k1,k2,hz,q⟩=>by
 subst ex ey;cases rx
 obtain⟨t,rfl⟩:=ry;obtain⟨_,as,n,va,la,ea⟩:=I.lstR h1;have few:as.toArray.size*k.toNat<=sizeLine:=by rw[aL,<-la];exact hz
 have top:(sizeLine:Nat)<=(2^63-1) / 8:=by decide
 refine cU (T := "list") (U := "int") (by decide) ⟨_,ea,rfl⟩ (λs'=>eF s' k t) noFill_list_mul fg cM repeat_list eP.lookup
  (cQ cM (eF s k t) eQ (eN _ _) (int___rmul___int_list k t l as.toArray n)
   ⟨ea,rfl,⟨_,ea,rfl⟩,cQ F.slot_list_mul ⟨_,ea,rfl⟩ F.entry_list_mul (F.args_list_mul_2 _ _)
    (fh l as.toArray n k t (by rw[fitsIndex_both k1 k2];exact aU) (by omega) (by rw[a3p few];exact aU)) ⟨ea,?_⟩⟩)
 rw[apo];exact⟨.ref _,_,I.lnew (t':=s.toks) (va.rep k.toNat) (by rw[len_rep,eH];exact hz),rfl,q _ I.fresh⟩
end
end L2
namespace MI
open L2 TPM
def a0m(d:D)(h:Hd):Option (List D):=match d with
 |.rol xs=>some xs
 |.ref i=>(match h[i]? with|some (.lst xs)=>some xs|_=>none)
 |_=>none
section
variable{K:Fg}{ι:List Addr}{H:Hp}{h:Hd}
theorem a3u(r:Rep K ι H x d)(hr:HRep K ι H h)(e:a0m d h=some xs):∃a vs,x=.ref a/\Rd H a (.lst vs)/\Reps K ι H vs xs:=by
 cases r with
 |@rol a vs ys hp rs=>cases e;exact⟨a,vs,rfl,.inr hp,rs⟩
 |@ref a i hp =>
  obtain⟨ob,e1,e2⟩:=hr.at hp;simp only[a0m,e1]at e
  cases ob with
  |lst ys=>cases e;obtain⟨vs,h3,h4⟩:=e2;exact⟨a,vs,rfl,.inl h3,h4⟩
  |_=>cases e
 |_=>cases e
def gk:D->D->Hd->R D
 |.int i,.int j,h=>.ok (.int (i+j)) h
 |.str x,.str y,h=>if x.length+y.length<=LINE then .ok (.str (x++y)) h else .no
 |.tup [],.tup ys,h=>.ok (.tup ys) h
 |.tup (x::xs),.tup ys,h=>if (x::xs).length+ys.length<=LINE then .ok (.tup (x::xs++ys)) h else .no
 |x,y,h=>match a0m x h,a0m y h with
  |some xs,some ys=>if xs.length+ys.length<=LINE then .ok (.ref h.length) (h++[.lst (xs++ys)]) else .no
  |_,_=>.no
theorem acf(e1:a0m x h=some xs)(e2:a0m y h=some ys):gk x y h=if xs.length+ys.length<=LINE then .ok (.ref h.length) (h++[.lst (xs++ys)]) else .no:=by
 cases x<;>first|(cases e1;done)|(cases y<;>first|(cases e2;done)|(simp only[gk,e1,e2]))
theorem apr(x y:D)(h:Hd):(∃i j,x=.int i/\y=.int j)\/(∃i j,x=.str i/\y=.str j)\/(∃xs ys,x=.tup xs/\y=.tup ys)\/(∃xs ys,a0m x h=some xs/\a0m y h=some ys)\/gk x y h=.no:=by
 cases e1:a0m x h with
 |some xs =>
  cases e2:a0m y h with
  |some ys=>exact .inr (.inr (.inr (.inl ⟨xs,ys,rfl,rfl⟩)))
  |none =>
   refine .inr (.inr (.inr (.inr ?_)))
   cases x<;>first|(cases e1;done)|(simp only[gk,e1,e2])
 |none =>
  cases x with
  |int i=>cases y<;>first|exact .inl ⟨_,_,rfl,rfl⟩|exact .inr (.inr (.inr (.inr rfl)))
  |str i=>cases y<;>first|exact .inr (.inl ⟨_,_,rfl,rfl⟩)|exact .inr (.inr (.inr (.inr rfl)))
  |tup i=>cases y<;>first|exact .inr (.inr (.inl ⟨_,_,rfl,rfl⟩))|(cases i<;>exact .inr (.inr (.inr (.inr rfl))))
  |_=>refine .inr (.inr (.inr (.inr ?_)));simp only[gk,e1]
theorem aku:a3m K gk (λx y H Q=>(rI0 (λi j=>.int (i+j)) x y H Q\/(∃i j,x=.str i/\y=.str j/\i.length+j.length<=sizeLine/\Q (.str (i++j)) H)\/asr K x y H Q\/atx x y H Q)\/atw K x y H Q):=by
 intro E ι H h x y dx dy Q rx ry hr o
 rcases apr dx dy h with⟨i,j,rfl,rfl⟩|⟨i,j,rfl,rfl⟩|⟨xs,ys,rfl,rfl⟩|⟨xs,ys,e1,e2⟩|e
 ·cases rx;cases ry
  exact .inl (.inl ⟨i,j,rfl,rfl,ans o (.int _) hr⟩)
 ·cases rx;cases ry
  simp only[gk]at o
  split at o
  ·rename_i hc;exact .inl (.inr (.inl ⟨i,j,rfl,rfl,ll hc,ans o (.str _) hr⟩))
  ·exact o.elim
 ·cases rx with
  |@tup a vs _ ha r1 =>
  cases ry with
  |@tup b us _ hb r2 =>
  cases xs with
  |nil=>cases r1;exact .inr ⟨a,b,us,rfl,rfl,SqT.of ha,SqT.of hb,ans o (.tup hb r2) hr⟩
  |cons z xs =>
   simp only[gk]at o
   split at o
   ·rename_i hc;refine .inl (.inr (.inr (.inl ⟨a,b,vs,us,rfl,rfl,SqT.of ha,SqT.of hb,λz=>(by subst z;cases r1),ll (by rw[r1.len,r2.len];exact hc),λz=>?_,λ_=>?_⟩)))
    ·subst z;cases r2
     rw[bP]at o;exact ans o (.tup ha r1) hr
    ·exact a0s (r1.app r2) hr o
   ·exact o.elim
 ·rw[acf e1 e2]at o;obtain⟨a,vs,rfl,h1,h2⟩:=a3u rx hr e1;obtain⟨b,us,rfl,h3,h4⟩:=a3u ry hr e2
  split at o
  ·rename_i hc;exact .inl (.inr (.inr (.inr ⟨a,b,vs,us,rfl,rfl,h1,h3,ll (by rw[h2.len,h4.len];exact hc),yh (h2.app h4) hr o⟩)))
  ·exact o.elim
 ·rw[e]at o;exact o.elim
theorem ig(ha:ME X E a fa)(hb:ME X E b fb):ME X E (.BinOp a .Add b pos) (s2 gk fa fb) :=
 ac1 (OpR.or (asd.or (aez.or (aor.or apn))) apm) aku ha hb
open Classical in
noncomputable def yq(x y:D)(h:Hd):R D:=match y with
 |.int k=>(match x with
  |.int i=>if CMul i k then .ok (.int (i*k)) h else .no
  |_=>match a0m x h with
   |some xs=>if (-(2^63)<=k/\k<2^63)/\xs.length*k.toNat<=LINE then .ok (.ref h.length) (h++[.lst (List.replicate k.toNat xs).flatten]) else .no
   |none=>.no)
 |_=>.no
theorem akv:a3m K yq (λx y H Q=>rI CMul (λi j=>.int (i*j)) x y H Q\/atz x y H Q):=by
 intro E ι H h x y dx dy Q rx ry hr o
 cases dy with
 |int k =>
  obtain rfl:=ahg ry
  cases hx:a0m dx h with
  |some xs =>
   obtain⟨a,vs,rfl,h1,h2⟩:=a3u rx hr hx;have o':out K E (a04 K) ι H (if (-(2^63)<=k/\k<2^63)/\xs.length*k.toNat<=LINE then .ok (.ref h.length) (h++[.lst (List.replicate k.toNat xs).flatten]) else .no) Q:=by
    cases dx<;>first|(cases hx;done)|(simp only[yq,hx]at o;exact o)
   split at o'
   ·rename_i hc;exact .inr ⟨a,k,vs,rfl,rfl,h1,hc.1.1,hc.1.2,ll (by rw[h2.len];exact hc.2),yh (h2.flat _) hr o'⟩
   ·exact o'.elim
  |none =>
   cases dx with
   |int i =>
    obtain rfl:=ahg rx
    by_cases hc:CMul i k
    ·simp only[yq,aN hc]at o;exact .inl ⟨i,k,rfl,rfl,hc,ans o (.int _) hr⟩
    ·simp only[yq,bp hc]at o;exact o.elim
   |_=>simp only[yq,hx]at o;exact o.elim
 |_=>exact o.elim
theorem a3h(ha:ME X E a fa)(hb:ME X E b fb):ME X E (.BinOp a .Mult b pos) (s2 yq fa fb):=ac1 (amm.or apq) akv ha hb
def a6p:D->List D->Hd->R D
 |.ref i,[.tup ys],h=>(match h[i]? with|some (.lst xs)=>if xs.length+ys.length<=LINE then .ok .non (h.set i (.lst (xs++ys))) else .no|_=>.no)
 |.ref i,[y],h=>(match h[i]?,a0m y h with|some (.lst xs),some ys=>if xs.length+ys.length<=LINE then .ok .non (h.set i (.lst (xs++ys))) else .no|_,_=>.no)
 |_,_,_=>.no
theorem a5p:axu K a6p (λx vs H Q=>aty x vs H Q\/adg K x vs H Q):=by
 intro E ι H h x dx xs ds Q rx r hr o
 unfold a6p at o
 split at o
 ·rename_i i ys
  cases rx with
  |@ref p _ hp =>
   cases r with
   |cons r1 rs =>
    cases rs
    cases r1 with
    |@tup b us zs hb rb =>
     split at o
     ·rename_i xs hx;obtain⟨vs,h3,h4⟩:=hr.lst hp hx
      split at o
      ·rename_i hc;exact .inr ⟨p,b,vs,us,rfl,rfl,h3,SqT.of hb,ll (by rw[h4.len,rb.len];exact hc),a8v (h4.app rb) hr hp .non o⟩
      ·exact o.elim
     ·exact o.elim
 ·rename_i i y _
  cases rx with
  |@ref p _ hp =>
   cases r with
   |cons r1 rs =>
    cases rs
    split at o
    ·rename_i xs ys hx hy;obtain⟨vs,h3,h4⟩:=hr.lst hp hx;obtain⟨b,us,rfl,h5,h6⟩:=a3u r1 hr hy
     split at o
     ·rename_i hc;exact .inl ⟨p,b,vs,us,rfl,rfl,h3,h5,ll (by rw[h4.len,h6.len];exact hc),a8v (h4.app h6) hr hp .non o⟩
     ·exact o.elim
    ·exact o.elim
 ·exact o.elim
end
end MI
namespace MI
open L2
def a5b(d:D)(h:Hd):Option (List Int):=match d with
 |.ref i=>(match h[i]? with|some (.lst xs)=>a4n xs|_=>none)
 |.rol xs=>a4n xs
 |_=>none
theorem aav(r:Rep K ι H v d)(hr:HRep K ι H h)(e:a5b d h=some ns):∃p,v=.ref p/\SqL K H p (ns.map V.int):=by
 unfold a5b at e
 split at e
 ·cases r with
  |@ref p _ hp =>
   split at e
   ·rename_i xs hx;obtain⟨vs,h3,h4⟩:=hr.lst hp hx;exact⟨p,rfl,SqL.of (by rw[h3,a2n h4 e])⟩
   ·cases e
 ·cases r with
  |@rol p vs xs hp r=>exact⟨p,rfl,by rw[<-a2n r e];exact hp.l⟩
 ·cases e
end MI
namespace L2
open PyProof.Rows
section
variable{X:Cx}
theorem a98:CallR X (.builtin "sorted") (λxs H Q=>∃(p:Addr) (ns:List Int),xs=[.ref p]/\SqL X.K H p (ns.map V.int)/\ns.length<64/\∀l,H l=none->Q (.ref l) (upd H l (.lst ((PySem.W.sortI ns).map V.int)))):=by
 intro aA s σ H xs us Q I r ⟨p,ns,e,hq,h64,q⟩
 subst e;obtain⟨u,rfl,ru⟩:=vals1 r;cases ru
 obtain⟨its,r',pl,hz⟩:=I.list hq;have hI:IntsAre its ns:=intsAre_of r';have hl:its.length=ns.length:=by have:=r'.length;simp at this;omega
 refine sorted_ints pl.isList hI (by omega) λout ns' a1 a2 a3=>?_
 obtain⟨e,he⟩:=sortedAll_at s.heap its out;have e2:ns'=PySem.W.sortI ns:=PySem.W.eq_sortI a2 a3;subst e2;have ln:(PySem.W.sortI ns).length=ns.length:=(gD ns).length_eq;refine⟨.ref (s.heap.objs.size+1),_,I.laid (t':=s.toks) (λ_ _=>sortedAll_old) (fU _) (show ObjOk X.prog X.w _ _ _ (.lst ((PySem.W.sortI ns).map V.int)) from ⟨by rw[ah,ln];have:=eU;omega,out.toList,e,a3q a1,by simpa[seqObj] using he⟩),rfl,q _ (I.hok.fresh (fU _))⟩
end
end L2
namespace MI
open L2
def a6q:List D->Hd->R D
 |[d],h=>(match a5b d h with|some ns=>if ns.length<64 then .ok (.ref h.length) (h++[.lst ((PySem.W.sortI ns).map D.int)]) else .no|none=>.no)
 |_,_=>.no
theorem a7y:∀ns:List Int,Reps K ι H (ns.map V.int) (ns.map D.int)
 |[]=>.nil
 |n::ns=>.cons (.int n) (a7y ns)
theorem afi:akd K a6q (λxs H Q=>∃(p:Addr) (ns:List Int),xs=[.ref p]/\SqL K H p (ns.map V.int)/\ns.length<64/\∀l,H l=none->Q (.ref l) (upd H l (.lst ((PySem.W.sortI ns).map V.int)))):=by
 intro E ι H h xs ds Q r hr o
 unfold a6q at o
 split at o
 ·cases r with
  |cons r rs =>
   cases rs
   split at o
   ·rename_i ns e
    split at o
    ·rename_i hl;obtain⟨p,rfl,q⟩:=aav r hr e;exact⟨p,ns,rfl,q,hl,yh (a7y _) hr o⟩
    ·exact o.elim
   ·exact o.elim
 ·exact o.elim
end MI
namespace L2
open PyProof.Rows
def ixI(n:Int):List Int->Option Nat
 |[]=>none
 |a::l=>if a=n then some 0 else (ixI n l).map (·+1)
end L2
namespace MI
open L2
def az3:D->Option Key
 |.int i=>some (.inl i)
 |.str x=>some (.inr x)
 |_=>none
def b0g:D->Option (List Key)
 |.tup xs=>a0r az3 xs
 |_=>none
def putD{κ:Type}[DecidableEq κ](kvs:List (κ×D))(k:κ)(d:D):List (κ×D):=if (kvs.any λkv=>decide (kv.1=k))=true then kvs.map λkv=>if kv.1=k then (kv.1,d) else kv else kvs++[(k,d)]
section
variable{K:Fg}{ι:List Addr}{H:Hp}{h:Hd}
variable{X:Cx}{E:XD}{a b e o i:Expr}{fa fb fc:SE}{pos:Pos}
def b0h(o k v:D)(h:Hd):Option Hd:=match o with
 |.ref i=>(match h[i]? with
  |some (.dK kvs)=>(match az3 k with|some kk=>if kvs.length<LINE then some (h.set i (.dK (putD kvs kk v))) else none|none=>none)
  |some (.dT kvs)=>(match b0g k with|some kk=>if kvs.length<LINE then some (h.set i (.dT (putD kvs kk v))) else none|none=>none)
  |_=>none)
 |_=>none
def akx(fe fo fi:SE):SS:=λτ h=>(fe τ h).fl λv h1=>(fo τ h1).fl λo h2=>(fi τ h2).fl λk h3=>match b0h o k v h3 with|some h4=>.nx τ h4|none=>.no
end
end MI
namespace ZP
open PySem.Builtin PySem.Builtin.SmallTypes L2
def a5c(it:Addr):Obj:={cls:=.type "enumerate",data:=.fields #[.none,.bool false,.ref it,rawInt 0,.none,.none]}
theorem ahw(t:Tok)(k:Srk)(us:List Value):Meets (Builtin.«enumerate.__new__» ⟨[.type "enumerate",val t k],[]⟩)
  (λ_ R s=>cont s.heap k us/\R (.ok (.ret (.ref (s.heap.objs.size+1)))) {s with heap:=(s.heap.push (iob t k)).push (a5c s.heap.objs.size)}) :=
 .of_wp λprog w A R s h=>by
  obtain⟨hp,g,d,tk,os⟩:=s;obtain⟨c,h⟩:=h;have sub:=sub_enumerate;have c':cont (Shared.heap ⟨hp,g,d,tk,os⟩) k us:=c;have fin:R (.ok (.ret (.ref (hp.push (iob t k)).objs.size))) {heap:=(hp.push (iob t k)).push (a5c hp.objs.size),gens:=g,drawn:=d,toks:=tk,os:=os}:=by simpa[dS] using h
  wp_walk
  refine wpAny_stack_any λst=>ax ?_
  split
  ·rename_i cl _ _ _ _ _
   cases (cl == Value.type "enumerate")
   ·wp_walk using a94 (t:=t) c'
    exact⟨_,rfl,fin⟩
   ·wp_walk using a94 (t:=t) c'
    exact⟨_,rfl,fin⟩
  ·wp_walk using a94 (t:=t) c'
   exact⟨_,rfl,fin⟩
def ItE(k:Srk):It where
 go:=λi H=>∃xs x,its H k=some xs/\xs[i]? = some x
 yld:=λi H v H'=>∃xs x p,its H k=some xs/\xs[i]? = some x/\H p=none/\v=.ref p/\H'=upd H p (.tup [.int i,x])
 stop:=λi H=>∃xs,its H k=some xs/\i=xs.length
def tnE(e it:Addr)(t:Tok)(k:Srk)(i:Nat)(h:Heap):Prop:=(∃old,IsEnum h e it i old)/\own it t k i h
theorem ahx(ne:e≠it):Turn P w K (.Tuple elts x1 pos) (ItE k) [e,it] e (tnE e it t k) where
 mem:=by simp
 obj:=λi h st b hb=>by
  obtain⟨⟨old,h1⟩,h4⟩:=st;simp only[aO,bD,dA]at hb
  rcases hb with rfl|rfl
  ·exact⟨_,h1,λv z=>(by cases z)⟩
  ·exact ahl h4
 keep:=λi h h' st kk=>by
  obtain⟨⟨old,h1⟩,h4⟩:=st;exact⟨⟨old,kk e (by simp) _ h1⟩,adt h4 λob q=>kk it (by simp) ob q⟩
 item:=by
  intro X hP hw hK hc i aA s σ H E I hf st hg
  subst hP hw hK;obtain⟨xs,x,e1,g1⟩:=hg;obtain⟨⟨old,h1⟩,h4⟩:=st;have n:∀c∈[e,it],H c=none:=λc hc=>(hf c hc).1;obtain⟨cs,P1,S1,D1,a1,b1,c1,d1⟩:=ahm I (t:=t) e1 (n it (by simp))
  have hd:=I.ok.hd hc;have ef:e∉it::cs:=by
   intro z
   rcases aO.mp z with z|z
   ·exact ne z
   ·exact c1 e z (n e (by simp))
  refine wpAny_pyNext_enum_itemD (D1 X.A.in1 hd) h1 (a1 i h4) (av.mp g1).1 ne ef λu h' tk pu eo s1' pr sz kp=>?_;obtain⟨x',q1,r1⟩:=d1 i u pu;rw[g1]at q1;cases q1
  refine⟨_,rfl,wpAny_letOwnedTupleGo_enum eo λh2' z2' sb=>?_⟩;have hp:H s.heap.objs.size=none:=I.hok.fresh (ay _);have lt:∀c∈[e,it],c<s.heap.objs.size:=λc hc=>by
   simp only[aO,bD,dA]at hc
   rcases hc with rfl|rfl
   ·exact aS h1
   ·obtain⟨_,q,_⟩:=ahl h4;exact aS q
  have nT:∀c∈[e,it],c≠s.heap.objs.size:=λc hc=>bG (lt c hc);have all:∀c o,c∉[e,it]->s.heap.get? c=some o->h2'.get? c=some o:=λc o nc q=>by
   simp only[aO,bD,dA,not_or]at nc;exact(sb.2 c nc.1).trans (kp c o nc.1 nc.2 q)
  have I0:Inv X aA σ (upd H s.heap.objs.size (.tup [.int i,x])) {s with heap:=s.heap.push {cls:=.type "tuple",data:=.seq #[.int i tk,u]} } :=
   I.laid (t':=s.toks) (o:=.tup [.int i,x]) (λb o q=>aw _ q) (ay _) ⟨by show 2<=sizeLine;decide,[.int i tk,u],.cons ⟨tk,rfl⟩ (.cons r1 .nil),⟨_,aT _ rfl,rfl,_,rfl⟩⟩
  have I1:Inv X aA σ (upd H s.heap.objs.size (.tup [.int i,x])) {s with heap:=h2',toks:=tk+1}:=by
   refine ahn (s:={s with heap:=s.heap.push {cls:=.type "tuple",data:=.seq #[.int i tk,u]} }) (ch:=[e,it]) I0 (λb hb=>?_) λc o nc q=>?_
   ·obtain⟨f0,f1⟩:=hf b hb;exact⟨by rw[jc (nT b hb)];exact f0,f1⟩
   ·rcases Heap.get?_push_cases q with⟨rfl,rfl⟩|q
    ·exact(sb.2 _ (nT e (by simp)).symm).trans pr
    ·exact all c o nc q
  refine⟨.ref s.heap.objs.size,_,I1,rfl,⟨xs,x,_,e1,g1,hp,rfl,rfl⟩,⟨⟨u,by simpa using z2'⟩,adt (b1 _ _ s1') λob q=>(sb.2 _ ne.symm).trans q⟩,λb hb=>?_⟩
  rw[jc (nT b hb)];exact n b hb
 done:=by
  intro X hP hw hK hc i aA s σ H E I hf st hg
  subst hP hw hK;obtain⟨xs,e1,rfl⟩:=hg;obtain⟨⟨old,h1⟩,h4⟩:=st;have n:∀c∈[e,it],H c=none:=λc hc=>(hf c hc).1;obtain⟨cs,P1,S1,D1,a1,b1,c1,d1⟩:=ahm I (t:=t) e1 (n it (by simp))
  have hd:=I.ok.hd hc;refine wpAny_pyNext_enum_endD (D1 X.A.in1 hd) h1 (a1 _ h4) λh' ex=>⟨rfl,ahn (t':=s.toks) I hf λc o nc q=>?_⟩;simp only[aO,bD,dA,not_or]at nc;exact ex c o nc.2 q
 self:=λ_ _ _ _ _ st h=>by
  obtain⟨⟨old,h1⟩,_⟩:=st;exact wpAny_pyIter_enum h1 h
section
variable{X:Cx}{elts:List Expr}{x1:Nat}{tpos:Pos}
def axx(ta:TA):TI:=λσ H R=>ta σ H λvs H1=>∃k xs,vs=[Srk.v k]/\its H1 k=some xs/\R (ItE k) H1
theorem aps(hg:Gl X "enumerate")(hm:X.mg "enumerate" = none)(ha:PA X [e1] ta)
  (h1:starEach [e1] X.env=[(false,eval e1 X.env)]:=by rfl):PI X (.Tuple elts x1 tpos) (.Call (.Name "enumerate" p) [e1] [] pos) (axx ta):=by
 intro aA s σ H R I h
 refine dP (a5w I hg hm PyProof.Rows.boot_enumerate ?_ (by decide) (by decide))
 refine cf (thn (ha pos aA s σ H _ I h) λus s1 ⟨vs,H1,I1,r1,q1⟩=>?_) (by rw[h1];rfl) (by rfl)
 obtain⟨k,xs,rfl,e1,q⟩:=q1;obtain⟨v1,rfl,rv1⟩:=vals1 r1;obtain⟨t,rfl⟩:=atp rv1;obtain⟨us1,c1,_⟩:=acd I1 e1;refine callType_new F.called_enumerate (by decide) (F.typeCall_enumerate_1 _) (F.newCall_enumerate_1 _) (λobj=>F.args_object_init_2 obj _) F.entry_enumerate_new (ahw t k us1) ⟨c1,?_⟩
 have at0:((s1.heap.push (iob t k)).push (a5c s1.heap.objs.size)).get? s1.heap.objs.size=some (iob t k):=aw _ (aT _ (by cases k<;>rfl))
 have at1:IsEnum ((s1.heap.push (iob t k)).push (a5c s1.heap.objs.size)) (s1.heap.objs.size+1) s1.heap.objs.size 0 .none:=by
  have:=aT (o:=a5c s1.heap.objs.size) (s1.heap.push (iob t k)) rfl
  rw[dS]at this;exact this
 have keepA:∀b o,s1.heap.get? b=some o->((s1.heap.push (iob t k)).push (a5c s1.heap.objs.size)).get? b=some o:=λb o q=>aw _ (aw _ q);have I2:Inv X aA σ H1 {s1 with heap:=(s1.heap.push (iob t k)).push (a5c s1.heap.objs.size)}:=I1.kept (t':=s1.toks) keepA
 refine⟨⟨_,at1,rfl⟩,?_⟩;refine wpAny_pyIter_enum (s:={s1 with heap:=(s1.heap.push (iob t k)).push (a5c s1.heap.objs.size)}) at1 ?_
 refine⟨s1.heap.objs.size+1,[s1.heap.objs.size+1,s1.heap.objs.size],tnE _ _ t k,ItE k,H1,rfl,I2,ahx (by intro z;have z:(_:Nat)=_:=z;omega),⟨⟨.none,at1⟩,b0d at0⟩,λb hb=>?_,q⟩
 have:s1.heap.objs.size<=b:=by
  simp only[aO,bD,dA]at hb
  rcases hb with rfl|rfl
  ·exact fU _
  ·exact ay _
 exact I1.fpOk this (I1.hok.fresh this)
end
end ZP
namespace MI
open L2 ZP
def aky(x:D)(h:Hd):R Itm:=match srcOf x h with
 |some (xs,c)=>.ok ⟨((List.range xs.length).zip xs).map λp=>.tup [.int (p.1:Nat),p.2],c⟩ h
 |none=>.no
def aaw(f:SE):SI:=λτ h=>(f τ h).bind aky
theorem ahy(hg:Gl X "enumerate")(hm:X.mg "enumerate" = none)(ha:ME X E e1 f)
  (h1:starEach [e1] X.env=[(false,eval e1 X.env)]:=by rfl):MI X E (.Tuple elts x1 tpos) (.Call (.Name "enumerate" p) [e1] [] pos) (aaw f):=by
 rintro aA s σ H Rr I ⟨ι,τ,h,S,Rh,o⟩
 refine aps hg hm (a8n ha ad9 (by rw[h1];rfl)) h1 aA s σ H Rr I ?_
 refine⟨ι,τ,h,S,Rh,dz o λd h1 ι1 H1 v g1 r1 hr1 o1=>?_⟩;unfold aky at o1
 split at o1
 ·rename_i xs c q1;obtain⟨k,rfl,kc,kf⟩:=atq r1 hr1 q1;obtain⟨vs,w1,w2⟩:=kf ι1 H1 h1 (.refl _ _) hr1 kc;refine⟨k,vs,rfl,w1,o1 ι1 H1 _ (.refl _ _) ?_ hr1⟩
  intro ι3 H3 h3 g3 hr3 c3
  obtain⟨us,a1,a2⟩:=kf ι3 H3 h3 g3 hr3 c3;refine⟨λi d ed=>?_,us,a1,?_⟩
  ·simp only[bJ,aW]at ed;obtain⟨⟨j,y⟩,ez,rfl⟩:=ed;obtain⟨ex,ey⟩:=gH.mp ez;have hj:j=i:=by
    obtain⟨_,q⟩:=av.mp ex;simpa using q.symm
   subst hj;obtain⟨v2,b3,b4⟩:=a2.get ey;refine⟨⟨us,v2,a1,b3⟩,λx H' yl=>?_⟩;obtain⟨xs',x',p,c1,c3,c5,rfl,rfl⟩:=yl;rw[a1]at c1;cases c1
   rw[b3]at c3;cases c3
   exact⟨a1s c5 _,.tup uc (.cons (.int _) (.cons (b4.mono (a1s c5 _)) .nil)),hr3.aside c5 _⟩
  ·rw[ah,List.length_zip,bK,a2.len];omega
 ·exact o1.elim
end MI
namespace L2
open PyProof.Rows
def Itd(lo:Int)(n:Nat):It:=⟨λi _=>i<n,λi H x H'=>H'=H/\x=.int (lo-i),λi _=>n<=i⟩
theorem ahz{P:Program}{w:World}{K:Fg}{tg:Expr}(it:Addr)(lo:Int)(n:Nat):Turn P w K tg (Itd lo n) [it] it (λi h=>IsRangeIter h it (lo-(i:Nat)) ((n:Int)-(i:Nat)) (-1)) where
 mem:=by simp
 obj:=λi h st b hb=>by
  cases aI.mp hb
  exact⟨_,st,λv z=>nomatch (show Data.fields _=Data.cell v from z)⟩
 keep:=λi h h' st k=>k it (by simp) _ st
 item:=by
  intro X hP hw hK hc i aA s σ H E I hf st hg
  subst hP hw hK;obtain⟨f0,f1,f2,f3,f4,f5⟩:=hf it (by simp)
  have hg:i<n:=hg;refine wpAny_pyNext_range_item st (by omega) λh' st' sb=>?_
  have I1:Inv X aA σ H {s with heap:=h',toks:=s.toks+1}:=I.turned (λb o hb e=>sb.extBut b o hb e) f0 f1 f3 f4 f5
  have e1:lo-(i:Nat) + -1=lo-((i+1:Nat):Int):=by omega
  have e2:(n:Int)-(i:Nat)-1=(n:Int)-((i+1:Nat):Int):=by omega
  have st2:IsRangeIter h' it (lo-((i+1:Nat):Int)) ((n:Int)-((i+1:Nat):Int)) (-1):=by rw[<-e1,<-e2];exact st'
  exact⟨_,rfl,age (s:={s with heap:=h',toks:=s.toks+1}) (n := "range_iterator") st' rfl rfl (by decide) ⟨.int (lo-i),H,I1,⟨_,rfl⟩,⟨rfl,rfl⟩,st2,λb hb=>(hf b hb).1⟩⟩
 done:=by
  intro X hP hw hK hc i aA s σ H E I hf st hg
  subst hP hw hK;obtain⟨f0,f1,f2,f3,f4,f5⟩:=hf it (by simp)
  exact wpAny_pyNext_range_end (I.ok.hd hc) st (by have:n<=i:=hg;omega) λh' eb=>⟨rfl,I.turned (t':=s.toks) (λb o hb e=>eb b o hb e) f0 f1 f3 f4 f5⟩
 self:=λ_ _ _ _ _ st h=>fB st h
end L2
namespace MI
open L2
def akz(lo:Int)(n:Nat):List D:=(List.range n).map λi=>D.int (lo-(i:Nat))
def au0(ds:List D)(h:Hd):R Itm:=match ds with
 |[.int i,.int j,.int k]=>if k = -1/\B62 i/\B62 j then .ok ⟨akz i (i-j).toNat,λ_=>True⟩ h else .no
 |_=>.no
theorem au1(lo:Int)(n:Nat):akg K ι0 H0 (Itd lo n) ⟨akz lo n,λ_=>True⟩:=by
 intro ι H h g hr _
 refine⟨λi d ed=>?_,by show n<=(akz lo n).length;simp[akz]⟩
 simp only[akz,bJ,aW]at ed;obtain⟨j,ej,rfl⟩:=ed;obtain⟨hj,e⟩:=av.mp ej;simp at e hj;subst e;refine⟨hj,λy H' q=>?_⟩;obtain⟨rfl,rfl⟩:=q;exact⟨.refl _ _,.int _,hr⟩
theorem ai0:bootBuiltins "sorted" = some (.builtin "sorted"):=by decide +kernel
theorem dj{α β:Type}(a:α)(h:Hd)(k:α->Hd->R β):(R.ok a h).bind k=k a h:=rfl
theorem a2x{α:Type}(a:α)(h:Hd)(k:α->Hd->Fl):(R.ok a h).fl k=k a h:=rfl
def thn(r:Fl)(g:SS):Fl:=match r with|.nx τ h=>g τ h|r=>r
theorem xg(f g:SS)(τ:Sd)(h:Hd):iu f g τ h=thn (f τ h) g:=by unfold iu thn;cases f τ h<;>rfl
theorem a5d(τ:Sd)(h:Hd)(g:SS):thn (.nx τ h) g=g τ h:=rfl
theorem adx(d:D)(h:Hd)(g:SS):thn (.rt d h) g=.rt d h:=rfl
def toR(r:Fl):R D:=match r with|.rt d h1=>.ok d h1|.nx _ h1=>.ok .non h1|.ex c h1=>.ex c h1|_=>.no
theorem iw(b:SS)(n:Nat)(ds:List D)(h:Hd):nq b n ds h=toR (b (a6j n ds) h):=by unfold nq toR;cases b (a6j n ds) h<;>rfl
theorem aax(d:D)(h:Hd):toR (.rt d h)=.ok d h:=rfl
theorem ady(τ:Sd)(h:Hd):toR (.nx τ h)=.ok .non h:=rfl
theorem jx:∀{xs:List D},clos n xs↔∀x∈xs,clo n x
 |[]=>by simp[clos]
 |x::xs=>by simp[clos,jx (xs:=xs)]
theorem c7(i:Int):clo n (.int i):=by simp[clo]
theorem du(i:Str):clo n (.str i):=by simp[clo]
theorem uf(i:Bool):clo n (.bl i):=by simp[clo]
theorem rm:clo n .non:=by simp[clo]
theorem fu:clos n []:=by simp[clos]
theorem bu(a:clo n x)(b:clos n xs):clos n (x::xs):=by simp only[clos];exact⟨a,b⟩
theorem gf(h:clos n xs):clo n (.tup xs):=by simpa[clo] using h
theorem ik(h:clos n xs):clo n (.rol xs):=by simpa[clo] using h
theorem dg{α:Type}{n:Nat}{f:α->D}{l:List α}(h:∀a∈l,clo n (f a)):clos n (l.map f):=by
 rw[jx]
 intro x hx
 obtain⟨a,ha,rfl⟩:=da.mp hx;exact h a ha
mutual
theorem ana(hm:n<=m):∀{d:D},clo n d->clo m d
 |.non,_=>by simp[clo]
 |.bl _,_=>by simp[clo]
 |.int _,_=>by simp[clo]
 |.str _,_=>by simp[clo]
 |.ty _,_=>by simp[clo]
 |.tup xs,h=>by simp only[clo]at h ⊢;exact vy hm h
 |.rol xs,h=>by simp only[clo]at h ⊢;exact vy hm h
 |.scr xs,h=>by simp only[clo]at h ⊢;exact vy hm h
 |.rod _ xs,h=>by simp only[clo]at h ⊢;exact vy hm h
 |.rdT _ xs,h=>by simp only[clo]at h ⊢;exact vy hm h
 |.exc _,_=>by simp[clo]
 |.ins _ _ xs,h=>by simp only[clo]at h ⊢;exact vy hm h
 |.ref i,h=>by simp only[clo]at h ⊢;omega
theorem vy(hm:n<=m):∀{xs:List D},clos n xs->clos m xs
 |[],_=>by simp[clos]
 |x::xs,h=>by simp only[clos]at h ⊢;exact⟨ana hm h.1,vy hm h.2⟩
end
theorem a1y(hm:n<=m)(h:vg n o):vg m o:=by
 cases o with
 |lst xs=>exact vy hm h
 |dK kvs=>exact vy hm h
 |dT kvs=>exact vy hm h
 |ins _ _=>exact vy hm h
theorem a99{α:Type}{f:α->Option α}:∀{xs:List α},(∀x∈xs,f x=some x)->a0r f xs=some xs
 |[],_=>rfl
 |x::xs,h=>by
  unfold a0r;rw[h x bE,a99 λy hy=>h y (aY _ hy)]
theorem a5q(c:clo n d):a1l n h (k+1) d=some d:=by unfold a1l;rw[aN c]
theorem al0(c:vg n o):atr n h k o=some o:=by unfold atr;rw[aN c]
theorem a3v{n k i:Nat}{h:Hd}{xs:List D}(hi:n<=i)(e:h[i]? = some (.lst xs))(c:clos n xs):a1l n h (k+2) (.ref i)=some (.rol xs):=by
 unfold a1l;rw[bp (by simp only[clo];omega)]
 simp only[e];rw[a99 λx hx=>a5q (jx.mp c x hx)];rfl
theorem a3i{n:Nat}{d d':D}{h1:Hd}(e:a1l n h1 FU d=some d')(c:∀o∈h1.take n,vg n o):a7x n (.ok d h1)=.ok d' (h1.take n):=by
 unfold a7x;simp only[e];rw[a99 λo ho=>al0 (c o ho)]
theorem jr{h1:Hd}(e:clo n d)(c:∀o∈h1.take n,vg n o):a7x n (.ok d h1)=.ok d (h1.take n):=a3i (a5q e) c
theorem zc(hi:n<=i)(e:h1[i]? = some (.lst xs))(cx:clos n xs)(c:∀o∈h1.take n,vg n o):a7x n (.ok (.ref i) h1)=.ok (.rol xs) (h1.take n):=a3i (a3v hi e cx) c
theorem al2(e:f τ h=.ok (.ref h.length) (h++[.lst xs]))(cx:clos h.length xs)(c:∀o∈h,vg h.length o):sZ f τ h=.ok (.rol xs) h:=by
 unfold sZ;rw[e,zc (ay _) (by simp) cx (by simpa using c)]
 simp
def Pu(F:SF)(n:Nat)(ds:List D)(d:D):Prop:=∀h,jh false n F ds h=.ok d h
def Dr(F:SF)(n:Nat)(ds:List D)(o:O)(d:D)(o':O):Prop:=∀p h,h[p]? = some o->jh false n F (.ref p::ds) h=.ok d (h.set p o')
theorem a3w:∀{ds:List D},(∀d∈ds,clo 0 d)->a0v ds=[]/\a0i 0 ds=ds/\∀k,a0i k ds=ds
 |[],_=>⟨rfl,rfl,λ_=>rfl⟩
 |d::ds,h=>by
  obtain⟨a,b,c⟩:=a3w (ds:=ds) λx hx=>h x (aY _ hx);have hd:=h d bE;have nr:refOf d=none:=by cases d<;>first|rfl|(simp only[clo]at hd;omega)
  refine⟨?_,?_,λk=>?_⟩
  ·simpa[a0v,nr] using a
  ·cases d<;>first|(simp only[clo]at hd;omega)|(simp only[a0i,b])
  ·cases d<;>first|(simp only[clo]at hd;omega)|(simp only[a0i,c])
theorem Pu.of{ds:List D}(hn:ds.length=n)(cd:∀x∈ds,clo 0 x)(e:F ds []=r)(z:a7x 0 r=.ok d [])(c:clo 0 d):Pu F n ds d:=λh=>by
 obtain⟨p1,p2,_⟩:=a3w cd;unfold jh;rw[aN hn];unfold aph;rw[p1];simp only[a0r,bC,cD,eY];rw[aN ⟨gJ,λx hx=>.inl (cd x hx),λo ho=>by simp at ho⟩,p2,e,z]
 simp[c,vh]
theorem Dr.of{ds:List D}(hn:ds.length+1=n)(cd:∀x∈ds,clo 0 x)(co:vg 0 o)(e:F (.ref 0::ds) [o]=r)(z:a7x 1 r=.ok d [o'])(c:clo 0 d)(co':vg 0 o'):Dr F n ds o d o':=λp h hp=>by
 obtain⟨p1,_,p3⟩:=a3w cd;have e1:a0v (.ref p::ds)=[p]:=by
  have:a0v (.ref p::ds)=p::a0v ds:=rfl
  rw[this,p1]
 have e2:a0i 0 (.ref p::ds)=.ref 0::ds:=by
  have:a0i 0 (.ref p::ds)=.ref 0::a0i 1 ds:=rfl
  rw[this,p3]
 unfold jh;rw[aN (by simpa using hn)]
 unfold aph;rw[e1];simp only[a0r,hp,aM,cD,eY];have all:∀x∈(D.ref p::ds),clo 0 x\/isRef x:=λx hx=>by
  rcases aO.mp hx with rfl|hx
  ·exact .inr ⟨p,rfl⟩
  ·exact .inl (cd x hx)
 rw[aN ⟨by simp,all,λu hu=>by rw[aI.mp hu];exact co⟩,e2,e,z]
 simp[c,co',vh]
theorem au2{ds:List D}(hn:ds.length=n)(cd:∀x∈ds,clo 0 x)(e:F ds []=.ok (.ref i) h1)(ho:h1[i]? = some o)(co:vg 0 o)(h:Hd):jh true n F ds h=.ok (.ref h.length) (h++[o]):=by
 obtain⟨p1,p2,_⟩:=a3w cd;unfold jh;rw[aN hn];unfold aph;rw[p1];simp only[a0r,bC,dI];rw[aN ⟨gJ,λx hx=>.inl (cd x hx),λo ho=>by simp at ho⟩,p2,e]
 unfold arh;simp only[ho];rw[aN ⟨ba _,co,by simp⟩]
 simp[co,vh]
theorem xj(g:SG)(b:SS)(τ:Sd)(h:Hd):forL (λ_=>True) g b [] τ h=.nx τ h:=by rw[forL,aN True.intro]
def trn(r:Fl)(k:Sd->Hd->Fl):Fl:=match r with|.nx τ h=>k τ h|.ct τ h=>k τ h|.bk τ h=>.nx τ h|r=>r
theorem uw(g:SG)(b:SS)(x:D)(xs:List D)(τ τ1:Sd)(h h1:Hd)(e:g x τ h=.nx τ1 h1):forL (λ_=>True) g b (x::xs) τ h=trn (b τ1 h1) (forL (λ_=>True) g b xs):=by
 rw[forL,aN True.intro,e];dsimp only;unfold trn
 cases b τ1 h1<;>rfl
theorem a7z(τ:Sd)(h:Hd)(k:Sd->Hd->Fl):trn (.nx τ h) k=k τ h:=rfl
theorem anb(d:D)(h:Hd)(k:Sd->Hd->Fl):trn (.rt d h) k=.rt d h:=rfl
theorem adz{g:SG}{b:SS}{α:Type}(f:α->D)(I:List α->Sd->Hd->Prop)(Rt:D->Hd->Prop):∀(xs pre:List α) (τ:Sd) (h:Hd),
  (∀pre' x post τ h,pre++xs=pre'++x::post->I pre' τ h->∃τ1 h1,g (f x) τ h=.nx τ1 h1/\((∃τ2 h2,b τ1 h1=.nx τ2 h2/\I (pre'++[x]) τ2 h2)\/∃d h2,b τ1 h1=.rt d h2/\Rt d h2))->I pre τ h->
  (∃τ' h',forL (λ_=>True) g b (xs.map f) τ h=.nx τ' h'/\I (pre++xs) τ' h')\/∃d h',forL (λ_=>True) g b (xs.map f) τ h=.rt d h'/\Rt d h'
 |[],pre,τ,h,_,i0=>.inl ⟨τ,h,xj ..,by simpa using i0⟩
 |x::xs,pre,τ,h,st,i0=>by
  obtain⟨τ1,h1,e1,q⟩:=st pre x xs τ h rfl i0;rw[bH,uw _ _ _ _ _ _ _ _ e1]
  rcases q with⟨τ2,h2,e2,i2⟩|⟨d,h2,e2,r⟩
  ·rw[e2,a7z];have:=adz f I Rt xs (pre++[x]) τ2 h2 (λpre' y post τ h e=>st pre' y post τ h (by simpa using e)) i2
   simpa using this
  ·rw[e2,anb];exact .inr ⟨d,h2,rfl,r⟩
theorem a0w{g:SG}{b:SS}{α:Type}(f:α->D)(I:List α->Sd->Hd->Prop)(xs:List α)(τ:Sd)(h:Hd)
  (st:∀pre x post τ h,xs=pre++x::post->I pre τ h->∃τ1 h1,g (f x) τ h=.nx τ1 h1/\∃τ2 h2,b τ1 h1=.nx τ2 h2/\I (pre++[x]) τ2 h2) (i0:I [] τ h) :
  ∃τ' h',forL (λ_=>True) g b (xs.map f) τ h=.nx τ' h'/\I xs τ' h':=by
 rcases adz f I (λ_ _=>False) xs [] τ h (λpre' x post τ h e i=>let ⟨τ1,h1,a,b⟩:=st pre' x post τ h e i; ⟨τ1,h1,a,.inl b⟩) i0 with⟨τ',h',a,b⟩|⟨_,_,_,z⟩
 ·exact⟨τ',h',a,b⟩
 ·exact z.elim
theorem ae0{f:D->Hd->R D}{α:Type}(g:α->D)(I:List α->List D->Hd->Prop):∀(xs pre:List α) (ys:List D) (h:Hd),
  (∀pre' x post ys h,pre++xs=pre'++x::post->I pre' ys h->∃y h',f (g x) h=.ok y h'/\I (pre'++[x]) (ys++[y]) h')->I pre ys h->∃zs h',mapR (λ_=>True) f (xs.map g) h=.ok zs h'/\I (pre++xs) (ys++zs) h'
 |[],pre,ys,h,_,i0=>⟨[],h,by rw[dB,mapR,aN True.intro],by simpa using i0⟩
 |x::xs,pre,ys,h,st,i0=>by
  obtain⟨y,h1,e1,i1⟩:=st pre x xs ys h rfl i0;obtain⟨zs,h',e2,i2⟩:=ae0 g I xs (pre++[x]) (ys++[y]) h1 (λpre' z post ys h e=>st pre' z post ys h (by simpa using e)) i1
  refine⟨y::zs,h',?_,by simpa using i2⟩
  rw[bH,mapR,aN True.intro,e1];show(mapR _ f (xs.map g) h1).bind _=_;rw[e2];rfl
theorem aay{f:D->Hd->R D}{α:Type}(g F:α->D){h:Hd}:∀{xs:List α},(∀x∈xs,f (g x) h=.ok (F x) h)->mapR (λ_=>True) f (xs.map g) h=.ok (xs.map F) h
 |[],_=>by rw[dB,mapR,aN True.intro];rfl
 |x::xs,st=>by
  rw[bH,mapR,aN True.intro,st x bE];show(mapR _ f (xs.map g) h).bind _=_;rw[aay g F λy hy=>st y (aY _ hy)];rfl
theorem aaz{f:D->Hd->R (Option D)}{α:Type}(g:α->D)(F:α->Option D){h:Hd}:∀{xs:List α},(∀x∈xs,f (g x) h=.ok (F x) h)->ajt (λ_=>True) f (xs.map g) h=.ok (xs.filterMap F) h
 |[],_=>by rw[dB,ajt,aN True.intro];rfl
 |x::xs,st=>by
  rw[bH,ajt,aN True.intro,st x bE];show(ajt _ f (xs.map g) h).bind _=_;rw[aaz g F λy hy=>st y (aY _ hy)];show R.ok ((F x).toList++xs.filterMap F) h=_
  cases e:F x<;>simp[dG,e]
theorem au3(I:Nat->Sd->Hd->Prop)(N:Sd->Hd->Prop)(Rt:D->Hd->Prop)
  (st:∀m τ h,I m τ h->(∃h1,c τ h=.ok false h1/\N τ h1)\/∃h1,c τ h=.ok true h1/\((∃τ2 h2 m',f τ h1=.nx τ2 h2/\m'<m/\I m' τ2 h2)\/∃d h2,f τ h1=.rt d h2/\Rt d h2)) :
  ∀(m n:Nat) (τ:Sd) (h:Hd),m<n->I m τ h->(∃τ' h',sWh c f n τ h=.nx τ' h'/\N τ' h')\/∃d h',sWh c f n τ h=.rt d h'/\Rt d h':=by
 intro m
 induction m using Nat.strongRecOn with
 |ind m ih =>
  intro n τ h hn i0
  cases n with
  |zero=>omega
  |succ n =>
   rcases st m τ h i0 with⟨h1,e1,q⟩|⟨h1,e1,q⟩
   ·exact .inl ⟨τ,h1,by rw[sWh,e1];rfl,q⟩
   ·rcases q with⟨τ2,h2,m',e2,lt,i2⟩|⟨d,h2,e2,r⟩
    ·have e3:sWh c f (n+1) τ h=sWh c f n τ2 h2:=by
      rw[sWh,e1,a2x,aN rfl,e2]
     rw[e3];exact ih m' lt n τ2 h2 (by omega) i2
    ·refine .inr ⟨d,h2,?_,r⟩;rw[sWh,e1,a2x,aN rfl,e2]
structure KD (P:Program) (w:World) (K:Fg) (a:Addr) (kvs:List (Str×Str)):Prop where
 sys:(a == sysModules)=false
 ex:∃(o:Obj) (vs:List (Key×Value)),K.lookup a=some o/\KV (kvs.map λp=>((.inr p.1:Key),V.str p.2)) vs/\∀h:Heap,h.get? a=some o->h.DictOf (a5v P w) a vs
section
variable{X:Cx}{E:XD}{e:Expr}{fa:SE}{pos p:Pos}{a:Addr}{kvs:List (Str×Str)}{x:Str}
theorem KD.at(kd:KD X.prog X.w X.K a kvs)(I:Inv X aA σ H s):∃vs,KV (kvs.map λp=>((.inr p.1:Key),V.str p.2)) vs/\s.heap.DictOf (a5v X.prog X.w) a vs:=by
 obtain⟨o,vs,l,r,d⟩:=kd.ex;exact⟨vs,r,d _ (I.bk _ _ (I.mod.kin _ _ l))⟩
end
mutual
def noL:D->Bool
 |.rol _=>false
 |.tup xs=>az4 xs
 |_=>true
def az4:List D->Bool
 |[]=>true
 |x::xs=>noL x && az4 xs
end
end MI
namespace SRC
open L2 MI
noncomputable def zu:SE :=
 (s2 gk (s2 yq (sI 2) (sA awj (aj (sV 0) cu))) (sA apa (aj (s2 gLt (sV 0) (sI 0)) cu)))
noncomputable def a08:SS :=
 (iu (m7 1 (sZ (a1v (sIt (sZ (a5a (sV 0) oN (oS (sI 63))))) t1 zu [])))
 (qg (sA u9 (aj (sV 1) (aj (sI 0) (aj (sI 0) (aj (sI 0) (aj (s2 a4z (sA ahi (aj (sV 1) cu)) (sI 2147483647)) cu))))))))
noncomputable def a2q:SS :=
 (iu (a1x yz (sV 0) (sI 3) (sI 1))
 (iu (sIf (a7o (sT (s2 hEq (s2 gIx (sV 0) (sI 2)) (sI 0))) (sT (s2 gLt (s2 gIx (sV 0) (sI 1)) (sA xq (aj (s2 gIx (sV 0) (sI 0)) cu)))))
 (iu (m7 2 (s2 gIx (s2 gIx (sV 0) (sI 0)) (s2 gIx (sV 0) (sI 1))))
 (iu (a1x yz (sV 0) (sI 1) (sI 1))
 (sIf (sT (s2 gGe (sV 2) (s2 a7s (sI 10) (sI 18))))
 (afb (sV 2) (sV 0) (sI 2))
 (afb (s2 a4z (s2 gk (s2 yq (s2 gIx (sV 0) (sI 4)) (sI 31)) (sV 2)) (sI 2147483647)) (sV 0) (sI 4)))))
 sNx)
 (iu (sIf (sT (s2 gGt (s2 gIx (sV 0) (sI 2)) (sI 0)))
 (iu (m7 3 (s2 a4z (s2 gIx (sV 0) (sI 2)) (sV 1)))
 (iu (a1x a5m (sV 0) (sI 2) (sV 1))
 (qg (sV 3))))
 sNx)
 (iu (m7 3 (s2 a4z (s2 a7s (s2 gk (s2 gk (s2 gIx (sV 0) (sI 4)) (sI 1)) (s2 yq (s2 gIx (sV 0) (sI 3)) (sI 7919))) (sI 3)) (sI 2147483647)))
 (qg (s2 a4z (s2 a5m (s2 a4z (s2 a7s (s2 gk (s2 yq (sV 3) (sI 48271)) (s2 gIx (sV 0) (sI 3))) (sI 2)) (sI 2147483629)) (sI 64)) (sV 1)))))))
noncomputable def zx:SS :=
 (iu (m7 0 (sC (.str " !\"#$&'()*+,-./0123456789:;<=>?@ABCDEFGHIJKLMNOPQRSTUVWXYZ[\\]^_`")))
 (qg (s2 gk (sV 0) (sC (.str "abcdefghijklmnopqrstuvwxyz{|}~\n")))))
noncomputable def zy(ak:SF)(jw:SF):SS :=
 (iu (m7 4 (sA (jh false 2 ak) (aj (sV 0) (aj (sA xq (aj (sV 1) cu)) cu))))
 (iu (a4g 2 yz (s2 gIx (sV 1) (sV 4)))
 (m7 1 (s2 gk (a5a (sV 1) oN (oS (sV 4))) (a5a (sV 1) (oS (s2 gk (sV 4) (sI 1))) oN)))))
noncomputable def a09(ak:SF)(jw:SF):SS :=
 (iu (m7 1 (sA (jh false 0 jw) cu))
 (iu (m7 2 (sC (.str "")))
 (iu (a7f (sRg a2w (aj (s2 gk (sI 1) (sA (jh false 2 ak) (aj (sV 0) (aj (sI 6) cu)))) cu)) (kN 3) (zy ak jw))
 (qg (sV 2)))))
end SRC
namespace L2
open PySem.W PyProof.Rows Builtin Builtin.ObjectAttr Builtin.Getset_descriptor
section
variable{prog:Program}{w:World}{A:Around}{E:Value->Shared->Prop}{s:Shared}{K:Frag}{x D:Addr}{ox:Obj}{odo:Option Obj}
structure XKit (K:Frag) (D:Addr):Prop where
 ga:findIn K (.ref D) "__getattribute__" = some (some (.builtin "BaseException.__getattribute__"))
 gn:findIn K (.ref D) "__getattr__" = some none
 cl:(clsIn K D).isSome=true
 ca:findIn K (.ref D) "__class__" = some (some (.builtin "object.__class__"))
 sp:specialIn K (.builtin "object.__class__") "__get__" = some (some (.builtin "getset_descriptor.__get__"))
 tk:takesIn K (.builtin "object.__class__")=some true
 ob:mroIn K D (.type "object")=some true
 be:subIn K (.ref D) (.type "BaseException")=some true
 kc:kitCls K (.ref D) (.ref D)=some true
abbrev ExAt(x D:Addr)(h:Heap):Prop:=∃o,h.get? x=some o/\o.cls=.ref D
theorem ExAt.ty(I:ExAt x D h):Looks M h (typeOf (.ref x)) (.ref D):=by
 obtain⟨o,q,c⟩:=I;exact c ▸ (Looks.ld q).andThen .now
theorem XKit.at(Z:XKit K D):∃c o cd sl,K.lookup D=some ⟨c,o,.cls cd,sl⟩:=by
 have:=Z.cl
 unfold clsIn at this
 split at this
 ·exact⟨_,_,_,_, ‹_›⟩
 ·cases this
theorem XKit.no(Z:XKit K D){its:List Value}(X:K.In h)(q:h.get? tp=some ⟨.type "tuple",dd,.seq its.toArray n,sl⟩):(Value.ref D == .ref tp)=false :=
 cb.mpr λe=>by
  obtain⟨_,_,_,_,lo⟩:=Z.at;rw[Value.ref.inj e]at lo;have:=X _ _ lo;rw[q]at this;cases this
end
end L2
namespace AT
open L2
theorem al3{α:Type}(x0:α)(xs:List α):atI (x0::xs) 0=some x0:=wy (j:=0) rfl
theorem al4{α:Type}(x0 x1:α)(xs:List α):atI (x0::x1::xs) 1=some x1:=wy (j:=1) rfl
theorem al5{α:Type}(x0 x1 x2:α)(xs:List α):atI (x0::x1::x2::xs) 2=some x2:=wy (j:=2) rfl
theorem al6{α:Type}(x0 x1 x2 x3:α)(xs:List α):atI (x0::x1::x2::x3::xs) 3=some x3:=wy (j:=3) rfl
theorem al7{α:Type}(x0 x1 x2 x3 x4:α)(xs:List α):atI (x0::x1::x2::x3::x4::xs) 4=some x4:=wy (j:=4) rfl
theorem al8{α:Type}(x0 x1 x2 x3 x4 x5:α)(xs:List α):atI (x0::x1::x2::x3::x4::x5::xs) 5=some x5:=wy (j:=5) rfl
theorem al9{α:Type}(x0 x1 x2 x3 x4 x5 x6:α)(xs:List α):atI (x0::x1::x2::x3::x4::x5::x6::xs) 6=some x6:=wy (j:=6) rfl
theorem ala{α:Type}(x0 x1 x2 x3 x4 x5 x6 x7:α)(xs:List α):atI (x0::x1::x2::x3::x4::x5::x6::x7::xs) 7=some x7:=wy (j:=7) rfl
theorem x10:ixN 1 0=some 0:=rfl
theorem x20:ixN 2 0=some 0:=rfl
theorem x21:ixN 2 1=some 1:=rfl
theorem x30:ixN 3 0=some 0:=rfl
theorem x31:ixN 3 1=some 1:=rfl
theorem x32:ixN 3 2=some 2:=rfl
theorem x40:ixN 4 0=some 0:=rfl
theorem x41:ixN 4 1=some 1:=rfl
theorem x42:ixN 4 2=some 2:=rfl
theorem x43:ixN 4 3=some 3:=rfl
theorem x50:ixN 5 0=some 0:=rfl
theorem x51:ixN 5 1=some 1:=rfl
theorem x52:ixN 5 2=some 2:=rfl
theorem x53:ixN 5 3=some 3:=rfl
theorem x54:ixN 5 4=some 4:=rfl
theorem x60:ixN 6 0=some 0:=rfl
theorem x61:ixN 6 1=some 1:=rfl
theorem x62:ixN 6 2=some 2:=rfl
theorem x63:ixN 6 3=some 3:=rfl
theorem x64:ixN 6 4=some 4:=rfl
theorem x65:ixN 6 5=some 5:=rfl
theorem x70:ixN 7 0=some 0:=rfl
theorem x71:ixN 7 1=some 1:=rfl
theorem x72:ixN 7 2=some 2:=rfl
theorem x73:ixN 7 3=some 3:=rfl
theorem x74:ixN 7 4=some 4:=rfl
theorem x75:ixN 7 5=some 5:=rfl
theorem x76:ixN 7 6=some 6:=rfl
def az5(x:Int):Int:=if x<0 then -x else x
theorem ai1(x:Int)(h:MI.Hd):MI.awj [.int x] h=.ok (.int (az5 x)) h:=rfl
theorem p18(h:MI.Hd):MI.a7s (.int 10) (.int 18) h=.ok (.int 1000000000000000000) h:=by rw[MI.a7s,aN (by decide)];rfl
theorem au4{i:Int}(c:0<=j/\j<=1000000/\i.natAbs<2^64):MI.a7s (.int i) (.int j) h=.ok (.int (i^j.toNat)) h:=by rw[MI.a7s,aN c]
end AT
namespace TPM
open PySem.W L2 HT MI
theorem afj(t:Addr)(aC:Array Value)(n:Nat)(dd:Option Addr)(sl:Array (Option Value))(u:Tok) :
  Meets (Builtin.«tuple.__mul__» ⟨[.ref t,.int 1 u],[]⟩) (λ_ R s=>s.heap.get? t=some {cls:=.type "tuple",dict:=dd,data:=.seq aC n,slots:=sl}/\R (.ok (.ret (.ref t))) s) :=
 .of_wp λprog w A R s h=>by
  obtain⟨hp,g,d,tk,os⟩:=s;obtain⟨hl,h⟩:=h
  wp_walk
  exact⟨_,rfl,h⟩
def apt(K:Fg):R2:=λx y H Q=>∃a xs,x=.ref a/\y=.int 1/\SqT K H a xs/\Q (.ref a) H
theorem apu:OpR X (binaryOp .Mult) (apt X.K):=by
 intro aA s σ H x y v u Q I rx ry h
 obtain⟨a,xs,rfl,rfl,ha,q⟩:=h;cases rx
 obtain⟨t,rfl⟩:=ry;obtain⟨its,r1,p1,_⟩:=I.tuple ha;obtain⟨⟨cls,dd,data,sl⟩,ho,hc,n,hd⟩:=id p1;simp only at hc hd;subst hc hd;exact cU (T := "tuple") (U := "int") (by decide) ⟨_,ho,rfl⟩ (λs'=>eF s' 1 t) yo fg cM a6o eP.lookup
  (cQ cM (eF s 1 t) eQ (eN _ _) (a1w 1 t a its.toArray n dd sl)
   ⟨ho,rfl,⟨_,ho,rfl⟩,cQ eR ⟨_,ho,rfl⟩ gQ (gC _ _) (afj a its.toArray n dd sl t) ⟨ho,.ref a,H,I,rfl,q⟩⟩)
end TPM
namespace MI
open L2 TPM
noncomputable def afk(x y:D)(h:Hd):R D:=match x,y with
 |.tup xs,.int k=>if k=1 then .ok (.tup xs) h else ahv (.tup xs) (.int k) h
 |x,y=>ahv x y h
theorem a9a:a3m K afk (λx y H Q=>((rI CMul (λi j=>.int (i*j)) x y H Q\/asx x y H Q)\/aks K x y H Q)\/apt K x y H Q):=by
 intro E ι H h x y dx dy Q rx ry hr o
 cases rx with
 |@tup a vs xs ha rs =>
  cases ry with
  |int k =>
   simp only[afk]at o
   split at o
   ·rename_i hc;subst hc;exact .inr ⟨a,vs,rfl,rfl,SqT.of ha,ans o (.tup ha rs) hr⟩
   ·exact .inl (a96 _ _ _ _ _ _ _ _ _ (.tup ha rs) (.int k) hr o)
  |_=>exact o.elim
 |int i=>exact .inl (a96 _ _ _ _ _ _ _ _ _ (.int i) ry hr o)
 |ref e=>exact .inl (a96 _ _ _ _ _ _ _ _ _ (.ref e) ry hr o)
 |_=>exact o.elim
theorem b0i(ne:xs≠[])(k1:1<=k)(k2:k<=1000)(xl:xs.length<=1000):afk (.tup xs) (.int (k:Nat)) h=.ok (.tup (List.replicate k xs).flatten) h:=by
 unfold afk;dsimp only
 by_cases e:(k:Int)=1
 ·rw[aN e];have:k=1:=by omega
  subst this;simp
 ·rw[bp e];unfold ahv;dsimp only;have hl:xs.length*(k:Int).toNat<=LINE:=by
   rw[dC];have:xs.length*k<=1000*1000:=cX xl k2;show xs.length*k<=16777216;omega
  exact(aN ⟨⟨ne,by omega,by omega⟩,hl⟩).trans (by rw[dC])
end MI
namespace SETA
open PySem.SetTable
def aga(xs:Array Nat):Prop:=∀i j (hi:i<xs.size) (hj:j<xs.size),i<j->xs[i]<xs[j]
theorem apv(xs:Array Nat)(ri:aga xs)(j:Nat):∀(fuel lo hi:Nat),hi-lo<=fuel->lo<=hi->hi<=xs.size->(∀i (h:i<xs.size),i<lo->xs[i]<j)->(∀i (h:i<xs.size),hi<=i->j<=xs[i])->
  lo<=below.go xs j fuel lo hi/\below.go xs j fuel lo hi<=hi/\(∀i (h:i<xs.size),i<below.go xs j fuel lo hi->xs[i]<j)/\∀i (h:i<xs.size),below.go xs j fuel lo hi<=i->j<=xs[i]:=by
 intro fuel
 induction fuel with
 |zero =>
  intro lo hi h1 h2 h3 a b
  have:lo=hi:=by omega
  subst this;exact⟨ay _,ay _,a,b⟩
 |succ fuel ih =>
  intro lo hi h1 h2 h3 a b
  unfold below.go
  split
  ·rename_i c;have hm:(lo+hi) / 2<xs.size:=by omega
   have e:xs.getD ((lo+hi) / 2) j=xs[(lo+hi) / 2]:=by simp[Array.getD,hm]
   dsimp only;rw[e]
   split
   ·rename_i q;have r:=ih ((lo+hi) / 2+1) hi (by omega) (by omega) h3 (λi h z=>by
     by_cases y:i=(lo+hi) / 2
     ·subst y;exact q
     ·exact Nat.lt_trans (ri i _ h hm (by omega)) q) b
    exact⟨by omega,r.2.1,r.2.2⟩
   ·rename_i q;have r:=ih lo ((lo+hi) / 2) (by omega) (by omega) (by omega) a (λi h z=>by
     by_cases y:i=(lo+hi) / 2
     ·subst y;omega
     ·have:=ri _ i hm h (by omega);omega)
    exact⟨r.1,by omega,r.2.2⟩
  ·have:lo=hi:=by omega
   subst this;exact⟨ay _,ay _,a,b⟩
theorem a0n(ri:aga xs)(j:Nat):below xs j<=xs.size/\(∀i (h:i<xs.size),i<below xs j->xs[i]<j)/\∀i (h:i<xs.size),below xs j<=i->j<=xs[i]:=by
 have:=apv xs ri j xs.size 0 xs.size (by omega) (by omega) (ay _) (λi _ z=>absurd z (fY i)) λi h z=>absurd h (by omega)
 exact⟨this.2.1,this.2.2⟩
theorem below_at(ri:aga xs)(hk:k<xs.size):below xs xs[k]=k:=by
 obtain⟨h1,h2,h3⟩:=a0n ri xs[k]
 apply dU
 intro z
 rcases gB z with c|c
 ·have:=h3 (below xs xs[k]) (by omega) (ay _)
  have:=ri (below xs xs[k]) k (by omega) hk c
  omega
 ·have:=h2 k hk c
  omega
theorem afl(ri:aga xs)(hk:k<xs.size):below xs (xs[k]+1)=k+1:=by
 obtain⟨h1,h2,h3⟩:=a0n ri (xs[k]+1)
 apply dU
 intro z
 rcases gB z with c|c
 ·have:=h3 k hk (by omega)
  omega
 ·have:=h2 (k+1) (by omega) c
  have:=ri k (k+1) hk (by omega) (by omega)
  omega
theorem apw(ri:aga xs):below xs 0=0:=by
 obtain⟨h1,h2,h3⟩:=a0n ri 0
 apply dU
 intro z
 have:=h2 0 (by omega) (by omega)
 omega
structure Gd (t:SetTable):Prop where
 ri:aga t.place
 dm:t.dummies = #[]
theorem afm:aga #[]:=λi j hi=>absurd hi (by simp)
theorem alb(f m:Nat)(l:Bool):Gd (.fresh f m l):=⟨afm,rfl⟩
theorem afn(n:Nat):aga (Array.range n):=λi j hi hj h=>by simpa using h
theorem a6r{l:List Nat}(h:l.Pairwise (· < ·)):aga l.toArray:=λi j hi hj c=>by
 have:=cF.mp h i j (by simpa using hi) (by simpa using hj) c
 simpa using this
theorem ab0(h:aga xs):xs.toList.Pairwise (· < ·):=cF.mpr λi j hi hj c=>by
 have:=h i j (by simpa using hi) (by simpa using hj) c
 simpa using this
theorem a80(t:SetTable)(n:Nat):Gd (t.standIn n):=⟨afn n,rfl⟩
theorem ab1(g:Gd t)(n:Nat):Gd (t.orStandIn n):=by
 unfold SetTable.orStandIn
 split
 ·exact g
 ·exact a80 t n
theorem a6s(j:Nat):has #[] j=false:=by simp[has]
theorem afo(g:Gd t)(h:t.slot j=.empty):∀k (hk:k<t.place.size),t.place[k]≠j:=λk hk e=>by
 subst e;unfold SetTable.slot at h;simp only[below_at g.ri hk]at h;rw[aN (by simp[hk])]at h
 cases h
theorem alc(g:Gd t):∀(fuel:Nat) (p:Probe) (j:Nat) (d:Option Nat),p.dummy=none->SetTable.probe.go t ha h fuel p=some (.empty j d)->t.slot j=.empty/\d=none:=by
 intro fuel
 induction fuel with
 |zero=>intro p j d _ z;simp[SetTable.probe.go]at z
 |succ fuel ih =>
  intro p j d hp z
  unfold SetTable.probe.go at z
  cases e:t.slot p.j with
  |empty =>
   rw[e]at z;simp only[gR,Met.empty.injEq]at z;obtain⟨rfl,rfl⟩:=z;exact⟨e,hp⟩
  |dummy =>
   exfalso
   unfold SetTable.slot at e;rw[g.dm,a6s]at e;dsimp only at e
   split at e<;>simp at e
  |live i =>
   rw[e]at z;dsimp only at z
   split at z
   ·cases z
   ·refine ih _ j d ?_ z;unfold SetTable.advance
    split
    ·exact hp
    ·exact hp
theorem a6t(g:Gd t)(e:t.freeSlot h=some (j,b)):(∀k (hk:k<t.place.size),t.place[k]≠j)/\b=false:=by
 unfold SetTable.freeSlot at e
 split at e
 ·rename_i j' d q;obtain⟨h1,h2⟩:=alc g _ _ _ _ rfl q;subst h2;simp only[gZ,Option.isSome_none,gR,ia]at e;obtain⟨rfl,rfl⟩:=e;exact⟨afo g h1,rfl⟩
 ·cases e
theorem acg(ri:aga xs)(h:∀k (hk:k<xs.size),xs[k]≠j):aga (SetTable.insertAt xs (below xs j) j):=by
 obtain⟨h1,h2,h3⟩:=a0n ri j;have e:(SetTable.insertAt xs (below xs j) j)=(xs.toList.take (below xs j)++j::xs.toList.drop (below xs j)).toArray:=by
  exact Array.ext' ((SetTable.toList_insertAt _ _ _).trans (by simp))
 rw[e];refine a6r ?_;have rl:=ab0 ri;rw[List.pairwise_append];refine⟨rl.sublist (gN _ _),List.pairwise_cons.mpr ⟨λa ha=>?_,rl.sublist (List.drop_sublist _ _)⟩,λa ha b hb=>?_⟩
 ·obtain⟨i,hi,rfl⟩:=eO.mp ha;rw[List.getElem_drop];rw[bq,bB]at hi;have h4:=h3 (below xs j+i) (by omega) (by omega)
  have h5:=h (below xs j+i) (by omega)
  rw[fO];omega
 ·obtain⟨i,hi,rfl⟩:=eO.mp ha;rw[List.getElem_take];rw[bb,bB]at hi;have h4:=h2 i (by omega) (by omega)
  rw[fO]
  rcases aO.mp hb with rfl|hb
  ·exact h4
  ·obtain⟨k,hk,rfl⟩:=eO.mp hb;rw[List.getElem_drop];rw[bq,bB]at hk;have h6:=h3 (below xs j+k) (by omega) (by omega)
   rw[fO];omega
theorem anc(g:Gd t)(h:∀k (hk:k<t.place.size),t.place[k]≠j):Gd (t.put j).1:=by
 refine⟨acg g.ri h,?_⟩;show(if has t.dummies j=true then _ else t.dummies) = #[]
 rw[g.dm,a6s];rfl
theorem ai2(g:Gd t)(es:Array (Int×Value))(h:Int)(x:Value):Gd (layNew t es h x).2.1/\(layNew t es h x).2.2.1=false:=by
 unfold layNew
 split
 ·rename_i slot wd e;obtain⟨h1,h2⟩:=a6t g e;exact⟨ab1 (anc g h1) _,h2⟩
 ·exact⟨a80 _ _,rfl⟩
theorem ai3{mask f m:Nat}{t:SetTable}(e:SetTable.laid mask f m l p hs=some (t,o)):Gd t/\t.led=l:=by
 unfold SetTable.laid at e
 cases q:layClean mask hs with
 |none=>rw[q]at e;cases e
 |some owner =>
  rw[q]at e;simp only[Option.bind_eq_bind,Option.bind_some,Option.pure_def,gR,ia]at e;obtain⟨rfl,rfl⟩:=e;refine⟨⟨a6r ?_,rfl⟩,rfl⟩;have:∀l:List Nat,l.Pairwise (· < ·)->((l.filterMap λj=>(owner.getD j none).map (j, ·)).map (·.1)).Pairwise (· < ·):=λl hl=>by
   have sub:((l.filterMap λj=>(owner.getD j none).map (j, ·)).map (·.1)).Sublist l:=by
    clear hl
    induction l with
    |nil=>exact .slnil
    |cons a l ih =>
     cases q:owner.getD a none with
     |none =>
      rw[List.filterMap_cons_none (by rw[q];rfl)]
      exact .cons _ ih
     |some b =>
      rw[List.filterMap_cons_some (b:=(a,b)) (by rw[q];rfl),bH]
      exact .cons₂ _ ih
   exact hl.sublist sub
  exact this _ List.pairwise_lt_range
theorem a9b(t:SetTable)(n:Nat):(t.orStandIn n).led=t.led:=by
 unfold SetTable.orStandIn
 split<;>rfl
theorem afp(t:SetTable)(es:Array (Int×Value))(h:Int)(x:Value):(layNew t es h x).2.1.led=t.led:=by
 unfold layNew
 split
 ·exact a9b _ _
 ·rfl
theorem ai4(t:SetTable)(es:Array (Int×Value))(n:Nat):(relayAll t es n).2.1.led=t.led:=by
 unfold relayAll
 split
 ·rename_i t' o e;dsimp only
  split
  ·exact(ai3 e).2
  ·rfl
 ·rfl
end SETA
namespace SETH
def it:Nat->Nat->Nat
 |0,x=>x
 |n+1,x=>it n (5*x+1)
theorem ai5(m:Nat):∀(n x:Nat),it (n+m) x=it m (it n x)
 |0,x=>by rw[gE];rfl
 |n+1,x=>by rw[show n+1+m=(n+m)+1 by omega];exact ai5 m n _
theorem ane:∀k:Nat,∃c,∀x,it (2^k) x=(4*(2^k*(2*c+1))+1)*x+2^k*(2*c+1)
 |0=>⟨0,λx=>by show 5*x+1=_;omega⟩
 |k+1=>by
  obtain⟨c,h⟩:=ane k;refine⟨2*c*(2^k*(2*c+1))+c+2^k*(2*c+1),λx=>?_⟩;have e:2^(k+1)=2^k+2^k:=by rw[i6];omega
  rw[e,ai5,h,h]
  generalize 2^k=P
  grind
theorem full:∀(k x y:Nat),∃n,n<2^k/\it n x%2^k=y%2^k
 |0,x,y=>⟨0,by decide,by rw[Nat.pow_zero,Nat.mod_one,Nat.mod_one]⟩
 |k+1,x,y=>by
  obtain⟨n,hn,e⟩:=full k x y;obtain⟨c,h⟩:=ane k;have hp:0<2^k:=Nat.pow_pos (by decide)
  rw[i6]
  by_cases q:it n x / 2^k%2=y / 2^k%2
  ·exact⟨n,by omega,by rw[i9,i9,e,q]⟩
  ·refine⟨n+2^k,by omega,?_⟩
   rw[ai5,h]
   generalize 2^k=P at *
   generalize it n x=z at *
   have:(4*(P*(2*c+1))+1)*z+P*(2*c+1)=(z+P)+P*2*(2*(2*c+1)*z+c):=by grind
   rw[this,Nat.add_mul_mod_self_left,i9,i9,Nat.add_mod_right,e,Nat.add_div_right _ hp]
   congr 2
   omega
def im(M:Nat):Nat->Nat->Nat
 |0,x=>x
 |n+1,x=>im M n ((x*5+1)%M)
theorem au5(M:Nat):∀(n x:Nat),im M n x%M=it n x%M
 |0,x=>rfl
 |n+1,x=>by
  show im M n _%M=it n _%M;rw[au5 M n];have:∀n a b,a%M=b%M->it n a%M=it n b%M:=by
   intro n
   induction n with
   |zero=>exact λa b h=>h
   |succ n ih=>exact λa b h=>ih _ _ (by rw[Nat.add_mod,Nat.mul_mod,h,<-Nat.mul_mod,<-Nat.add_mod])
  exact this n _ _ (by rw[Nat.mod_mod,eH])
theorem au6(hM:0<M):∀(n x:Nat),x<M->im M n x<M
 |0,x,h=>h
 |n+1,x,h=>au6 hM n _ (fF _ hM)
theorem apx(hx:x<2^k)(hy:y<2^k):∃n,n<2^k/\im (2^k) n x=y:=by
 obtain⟨n,hn,e⟩:=full k x y;refine⟨n,hn,?_⟩;rw[<-au5,Nat.mod_eq_of_lt hy,Nat.mod_eq_of_lt (au6 (by omega) n x hx)]at e
 exact e
open PySem.SetTable
def ls(mask:Nat):Nat->Nat×Nat->Nat×Nat
 |0,x=>x
 |n+1,x=>ls mask n (leap mask x.1 x.2)
theorem anf(mask m:Nat):∀(n:Nat) (x:Nat×Nat),ls mask (n+m) x=ls mask m (ls mask n x)
 |0,x=>by rw[gE];rfl
 |n+1,x=>by rw[show n+1+m=(n+m)+1 by omega];exact anf mask m n _
theorem a81(mask:Nat):∀(n:Nat) (x:Nat×Nat),(ls mask n x).2=x.2 / 32^n
 |0,x=>by rw[Nat.pow_zero,Nat.div_one];rfl
 |n+1,x=>by
  show(ls mask n _).2=_;rw[a81 mask n,i6,eH,<-Nat.div_div_eq_div_mul];rfl
theorem au7(mask:Nat):∀(n:Nat) (x:Nat×Nat),x.1<=mask->(ls mask n x).1<=mask
 |0,x,h=>h
 |n+1,x,h=>au7 mask n _ (dE (fF _ (eI _)))
theorem au8(mask:Nat):∀(n i:Nat),ls mask n (i,0)=(im (mask+1) n i,0)
 |0,i=>rfl
 |n+1,i=>by
  show ls mask n (leap mask i 0)=(im (mask+1) n _,0);rw[<-au8 mask n];rfl
theorem hit{mask k i p y:Nat}(hk:mask+1=2^k)(hi:i<=mask)(hp:p<2^64)(hy:y<=mask):∃m,m<mask+14/\(ls mask m (i,p)).1=y:=by
 have e:ls mask 13 (i,p)=((ls mask 13 (i,p)).1,0):=by
  refine Prod.ext rfl ?_;rw[a81];show p / 32^13=0;exact Nat.div_eq_of_lt (by omega)
 have h13:=au7 mask 13 (i,p) hi;obtain⟨n,hn,en⟩:=apx (k:=k) (x:=(ls mask 13 (i,p)).1) (y:=y) (by omega) (by omega)
 refine⟨13+n,by omega,?_⟩
 rw[anf,e,au8];show im (mask+1) n _=y;rw[hk];exact en
end SETH
namespace SETH
open PySem.SetTable SETA
theorem a6u(mask i:Nat):i<=runEnd mask i:=by unfold runEnd;split<;>omega
theorem a6v{mask i:Nat}(h:i<=mask):runEnd mask i<=mask:=by unfold runEnd;split<;>omega
theorem ae1(mask i:Nat):runEnd mask i-i<=9:=by unfold runEnd;split<;>omega
theorem ab2{mask:Nat}{owner:Array (Option Nat)}:∀(fuel i p m:Nat),m<fuel->i<=mask->owner.getD (ls mask m (i,p)).1 (some 0)=none->∃j,layClean.free mask owner fuel i p=some j/\j<=mask/\owner.getD j (some 0)=none
 |0,i,p,m,h,_,_=>absurd h (fY _)
 |fuel+1,i,p,m,h,hi,e=>by
  unfold layClean.free;have ge:=a6u mask i;have le:=a6v hi
  split
  ·rename_i k hk;refine⟨_,rfl,?_,?_⟩
   ·have:=List.mem_of_find?_eq_some hk
    rw[dR]at this;omega
   ·have:=List.find?_some hk
    exact gK.mp this
  ·rename_i hk
   cases m with
   |zero =>
    have:=List.find?_eq_none.mp hk 0 (dR.mpr (by omega))
    exact absurd (gK.mpr e) this
   |succ m=>exact ab2 fuel _ _ m (by omega) (dE (fF _ (eI _))) e
theorem a5e{t:SetTable}{p:Probe}(h:p.more > 0):t.advance p={p with j:=p.j+1,more:=p.more-1}:=by unfold advance;rw[aN h]
theorem a5f{t:SetTable}{p:Probe}(h:p.more=0):t.advance p={p with j:=(leap t.mask p.i p.perturb).1,more:=runEnd t.mask (leap t.mask p.i p.perturb).1-(leap t.mask p.i p.perturb).1,i:=(leap t.mask p.i p.perturb).1,perturb:=(leap t.mask p.i p.perturb).2}:=by unfold advance;rw[bp (by omega)]
theorem ach{t:SetTable}:∀(fuel m:Nat) (p:Probe),p.more+10*m+1<fuel->t.slot (ls t.mask (m+1) (p.i,p.perturb)).1=.empty->∃j d,probe.go t (λ_=>h+1) h fuel p=some (.empty j d)
 |0,m,p,hf,_=>absurd hf (fY _)
 |fuel+1,m,p,hf,e=>by
  have ne:(h+1 == h)=false:=by simpa using (by omega:h+1≠h)
  have next:∀d,∃j d',probe.go t (λ_=>h+1) h fuel (t.advance {p with dummy:=d})=some (.empty j d'):=λd=>by
   by_cases hm:p.more > 0
   ·rw[a5e (by exact hm)]
    exact ach fuel m _ (by show p.more-1+10*m+1<fuel;omega) e
   ·rw[a5f (by show p.more=0;omega)]
    cases m with
    |zero =>
     cases fuel with
     |zero=>omega
     |succ fuel =>
      have e:t.slot (leap t.mask p.i p.perturb).1=.empty:=e;unfold probe.go;simp only[e];exact⟨_,_,rfl⟩
    |succ m =>
     have:=ae1 t.mask (leap t.mask p.i p.perturb).1
     exact ach fuel m _ (by show runEnd t.mask (leap t.mask p.i p.perturb).1-(leap t.mask p.i p.perturb).1+10*m+1<fuel;omega) e
  unfold probe.go
  split
  ·exact⟨_,_,rfl⟩
  ·exact next _
  ·rw[ne];exact next p.dummy
theorem ai6{t:SetTable}(hd:t.dummies = #[])(hy:∀k (hk:k<t.place.size),t.place[k]≠y):t.slot y=.empty:=by
 unfold slot;dsimp only;rw[bp,hd,a6s]
 ·rfl
 ·intro c
  have c:t.place[below t.place y]? = some y:=by simpa using c
  obtain⟨hk,e⟩:=g9.mp c;exact hy _ hk e
theorem a9c{t:SetTable}(hk:t.mask+1=2^k)(hd:t.dummies = #[])(hy:y<=t.mask)(fr:∀k (hk:k<t.place.size),t.place[k]≠y)(h:Int):∃r,t.freeSlot h=some r:=by
 have sl:=ai6 hd fr;have hi:bits h%(t.mask+1)<=t.mask:=dE (fF _ (eI _));have hb:bits h<2^64:=by unfold bits;omega
 obtain⟨m,hm,e⟩:=hit hk hi hb hy;have r9:=ae1 t.mask (bits h%(t.mask+1));have:∃j d,t.probe (λ_=>h+1) h (t.probeStart h)=some (.empty j d):=by
  unfold probe turns
  cases m with
  |zero =>
   have e:bits h%(t.mask+1)=y:=e;rw[show 10*(t.mask+15)=(10*(t.mask+15)-1)+1 by omega]
   unfold probe.go probeStart;simp only[e,sl];exact⟨_,_,rfl⟩
  |succ m=>exact ach _ m _ (by show runEnd t.mask (bits h%(t.mask+1))-bits h%(t.mask+1)+10*m+1<_;omega) (by rw[<-e]at sl;exact sl)
 obtain⟨j,d,x⟩:=this;unfold freeSlot;rw[x];exact⟨_,rfl⟩
theorem ai7:∀l:List (Option Nat),(l.filterMap id).length<l.length->∃i,∃h:i<l.length,l[i]=none
 |[],h=>absurd h (cv _)
 |none::l,_=>⟨0,eI _,rfl⟩
 |some x::l,h=>by
  obtain⟨i,hi,e⟩:=ai7 l (by simpa using h)
  exact⟨i+1,Nat.succ_lt_succ hi,e⟩
theorem ae2(k:Nat):∀(l:List (Option Nat)) (i:Nat) (h:i<l.length),l[i]=none->((l.set i (some k)).filterMap id).Perm (k::l.filterMap id)
 |x::l,0,_,e=>by
  have e:x=none:=e;subst e;simp
 |x::l,i+1,h,e=>by
  have ih:=ae2 k l i (Nat.lt_of_succ_lt_succ h) e
  cases x with
  |none=>simpa using ih
  |some x =>
   simp only[List.set_cons_succ,dG,id];exact(ih.cons x).trans (List.Perm.swap ..)
structure Own (mask n:Nat) (o:Array (Option Nat)):Prop where
 size:o.size=mask+1
 all:(o.toList.filterMap id).Perm (List.range n)
theorem axy(mask:Nat):Own mask 0 (Array.replicate (mask+1) none) where
 size:=by simp
 all:=by simp
theorem Own.free{mask n:Nat}{o:Array (Option Nat)}(w:Own mask n o)(hn:n<=mask):∃y,y<=mask/\o.getD y (some 0)=none:=by
 have:=w.all.length_eq
 rw[bK]at this;obtain⟨i,hi,e⟩:=ai7 o.toList (by rw[this,bB,w.size];omega)
 have hs:i<o.size:=by simpa using hi
 refine⟨i,by have:=w.size;omega,?_⟩
 simp only[Array.getD,hs,dif_pos];simpa using e
theorem Own.put{mask n j:Nat}{o:Array (Option Nat)}(w:Own mask n o)(hj:j<=mask)(e:o.getD j (some 0)=none):Own mask (n+1) (o.setIfInBounds j (some n)) where
 size:=by rw[Array.size_setIfInBounds];exact w.size
 all:=by
  have hs:j<o.size:=by have:=w.size;omega
  have e:o.toList[j]'(by simpa using hs)=none:=by
   simp only[Array.getD,hs,dif_pos]at e;simpa using e
  rw[Array.toList_setIfInBounds,List.range_succ];exact(ae2 n _ _ _ e).trans ((w.all.cons n).trans (List.perm_append_singleton n _).symm)
theorem ae3{mask k:Nat}(hk:mask+1=2^k)
  (hF:∀o n h j,layClean.free mask o (turns mask) (bits h%(mask+1)) (bits h)=some j->F (some (o,n)) h=some (o.setIfInBounds j (some n),n+1)) :
  ∀(hs:List Int) (o:Array (Option Nat)) (n:Nat),Own mask n o->n+hs.length<=mask+1->∃o',hs.foldl F (some (o,n))=some (o',n+hs.length)/\Own mask (n+hs.length) o'
 |[],o,n,w,_=>⟨o,rfl,w⟩
 |h::hs,o,n,w,le=>by
  rw[aJ]at le ⊢;obtain⟨y,hy,e⟩:=w.free (by omega)
  have hi:bits h%(mask+1)<=mask:=dE (fF _ (eI _));obtain⟨m,hm,em⟩:=hit hk hi (p:=bits h) (by unfold bits;omega) hy
  obtain⟨j,ej,hj,fj⟩:=ab2 (turns mask) (bits h%(mask+1)) (bits h) m (by unfold turns;omega) hi (by rw[em];exact e)
  obtain⟨o',eo,wo⟩:=ae3 hk hF hs _ (n+1) (w.put hj fj) (by omega)
  refine⟨o',?_,by rw[show n+(hs.length+1)=n+1+hs.length by omega];exact wo⟩
  rw[fV,hF o n h j ej,eo,show n+(hs.length+1)=n+1+hs.length by omega]
theorem ald{mask k:Nat}(hk:mask+1=2^k)(hs:Array Int)(le:hs.size<=mask+1)
  (hF:∀o n h j,layClean.free mask o (turns mask) (bits h%(mask+1)) (bits h)=some j->F (some (o,n)) h=some (o.setIfInBounds j (some n),n+1)) :
  ∃o,(hs.toList.foldl F (some (Array.replicate (mask+1) none,0))).map (·.1)=some o/\Own mask hs.size o:=by
 obtain⟨o,e,w⟩:=ae3 hk hF hs.toList _ 0 (axy mask) (by simpa using le)
 rw[e];exact⟨o,rfl,by simpa using w⟩
theorem afq{mask k:Nat}(hk:mask+1=2^k)(hs:Array Int)(le:hs.size<=mask+1):∃o,layClean mask hs=some o/\Own mask hs.size o:=by
 unfold layClean;rw[<-Array.foldl_toList];refine ald hk hs le λo n h j ej=>?_;simp only[Option.bind_eq_bind,Option.bind_some,ej];rfl
theorem ale{mask n:Nat}{o:Array (Option Nat)}(w:Own mask n o):((List.range (mask+1)).filterMap λj=>(o.getD j none).map (j, ·)).map (·.2)=o.toList.filterMap id:=by
 have e:o.toList=(List.range (mask+1)).map λj=>o.getD j none:=by
  refine List.ext_getElem (by simp[w.size]) λi h1 h2=>?_
  have hs:i<o.size:=by simpa using h1
  simp[Array.getD,hs]
 rw[e,List.filterMap_map,List.map_filterMap]
 congr 1
 funext j
 show _=o.getD j none
 cases o.getD j none<;>rfl
theorem ai8{mask k f m:Nat}(hk:mask+1=2^k)(hs:Array Int)(le:hs.size<=mask+1):∃t o,laid mask f m l p hs=some (t,o)/\t.mask=mask/\t.dummies = #[]/\t.plain=p/\t.place.size=hs.size/\(∀i (h:i<t.place.size),t.place[i]<=mask)/\o.toList.Perm (List.range hs.size):=by
 obtain⟨o,e,w⟩:=afq hk hs le;unfold laid;rw[e];have ls:=ale w;have len:((List.range (mask+1)).filterMap λj=>(o.getD j none).map (j, ·)).length=hs.size:=by
  have:=w.all.length_eq
  rw[<-ls,ah,bK]at this;exact this
 refine⟨_,_,rfl,rfl,rfl,rfl,by simpa using len,λi hi=>?_,?_⟩
 ·have hm:=gS hi;simp only[List.mem_toArray,da,gy,dR]at hm;obtain⟨⟨a,b⟩,⟨j,hj,x⟩,y⟩:=hm
  cases g:o.getD j none with
  |none=>rw[g]at x;cases x
  |some z =>
   rw[g]at x;cases x
   exact dE (y ▸ hj)
 ·show List.Perm (List.map _ _) _;exact(ls ▸ w.all)
theorem ae4(n:Nat):∀(fuel a:Nat),n<2^(a+fuel)->∃b,a<=b/\sizeAbove.go n fuel (2^a)=2^b/\n<2^b
 |0,a,h=>⟨a,ay _,rfl,h⟩
 |fuel+1,a,h=>by
  unfold sizeAbove.go
  split
  ·obtain⟨b,h1,h2,h3⟩:=ae4 n fuel (a+1) (by rw[show a+1+fuel=a+(fuel+1) by omega];exact h)
   exact⟨b,by omega,h2,h3⟩
  ·exact⟨a,ay _,rfl,by omega⟩
theorem above(h:n<2^67):∃b,3<=b/\sizeAbove n=2^b/\n<2^b:=ae4 n 64 3 h
theorem gap:∀(l:List Nat) (a:Nat),l.Pairwise (· < ·)->(∀x∈l,a<=x)->∃y,a<=y/\y<=a+l.length/\y∉l
 |[],a,_,_=>⟨a,ay _,ay _,bD⟩
 |x::l,a,p,g=>by
  obtain⟨p1,p2⟩:=List.pairwise_cons.mp p;have gx:=g x (bE ..);rw[aJ]
  by_cases e:x=a
  ·obtain⟨y,h1,h2,h3⟩:=gap l (a+1) p2 λz hz=>by have:=p1 z hz;omega
   exact⟨y,by omega,by omega,λc=>(aO.mp c).elim (λc=>by omega) h3⟩
  ·exact⟨a,ay _,by omega,λc=>(aO.mp c).elim (λc=>e c.symm) λc=>by have:=p1 a c;omega⟩
structure Gs (t:SetTable):Prop where
 gd:Gd t
 pow:∃k,t.mask+1=2^k
 big:7<=t.mask
 le:∀i (h:i<t.place.size),t.place[i]<=t.mask
 plain:t.plain=true
theorem alf(f m:Nat)(l:Bool):Gs (.fresh f m l):=⟨alb f m l,⟨3,rfl⟩,ay _,λi h=>absurd h (fY _),rfl⟩
theorem a9d(g:Gd t):t.fill=t.place.size:=by unfold fill;rw[g.dm];rfl
theorem a82{t:SetTable}{p:Probe}(h:p.j+p.more<=t.mask):(t.advance p).j+(t.advance p).more<=t.mask:=by
 by_cases hm:p.more > 0
 ·rw[a5e hm];show p.j+1+(p.more-1)<=_;omega
 ·rw[a5f (by omega)]
  have h1:(leap t.mask p.i p.perturb).1<=t.mask:=dE (fF _ (eI _));have h2:=a6v h1;have h3:=a6u t.mask (leap t.mask p.i p.perturb).1;show(leap t.mask p.i p.perturb).1+(runEnd t.mask (leap t.mask p.i p.perturb).1-(leap t.mask p.i p.perturb).1)<=_;omega
theorem apy{t:SetTable}:∀(fuel:Nat) (p:Probe) (j:Nat) (d:Option Nat),p.j+p.more<=t.mask->probe.go t ha h fuel p=some (.empty j d)->j<=t.mask
 |0,p,j,d,_,e=>by cases e
 |fuel+1,p,j,d,hp,e=>by
  unfold probe.go at e
  split at e
  ·cases e
   omega
  ·exact apy fuel _ j d (a82 (p:={p with dummy:=some p.j}) hp) e
  ·split at e
   ·cases e
   ·exact apy fuel _ j d (a82 hp) e
theorem apz{t:SetTable}(e:t.freeSlot h=some (j,b))(hb:b=false):j<=t.mask:=by
 unfold freeSlot at e
 split at e
 ·rename_i j' d x;have:=apy _ _ j' d (by
   have h1:bits h%(t.mask+1)<=t.mask:=dE (fF _ (eI _));have h2:=a6v h1;have h3:=a6u t.mask (bits h%(t.mask+1));show bits h%(t.mask+1)+(runEnd t.mask (bits h%(t.mask+1))-bits h%(t.mask+1))<=t.mask;omega) x
  cases d with
  |none=>cases e;exact this
  |some d=>cases e;cases hb
 ·cases e
theorem ang{xs:Array Nat}(h:z∈xs.extract a b):z∈xs:=by
 obtain⟨i,hi,e⟩:=fJ.mp h;rw[Array.getElem_extract]at e;exact e ▸ gS _
theorem a6w{α:Type}(xs:Array α)(p:Nat)(x:α)(hp:p<=xs.size):(insertAt xs p x).size=xs.size+1:=by
 simp[insertAt]
 omega
theorem ai9(g:Gs t)(es:Array (Int×Value))(hs:t.place.size=es.size)(aG:t.fill*5<t.mask*3)(h:Int)(x:Value) :
  Gs (layNew t es h x).2.1/\(layNew t es h x).2.2.2=false/\(layNew t es h x).2.1.fits (layNew t es h x).1.size=true/\(layNew t es h x).2.1.mask=t.mask/\(layNew t es h x).2.1.place.size=es.size+1:=by
 have big:=g.big;have fl:=a9d g.gd;obtain⟨k,hk⟩:=g.pow;obtain⟨y,_,hy,ny⟩:=gap t.place.toList 0 (ab0 g.gd.ri) λ_ _=>ba _;rw[bB]at hy;obtain⟨⟨j,b⟩,e⟩:=a9c hk g.gd.dm (y:=y) (by omega) (λi hi c=>ny (by rw[<-c];simp)) h
 obtain⟨f1,f2⟩:=a6t g.gd e;have hj:=apz e f2;have bl:=(a0n g.gd.ri j).1;have sz1:(t.put j).1.place.size=es.size+1:=by
  show(insertAt t.place _ j).size=_;rw[a6w _ _ _ bl,hs]
 have sz2:(insertAt es (t.put j).2 (h,x)).size=es.size+1:=a6w _ _ _ (by show below t.place j<=_;omega)
 have gp:=anc g.gd f1;have ft:(t.put j).1.fits (insertAt es (t.put j).2 (h,x)).size=true:=by
  unfold fits;rw[a9d gp,sz1,sz2];have:es.size+1<=(t.put j).1.mask:=by show _<=t.mask;omega
  simp[this]
 have pl:∀z∈(t.put j).1.place,z<=t.mask:=λz hz=>by
  have hz:z∈insertAt t.place (below t.place j) j:=hz;simp only[insertAt,Array.mem_append,Array.mem_push]at hz
  rcases hz with(hz|hz)|hz
  ·obtain⟨i,hi,e⟩:=fJ.mp (ang hz);exact e ▸ g.le i hi
  ·omega
  ·obtain⟨i,hi,e⟩:=fJ.mp (ang hz);exact e ▸ g.le i hi
 have gs:Gs (t.put j).1:=⟨gp,g.pow,g.big,λi hi=>pl _ (gS hi),g.plain⟩;have eq:layNew t es h x=(insertAt es (t.put j).2 (h,x),(t.put j).1,b,false):=by
  unfold layNew;rw[e];simp only[ft,orStandIn,dI,Bool.not_true]
 rw[eq];exact⟨gs,rfl,ft,rfl,sz1⟩
theorem anh{es:Array (Int×Value)}:∀l:List Nat,(∀x∈l,x<es.size)->(l.filterMap (es[·]?)).length=l.length
 |[],_=>rfl
 |x::l,h=>by
  rw[dG,bW (h x (bE ..))];exact aK (·+1) (anh l λz hz=>h z (aY _ hz))
theorem alg(g:Gs t)(es:Array (Int×Value))(hn:n<2^67)(big:es.size*2<=n)(pos:0<es.size) :
  Gs (relayAll t es n).2.1/\(relayAll t es n).2.2=false/\(relayAll t es n).2.1.fits (relayAll t es n).1.size=true/\(relayAll t es n).2.1.fill*5<(relayAll t es n).2.1.mask*3:=by
 obtain⟨b,h3,eb,lb⟩:=above hn;have p8:2^3<=2^b:=Nat.pow_le_pow_right (by decide) h3
 have hk:sizeAbove n-1+1=2^b:=by omega
 obtain⟨t',o,e,hm,hd,hp,hs,hl,ho⟩:=ai8 (f:=t.finger) (m:=t.movedTo (sizeAbove n-1)) (l:=t.led) (p:=t.plain) hk (es.map (·.1)) (by rw[Array.size_map];omega)
 rw[Array.size_map]at hs ho;have gd':=(ai3 e).1;have cov:coversAll o es.size=true:=List.isPerm_iff.mpr ho;have sz:(o.filterMap (es[·]?)).size=es.size:=by
  rw[<-bB,Array.toList_filterMap,anh _ λx hx=>dR.mp (ho.mem_iff.mp hx),ho.length_eq,bK]
 have fl:=a9d gd';have ft:t'.fits (o.filterMap (es[·]?)).size=true:=by
  unfold fits;rw[fl,sz,hs];have:es.size<=t'.mask:=by omega
  simp[this]
 have eq:relayAll t es n=(o.filterMap (es[·]?),t',false):=by
  unfold relayAll relaid;rw[e];simp only[cov,ft,Bool.and_self,dI]
 rw[eq];exact⟨⟨gd',⟨b,by rw[hm];exact hk⟩,by rw[hm];omega,λi hi=>by rw[hm];exact hl i hi,hp.trans g.plain⟩,rfl,ft,by show t'.fill*5<t'.mask*3;omega⟩
end SETH
namespace SETB
open PyProof.Rows SETA
def kOf:Int×Value->Int
 |(_,.int k _)=>k
 |_=>0
def AllI(l:List (Int×Value)):Prop:=∀e∈l,∃k t,e=(hashInt k,Value.int k t)
def Gr(t:SetTable):Prop:=SETH.Gs t/\t.fill*5<t.mask*3
def SetI(b:Bool)(a:Addr)(ks:List Int)(h:Heap):Prop :=
 ∃o es ep t,h.get? a=some o/\o.ExactSet/\o.data=.set es ep t/\AllI es.toList/\(es.toList.map kOf).Perm ks/\es.size<scanBound/\t.fits es.size=true/\Gr t/\t.led=b
theorem SetI.keep{h':Heap}(x:SetI b a ks h)(k:∀o,h.get? a=some o->h'.get? a=some o):SetI b a ks h':=by
 obtain⟨o,es,ep,t,ho,r⟩:=x;exact⟨o,es,ep,t,k o ho,r⟩
theorem SetI.len(x:SetI b a ks h):ks.length<scanBound:=by
 obtain⟨o,es,ep,t,_,_,_,_,p,hb,_⟩:=x;have:=p.length_eq;rw[ah,bB]at this;omega
section
variable{prog:Program}{w:World}{E:Value->Shared->Prop}{A:Around}{s:Shared}
theorem AllI.el(h:AllI l):ElemsOf (intKind prog w) l:=λe he=>by
 obtain⟨k,t,rfl⟩:=h e he;exact⟨⟨k,by simp[intKind,Value.isInt],rfl⟩,rfl⟩
theorem az6(h:e=(hashInt j,Value.int j t)):(intKind prog w).is k e.2=decide (k=j):=by
 subst h
 by_cases q:k=j
 ·subst q;simp[intKind,Value.isInt]
 ·rw[bA q];show Value.isInt k (Value.int j t)=false;simp only[Value.isInt,cb,ne_eq]
  first|exact q|exact λz=>q z.symm
theorem ae5(h:AllI l):l.findIdx? (λe=>(intKind prog w).is k e.2)=none↔k∉l.map kOf:=by
 rw[List.findIdx?_eq_none_iff]
 constructor
 ·intro n m
  obtain⟨e,he,q⟩:=da.mp m;have:=n e he;obtain⟨j,t,rfl⟩:=h e he;rw[az6 rfl]at this;have:¬ k=j:=of_decide_eq_false this;exact this q.symm
 ·intro n e he
  obtain⟨j,t,rfl⟩:=h e he;rw[az6 rfl];exact bA λz=>n (da.mpr ⟨_,he,z.symm⟩)
theorem stored(prog:Program)(w:World){es':Array (Int×Value)}{t':SetTable}{h:Heap}(ho:h.get? a=some o)(hex:o.ExactSet)(hd:o.data=.set es ep t)(al:AllI es'.toList)(p:(es'.toList.map kOf).Perm ks)(sz:es'.size<scanBound)(f:t'.fits es'.size=true)(g:Gr t')(l:t'.led=b) :
  SetI b a ks (h.update a (Obj.putSet es' t')):=by
 have e:=SetOf_store (knd:=intKind prog w) (S':=λk=>es'.toList.any λe=>(intKind prog w).is k e.2) ho hex hd al.el (λk=>hJ) sz f;exact⟨_,es',ep+1,t',e.1,hex,rfl,al,p,sz,f,g,l⟩
theorem held(prog:Program)(w:World){es':Array (Int×Value)}{t':SetTable}{h:Heap}(ho:h.get? a=some o)(hex:o.ExactSet)(hd:o.data=.set es ep t)(al:AllI es'.toList)(sz:es'.size<scanBound)(f:t'.fits es'.size=true) :
  ∃o1 ep1,(h.update a (Obj.putSet es' t')).get? a=some o1/\o1.ExactSet/\o1.data=.set es' ep1 t':=by
 have e:=SetOf_store (knd:=intKind prog w) (S':=λk=>es'.toList.any λe=>(intKind prog w).is k e.2) ho hex hd al.el (λk=>hJ) sz f;exact⟨_,ep+1,e.1,hex,rfl⟩
theorem size_of{t:SetTable}(hf:t.fits n=true):t.place.size=n:=by
 simp only[SetTable.fits,bF,eM]at hf;exact hf.1
theorem aq0{b:Bool}{a:Addr}{o:Obj}{es es1:Array (Int×Value)}{ep:Nat}{t t2:SetTable}{ks:List Int}{wd:Bool}{g:Bool->Sem Unit}{R:Option Bool->Shared->Prop}{rl:Array (Int×Value)×SetTable×Bool}
  (hrl:rl=relayAll t2 es1 (SetTable.grown es1.size))
  (hg:∀(c:Bool) (z:Shared) (R':Unit->Shared->Prop),R' () z->wpAny (model prog w) A (g c) R' E z)
  (ho:s.heap.get? a=some o) (hex:o.ExactSet) (hd:o.data=.set es ep t) (al:AllI es1.toList) (pm:(es1.toList.map kOf).Perm ks) (sz:es1.size<scanBound) (f:t2.fits es1.size=true) (gs:SETH.Gs t2) (ld:t2.led=b) (hwd:wd=false)
  (fin:∀h',Heap.SameBut a s.heap h'->SetI b a ks h'->R (some true) {s with heap:=h' }) :
  wpAny (model prog w) A (storeSet a es1 t2>>=λ_=>if (!wd && t2.tooFull)=true then (g rl.2.2>>=λ_=>storeSet a rl.1 rl.2.1>>=λ_=>pure (some true)) else pure (some true)) R E s:=by
 have fl:=SETH.a9d gs.gd;have ps:=size_of f;have big:=gs.big;have sb:=cR s.heap a (Obj.putSet es1 t2);refine af (wpAny_storeSet_of ho hd ?_ (fits_of_scanBound sz))
 split
 ·rename_i full;have full:t2.fill*5≥t2.mask*3:=by
   rw[hwd]at full;simpa[SetTable.tooFull] using full
  have lt:es1.size<4096:=sz;have p2:=relayAll_perm t2 es1 (SetTable.grown es1.size);obtain⟨g2,_,f2,r2⟩:=SETH.alg gs es1 (n:=SetTable.grown es1.size) (by unfold SetTable.grown;split<;>omega) (by unfold SetTable.grown;split<;>omega) (by omega)
  have l2:=ai4 t2 es1 (SetTable.grown es1.size);rw[<-hrl]at p2 f2 g2 l2 r2
  clear hrl
  obtain⟨es2,t3,gv⟩:=rl;have z2:es2.size<scanBound:=by
   have:=p2.length_eq
   simp only[bB]at this;omega
  obtain⟨o1,p1,ho1,hex1,hd1⟩:=held prog w ho hex hd al sz f;refine af (hg _ _ _ (af (wpAny_storeSet_of ho1 hd1 (ax (fin _ (sb.trans (cR _ a _)) ?_)) (fits_of_scanBound z2))));exact stored prog w ho1 hex1 hd1 (λe he=>al e (p2.mem_iff.mp he)) ((p2.map kOf).trans pm) z2 f2 ⟨g2,r2⟩ (l2.trans ld)
 ·rename_i full;have full:t2.fill*5<t2.mask*3:=by
   rw[hwd]at full;simpa[SetTable.tooFull] using full
  exact ax (fin _ sb (stored prog w ho hex hd al pm sz f ⟨gs,full⟩ ld))
theorem afr{b:Bool}{a:Addr}{ks:List Int}{k:Int}{tk:Tok}{Q:Bool->Shared->Prop}(hS:SetI b a ks s.heap)(few:ks.length+1<scanBound)
  (q:∀(h':Heap) (r:Bool),Heap.SameBut a s.heap h'->SetI b a (L2.stepK ks k) h'->Q r {s with heap:=h' }):wpAny (model prog w) A (setAddHashed a (.int k tk) (hashInt k)) Q E s:=by
 obtain⟨o,es,ep,t,ho,hex,hd,al,pm,sz,ft,gd,ld⟩:=hS;have hk:(intKind prog w).is k (Value.int k tk)=true:=by simp[intKind,Value.isInt]
 have lk:es.size=ks.length:=by have:=pm.length_eq;rwa[ah,bB]at this
 unfold setAddHashed setAddHashedIn;refine cK (af (cT ho hd ft ?_));dsimp only;rw[byScan_of (knd:=intKind prog w) rfl sz al.el,aN rfl];unfold setAddByScan;refine af (af (eW (af (wpAny_setScan_of (knd:=intKind prog w) hk ho hd ft al.el ?_))))
 cases c:es.toList.findIdx? (λe=>(intKind prog w).is k e.2) with
 |some j =>
  have mem:k∈ks:=by
   apply dU
   intro n
   have:=(ae5 (prog:=prog) (w:=w) al (k:=k)).mpr λm=>n (pm.mem_iff.mp m)
   rw[this]at c;cases c
  refine ax (ax ?_);have:=q s.heap false (Heap.SameBut.refl a s.heap) (by rw[show L2.stepK ks k=ks from aN mem];exact⟨o,es,ep,t,ho,hex,hd,al,pm,sz,ft,gd,ld⟩)
  exact this
 |none =>
  have nm:k∉ks:=λm=>(ae5 (prog:=prog) (w:=w) al).mp c (pm.mem_iff.mpr m);have es1p:=layNew_perm t es (hashInt k) (.int k tk);have wd1:=(ai2 gd.1.gd es (hashInt k) (.int k tk)).2;obtain⟨gs1,_,ft1,_,_⟩:=SETH.ai9 gd.1 es (size_of ft) gd.2 (hashInt k) (.int k tk);have ld1:=afp t es (hashInt k) (.int k tk)
  generalize layNew t es (hashInt k) (.int k tk)=L at es1p ft1 gs1 ld1 wd1 ⊢
  obtain⟨es1,t1,wd,gave⟩:=L;dsimp only at es1p ft1 gs1 ld1 wd1 ⊢;rw[Array.toList_push]at es1p;have al1:AllI es1.toList:=λe he=>by
   rcases aX.mp (es1p.mem_iff.mp he) with m|m
   ·exact al e m
   ·rw[aI]at m;exact⟨k,tk,m⟩
  have pm1:(es1.toList.map kOf).Perm (L2.stepK ks k):=by
   rw[show L2.stepK ks k=ks++[k] from bp nm]
   refine(es1p.map kOf).trans ?_;rw[bg];exact pm.append_right _
  have sz1:es1.size<scanBound:=by
   have:=es1p.length_eq
   rw[bB,ae,bB,aM]at this;omega
  have fin:∀h':Heap,Heap.SameBut a s.heap h'->SetI b a (L2.stepK ks k) h'->wpAny (model prog w) A (pure true) Q E {s with heap:=h' }:=λh' sb x=>ax (q h' true sb x)
  have way:∀(c:Bool) (z:Shared) (R:Unit->Shared->Prop),R () z->wpAny (model prog w) A (match c with|true=>rule "set.scan.the-table-gave-way" |false=>pure ()) R E z:=λc z R h=>by
   cases c
   ·exact ax h
   ·exact eW h
  refine af (way gave _ _ ?_)
  split
  ·refine af ?_;rw[hashByValue_scannable 8 (x:=.int k tk) rfl];refine ax ?_;exact aq0 rfl way ho hex hd al1 pm1 sz1 ft1 gs1 (ld1.trans ld) wd1 fin
  ·rename_i z;exact absurd gs1.plain z
end
section
variable{prog:Program}{w:World}{E:Value->Shared->Prop}{A:Around}{s:Shared}
def a3x(b:Bool):Obj:={cls:=.type "set",dict:=none,data:=.set #[] 0 (.fresh 0 0 b)}
theorem aq1{h:Heap}(e:h.get? a=some (a3x b)):SetI b a [] h :=
 ⟨_, #[],0,_,e,⟨rfl,rfl,rfl⟩,rfl,λe he=>by simp at he,by simp,by decide,by simp[SetTable.fits,SetTable.fresh,SetTable.fill],⟨SETH.alf _ _ _,by show 0*5<7*3;decide⟩,rfl⟩
def byT(w:World):Bool:=w.params.followText "set-order"
theorem aia(q:Q (.ref s.heap.objs.size) {s with heap:=s.heap.push (a3x (!byT w))}):wpAny (model prog w) A (newSet (.type "set")) Q E s:=by
 unfold newSet setsByText;refine af (af (eS (ax ?_)));exact cA q
end
end SETB
set_option maxHeartbeats 1000000
namespace SETB
open PyProof.Rows SETA PySem.Builtin
def itO(f:Value)(i:Nat)(a:Addr)(n ep:Nat):Obj:={cls:=.type "set_iterator",data:=.fields #[f,rawInt i,.ref a,rawInt n,rawInt ep]}
theorem slot_next:Slot "set_iterator" "__next__" "set_iterator.__next__" :=
 .of (owner := "set_iterator") (n := "__next__") (by rw[typeLookup_type,builtinLookup_eq_fast];kernel_rfl) (by decide +kernel) (by decide +kernel) (by decide +kernel)
  (Or.inl (by decide +kernel)) (by rw[fH];kernel_rfl)
theorem entry_next:entryFor table "set_iterator.__next__" = some Builtin.«set_iterator.__next__»:=entryFor_of_fast (by kernel_rfl)
theorem args_next(a:Value):argsOk "set_iterator.__next__" ⟨[a],[]⟩:=by unfold argsOk;kernel_rfl
theorem afs:entryFor table "set.__iter__" = some Builtin.«frozenset.__iter__» :=
 entryFor_alias (id' := "frozenset.__iter__") (by kernel_rfl) rfl (by decide +kernel) (by kernel_rfl)
theorem aib(a:Value):argsOk "set.__iter__" ⟨[a],[]⟩:=by unfold argsOk;kernel_rfl
section
variable{prog:Program}{w:World}{E:Value->Shared->Prop}{A:Around}{s:Shared}
theorem a9e(q:Q (byT w) s):wpAny (model prog w) A setsByText Q E s:=by
 unfold setsByText;exact af (eS (ax q))
theorem a6x(ho:s.heap.get? a=some o)(hd:o.data=.set es ep t)(hf:t.fits es.size=true)(bt:byT w=false)(pl:t.plain=true\/es.size<=1)(ld:t.led=true)(hk:SetTable.below t.place slot=k)
  (hr:(∃h x j,es[k]? = some (h,x)/\t.place[k]? = some j/\r=some (x,j+1))\/(es[k]? = none/\r=none)) (q:Q r s):wpAny (model prog w) A (setNext a slot i ep') Q E s:=by
 subst hk;unfold setNext
 apply af
 apply cT ho hd hf
 apply af
 apply a9e
 simp only[bt,cD,eY]
 split
 ·rename_i z;have z:(!t.plain && decide (es.size > 1))=true:=z
  rcases pl with p|p
  ·rw[p]at z;cases z
  ·rw[bA (by omega),gI]at z
   cases z
 have led:∀R:Unit->Shared->Prop,R () s->wpAny (model prog w) A (if (!t.led && !es.isEmpty)=true then unsupported "set:maker-not-led" else pure ()) R E s:=λR r=>by
  rw[ld];exact ax r
 refine af (led _ (ax ?_))
 rcases hr with⟨h,x,j,e,f,rfl⟩|⟨e,rfl⟩
 ·rw[e,f];exact q
 ·rw[e];exact q
def Tells(w:World)(a:Addr)(slot i ep:Nat)(r:Option (Value×Nat))(s:Shared):Prop:=∀(prog:Program) (A:Around) (E:Value->Shared->Prop) (Q:Option (Value×Nat)->Shared->Prop),Q r s->wpAny (model prog w) A (setNext a slot i ep) Q E s
theorem next_item{o:Obj}{es:Array (Int×Value)}{ep i slot nx:Nat}{t:SetTable}(hi:s.heap.get? it=some (itO (rawInt slot) i a es.size ep))(ho:s.heap.get? a=some o)(hd:o.data=.set es ep t)(hf:t.fits es.size=true)(hn:Tells w a slot i ep (some (x,nx)) s)
  (q:∀h':Heap,h'.get? it=some (itO (rawInt nx) (i+1) a es.size ep)->Heap.SameBut it s.heap h'->Q (some x) {s with heap:=h' }):wpAny (model prog w) A (pyNext (.ref it)) Q E s:=by
 have hT:s.TypeIs (.ref it) "set_iterator":=⟨_,hi,rfl⟩;unfold pyNext;refine af (wpAny_attempt (cL (name:=Str.ofString "__next__") hT slot_next (cG slot_next hT entry_next ?_ (args_next _))));unfold Builtin.«set_iterator.__next__»;have hn':∀{A:Around} {E:Value->Shared->Prop} {Q:Option (Value×Nat)->Shared->Prop},Q _ s->wpAny (model prog w) A (setNext a (slot:Int).toNat (i:Int).toNat (ep:Int).toNat) Q E s:=λ{A E Q} r=>hn prog A E Q r
 wp_walk using hn',cT ho hd hf
 exact⟨x,rfl,ax (q _ (cY _ (cY _ hi rfl) rfl) ((cR ..).trans (cR ..)))⟩
theorem aic{o:Obj}{es:Array (Int×Value)}{ep i slot:Nat}{t:SetTable}(hh:A.handled=none)(hi:s.heap.get? it=some (itO (rawInt slot) i a es.size ep))(ho:s.heap.get? a=some o)(hd:o.data=.set es ep t)(hf:t.fits es.size=true)(hn:Tells w a slot i ep none s)
  (q:∀h':Heap,Heap.ExtBut it s.heap h'->Q none {s with heap:=h' }):wpAny (model prog w) A (pyNext (.ref it)) Q E s:=by
 have hT:s.TypeIs (.ref it) "set_iterator":=⟨_,hi,rfl⟩;unfold pyNext;refine af (wpAny_attempt (cL (name:=Str.ofString "__next__") hT slot_next (cG slot_next hT entry_next ?_ (args_next _))));unfold Builtin.«set_iterator.__next__»;have hn':∀{A:Around} {E:Value->Shared->Prop} {Q:Option (Value×Nat)->Shared->Prop},Q _ s->wpAny (model prog w) A (setNext a (slot:Int).toNat (i:Int).toNat (ep:Int).toNat) Q E s:=λ{A E Q} r=>hn prog A E Q r
 wp_walk using hn',cT ho hd hf
 unfold raiseNew
 apply af
 apply wpAny_handled
 rw[show A.in1.handled=_ from hh]
 wp_walk
 show wpAny (model prog w) A (isSubtype (.type "StopIteration") (.type "StopIteration")) _ _ _;rw[isSubtype_stop];exact ax (ax (q _ λb o hb e=>aw _ (aw _ ((cR s.heap it _).extBut b o hb e))))
end
end SETB
set_option maxHeartbeats 1000000
namespace SETB
open PyProof.Rows SETA PySem.Builtin
def slotAt(t:SetTable)(i:Nat):Nat:=if i=0 then 0 else t.place.getD (i-1) 0+1
theorem aid(g:Gd t)(h:i<=t.place.size):SetTable.below t.place (slotAt t i)=i:=by
 unfold slotAt
 split
 ·rename_i z;subst z;exact apw g.ri
 ·have hk:i-1<t.place.size:=by omega
  have e:t.place.getD (i-1) 0=t.place[i-1]:=by simp[Array.getD,hk]
  rw[e,afl g.ri hk];omega
section
variable{prog:Program}{w:World}{E:Value->Shared->Prop}{A:Around}{s:Shared}{a:Addr}{o:Obj}{es:Array (Int×Value)}{ep i:Nat}{t:SetTable}
theorem aft(ho:s.heap.get? a=some o)(hd:o.data=.set es ep t)(hf:t.fits es.size=true)(bt:byT w=false)(pl:t.plain=true\/es.size<=1)(ld:t.led=true)(g:Gd t)(hi:i<es.size):Tells w a (slotAt t i) i ep (some (es[i].2,slotAt t (i+1))) s:=λprog A E Q q=>by
 have sz:=size_of hf;refine a6x ho hd hf bt pl ld (aid g (by omega)) (.inl ⟨_,_,_,bW hi,bW (by omega),rfl⟩) ?_
 have e:slotAt t (i+1)=t.place[i]'(by omega)+1:=by
  unfold slotAt;rw[bp (by omega)]
  simp[Array.getD,show i<t.place.size by omega]
 rw[e]at q;exact q
theorem afu(ho:s.heap.get? a=some o)(hd:o.data=.set es ep t)(hf:t.fits es.size=true)(bt:byT w=false)(pl:t.plain=true\/es.size<=1)(ld:t.led=true)(g:Gd t):Tells w a (slotAt t es.size) es.size ep none s:=λprog A E Q q=>by
 have sz:=size_of hf;exact a6x ho hd hf bt pl ld (aid g (by omega)) (.inr ⟨Array.getElem?_eq_none (by omega),rfl⟩) q
theorem alh(ho:s.heap.get? a=some o)(hex:o.ExactSet)(hd:o.data=.set es ep t)(hf:t.fits es.size=true)(nd:byT w=true\/t.plain=true\/es.size<=1)
  (q:Q (.ref s.heap.objs.size) {s with heap:=s.heap.push (itO (rawInt 0) 0 a es.size ep)}):wpAny (model prog w) A (pyIter (.ref a)) Q E s:=by
 have ht:s.TypeIs (.ref a) "set":=⟨_,ho,hex.1⟩;refine wpAny_pyIter_slot ht F.slot_set_iter (cG F.slot_set_iter ht afs ?_ (aib _));have dr:∀{A:Around} {E:Value->Shared->Prop} {Q:Bool->Shared->Prop},Q false s->wpAny (model prog w) A (setDrawn a) Q E s:=λ{A E Q} r=>by
  unfold setDrawn;refine af (cT ho hd hf (af (a9e (ax ?_))));have:(!byT w && (!t.plain && decide (es.size > 1)))=false:=by
   rcases nd with z|z|z
   ·rw[z];rfl
   ·rw[z];simp
   ·rw[bA (by omega)];simp
  rw[<-this]at r;exact r
 unfold Builtin.«frozenset.__iter__»
 wp_walk using dr,cT ho hd hf
 exact⟨_,rfl, "set_iterator",_,⟨_,aT _ rfl,rfl⟩,slot_next.lookup,q⟩
end
end SETB
set_option maxHeartbeats 1000000
namespace SETB
open PyProof.Rows SETA PySem.Builtin
theorem a83{α:Type}:∀(l:List α) (i:Nat) (h:i<l.length),(l[i]::l.eraseIdx i).Perm l
 |x::l,0,_=>.refl _
 |x::l,i+1,h=>(List.Perm.swap ..).trans ((a83 l i (Nat.lt_of_succ_lt_succ h)).cons x)
theorem aie{α:Type}(nx:Nat->Nat):∀(n k:Nat) (l:List α) (out:Array α),l.length=n->(pickOrder.go nx n k l out).toList.Perm (out.toList++l)
 |0,k,l,out,e=>by
  cases l with
  |nil=>simp[pickOrder.go]
  |cons x l=>cases e
 |n+1,k,l,out,e=>by
  have hi:nx k%l.length<l.length:=fF _ (by omega)
  unfold pickOrder.go;rw[ai hi];refine(aie nx n (k+1) _ _ (by rw[List.length_eraseIdx_of_lt hi];omega)).trans ?_
  rw[Array.toList_push,cJ];exact(a83 l _ hi).append_left _
theorem aif{α:Type}(nx:Nat->Nat)(xs:Array α):(pickOrder nx xs).toList.Perm xs.toList:=by
 have:=aie nx xs.size 0 xs.toList #[] (by simp)
 simpa[pickOrder] using this
def ae6(w:World)(a:Addr)(ep:Nat)(es:Array (Int×Value)):Array (Int×Value):=if byT w then pickOrder (w.params.setOrder a ep) es else es
theorem ae7(w:World)(a:Addr)(ep:Nat)(es:Array (Int×Value)):(ae6 w a ep es).toList.Perm es.toList:=by
 unfold ae6
 split
 ·exact aif _ _
 ·exact .refl _
theorem a3y(w:World)(a:Addr)(ep:Nat)(es:Array (Int×Value)):(ae6 w a ep es).size=es.size:=by
 have:=(ae7 w a ep es).length_eq
 simpa using this
def a9f(w:World)(t:SetTable)(i:Nat):Nat:=if byT w then 0 else slotAt t i
section
variable{prog:Program}{w:World}{E:Value->Shared->Prop}{A:Around}{s:Shared}{a:Addr}{o:Obj}{es:Array (Int×Value)}{ep i:Nat}{t:SetTable}
theorem ab3(ho:s.heap.get? a=some o)(hd:o.data=.set es ep t)(hf:t.fits es.size=true)(bt:byT w=true)(q:Q (pickOrder (w.params.setOrder a ep) es) s):wpAny (model prog w) A (setWalk a) Q E s:=by
 unfold setWalk
 apply af
 apply cT ho hd hf
 apply af
 apply a9e
 simp only[bt,dI];exact af (eS (ax q))
theorem ab4(ho:s.heap.get? a=some o)(hd:o.data=.set es ep t)(hf:t.fits es.size=true)(bt:byT w=true)
  (q:Q (((pickOrder (w.params.setOrder a ep) es)[i]?).map λe=>(e.2,slot)) s):wpAny (model prog w) A (setNext a slot i ep) Q E s:=by
 unfold setNext
 apply af
 apply cT ho hd hf
 apply af
 apply a9e
 simp only[bt,dI,bne_self_eq_false,cD,eY]
 first
 |exact af (ab3 ho hd hf bt (ax q))
 |exact af (ax (af (ab3 ho hd hf bt (ax q))))
theorem aq2(ho:s.heap.get? a=some o)(hd:o.data=.set es ep t)(hf:t.fits es.size=true)(nd:byT w=true\/t.plain=true\/es.size<=1)(ld:t.led = !byT w)(g:Gd t)(hi:i<(ae6 w a ep es).size):Tells w a (a9f w t i) i ep (some ((ae6 w a ep es)[i].2,a9f w t (i+1))) s:=by
 have sz:=a3y w a ep es
 cases bt:byT w with
 |true =>
  intro prog A E Q q
  refine ab4 ho hd hf bt ?_;have e:pickOrder (w.params.setOrder a ep) es=ae6 w a ep es:=by unfold ae6;rw[bt];rfl
  rw[e,bW hi];unfold a9f at q ⊢;rw[bt]at q ⊢;exact q
 |false =>
  have e:ae6 w a ep es=es:=by unfold ae6;rw[bt];rfl
  rw[bt]at ld;have:=aft (i:=i) ho hd hf bt (nd.resolve_left (by rw[bt];decide)) ld g (by omega)
  unfold a9f;rw[bt];simp only[e,cD,eY];exact this
theorem aig(ho:s.heap.get? a=some o)(hd:o.data=.set es ep t)(hf:t.fits es.size=true)(nd:byT w=true\/t.plain=true\/es.size<=1)(ld:t.led = !byT w)(g:Gd t):Tells w a (a9f w t es.size) es.size ep none s:=by
 have sz:=a3y w a ep es
 cases bt:byT w with
 |true =>
  intro prog A E Q q
  refine ab4 ho hd hf bt ?_;have e:pickOrder (w.params.setOrder a ep) es=ae6 w a ep es:=by unfold ae6;rw[bt];rfl
  rw[e,Array.getElem?_eq_none (by omega)]
  exact q
 |false =>
  rw[bt]at ld;have:=afu ho hd hf bt (nd.resolve_left (by rw[bt];decide)) ld g
  unfold a9f;rw[bt];exact this
end
end SETB
set_option maxHeartbeats 1000000
namespace SETB
open PyProof.Rows SETA PySem.Builtin
theorem slot_self:Slot "set_iterator" "__iter__" "set_iterator.__iter__" :=
 .of (owner := "set_iterator") (n := "__iter__") (by rw[typeLookup_type,builtinLookup_eq_fast];kernel_rfl) (by decide +kernel) (by decide +kernel) (by decide +kernel)
  (Or.inl (by decide +kernel)) (by rw[fH];kernel_rfl)
theorem entry_self:entryFor table "set_iterator.__iter__" = some Builtin.«dict_keyiterator.__iter__»:=entryFor_alias (id' := "dict_keyiterator.__iter__") (by kernel_rfl) rfl (by decide +kernel) (by kernel_rfl)
theorem args_self(a:Value):argsOk "set_iterator.__iter__" ⟨[a],[]⟩:=by unfold argsOk;kernel_rfl
section
variable{prog:Program}{w:World}{A:Around}{a I:Addr}{o:Obj}{es:Array (Int×Value)}{ep:Nat}{t:SetTable}
theorem aq3{s:Shared}(ht:s.TypeIs (.ref I) "set_iterator")(q:Q (.ref I) s):wpAny (model prog w) A (pyIter (.ref I)) Q E s:=by
 refine wpAny_pyIter_slot ht slot_self (cG slot_self ht entry_self ?_ (args_self _));show wpAny (model prog w) _ (ret (.ref I)) _ _ s;exact ax ⟨_,rfl, "set_iterator",_,ht,slot_next.lookup,q⟩
theorem aih(hh:A.handled=none)(ne:a≠I)(hd:o.data=.set es ep t)(hf:t.fits es.size=true)(nd:byT w=true\/t.plain=true\/es.size<=1)(ld:t.led = !byT w)(g:Gd t) :
  Walks prog w A I [I,a] [I] es.size (λi v=>((ae6 w a ep es)[i]?).map (·.2)=some v) (λi h=>h.get? I=some (itO (rawInt (a9f w t i)) i a es.size ep)/\h.get? a=some o) where
 sub:=λb hb=>aO.mpr (.inl (aI.mp hb))
 frame:=λ_ _ _ st hk=>⟨hk I (by simp) _ st.1,hk a (by simp) _ st.2⟩
 item:=λi s Q E hi st q=>by
  have hi':i<(ae6 w a ep es).size:=by rw[a3y];exact hi
  refine next_item st.1 st.2 hd hf (aq2 st.2 hd hf nd ld g hi') λh' e sb=>?_;exact q _ h' s.toks (by rw[bW hi'];rfl) ⟨e,sb.extBut a o ne st.2⟩ λb o hb e=>sb.extBut b o (λh=>hb (by simp[h])) e
 done:=λs Q E st q=>aic hh st.1 st.2 hd hf (aig st.2 hd hf nd ld g) λh' e=>q h' s.toks λb o hb x=>e b o (λh=>hb (by simp[h])) x
 self:=λi s Q E st q=>aq3 ⟨_,st.1,rfl⟩ q
end
theorem aii{A:Around}{s:Shared}(hh:A.handled=none)(hS:SetI (!byT w) a ks s.heap)
  (q:∀(es:Array (Int×Value)) (St:Nat->Heap->Prop),AllI es.toList->(es.toList.map kOf).Perm ks->∀h':Heap,(∀b o,s.heap.get? b=some o->h'.get? b=some o)->h'.objs.size=s.heap.objs.size+1->St 0 h'->
   Walks prog w A s.heap.objs.size [s.heap.objs.size,a] [s.heap.objs.size] es.size (λi v=>(es[i]?).map (·.2)=some v) St->Q (.ref s.heap.objs.size) {s with heap:=h' }):wpAny (model prog w) A (pyIter (.ref a)) Q E s:=by
 obtain⟨o,es,ep,t,ho,hex,hd,al,pm,sz,ft,gr,ld⟩:=hS;have nd:byT w=true\/t.plain=true\/es.size<=1:=.inr (.inl gr.1.plain);refine alh ho hex hd ft nd ?_;have ne:a≠s.heap.objs.size:=λc=>by
  rw[c]at ho;simp[Heap.get?]at ho
 have W:=aih (prog:=prog) (I:=s.heap.objs.size) hh ne hd ft nd ld gr.1.gd;have pp:=ae7 w a ep es;rw[<-a3y w a ep es]at W;refine q (ae6 w a ep es) _ (λe he=>al e (pp.mem_iff.mp he)) ((pp.map kOf).trans pm) _ (λb o e=>aw _ e) (by simp[Heap.push]) ⟨?_,aw _ ho⟩ W
 have s0:a9f w t 0=0:=by unfold a9f slotAt;simp
 rw[s0,a3y];exact aT _ rfl
end SETB
set_option maxHeartbeats 1000000
namespace SETB
open PyProof.Rows SETA PySem.Builtin
section
variable{prog:Program}{w:World}{A:Around}{s:Shared}{E:Value->Shared->Prop}{a:Addr}{ks:List Int}
theorem ali(ht:s.TypeIs (.ref a) "set")(q:Q false s):wpAny (model prog w) A (Builtin.List.listLengthHint (.ref a)) Q E s:=by
 unfold Builtin.List.listLengthHint;refine af (wpAny_specialOf ht F.slot_set_len.lookup ?_);have sp:splitId "set.__len__" = some ("set","__len__"):=by decide +kernel
 dsimp only;rw[sp];dsimp only
 apply af
 apply wpAny_isInstance (T := "set") (b:=true) ht (by rw[fH];kernel_rfl)
 rw[bp (by decide)]
 refine wpAny_ite_split (λ_=>?_) λn=>absurd (by decide +kernel) n
 apply af
 apply fI ht
 exact ax q
theorem aci(hh:A.handled=none)(hS:SetI (!byT w) a ks s.heap)
  (q:∀(vs:List Value) (js:List Int) (s':Shared),js.Perm ks->vs.length=js.length->(∀(i:Nat) (v:Value),vs[i]? = some v->∃k t,js[i]? = some k/\v=Value.int k t)->Moved [] (λx y=>y=x) s s'->s.heap.objs.size<=s'.heap.objs.size->Q vs s'):wpAny (model prog w) A (collect (.ref a)) Q E s:=by
 unfold collect
 apply af
 apply wpAny_runValue
 apply dZ F.entry_proto_collect
 rw[dk F.plain_proto_collect _];unfold Builtin.«proto.collect»
 wp_walk
 refine⟨fS F.plain_list_iadd _,dZ F.entry_list_iadd ?_⟩;rw[dk F.plain_list_iadd _];obtain⟨o,ho,hT⟩:∃o,s.heap.get? a=some o/\o.cls=.type "set":=by
  obtain⟨o,es,ep,t,ho,hex,_⟩:=hS;exact⟨o,ho,hex.1⟩
 have lt:=aS ho;have up:∀b x,s.heap.get? b=some x->(s.heap.push {cls:=.type "list",data:=.seq #[]}).get? b=some x:=λb x e=>aw _ e;have sz0:(s.heap.push {cls:=.type "list",data:=.seq #[]}).objs.size=s.heap.objs.size+1:=by simp[Heap.push]
 have hL:(s.heap.push {cls:=.type "list",data:=.seq #[]}).get? s.heap.objs.size=some {cls:=.type "list",data:=.seq #[]}:=aT _ rfl;have hS0:=hS.keep λx e=>up a x e;have few:=hS.len
 generalize s.heap.push {cls:=.type "list",data:=.seq #[]}=h0 at up sz0 hL hS0 ⊢
 show wpAny (model prog w) A.in1 (Builtin.List.listExtendWith (.ref s.heap.objs.size) (.ref a) (.ref s.heap.objs.size)) _ _ _;unfold Builtin.List.listExtendWith
 apply af
 have ht0:({s with heap:=h0}:Shared).TypeIs (.ref a) "set":=⟨o,up a o ho,hT⟩
 apply fI ht0
 have far:s.heap.objs.size≠a:=Nat.ne_of_gt lt;rw[bp (by simp[Builtin.List.listSameRef,far])]
 apply af
 refine aii (s:={s with heap:=h0}) hh hS0 λes St al pm h1 ext sz1 st W=>?_
 apply af
 apply cK
 have ht1:({s with heap:=h1}:Shared).TypeIs (.ref a) "set":=⟨o,ext a o (up a o ho),hT⟩
 apply ali ht1
 refine wpAny_ite_split (λ_=>?_) λn=>absurd (by decide +kernel) n
 apply af
 apply eW
 apply af
 have n1:es.size=ks.length:=by
  have:=pm.length_eq
  rwa[ah,bB]at this
 have hL1:=ext _ _ hL;show wpAny (model prog w) A.in1 (updateSeq s.heap.objs.size (·.push .none)>>=λ_=>updateSeq s.heap.objs.size (·.pop)) _ _ _;refine af (hZ hL1 rfl ?_);have hL2:=cY (Obj.mapSeq (·.push Value.none)) hL1 rfl;refine hZ hL2 rfl ?_;have hL3:=cY (Obj.mapSeq (·.pop)) hL2 rfl;have oth:∀b x,b≠s.heap.objs.size->h1.get? b=some x->((h1.update s.heap.objs.size (Obj.mapSeq (·.push Value.none))).update s.heap.objs.size (Obj.mapSeq (·.pop))).get? b=some x :=
  λb x hb e=>(cO _ _ (eX hb)).trans ((cO _ _ (eX hb)).trans e)
 have hf:s.heap.objs.size∉[h0.objs.size,a]:=λc=>by
  simp only[aO,bD,dA]at c
  rcases c with c|c
  ·exact bG (Nat.lt_of_lt_of_eq (eC _) sz0.symm) c
  ·exact far c
 refine ax ⟨fS F.plain_extend_loop _,codeAny_extend_loopS W.toS (by have:ks.length<4096:=few;rw[n1];unfold sizeLine;omega) _ hf _ es.size 0 _ _ _ rfl (ba _)
  (W.frame 0 h1 _ st λb hb x e=>oth b x (λc=>hf (c ▸ hb)) e) hL3 (ItemsOf.nil _) λs' acc c' hm hA hI=>?_⟩
 show wpAny (model prog w) A (load s.heap.objs.size>>=_) _ _ s'
 apply af
 apply wpAny_load hA
 refine ax (q acc.toList (es.toList.map kOf) s' pm (by rw[bB,hI.1,ah,bB]) (λi v e=>?_) ⟨λb x _ e=>?_,hm.gens,hm.drawn,hm.os,hm.toks⟩ (gc (aS hA)))
 ·have this:(es[i]?).map (·.2)=some v:=hI.2 i v (by simpa using e)
  cases g:es[i]? with
  |none=>rw[g]at this;cases this
  |some y =>
   rw[g]at this;have m:y∈es.toList:=by
    obtain⟨hi,z⟩:=g9.mp g;rw[<-z];simp
   obtain⟨k,t,rfl⟩:=al y m;cases this
   exact⟨k,t,by simp[g,kOf],rfl⟩
 ·have lb:=aS e;refine hm.heap b x (λc=>?_) (oth b x (bG lb) (ext b x (up b x e)));simp only[aO,bD,dA]at c
  rcases c with c|c
  ·exact bG lb c
  ·exact bG (Nat.lt_of_lt_of_eq (Nat.lt_succ_of_lt lb) sz0.symm) c
end
end SETB
set_option maxHeartbeats 1000000
namespace SETB
open PyProof.Rows SETA PySem.Builtin
section
variable{prog:Program}{w:World}{A:Around}{s:Shared}{E:Value->Shared->Prop}{a:Addr}{ks:List Int}
theorem ints_of{vs:List Value}{js:List Int}(len:vs.length=js.length)(h:∀(i:Nat) (v:Value),vs[i]? = some v->∃k t,js[i]? = some k/\v=Value.int k t):IntsAre vs js:=by
 have all:∀v,v∈vs->∃n t,v=Value.int n t:=λv hv=>by
  obtain⟨i,hi,e⟩:=eO.mp hv;obtain⟨k,t,_,z⟩:=h i v (by rw[ai hi,e])
  exact⟨k,t,z⟩
 have e:vs.map numOf=js:=by
  refine List.ext_getElem (by rw[ah,len]) λi h1 h2=>?_
  have hi:i<vs.length:=by omega
  obtain⟨k,t,x,z⟩:=h i vs[i] (ai hi);rw[List.getElem_map,z];rw[ai h2]at x;cases x
  rfl
 have:=intsAre_map vs all
 rwa[e]at this
theorem afv(hh:A.handled=none)(hS:SetI (!byT w) a ks s.heap)(h64:ks.length<64)
  (q:∀(l:Addr) (out:Array Value) (e:Nat) (s':Shared),s.heap.objs.size<=l->IntsAre out.toList (PySem.W.sortI ks)->s'.heap.get? l=some (seqObj "list" out e)->Moved [] (λx y=>y=x) s s'->Q (.ref l) s') :
  wpAny (model prog w) A (call (.builtin "sorted") [.ref a]) Q E s:=by
 refine Calls.call_function_entry kind_sorted plain_sorted entry_sorted (args_sorted1 _) ?_;unfold Builtin.«sorted»
 apply af (m:=checkCount "sorted" 1 1 _)
 apply ax
 apply af
 refine aci hh hS λvs js s1 pj len it mv up=>?_;have hI:=ints_of len it;have l64:vs.length<64:=by rw[len,pj.length_eq];exact h64
 apply af
 refine wpAny_newList ?_ (hsz:=by rw[eU];omega)
 have hL:(s1.heap.push (seqObj "list" vs.toArray 0)).get? s1.heap.objs.size=some (seqObj "list" vs.toArray 0):=aT _ rfl
 apply af
 apply cK
 refine cG slot_list_sort (s:={s1 with heap:=s1.heap.push (seqObj "list" vs.toArray 0)}) ⟨_,hL,rfl⟩ entry_list_sort (list_sort_tree hL hI l64 λout ns a1 a2 a3=>⟨_,rfl,?_⟩) (args_list_sort _)
 have e2:ns=PySem.W.sortI ks:=PySem.W.eq_sortI (a2.trans pj) a3;subst e2;obtain⟨e,he⟩:=sortedHeap_at (out:=out) hL;refine ax ⟨_,rfl,q _ out e _ ?_ a1 he ⟨λb x hb g=>?_,mv.gens,mv.drawn,mv.os,mv.toks⟩⟩
 ·exact up
 ·have g1:=mv.heap b x hb g;have lt:=aS g1;show(sortedHeap _ _ _ _).get? b=some x;rw[sortedHeap_old (bG lt) (by rw[size_push'];exact Nat.lt_succ_of_lt lt)]
  exact aw _ g1
end
end SETB
set_option maxHeartbeats 1000000
namespace L2
open PyProof.Rows SETB
def awk(w:World)(a:Addr)(ks:List Int):HO:=.ext λh=>SetI (!byT w) a ks h
section
variable{X:Cx}
theorem a6y(hc:X.calm=true):CallR X (.builtin "sorted") (λxs H Q=>∃(p:Addr) (ks:List Int),xs=[.ref p]/\H p=some (awk X.w p ks)/\ks.length<64/\∀l,H l=none->Q (.ref l) (upd H l (.lst ((PySem.W.sortI ks).map V.int)))):=by
 intro aA s σ H xs us Q I r ⟨p,ks,e,hp,h64,q⟩
 subst e;obtain⟨u,rfl,ru⟩:=vals1 r;cases ru
 obtain⟨hS,_⟩:=I.hok p _ hp;refine afv (I.ok.hd hc) hS h64 λl out e s' hl a1 he mv=>?_;obtain⟨h',g',d',t',o'⟩:=s';obtain⟨mh,mg,md,mo,mt⟩:=mv;dsimp only at mh mg md mo mt he;subst mg md mo;have ln:(PySem.W.sortI ks).length=ks.length:=(gD ks).length_eq;refine⟨.ref l,_,I.laid (t':=t') (λb u g=>mh b u (by simp) g) hl (show ObjOk X.prog X.w _ _ _ (.lst ((PySem.W.sortI ks).map V.int)) from ⟨by rw[ah,ln];have:=eU;omega,out.toList,e,a3q a1,by simpa[seqObj] using he⟩),rfl,q _ (I.hok.fresh hl)⟩
theorem aq4(x:SetI (!byT w) a ks h):ObjOk P w H h a (awk w a ks):=by
 refine⟨x,?_,λh1 h2 p k=>p.keep k⟩;obtain⟨o,_,_,_,ho,_⟩:=x;exact⟨o,ho⟩
end
end L2
set_option maxHeartbeats 1000000
namespace MI
open L2 SETB
def axz(ks:List Int)(h:Hd):R D:=if ks.length<64 then .ok (.ref h.length) (h++[.lst ((PySem.W.sortI ks).map D.int)]) else .no
theorem a1z:∀{K:Fg} {ι:List Addr} {H:Hp} (ns:List Int),Reps K ι H (ns.map V.int) (ns.map D.int)
 |_,_,_,[]=>.nil
 |_,_,_,n::ns=>.cons (.int n) (a1z ns)
end MI
set_option maxHeartbeats 1000000
set_option maxHeartbeats 1000000
set_option maxHeartbeats 1000000
namespace SETB
open PyProof.Rows SETA
section
variable{prog:Program}{w:World}{A:Around}{E:Value->Shared->Prop}{R:Result->Shared->Prop}{s:Shared}
theorem a6z{b:Bool}{I S:Addr}{fp wr:List Addr}{n:Nat}{P:Nat->Value->Prop}{St:Nat->Heap->Prop}(W:Walks prog w A.in1 I fp wr n P St)(apart:S∉fp)(val:Nat->Int)(key:∀i v,P i v->∃t,v=.int (val i) t)(few:n+1<scanBound) :
  ∀(left i:Nat) (s:Shared) (ks:List Int),i+left=n->ks.length<=i->St i s.heap->SetI b S ks s.heap->
   (∀h' tk,SetI b S (((List.range' i left).map val).foldl L2.stepK ks) h'->(∀c o,c≠S->c∉wr->s.heap.get? c=some o->h'.get? c=some o)->R (.ok (.ret .none)) {s with heap:=h',toks:=tk})->
   codeAny (model prog w) A (.builtin "set.update.loop" ⟨[.ref S,.ref I],[]⟩) R s
 | 0,i,s,ks,hi,hl,st,x,fin=>dZ F.entry_set_update_loop (by
   obtain rfl:i=n:=by omega
   simp only[dk fm];exact af (W.done s _ _ st λh' tk k=>ax (fin h' tk (x.keep λo e=>k S o (λz=>apart (W.sub S z)) e) λc o _ hc e=>k c o hc e)))
 | left+1,i,s,ks,hi,hl,st,x,fin=>dZ F.entry_set_update_loop (by
   simp only[dk fm];refine af (W.item i s _ _ (by omega) st λv h1 t1 p st1 k1=>?_)
   obtain⟨tk,rfl⟩:=key i v p;refine af (cK ?_);unfold setAdd;refine cK (af ((intKind prog w).pyHash (k:=val i) (by simp[intKind,Value.isInt]) ?_))
   refine afr (s:={s with heap:=h1,toks:=t1+1}) (x.keep λo e=>k1 S o (λz=>apart (W.sub S z)) e) (by omega) λh2 r sb x2=>?_
   have sl:(L2.stepK ks (val i)).length<=i+1:=by
    unfold L2.stepK
    split
    ·omega
    ·rw[ae,aM];omega
   refine ax ⟨fS fm _,a6z W apart val key few left (i+1) _ _ (by omega) sl (W.frame _ _ _ st1 λc hc o e=>sb.extBut c o (λz=>apart (z ▸ hc)) e) x2 λh3 t3 x3 k3=>?_⟩
   exact fin h3 t3 (by rw[List.range'_succ,bH,fV];exact x3) λc o cS cw e=>k3 c o cS cw (sb.extBut c o cS (k1 c o cw e)))
theorem aij(a:Value)(h:Q₁ (.ref s.heap.objs.size) {s with heap:=s.heap.push (a3x (!byT w))}) :
  codeAny (model prog w) A (.call (.builtin "set.__new__") ⟨[.type "set",a],[]⟩) (wants Q₁ E) s:=by
 apply fq
 apply af
 refine eA (F.newCall_set_1 a) ?_;refine ax ⟨fS F.plain_set_new _,dZ F.entry_set_new ?_⟩;simp only[dk F.plain_set_new];have self:=sub_set_self;unfold Builtin.«set.__new__» Builtin.Frozenset.newClass
 generalize en:newSet=mk
 wp_walk
 subst en
 first
  |exact aia (ax h)
  |exact af (aia (ax h))
theorem aik{l:Addr}{tn:String}{od:Option Addr}{dt:Data}{sl:Array (Option Value)}{ns:List Int}{b:Bool}{R:Result->Shared->Prop}(hh:A.handled=none)
  (hl:s.heap.get? l=some {cls:=.type tn,dict:=od,data:=dt,slots:=sl}) (no1:isSubtype (.type tn) (.type "set")=pure false) (no2:isSubtype (.type tn) (.type "frozenset")=pure false) (no3:(Value.type tn == Value.type "dict")=false) (few:ns.length+1<scanBound)
  (it:∀(s1:Shared) (Q:Value->Shared->Prop) (E:Value->Shared->Prop),s1.heap.get? l=some {cls:=.type tn,dict:=od,data:=dt,slots:=sl}->
   (∀(o:Obj) (St:Nat->Heap->Prop) (P:Nat->Value->Prop),(∀A':Around,A'.handled=none->Walks prog w A' s1.heap.objs.size [s1.heap.objs.size,l] [s1.heap.objs.size] ns.length P St)->(∀i v,P i v->∃t,v=.int (ns.getD i 0) t)->St 0 (s1.heap.push o)->Q (.ref s1.heap.objs.size) {s1 with heap:=s1.heap.push o})->wpAny (model prog w) A.in1 (pyIter (.ref l)) Q E s1)
  (q:∀h' tk,SetI b s.heap.objs.size (ns.foldl L2.stepK []) h'->(∀c o,s.heap.get? c=some o->h'.get? c=some o)->R (.ok (.ret .none)) {s with heap:=h',toks:=tk}) :
  wpAny (model prog w) A.in1 (Builtin.«set.__init__» ⟨[.ref s.heap.objs.size,.ref l],[]⟩)
   (λfin s'=>match fin with|.done f=>R (.ok f) s'|.again c'=>c'.quiet=true/\codeAny (model prog w) A c' R s') (λe s'=>R (.error e) s') {s with heap:=s.heap.push (a3x b)}:=by
 have at0:(s.heap.push (a3x b)).get? s.heap.objs.size=some (a3x b):=aT _ rfl;have hl':(s.heap.push (a3x b)).get? l=some {cls:=.type tn,dict:=od,data:=dt,slots:=sl}:=aw _ hl;have ll:=aS hl;unfold Builtin.«set.__init__»;unfold noKeywords Builtin.Frozenset.updateFrom
 generalize ep:pyIter=walker
 unfold a3x at at0 hl' ⊢
 wp_walk
 subst ep;refine it _ _ _ hl' λo St P W key st=>af (wpAny_runValue ?_);dsimp only at W st ⊢;have far:s.heap.objs.size∉[(s.heap.push (a3x b)).objs.size,l]:=λz=>by
  rcases aO.mp z with z|z
  ·rw[dS]at z;exact absurd z (bG (eC _))
  ·rw[aI]at z;rw[<-z]at ll;exact cv _ ll
 have e0:(List.range' 0 ns.length).map (λi=>ns.getD i 0)=ns:=by
  refine List.ext_getElem? λi=>?_
  by_cases hi:i<ns.length
  ·rw[bJ,List.getElem?_range' hi,ai hi];simp[dM,hi]
  ·rw[List.getElem?_eq_none (by simp;omega),List.getElem?_eq_none (by omega)]
 refine a6z (b:=b) (W _ (by simp[hh])) far (λi=>ns.getD i 0) key few ns.length 0 {s with heap:=(s.heap.push (a3x b)).push o} [] (by omega) (by simp) st (aq1 (b:=b) (aw _ (show(s.heap.push (a3x b)).get? s.heap.objs.size=some (a3x b) from at0))) λh' tk held k=>?_
 rw[e0]at held;refine ax (ax ?_);refine q h' tk held λc o e=>k c o ?_ ?_ (aw _ (aw _ e))
 ·exact bG (aS e)
 ·intro z
  have z:=aI.mp z;have:=aS e;rw[z,dS]at this;exact absurd this (Nat.not_lt.mpr (fU _))
theorem a3z{ns:List Int}
  (hl:s.heap.get? l=some {cls:=.type tn,dict:=od,data:=dt,slots:=sl}) (no1:isSubtype (.type tn) (.type "set")=pure false) (no2:isSubtype (.type tn) (.type "frozenset")=pure false) (no3:(Value.type tn == Value.type "dict")=false) (few:ns.length+1<scanBound)
  (it:∀(A:Around) (s1:Shared) (Q:Value->Shared->Prop) (E:Value->Shared->Prop),s1.heap.get? l=some {cls:=.type tn,dict:=od,data:=dt,slots:=sl}->
   (∀(o:Obj) (St:Nat->Heap->Prop) (P:Nat->Value->Prop),(∀A':Around,A'.handled=none->Walks prog w A' s1.heap.objs.size [s1.heap.objs.size,l] [s1.heap.objs.size] ns.length P St)->(∀i v,P i v->∃t,v=.int (ns.getD i 0) t)->St 0 (s1.heap.push o)->Q (.ref s1.heap.objs.size) {s1 with heap:=s1.heap.push o})->wpAny (model prog w) A (pyIter (.ref l)) Q E s1)
  (hh:A.handled=none)
  (q:∀h' tk,SetI (!byT w) s.heap.objs.size (ns.foldl L2.stepK []) h'->(∀c o,s.heap.get? c=some o->h'.get? c=some o)->Q (.ref s.heap.objs.size) {s with heap:=h',toks:=tk}) :
  wpAny (model prog w) A (call (.type "set") [.ref l]) Q E s:=by
 obtain⟨_,_,order⟩:=eJ.mro;have made:=eJ.made;have self:=eJ.sub;have nt:=eJ.notType;have cc:=eJ.canCreate;have tc:=F.typeCall_set_1 (.ref l);refine wpAny_call (fq (ax ⟨Code.quiet_builtin _ (by decide +kernel),dZ F.entry_type_call ?_⟩))
 simp only[Around.under_plain (weight_type_call_type "set" [.ref l] []) rfl]
 repeat any_goals first|assumption|wp_step
 refine eV (aij (.ref l) (E:=E) (Q₁:=λobj s1=>obj=.ref s.heap.objs.size/\s1={s with heap:=s.heap.push (a3x (!byT w))}) ⟨rfl,rfl⟩) λr s1 hr=>?_
 match r,hr with
 |.error _,hr=>exact hr
 |.ok (.ret _),⟨eo,es⟩ =>
  subst eo es;have ty:Shared.TypeIs {s with heap:=s.heap.push (a3x (!byT w))} (.ref s.heap.objs.size) "set":=⟨_,aT _ rfl,rfl⟩
  have look:=eJ.init.lookup;have bound:=eJ.init.bind (.ref s.heap.objs.size)
  repeat any_goals first|assumption|wp_step
  refine eV (codeAny_call_builtin (R:=wants (λr s2=>r=.none/\Q (.ref s.heap.objs.size) s2) E) eJ.init.plain F.entry_set_init (check_set_init_1 ty (aik hh hl no1 no2 no3 few (it _) λh' tk x1 k1=>⟨rfl,q h' tk x1 k1⟩))) λr2 s2 hr2=>?_
  match r2,hr2 with
  |.error _,hr2=>exact hr2
  |.ok (.ret _),⟨e2,q2⟩ =>
   subst e2
   repeat any_goals first|assumption|wp_step
  |.ok .next,hr2=>exact hr2.elim
  |.ok .brk,hr2=>exact hr2.elim
  |.ok .cont,hr2=>exact hr2.elim
 |.ok .next,hr=>exact hr.elim
 |.ok .brk,hr=>exact hr.elim
 |.ok .cont,hr=>exact hr.elim
end
end SETB
namespace L2
open PyProof.Rows SETB
theorem sub_tuple_set:isSubtype (.type "tuple") (.type "set")=pure false/\isSubtype (.type "tuple") (.type "frozenset")=pure false:=by
 constructor<;>(rw[fH];kernel_rfl)
section
variable{X:Cx}
theorem ae8{its:List Value}{ns:List Int}(h:IntsAre its ns){i:Nat}(e:its.toArray[i]? = some v):∃t,v=.int (ns.getD i 0) t:=by
 replace e:its[i]? = some v:=by simpa using e
 induction h generalizing i with
 |nil=>simp at e
 |cons n t _ ih =>
  cases i with
  |zero=>simp at e;subst e;exact⟨_,rfl⟩
  |succ i=>simpa using ih (by simpa using e)
theorem afw(hc:X.calm=true):CallR X (.type "set") (λxs H Q=>∃(p:Addr) (ns:List Int),xs=[.ref p]/\(SqL X.K H p (ns.map V.int)\/SqT X.K H p (ns.map V.int))/\ns.length+1<scanBound/\∀l,H l=none->Q (.ref l) (upd H l (awk X.w l (ns.foldl stepK [])))):=by
 intro aA s σ H xs us Q I r h
 obtain⟨p,ns,rfl,hq,few,q⟩:=h;obtain⟨u,rfl,rx⟩:=vals1 r;cases rx
 have fin:∀(h':Heap) (tk:Nat),SetI (!byT X.w) s.heap.objs.size (ns.foldl stepK []) h'->(∀c o,s.heap.get? c=some o->h'.get? c=some o)->EP X aA σ Q (.ref s.heap.objs.size) {s with heap:=h',toks:=tk}:=λh' tk hS kp =>
  ⟨.ref s.heap.objs.size,_,I.laid (t':=tk) (o:=awk X.w s.heap.objs.size (ns.foldl stepK [])) kp (ay _) (aq4 hS),rfl,q _ (I.hok.fresh (ay _))⟩
 rcases hq with hq|hq
 ·obtain⟨its,r',pl,hz⟩:=I.list hq;have hI:IntsAre its ns:=intsAre_of r';have hl:its.length=ns.length:=by have:=r'.length;simp at this;omega
  obtain⟨o,ho,hcl,n,hd⟩:=pl.isList;obtain⟨oc,od,odt,osl⟩:=o;simp only at hcl hd;subst hcl hd;have hlt:=aS ho;refine a3z (ns:=ns) ho F.sub_list_set F.sub_list_frozenset (by decide) few (λA s1 Q E e1 k=>?_) (I.ok.hd hc) fin
  have hlt1:=aS e1;have il:s1.heap.IsList p its.toArray:=⟨_,e1,rfl,n,rfl⟩;refine gL il (k _ (λi h=>h.IsListIter s1.heap.objs.size p i/\h.IsList p its.toArray) (λi v=>its.toArray[i]? = some v) (λA' hA=>?_) (λi v e=>ae8 hI e) ⟨⟨_,aT _ rfl,rfl,rfl⟩,il.at λo e=>aw _ e⟩);have W:=Walks.list (prog:=X.prog) (w:=X.w) (A:=A') hA s1.heap.objs.size p (bG hlt1) its.toArray
  rwa[show its.toArray.size=ns.length by simpa using hl]at W
 ·obtain⟨its,r',pl,hz⟩:=I.tuple hq;have hI:IntsAre its ns:=intsAre_of r';have hl:its.length=ns.length:=by have:=r'.length;simp at this;omega
  obtain⟨o,ho,hcl,n,hd⟩:=pl;obtain⟨oc,od,odt,osl⟩:=o;simp only at hcl hd;subst hcl hd;refine a3z (ns:=ns) ho sub_tuple_set.1 sub_tuple_set.2 (by decide) few (λA s1 Q E e1 k=>?_) (I.ok.hd hc) fin
  have hlt1:=aS e1;have il:s1.heap.IsTuple p its.toArray:=⟨_,e1,rfl,n,rfl⟩;refine gu il (k _ (λi h=>h.IsTupleIter s1.heap.objs.size p i/\h.IsTuple p its.toArray) (λi v=>its.toArray[i]? = some v) (λA' hA=>?_) (λi v e=>ae8 hI e) ⟨⟨_,aT _ rfl,rfl,rfl⟩,il.at λo e=>aw _ e⟩);have W:=Walks.tuple (prog:=X.prog) (w:=X.w) (A:=A') hA s1.heap.objs.size p (bG hlt1) its.toArray
  rwa[show its.toArray.size=ns.length by simpa using hl]at W
end
end L2
namespace MI
open L2 SETB
def afx(d:D)(h:Hd):Option (List Int):=match d with
 |.tup xs=>a4n xs
 |d=>a5b d h
def a9g:D->Hd->R D:=λd h=>match afx d h with
 |some ns=>if ns.length<=4000 then axz (ns.foldl stepK []) h else .no
 |none=>.no
theorem alj(r:Rep K ι H v d)(hr:HRep K ι H h)(e:afx d h=some ns):∃p,v=.ref p/\(SqL K H p (ns.map V.int)\/SqT K H p (ns.map V.int)):=by
 cases d with
 |tup xs =>
  cases r with
  |tup hh rs =>
   have e:a4n xs=some ns:=e;exact⟨_,rfl,.inr (by rw[<-a2n rs e];exact SqT.of hh)⟩
 |_ =>
  obtain⟨p,e1,q⟩:=aav r hr e;exact⟨p,e1,.inl q⟩
theorem acj(hg:Gl X "sorted")(hm:X.mg "sorted" = none)(hg2:Gl X "set")(hm2:X.mg "set" = none)(hc:X.calm=true)(he:ME X E e f)
  (hs:starEach [e] X.env=[(false,eval e X.env)]:=by rfl) (hs2:starEach [Expr.Call (.Name "set" p2) [e] [] pos2] X.env=[(false,eval (.Call (.Name "set" p2) [e] [] pos2) X.env)]:=by rfl) :
  ME X E (.Call (.Name "sorted" p) [.Call (.Name "set" p2) [e] [] pos2] [] pos) (s1 a9g f):=by
 refine PE.weak (adb (a6y hc) hg hm rfl (a8n (aaf (afw hc) hg2 hm2 rfl (a8n he ad9 (by rw[hs];rfl)) (by decide) (by decide) (by rw[hs];rfl)) ad9 (by rw[hs2];rfl)) (by decide) (by decide) (by rw[hs2];rfl)) ?_
 rintro σ H Q ⟨ι,τ,h,S,Rh,o⟩
 refine⟨ι,τ,h,S,Rh,dz o λd h1 ι1 H1 v g1 r1 hr1 o1=>?_⟩;unfold a9g at o1
 cases e1:afx d h1 with
 |none=>rw[e1]at o1;exact o1.elim
 |some ns =>
  rw[e1]at o1;simp only at o1
  by_cases hl:ns.length<=4000
  ·rw[aN hl]at o1;obtain⟨q,rfl,sq⟩:=alj r1 hr1 e1;refine⟨q,ns,rfl,sq,by have:scanBound=4096:=rfl;omega,λl hl'=>?_⟩
   unfold axz at o1
   by_cases h6:(ns.foldl stepK []).length<64
   ·rw[aN h6]at o1;exact⟨l,_,rfl,uc,h6,yh (E:=E) (a1z _) (hr1.aside hl' _) (a2m o1 (a1s hl' _))⟩
   ·rw[bp h6]at o1;exact o1.elim
  ·rw[bp hl]at o1;exact o1.elim
end MI
namespace L2
open PyProof.Rows
theorem a70:isSubtype (.type "range_iterator") (.type "reversed")=pure false:=by rw[fH];kernel_rfl
section
variable{prog:Program}{w:World}{A:Around}{E:Value->Shared->Prop}{s:Shared}
abbrev ari(n:Int):Obj:={cls:=.type "range_iterator",data:=.fields #[rawInt (n-1),rawInt n,rawInt (-1)]}
theorem aq5(h:0<=j):Builtin.Range.rangeSize 0 j 1=j:=by
 rw[rangeSize_one];split<;>omega
theorem ail(hr:IsRange s.heap r 0 j 1 t u v)(j0:0<=j)(j1:j<2^62)(h:Q (.ref s.heap.objs.size) {s with heap:=s.heap.push (ari j)}) :
  wpAny (model prog w) A (call (.builtin "range.__reversed__") [.ref r]) Q E s:=by
 refine cG fK ⟨_,hr,rfl⟩ F.entry_range_reversed ?_ (F.args_range_reversed_1 _);have sz:=aq5 j0;have sm:(Builtin.Range.rangeFitsLong 0 && Builtin.Range.rangeFitsLong j && Builtin.Range.rangeFitsLong 1 && Builtin.Range.rangeFitsLong (-1) && Builtin.Range.rangeFitsLong (0-1) && Builtin.Range.rangeFitsLong j)=true:=by
  have:Builtin.Range.rangeFitsLong j=true:=by unfold Builtin.Range.rangeFitsLong;simp;omega
  simp only[this,Bool.and_true]
  decide
 unfold Builtin.«range.__reversed__»;unfold IsRange at hr
 wp_walk
 simp only[sz];simp only[sm,Bool.not_true,cD,eY,dI];have e:(0:Int)+(j-1)*1=j-1:=by omega
 rw[e];refine af ?_;unfold newFields;exact cA (ax ⟨_,rfl,h⟩)
theorem aq6(hr:IsRange s.heap r 0 j 1 t u v)(j0:0<=j)(j1:j<2^62)(h:Q₁ (.ref s.heap.objs.size) {s with heap:=s.heap.push (ari j)}) :
  codeAny (model prog w) A (.call (.builtin "reversed.__new__") ⟨[.type "reversed",.ref r],[]⟩) (wants Q₁ E) s:=by
 have ty:s.TypeIs (.ref r) "range":=⟨_,hr,rfl⟩
 apply fq
 apply af
 refine eA (F.newCall_reversed_1 _) ?_;refine ax ⟨fS F.plain_reversed_new _,dZ F.entry_reversed_new ?_⟩;simp only[dk F.plain_reversed_new];unfold Builtin.«reversed.__new__»
 apply af
 refine eA (newClass_reversed _) ?_
 try dsimp only
 apply af
 refine eA (a:=()) (by first|rfl|kernel_rfl) ?_
 apply af
 refine eA (a:=()) (by first|rfl|kernel_rfl) ?_
 try dsimp only
 apply af
 refine wpAny_specialOf ty fK.lookup ?_
 try dsimp only
 apply af
 refine eA (fK.bind _) ?_
 try dsimp only
 have nn:¬ ((Value.builtin "range.__reversed__" == Value.none)=true):=aU
 first
  |rw[bp nn]
  |(show wpAny _ _ (if (Value.builtin "range.__reversed__" == Value.none)=true then _ else _) _ _ _;rw[bp nn])
 apply af
 apply eW
 refine af (m:=runValue (.call (.builtin "range.__reversed__") ⟨[.ref r],[]⟩)) (show wpAny _ _ (call (.builtin "range.__reversed__") [.ref r]) _ _ _ from ail hr j0 j1 ?_)
 first
  |exact ax h
  |exact af (ax (ax h))
theorem alk(hr:IsRange s.heap r 0 j 1 t u v)(j0:0<=j)(j1:j<2^62)(h:Q (.ref s.heap.objs.size) {s with heap:=s.heap.push (ari j)}):wpAny (model prog w) A (call (.type "reversed") [.ref r]) Q E s:=by
 refine callType_other (U := "range_iterator") (Q₁:=λobj s1=>obj=.ref s.heap.objs.size/\s1={s with heap:=s.heap.push (ari j)}) (by decide +kernel) F.create_reversed ⟨_,_,F.mro_reversed⟩ F.made_reversed a70 (F.typeCall_reversed_1 _) (aq6 hr j0 j1 ⟨rfl,rfl⟩) ?_
 rintro obj s1 ⟨rfl,rfl⟩
 exact⟨⟨_,aT _ rfl,rfl⟩,h⟩
end
section
variable{X:Cx}{tg:Expr}
def b0j(ta:TA):TI:=λσ H R=>ta σ H λvs H1=>∃j:Int,vs=[.int j]/\0<=j/\j<2^62/\R (Itd (j-1) j.toNat) H1
theorem ack:bootBuiltins "reversed" = some (.type "reversed"):=by first|exact PySem.boot_reversed|exact PyProof.Rows.boot_reversed|kernel_rfl
theorem au9(hg:Gl X "reversed")(hm:X.mg "reversed" = none)(hg2:Gl X "range")(hm2:X.mg "range" = none)(ha:PA X [a] ta)(hs:starEach [a] X.env=[(false,eval a X.env)]:=by rfl)
  (hs2:starEach [Expr.Call (.Name "range" p2) [a] [] pos2] X.env=[(false,eval (.Call (.Name "range" p2) [a] [] pos2) X.env)]:=by rfl):PI X tg (.Call (.Name "reversed" p) [.Call (.Name "range" p2) [a] [] pos2] [] pos) (b0j ta):=by
 intro aA s σ H R I h
 have inner:wpAny (model X.prog X.w) X.A (eval (.Call (.Name "range" p2) [a] [] pos2) X.env) (λv s1=>∃(j:Int) (r:Addr) (t u w:Tok) (H1:Hp),v=.ref r/\IsRange s1.heap r 0 j 1 t u w/\Inv X aA σ H1 s1/\0<=j/\j<2^62/\R (Itd (j-1) j.toNat) H1) X.xe s:=by
  refine Call_ (a5w I hg2 hm2 boot_range (cf (thn (ha pos2 aA s σ H _ I h) λus s1 ⟨vs,H1,I1,r1,q1⟩=>?_) hs rfl));obtain⟨j,e,j0,j1,q⟩:=q1;subst e
  cases r1 with
  |cons r rr =>
   cases rr
   obtain⟨t,rfl⟩:=r;exact call_range_1 ⟨j,_,_,_,_,H1,rfl,IsRange.new ..,I1.kept λb o e=>aw _ e,j0,j1,q⟩
 refine Call_ (a5w I hg hm ack (cf ?_ hs2 rfl));rw[hs2];show wpAny _ _ (spliced ((false,eval (.Call (.Name "range" p2) [a] [] pos2) X.env)::backTo pos (starEach [] X.env))) _ _ s;refine Calls.spliced_cons (thn inner λv s1 ⟨j,r,t,u,w,H1,ev,hr,I1,j0,j1,q⟩=>Calls.spliced_nil ?_);subst ev;refine alk hr j0 j1 ?_;have I2:Inv X aA σ H1 {s1 with heap:=s1.heap.push (ari j)}:=I1.kept (t':=s1.toks) λb o e=>aw _ e
 have st:IsRangeIter (s1.heap.push (ari j)) s1.heap.objs.size (j-1) j (-1):=aT _ rfl;refine fB st ?_;refine⟨s1.heap.objs.size,[s1.heap.objs.size],_,_,H1,rfl,I2,ahz _ (j-1) j.toNat,?_,λb hb=>?_,q⟩
 ·show IsRangeIter _ _ (j-1-((0:Nat):Int)) ((j.toNat:Int)-((0:Nat):Int)) (-1);rw[show j-1-((0:Nat):Int)=j-1 by omega,show(j.toNat:Int)-((0:Nat):Int)=j by omega]
  exact st
 ·have e:b=s1.heap.objs.size:=by simpa using hb
  subst e;exact I1.fpOk (ay _) (I1.hok.fresh (ay _))
end
end L2
namespace MI
open L2
def Bz(j:Int):Prop:=0<=j/\j<2^62
instance (j:Int):Decidable (Bz j):=by unfold Bz;exact inferInstance
def arj(ds:List D)(h:Hd):R Itm:=match ds with
 |[.int j]=>if Bz j then .ok ⟨akz (j-1) j.toNat,λ_=>True⟩ h else .no
 |_=>.no
theorem aua(hg:Gl X "reversed")(hm:X.mg "reversed" = none)(hg2:Gl X "range")(hm2:X.mg "range" = none)(ha:MA X E [a] k)(hs:starEach [a] X.env=[(false,eval a X.env)]:=by rfl)
  (hs2:starEach [Expr.Call (.Name "range" p2) [a] [] pos2] X.env=[(false,eval (.Call (.Name "range" p2) [a] [] pos2) X.env)]:=by rfl):MI X E tg (.Call (.Name "reversed" p) [.Call (.Name "range" p2) [a] [] pos2] [] pos) (sRg arj k):=by
 rintro aA s σ H Rr I ⟨ι,τ,h,S,Rh,o⟩
 refine au9 hg hm hg2 hm2 ha hs hs2 aA s σ H Rr I ⟨ι,τ,h,S,Rh,dz o λds h1 ι1 H1 vs g1 r1 hr1 o1=>?_⟩;unfold arj at o1
 split at o1
 ·rename_i j
  cases r1 with
  |cons r rs =>
   cases r;cases rs
   by_cases hb:Bz j
   ·rw[aN hb]at o1;exact⟨j,rfl,hb.1,hb.2,o1 ι1 H1 _ (.refl _ _) (au1 (j-1) j.toNat) hr1⟩
   ·rw[bp hb]at o1;exact o1.elim
 ·exact o1.elim
theorem aim(h:n<=LINE):Bz (n:Int):=by
 have:n<=16777216:=h
 unfold Bz;omega
theorem alm(n:Nat):akz ((n:Int)-1) n=(List.range n).map λi:Nat=>D.int ((n-1-i:Nat)):=by
 unfold akz;refine eB λi hi=>?_;have:=dR.mp hi;exact aK D.int (by omega)
theorem aln(h:Hd)(z:n<=LINE):arj [.int (n:Nat)] h=.ok ⟨(List.range n).map λi:Nat=>D.int ((n-1-i:Nat)),λ_=>True⟩ h:=by
 have e:arj [.int (n:Nat)] h=if Bz (n:Int) then R.ok (⟨akz ((n:Int)-1) (n:Int).toNat,λ_=>True⟩:Itm) h else .no:=rfl
 have b:=aim z
 clear z
 rw[e,aN b,dC,alm]
theorem aub{α β:Type}(a:α)(h:Hd)(k:α->Hd->R β):(R.ok a h).bind k=k a h:=rfl
theorem auc(e:f τ h=.ok (.int (n:Nat)) h)(z:n<=LINE):sRg arj (aj f cu) τ h=.ok ⟨(List.range n).map λi:Nat=>D.int ((n-1-i:Nat)),λ_=>True⟩ h:=by
 have a:aj f cu τ h=.ok [.int (n:Nat)] h:=by unfold aj cu;rw[e];rfl
 have q:=aln h z;unfold sRg;rw[a];rw[aub,q]
end MI
namespace ENG
open L2 MI
noncomputable def a9h:SS :=
 (iu (sIf (sT (s2 hEq (s2 gIx (sV 0) (sI 0)) (sC (.str "one"))))
 (qg (sA yg cu))
 sNx)
 (iu (sIf (sOr (sT (s2 hEq (s2 gIx (sV 0) (sI 0)) (sC (.str "row")))) (sT (s2 hEq (s2 gIx (sV 0) (sI 0)) (sC (.str "either")))))
 (qg (s2 gIx (sV 0) (sI 1)))
 sNx)
 (qg (sA yg (aj (s2 gIx (sV 0) (sI 1)) cu)))))
end ENG
namespace TPM
open PySem.W L2 HT MI
theorem afy(t:Addr)(aC:Array Value)(n:Nat)(dd:Option Addr)(sl:Array (Option Value))(u:Tok)(h0:aC.isEmpty=false) :
  Meets (Builtin.«tuple.__mul__» ⟨[.ref t,.int 0 u],[]⟩) (λ_ R s=>s.heap.get? t=some {cls:=.type "tuple",dict:=dd,data:=.seq aC n,slots:=sl}/\R (.ok (.ret (.ref s.heap.objs.size))) {s with heap:=s.heap.push {cls:=.type "tuple",data:=.seq #[]} }) :=
 .of_wp λprog w A R s h=>by
  obtain⟨hp,g,d,tk,os⟩:=s;obtain⟨hl,h⟩:=h;have c2:¬ (aC.isEmpty || (0:Int) == 1)=true:=by rw[h0];decide
  wp_walk
  exact⟨_,rfl,h⟩
def aud(K:Fg):R2:=λx y H Q=>∃a xs,x=.ref a/\y=.int 0/\SqT K H a xs/\xs≠[]/\∀p,H p=none->Q (.ref p) (upd H p (.tup []))
theorem aq7:OpR X (binaryOp .Mult) (aud X.K):=by
 intro aA s σ H x y v u Q I rx ry h
 obtain⟨a,xs,rfl,rfl,ha,hx,q⟩:=h;cases rx
 obtain⟨t,rfl⟩:=ry;obtain⟨its,r1,p1,_⟩:=I.tuple ha;obtain⟨⟨cls,dd,data,sl⟩,ho,hc,n,hd⟩:=id p1;simp only at hc hd;subst hc hd;have he:its.toArray.isEmpty=false:=by
  cases its with
  |nil=>exact(hx (r1.nil_iff.mp rfl)).elim
  |cons _ _=>rfl
 refine cU (T := "tuple") (U := "int") (by decide) ⟨_,ho,rfl⟩ (λs'=>eF s' 0 t) yo fg cM a6o eP.lookup
  (cQ cM (eF s 0 t) eQ (eN _ _) (a1w 0 t a its.toArray n dd sl)
   ⟨ho,rfl,⟨_,ho,rfl⟩,cQ eR ⟨_,ho,rfl⟩ gQ (gC _ _) (afy a its.toArray n dd sl t he) ⟨ho,?_⟩⟩)
 refine⟨.ref s.heap.objs.size,_,I.laid (t':=s.toks) (o:=.tup []) (λb ob q=>aw _ q) (ay _) ?_,rfl,q _ (I.hok.fresh (ay _))⟩;exact⟨by decide,[],.nil,PyProof.Rows.IsTup.new _ _⟩
end TPM
namespace MI
open L2 TPM
open Classical in
noncomputable def a7g(x y:D)(h:Hd):R D:=match x,y with
 |.tup xs,.int k=>if k=0/\xs≠[] then .ok (.tup []) h else afk (.tup xs) (.int k) h
 |x,y=>afk x y h
theorem alo:a3m K a7g (λx y H Q=>(((rI CMul (λi j=>.int (i*j)) x y H Q\/asx x y H Q)\/aks K x y H Q)\/apt K x y H Q)\/aud K x y H Q):=by
 intro E ι H h x y dx dy Q rx ry hr o
 cases rx with
 |@tup a vs xs ha rs =>
  cases ry with
  |int k =>
   simp only[a7g]at o
   split at o
   ·rename_i hc;obtain⟨rfl,hx⟩:=hc;refine .inr ⟨a,vs,rfl,rfl,SqT.of ha,λz=>hx ?_,a0s .nil hr o⟩;subst z;cases rs;rfl
   ·exact .inl (a9a _ _ _ _ _ _ _ _ _ (.tup ha rs) (.int k) hr o)
  |_=>exact o.elim
 |int i=>exact .inl (a9a _ _ _ _ _ _ _ _ _ (.int i) ry hr o)
 |ref e=>exact .inl (a9a _ _ _ _ _ _ _ _ _ (.ref e) ry hr o)
 |_=>exact o.elim
theorem acl(ha:ME X E a fa)(hb:ME X E b fb):ME X E (.BinOp a .Mult b pos) (s2 a7g fa fb):=ac1 ((((amm.or asy).or apk).or apu).or aq7) alo ha hb
theorem ay0(k2:k<=1000):a7g (.tup [d]) (.int (k:Nat)) h=.ok (.tup (List.replicate k d)) h:=by
 unfold a7g;dsimp only
 by_cases e:(k:Int)=0
 ·rw[aN ⟨e,by simp⟩]
  have:k=0:=by omega
  subst this;rfl
 ·rw[bp (λz=>e z.1),b0i (by simp) (by omega) k2 (by simp)]
  congr 2
  clear e k2
  induction k with
  |zero=>rfl
  |succ k ih=>rw[aV,cP,ih];rfl
end MI
namespace MI
open L2
section
variable{prog:Program}{w:World}{A:Around}{E:Value->Shared->Prop}{s:Shared}
theorem aue:fillsNumberSlot (.type "list") "add" = pure false:=by first|exact F.fills_list_add|exact PyProof.Rows.fills_list_add|kernel_rfl
theorem alp:seqSlot? (.type "list") (dunderI "add")=pure (some (.builtin "list.__iadd__")):=by
 unfold seqSlot?;rw[hR.lookup];rfl
theorem ain:fillsInplaceSlot (.type "list") "add" true=pure false:=by
 unfold fillsInplaceSlot;simp only[hR.lookup,pure_bind,dI];rfl
theorem afz(ha:s.TypeIs (.ref l) "list")(hb:s.TypeIs (.ref b) "list")(hc:wpAny (model prog w) A (call (.builtin "list.__iadd__") [.ref l,.ref b]) Q E s):wpAny (model prog w) A (inplaceOp .Add (.ref l) (.ref b)) Q E s:=by
 unfold inplaceOp;refine cK ?_;have fill:fillsInplaceSlot (.type "list") Operator.Add.info.2 (Operator.Add == .Add)=pure false:=ain;refine af (fI ha ?_);refine af (eA fill ?_);rw[bp aU];refine af (wpAny_binaryOp1_none (nm := "add") ha hb aue ?_);refine af (eA alp ?_);exact af (eW hc)
end
def ani:R2:=λx y H Q=>∃l b xs zs,x=.ref l/\y=.ref b/\H l=some (.lst xs)/\Rd H b (.lst zs)/\xs.length+zs.length<=sizeLine/\Q (.ref l) (upd H l (.lst (xs++zs)))
theorem a0x:OpR X (inplaceOp .Add) ani:=λaA s σ H x y v u Q I rx ry ⟨l,b,xs,zs,ex,ey,h1,h2,hz,q⟩=>by
 subst ex ey;cases rx
 cases ry
 obtain⟨_,as,n,va,la,ea⟩:=I.lstM h1;obtain⟨_,bs,m,vb,lb,eb⟩:=I.lstR h2;have few:as.toArray.size+bs.toArray.size<=sizeLine:=by simp;omega
 have long:¬ (!as.toArray.isEmpty && Builtin.List.listTooLong (as.toArray.size+bs.toArray.size))=true:=by rw[a3p few,gI];exact aU
 refine afz ⟨_,ea,rfl⟩ ⟨_,eb,rfl⟩ ?_;exact cQ hR ⟨_,ea,rfl⟩ F.entry_list_iadd (F.args_list_iadd_2 _ _) (AutoSeq1.list___iadd___list_list_0 l as.toArray n b bs.toArray m long (by simp;omega) (by omega))
  ⟨ea,eb,.ref l,_,I.lset (its':=as++bs) h1 ea (by simp) (va.append vb) (by simpa using hz),rfl,q⟩
def a0o(x y:D)(h:Hd):R D:=match x with
 |.ref i=>(match h[i]?,a0m y h with|some (.lst xs),some ys=>if xs.length+ys.length<=LINE then .ok (.ref i) (h.set i (.lst (xs++ys))) else .no|_,_=>.no)
 |_=>.no
theorem a00:a3m K a0o ani:=by
 intro E ι H h x y dx dy Q rx ry hr o
 unfold a0o at o
 split at o
 ·rename_i i
  cases rx with
  |@ref p _ hp =>
   split at o
   ·rename_i xs ys hx hy
    split at o
    ·rename_i hc;obtain⟨vs,h3,h4⟩:=hr.lst hp hx;obtain⟨b,us,rfl,h5,h6⟩:=a3u ry hr hy;exact⟨p,b,vs,us,rfl,rfl,h3,h5,ll (by rw[h4.len,h6.len];exact hc),a8v (h4.app h6) hr hp (.ref hp) o⟩
    ·exact o.elim
   ·exact o.elim
 ·exact o.elim
theorem a0a(e:h[i]? = some (.lst xs))(ey:a0m y h=some ys)(z:xs.length+ys.length<=LINE):a0o (.ref i) y h=.ok (.ref i) (h.set i (.lst (xs++ys))):=by
 unfold a0o;simp only[e,ey,z,dI]
end MI
namespace DRW
open L2 MI
noncomputable def a0y(ak:SF):SS :=
 (iu (m7 6 (sA (jh false 2 ak) (aj (sV 0) (aj (sA xq (aj (sV 2) cu)) cu))))
 (iu (a4g 3 yz (s2 gIx (sV 2) (sV 6)))
 (m7 2 (s2 gk (a5a (sV 2) oN (oS (sV 6))) (a5a (sV 2) (oS (s2 gk (sV 6) (sI 1))) oN)))))
noncomputable def a2r(ak:SF):SS :=
 (iu (m7 2 (sV 1))
 (iu (m7 3 (sC (.str "")))
 (iu (m7 4 (sI 1))
 (iu (sIf (sT (s2 hEq (sA (jh false 2 ak) (aj (sV 0) (aj (sI 2) cu))) (sI 0)))
 (m7 4 (s2 gk (sI 1) (sA (jh false 2 ak) (aj (sV 0) (aj (sA xq (aj (sV 1) cu)) cu)))))
 sNx)
 (iu (a7f (sRg a2w (aj (sV 4) cu)) (kN 5) (a0y ak))
 (qg (sV 3)))))))
noncomputable def vz(au:SF):SE :=
 (sA (jh false 1 au) (aj (sV 0) cu))
noncomputable def xr(au:SF):SS :=
 (iu (sIf (sT (s2 hEq (s2 gIx (sV 0) (sI 0)) (sC (.str "one"))))
 (qg (sI 1))
 sNx)
 (iu (sIf (sT (s2 (gIn false) (s2 gIx (sV 0) (sI 0)) (sA yg (aj (sC (.str "row")) (aj (sC (.str "either")) cu)))))
 (qg (sA ahi (aj (sZ (a1v (sIt (s2 gIx (sV 0) (sI 1))) t1 (vz au) [])) cu)))
 sNx)
 (iu (sIf (sT (s2 hEq (s2 gIx (sV 0) (sI 0)) (sC (.str "many"))))
 (qg (sA (jh false 1 au) (aj (s2 gIx (sV 0) (sI 1)) cu)))
 sNx)
 (qg (s2 yq (s2 gIx (sV 0) (sI 3)) (sA (jh false 1 au) (aj (s2 gIx (sV 0) (sI 1)) cu)))))))
noncomputable def xm(ak:SF)(lq:SF)(dh:SF)(au:SF):SS :=
 (sIf (sT (s2 gGt (s2 gIx (sV 4) (sI 0)) (sI 0)))
 (iu (m7 10 (sA (jh false 5 dh) (aj (sV 0) (aj (sV 1) (aj (s2 a8k (sV 2) (sI 1)) (aj (sV 3) (aj (sV 4) cu)))))))
 (iu (a4g 3 a8k (sA (jh false 1 au) (aj (sV 10) cu)))
 (a0j (sML afd (sV 8) (aj (sV 10) cu)))))
 sNx)
noncomputable def a01(ak:SF)(lq:SF)(dh:SF)(au:SF):SS :=
 (iu (a1x a8k (sV 4) (sI 0) (sI 1))
 (iu (m7 5 (sA (jh false 2 ak) (aj (sV 0) (aj (sI 9) cu))))
 (iu (sIf (sOr (sT (s2 hEq (sV 2) (sI 1))) (sOr (sT (s2 gLt (s2 gIx (sV 4) (sI 0)) (sI 1))) (sT (s2 hEq (sV 5) (sI 0)))))
 (iu (sIf (sOr (sT (s2 hEq (sV 3) (sI 0))) (sT (s2 hEq (sA (jh false 2 ak) (aj (sV 0) (aj (sI 8) cu))) (sI 0))))
 (qg (sA yg (aj (sC (.str "row")) (aj (sA yg cu) cu))))
 sNx)
 (qg (sA yg (aj (sC (.str "one")) (aj (sA (jh false 2 lq) (aj (sV 0) (aj (sV 1) cu))) cu)))))
 sNx)
 (iu (sIf (sT (s2 gLt (sV 5) (sI 3)))
 (qg (sA yg (aj (sC (.str "many")) (aj (sA (jh false 5 dh) (aj (sV 0) (aj (sV 1) (aj (s2 a8k (sV 2) (sI 1)) (aj (sV 3) (aj (sV 4) cu)))))) cu))))
 sNx)
 (iu (sIf (sT (s2 gLt (sV 5) (sI 5)))
 (iu (m7 6 (sA (jh false 2 ak) (aj (sV 0) (aj (sI 5) cu))))
 (iu (m7 7 (sA (jh false 2 ak) (aj (sV 0) (aj (s2 gk (sV 6) (sI 1)) cu))))
 (qg (sA yg (aj (sC (.str "times")) (aj (sA (jh false 5 dh) (aj (sV 0) (aj (sV 1) (aj (s2 a8k (sV 2) (sI 1)) (aj (s2 a5m (sV 3) (sA a6k (aj (sI 1) (aj (sV 6) cu)))) (aj (sV 4) cu)))))) (aj (sV 7) (aj (sV 6) cu))))))))
 sNx)
 (iu (m7 8 (sA u9 cu))
 (iu (a7f (sRg a2w (aj (s2 gIx (sA yg (aj (sI 1) (aj (sI 2) (aj (sI 2) (aj (sI 3) (aj (sI 3) (aj (sI 4) (aj (sI 5) (aj (sI 6) cu))))))))) (sA (jh false 2 ak) (aj (sV 0) (aj (sI 8) cu)))) cu)) (kN 9) (xm ak lq dh au))
 (qg (sA yg (aj (s2 gIx (sA yg (aj (sC (.str "row")) (aj (sC (.str "either")) cu))) (s2 a5m (sV 5) (sI 7))) (aj (sA wu (aj (sV 8) cu)) cu)))))))))))
end DRW
set_option maxHeartbeats 1000000
namespace L2
open PyProof.Rows
section
variable{prog:Program}{w:World}{A:Around}{R:Result->Shared->Prop}{s:Shared}{aD t0 i0 t1 i1:Expr}{aB:Scope}{pos:Pos}{it acc:Value}{env:Env}{cs:List Expr}
def tests(cs:List Expr)(env:Env):Sem Bool:=match cs with
 |[]=>pure true
 |c::_=>isTrue c env (eval c env)
def One(cs:List Expr):Prop:=cs=[]\/∃c,cs=[c]
theorem aq8(one:One cs):compTurn (.ListComp aD [⟨t0,i0,[],0⟩,⟨t1,i1,cs,0⟩] aB pos) 1 it acc env=(standAt i1.pos>>=λ_=>pyNext it>>=λr=>match r with
   |none=>pure (.done .next)
   |some v=>letOwnedTupleGo t1 it v>>=λ_=>assign t1 env v>>=λ_=>tests cs env>>=λok =>
    (if ok=true then (eval aD env>>=λx=>call (.builtin "list.append") [acc,x]>>=λ_=>pure ()) else pure ())>>=λ_ =>
     again (.compLoop (.ListComp aD [⟨t0,i0,[],0⟩,⟨t1,i1,cs,0⟩] aB pos) 1 it acc env)):=by
 rcases one with rfl|⟨c,rfl⟩
 ·unfold tests;simp only[pure_bind,dI];rfl
 ·show(standAt i1.pos>>=λ_=>pyNext it>>=λr=>_)=_
  congr 1;funext _;congr 1;funext r
  cases r with
  |none=>rfl
  |some v =>
   show(letOwnedTupleGo t1 it v>>=λ_=>assign t1 env v>>=λ_=>_)=(letOwnedTupleGo t1 it v>>=λ_=>assign t1 env v>>=λ_=>_)
   congr 1;funext _;congr 1;funext _
   unfold tests;simp
   congr 1;funext ok
   cases ok with
   |false=>rw[bp aU,bp aU,pure_bind]
   |true =>
    rw[aN rfl,aN rfl,bind_assoc]
    congr 1;funext x
    rw[map_eq_pure_bind,bind_assoc]
    congr 1
theorem ag0(one:One cs)(J:Nat->Shared->Prop)
  (step:∀m z,J m z->wpAny (model prog w) A (pyNext it) (λgot z1=>match got with
   |none=>R (.ok .next) z1
   |some v=>wpAny (model prog w) A (letOwnedTupleGo t1 it v) (λ_ z2=>wpAny (model prog w) A (assign t1 env v) (λ_ z3=>wpAny (model prog w) A (tests cs env) (λok z3'=>if ok=true then wpAny (model prog w) A (eval aD env) (λx z4 =>
     wpAny (model prog w) A (call (.builtin "list.append") [acc,x]) (λ_ z5=>∃m',m'<m/\J m' z5) (λ_ _=>False) z4)
     (λ_ _=>False) z3' else ∃m',m'<m/\J m' z3') (λ_ _=>False) z3) (λ_ _=>False) z2) (λ_ _=>False) z1) (λ_ _=>False) z)
  (m:Nat) (j0:J m s):codeAny (model prog w) A (.compLoop (.ListComp aD [⟨t0,i0,[],0⟩,⟨t1,i1,cs,0⟩] aB pos) 1 it acc env) R s:=by
 refine codeAny_loop rfl J (λm z hj=>(wpAny_noted ?_:wpAny _ _ ((compTurn (.ListComp aD [⟨t0,i0,[],0⟩,⟨t1,i1,cs,0⟩] aB pos) 1 it acc env).onRaise _) _ _ z)) m j0;rw[aq8 one];refine af (dO (af (bI (step m z hj) (λgot z1 h1=>?_) λ_ _ no=>no.elim)))
 match got,h1 with
 |none,h1=>exact ax h1
 |some v,h1 =>
  refine af (bI h1 (λ_ z2 h2=>af (bI h2 (λ_ z3 h3=>af (bI h3 (λok z3' h3'=>?_) λ_ _ no=>no.elim)) λ_ _ no=>no.elim)) λ_ _ no=>no.elim)
  match ok,h3' with
  |true,h3' =>
   rw[aN rfl]at h3';refine af (af (bI h3' (λx z4 h4=>?_) λ_ _ no=>no.elim));exact af (bI h4 (λ_ z5 h5=>ax (ax ⟨rfl,h5⟩)) λ_ _ no=>no.elim)
  |false,h3' =>
   rw[bp aU]at h3';exact af (ax (ax ⟨rfl,h3'⟩))
theorem acn(h0:codeAny (model prog w) A (.compLoop (.ListComp aD [⟨t0,i0,[],0⟩,⟨t1,i1,cs,0⟩] aB pos) 1 it acc env) R s)
  (h:wpAny (model prog w) A (pyIter it) (λit' s'=>codeAny (model prog w) A (.compLoop (.ListComp aD [⟨t0,i0,[],0⟩,⟨t1,i1,cs,0⟩] aB pos) 1 it' acc env) R s') (λ_ _=>False) s) :
  codeAny (model prog w) A (.compStart (.ListComp aD [⟨t0,i0,[],0⟩,⟨t1,i1,cs,0⟩] aB pos) 1 it acc env) R s:=by
 apply fq
 show wpAny (model prog w) _ ((compStart (.ListComp aD [⟨t0,i0,[],0⟩,⟨t1,i1,cs,0⟩] aB pos) 1 it acc env).onRaise _) _ _ s
 apply wpAny_onRaise
 unfold compStart;show wpAny (model prog w) _ (ask>>=_) _ _ s
 apply af
 apply eS
 refine wpAny_ite ?_
 split
 ·first
  |exact ax ⟨rfl,h0⟩
  |exact af (ax (ax ⟨rfl,h0⟩))
 ·apply af
  apply eW
  show wpAny (model prog w) _ (standAt i1.pos>>=_) _ _ s
  apply af
  apply dO
  apply af
  exact bI h (λit' s' h'=>ax ⟨rfl,h'⟩) λ_ _ no=>no.elim
theorem aco(J:Nat->Shared->Prop)
  (step:∀m z,J m z->wpAny (model prog w) A (pyNext it) (λgot z1=>match got with
   |none=>R (.ok .next) z1
   |some v=>wpAny (model prog w) A (letOwnedTupleGo t0 it v) (λ_ z2=>wpAny (model prog w) A (assign t0 env v) (λ_ z3=>wpAny (model prog w) A (eval i1 env) (λx z4 =>
     wpAny (model prog w) A (foldedSetIterable i1 env x) (λy z5=>wpAny (model prog w) A (pyIter y) (λit1 z6 =>
      codeAny (model prog w) A (.compStart (.ListComp aD [⟨t0,i0,[],0⟩,⟨t1,i1,cs,0⟩] aB pos) 1 it1 acc env) (λr z7=>∃f,r=.ok f/\∃m',m'<m/\J m' z7) z6) (λ_ _=>False) z5) (λ_ _=>False) z4)
     (λ_ _=>False) z3) (λ_ _=>False) z2) (λ_ _=>False) z1) (λ_ _=>False) z)
  (m:Nat) (j0:J m s):codeAny (model prog w) A (.compLoop (.ListComp aD [⟨t0,i0,[],0⟩,⟨t1,i1,cs,0⟩] aB pos) 0 it acc env) R s:=by
 refine codeAny_loop rfl J (λm z hj=>(wpAny_noted ?_:wpAny _ _ ((compTurn (.ListComp aD [⟨t0,i0,[],0⟩,⟨t1,i1,cs,0⟩] aB pos) 0 it acc env).onRaise _) _ _ z)) m j0;show wpAny (model prog w) _ (standAt i0.pos>>=λ_=>pyNext it>>=_) _ _ z
 apply af
 apply dO
 apply af
 refine bI (step m z hj) (λgot z1 h1=>?_) λ_ _ no=>no.elim
 match got,h1 with
 |none,h1=>exact ax h1
 |some v,h1 =>
  apply af
  refine bI h1 (λ_ z2 h2=>?_) λ_ _ no=>no.elim
  apply af
  refine bI h2 (λ_ z3 h3=>?_) λ_ _ no=>no.elim;show wpAny (model prog w) _ (eval i1 env>>=_) _ _ _
  apply af
  refine bI h3 (λx z4 h4=>?_) λ_ _ no=>no.elim
  apply af
  apply dO
  show wpAny (model prog w) _ (foldedSetIterable i1 env x>>=_) _ _ _
  apply af
  refine bI h4 (λy z5 h5=>?_) λ_ _ no=>no.elim;show wpAny (model prog w) _ (holding [y] (pyIter y)>>=_) _ _ _
  apply af
  apply cK
  refine bI h5 (λit1 z6 h6=>?_) λ_ _ no=>no.elim
  apply af
  refine wpAny_runOwn (eV h6 λr z7 h7=>?_);obtain⟨f,rfl,h8⟩:=h7;exact ax ⟨rfl,h8⟩
end
section
variable{prog:Program}{w:World}{A:Around}{R:Result->Shared->Prop}{s:Shared}{aD t0 i0 t1 i1:Expr}{aB:Scope}{pos:Pos}{it acc:Value}{env:Env}{cs:List Expr}
theorem ab5(h0:codeAny (model prog w) A (.compLoop (.ListComp aD [⟨t0,i0,[],0⟩,⟨t1,i1,cs,0⟩] aB pos) 0 it acc env) R s)
  (h:wpAny (model prog w) A (pyIter it) (λit' s'=>codeAny (model prog w) A (.compLoop (.ListComp aD [⟨t0,i0,[],0⟩,⟨t1,i1,cs,0⟩] aB pos) 0 it' acc env) R s') (λ_ _=>False) s) :
  codeAny (model prog w) A (.compStart (.ListComp aD [⟨t0,i0,[],0⟩,⟨t1,i1,cs,0⟩] aB pos) 0 it acc env) R s:=by
 apply fq
 show wpAny (model prog w) _ ((compStart (.ListComp aD [⟨t0,i0,[],0⟩,⟨t1,i1,cs,0⟩] aB pos) 0 it acc env).onRaise _) _ _ s
 apply wpAny_onRaise
 unfold compStart;show wpAny (model prog w) _ (ask>>=_) _ _ s
 apply af
 apply eS
 refine wpAny_ite ?_
 split
 ·first
  |exact ax ⟨rfl,h0⟩
  |exact af (ax (ax ⟨rfl,h0⟩))
 ·apply af
  apply eW
  show wpAny (model prog w) _ (standAt i0.pos>>=_) _ _ s
  apply af
  apply dO
  apply af
  exact bI h (λit' s' h'=>ax ⟨rfl,h'⟩) λ_ _ no=>no.elim
end
section
variable{X:Cx}
theorem FpOk.onL(f:FpOk Y aA H b)(hp:Y.pn=[])(hn:H' b=none)(ne:b∉L):FpOk Y (wk L h) H' b:=by
 obtain⟨_,f1,f2,f3,f4,_⟩:=f;refine⟨hn,f1,f2,f3,f4,λp hq z=>ne ?_⟩;rw[hp]at hq;have:=(aa7 (show p∈wk L h from hq)).1
 rw[<-z];exact this
def LiA(a:Addr)(ys:List V)(h:Heap):Prop:=∃(its:List Value) (k:Nat),h.get? a=some {cls:=.type "list",data:=.seq its.toArray k}/\Vals ys its/\ys.length<=sizeLine
theorem LiA.keep{a:Addr}{ys:List V}{h h':Heap}(l:LiA a ys h)(k:∀o,h.get? a=some o->h'.get? a=some o):LiA a ys h':=let ⟨its,n,e,r⟩:=l; ⟨its,n,k _ e,r⟩
def PCn(X:Cx)(cs:List Expr)(t:TT):Prop:=∀(aA:List (Addr×Obj)) (s:Shared) (σ:St) (H:Hp) (Q:Bool->Hp->Prop),Inv X aA σ H s->t σ H Q->wpAny (model X.prog X.w) X.A (tests cs X.env) (TP X aA σ Q) X.xe s
theorem auf:PCn X [] (λ_ H Q=>Q true H):=λ_ _ _ H _ I h=>ax ⟨H,I,h⟩
def az7(wi1:TI)(s0:St)(g0 g1:TG)(tc:TT)(te:TE)(Q:VK)(J0:It)(H1:Hp):Prop :=
 ∃W:Nat->Nat->List V->Hp->Prop,(∃m,W 0 m [] H1)/\∀i m ks H,W i m ks H->
  (J0.stop i H/\∀p,H p=none->Q (.ref p) (upd H p (.lst ks))) \/
  (J0.go i H/\∀x H',J0.yld i H x H'->g0 x s0 H' λσ2 H2=>Ext s0 σ2/\wi1 σ2 H2 λJ1 H3=>∃V':Nat->Nat->List V->Hp->Prop,(∃n,V' 0 n ks H3)/\∀j n ks H,V' j n ks H->
   (J1.stop j H/\∃m',m'<m/\W (i+1) m' ks H) \/
   (J1.go j H/\∀y H',J1.yld j H y H'->g1 y σ2 H' λσ3 H4=>Ext σ2 σ3/\tc σ3 H4 λok H4'=>if ok=true then te σ3 H4' (λz H5=>ks.length<sizeLine/\∃n',n'<n/\V' (j+1) n' (ks++[z]) H5) else ∃n',n'<n/\V' (j+1) n' ks H4'))
def aq9(wi0 wi1:TI)(s0:St->St)(g0 g1:TG)(tc:TT)(te:TE):TE:=λσ H Q=>wi0 σ H λJ0 H1=>az7 wi1 (s0 σ) g0 g1 tc te Q J0 H1
theorem aqa(one:One cs)(hc:X.calm=true)(S:CSc X aB cl ts fr ix)(hi0:PI X t0 i0 wi0)
  (hg0:∀C fp s H,PG (cxC X (ts++fr) aB cl C fp s H) t0 g0) (hi1:∀C fp s H,PI (cxC X (ts++fr) aB cl C fp s H) t1 i1 wi1) (hg1:∀C fp s H,PG (cxC X (ts++fr) aB cl C fp s H) t1 g1) (ht:∀C fp s H,PCn (cxC X (ts++fr) aB cl C fp s H) cs tc) (he:∀C fp s H,PE (cxC X (ts++fr) aB cl C fp s H) aD te)
  (hs0:∀x,foldedSetIterable i0 X.env x=pure x:=by intro _;rfl) (hs1:∀env x,foldedSetIterable i1 env x=pure x:=by intro _ _;rfl)
  (use:Option (Value->Sem Unit)) (I:Inv X aA σ H s) (h:aq9 wi0 wi1 (qx ts.length ix) g0 g1 tc te σ H Q) (fin:a4j X aA σ use Q Qf) :
  wpAny (model X.prog X.w) X.A (comprehension (.ListComp aD [⟨t0,i0,[],0⟩,⟨t1,i1,cs,0⟩] aB pos) aB X.env ppos (newList []) false (eval i0 X.env) use) Qf X.xe s:=by
 refine wpAny_comprehension_free (use:=use) rfl hs0 S.clos S.kind S.names (thn (hi0 aA s σ H _ I h) λv s1 h1=>thn h1 λitv s2 h2=>?_);obtain⟨it,fp,tn,J,H2,e,I2,T,st2,f2,W,⟨m0,w0⟩,turn⟩:=h2;subst e;have hob:∀b∈fp,b<s2.heap.objs.size:=λb hb=>let ⟨o,e,_⟩:=T.obj _ _ st2 b hb;aS e;refine cA (wpAny_newFunctionEnv S.nocell (by intro y hy;simp at hy) (λh4 hns4 hsb4=>?_) S.kind)
 dsimp only at hns4 hsb4 ⊢
 generalize hH2:s2.heap.push {cls:=.type "list",dict:=none,data:=.seq ([]:List Value).toArray}=G at hns4 hsb4 ⊢
 have hCs:G.objs.size=s2.heap.objs.size+1:=by rw[<-hH2,dS]
 have hCle:s2.heap.objs.size<=G.objs.size:=by omega
 have hne:G.objs.size≠s2.heap.objs.size:=by omega
 have old:∀b o,s2.heap.get? b=some o->h4.get? b=some o:=λb o e=>by
  have hlt:=aS e;exact hsb4.extBut b o (bG (b9 hlt hCle)) (aw _ (hH2 ▸ aw _ e))
 have hacc:LiA s2.heap.objs.size [] h4:=⟨[],0,hsb4.extBut _ _ (eX hne) (aw _ (hH2 ▸ aT _ rfl)),.nil,ba _⟩;have K0:Inv (cxC X (ts++fr) aB cl G.objs.size fp s2 H2) [] (qx ts.length ix σ) H2 {s2 with heap:=h4,toks:=s2.toks+([]:List (Str×Value)).length} :=
  ah2 S I2 f2 hob hCle old hns4 rfl rfl
 have st4:tn 0 h4:=T.keep _ _ _ st2 λb _ o e=>old b o e;have accF:s2.heap.objs.size∉fp:=λz=>cv _ (hob _ z)
 generalize hY:cxC X (ts++fr) aB cl G.objs.size fp s2 H2=Y at K0
 have Yc:Y.calm=true:=by rw[<-hY];exact hc
 have Yp:Y.prog=X.prog:=by rw[<-hY];rfl
 have Yw:Y.w=X.w:=by rw[<-hY];rfl
 have YK:Y.K=X.K:=by rw[<-hY];rfl
 have YA:Y.A=X.A:=by rw[<-hY];rfl
 have Yn:Y.pn=[]:=by rw[<-hY];rfl
 have Ye:Y.env=compEnvC aB cl G.objs.size X.env:=by rw[<-hY];rfl
 have Yx:Y.xe=λ_ _=>False:=by rw[<-hY];rfl
 have YG0:PG Y t0 g0:=by rw[<-hY];exact hg0 _ _ _ _
 have YG1:PG Y t1 g1:=by rw[<-hY];exact hg1 _ _ _ _
 have YI1:PI Y t1 i1 wi1:=by rw[<-hY];exact hi1 _ _ _ _
 have YT:PCn Y cs tc:=by rw[<-hY];exact ht _ _ _ _
 have YE:PE Y aD te:=by rw[<-hY];exact he _ _ _ _
 have stat:∀{H':Hp},(∀b∈fp,H' b=none)->∀b∈fp,FpOk Y [] H' b:=λhn b hb=>by
  rw[<-hY];exact⟨hn b hb,λz=>by have h1:=hob b hb;have z':b=G.objs.size:=z;exact bG (b9 h1 hCle) z',λz=>(aaj S I2 f2 hob hCle).exfs b hb z,.inl hb,λx c e=>(f2 b hb).2.2.2.2.1 x c (S.sub x c e),λp hp=>absurd (show p∈([]:List (Addr×Obj)) from hp) (by simp)⟩
 have statA:∀{H':Hp},H' s2.heap.objs.size=none->FpOk Y [] H' s2.heap.objs.size:=λhn=>by
  rw[<-hY];exact⟨hn,λz=>hne (show G.objs.size=s2.heap.objs.size from z.symm),λz=>by
   obtain⟨_,o,ho,_⟩:=(aaj S I2 f2 hob hCle).funs.mem z;exact cv _ (aS ho),.inr (ay _),λx c e z=>by
   obtain⟨v,o,ho,_⟩:=I2.cell x c (S.sub x c e);rw[z]at ho;exact cv _ (aS ho),λp hp=>absurd (show p∈([]:List (Addr×Obj)) from hp) (by simp)⟩
 generalize hacca:s2.heap.objs.size=ac at hacc accF statA hne hCle
 have loop:∀s4:Shared,s4={s2 with heap:=h4,toks:=s2.toks+([]:List (Str×Value)).length}->
   codeAny (model X.prog X.w) X.A (.compLoop (.ListComp aD [⟨t0,i0,[],0⟩,⟨t1,i1,cs,0⟩] aB pos) 0 (.ref it) (.ref ac) (compEnvC aB cl G.objs.size X.env))
    (compPost (model X.prog X.w) X.A X.xe use Qf (.ref ac) G.objs.size) s4:=by
  rintro s4 rfl
  refine aco (λn s'=>∃i σ' H' ks,Inv Y [] σ' H' s'/\Ext (qx ts.length ix σ) σ'/\tn i s'.heap/\(∀b∈fp,H' b=none)/\H' ac=none /\
   LiA ac ks s'.heap/\W i n ks H') ?_ m0
   ⟨0,_,H2,[],K0,⟨rfl,λ_ _ z=>z⟩,st4,λb hb=>(f2 b hb).1,I2.hok.fresh (by omega),hacc,w0⟩
  rintro n s5 ⟨i,σ5,H5,ks,I5,x5,st5,fr5,fa5,ac5,w5⟩
  have I5':Inv Y [] (qx ts.length ix σ) H5 s5:=I5.weak x5.1.symm x5.2;have hao:∃o,s5.heap.get? ac=some o/\∀v,o.data≠.cell v:=by
   obtain⟨its,k,ho,_⟩:=ac5;exact⟨_,ho,λv z=>by cases z⟩
  have I5p:Inv Y (wk [ac] s5.heap) (qx ts.length ix σ) H5 s5:=Inv.pinned (aA:=[]) (fp:=[ac]) I5' (λb hb=>by rw[aI.mp hb];exact statA fa5) (λb hb=>by rw[aI.mp hb];exact hao)
  have F5:∀b∈fp,FpOk Y (wk [ac] s5.heap) H5 b:=λb hb=>(stat fr5 b hb).onL Yn (fr5 b hb) (λz=>accF (by rw[aI.mp z]at hb;exact hb))
  obtain⟨ao,hao1,hao2⟩:=hao;have pa:(ac,ao)∈wk [ac] s5.heap:=jq (by simp) hao1
  rcases turn i n ks H5 w5 with⟨stop,qn⟩|⟨go,step⟩
  ·rw[<-YA];refine thn (T.done Y Yp Yw YK Yc i _ s5 _ H5 _ I5p F5 st5 stop) λr s6 ⟨hr,I6⟩=>?_;subst hr;have e6:=(I6.pin (ac,ao) (aQ _ pa)).1;have S6:LiA ac ks s6.heap:=ac5.keep λo ho=>by rw[hao1]at ho;cases ho;exact e6
   have I6':Inv (cxC X (ts++fr) aB cl G.objs.size fp s2 H2) [] (qx ts.length ix σ) H5 s6:=by rw[hY];exact I6.unpinned'
   obtain⟨m6,hn6,_⟩:=I6'.loc;rw[YA];obtain⟨its6,k6,q6,rv6,hz6⟩:=S6;refine fin ac G.objs.size s6 (upd H5 ac (.lst ks)) m6 hn6 (I2.fpOk (by omega) (by rw[jc hne];exact I6'.free)) (λh' sb=>?_) (qn _ fa5)
   exact comp_back I2 f2 (by omega) (by omega) hne I6' fa5 q6 rv6 hz6 sb
  ·rw[<-YA];refine thn (T.item Y Yp Yw YK Yc i _ s5 _ H5 _ I5p F5 st5 go) λr s6 ⟨u,hr,h6⟩=>?_;subst hr;refine thn h6 λ_ s7 ⟨x,H7,I7,r7,y7,st7,fr7⟩=>?_;have fa7:H7 ac=none:=(I7.pin (ac,ao) (aQ _ pa)).2.1;have ac7:=(I7.pin (ac,ao) (aQ _ pa)).1;have S7:LiA ac ks s7.heap:=ac5.keep λo ho=>by rw[hao1]at ho;cases ho;exact ac7
   have obj7:∀b∈ac::fp,∃o,s7.heap.get? b=some o/\∀v,o.data≠.cell v:=λb hb=>by
    rcases aO.mp hb with e|e
    ·subst e;exact⟨_,ac7,hao2⟩
    ·exact T.obj _ _ st7 b e
   have I7':Inv Y (wk (ac::fp) s7.heap) (qx ts.length ix σ) H7 s7:=by
    refine Inv.pinned (aA:=[]) (fp:=ac::fp) I7.unpinned' (λb hb=>?_) obj7
    rcases aO.mp hb with e|e
    ·subst e;exact statA fa7
    ·exact stat fr7 b e
   rw[<-Ye,<-Yp,<-Yw];refine bI (YG0 _ s7 _ H7 x u _ I7' r7 (step x H7 y7)) (λ_ s8 ⟨σ8,H8,I8,x8,q8⟩=>?_) (λ_ _ z=>by rw[Yx]at z;exact z)
   refine bI (YI1 _ s8 _ H8 _ I8 q8) (λv8 z4 h8=>eA (hs1 _ v8) (bI h8 (λitv z6 h9=>?_) (λ_ _ z=>by rw[Yx]at z;exact z))) (λ_ _ z=>by rw[Yx]at z;exact z)
   obtain⟨it1,fp1,tn1,J1,H9,e1,I9,T1,st9,f9,V,⟨n0,v0⟩,turn1⟩:=h9;subst e1;have pin9:∀b∈ac::fp,∀o,s7.heap.get? b=some o->z6.heap.get? b=some o/\H9 b=none:=λb hb o e=>by
    obtain⟨z1,z2,_⟩:=I9.pin (b,o) (aQ _ (jq hb e));exact⟨z1,z2⟩
   have apart:∀b∈fp1,b∉ac::fp:=λb hb z=>by
    obtain⟨o,e,_⟩:=obj7 b z;exact(f9 b hb).2.2.2.2.2 (b,o) (aQ _ (jq z e)) rfl
   have stat1:∀{H':Hp},(∀b∈fp1,H' b=none)->∀b∈fp1,FpOk Y [] H' b:=λhn b hb=>by
    obtain⟨_,k1,k2,k3,k4,_⟩:=f9 b hb;refine⟨hn b hb,k1,k2,k3,k4,λp hp=>?_⟩;rw[Yn]at hp;exact absurd (show p∈([]:List (Addr×Obj)) from hp) (by simp)
   have S9:LiA ac ks z6.heap:=S7.keep λo ho=>(pin9 ac (by simp) o ho).1
   have inner:codeAny (model Y.prog Y.w) Y.A (.compLoop (.ListComp aD [⟨t0,i0,[],0⟩,⟨t1,i1,cs,0⟩] aB pos) 1 (.ref it1) (.ref ac) Y.env)
     (λr z7=>∃f,r=.ok f/\∃m',m'<n/\∃i σ' H' ks,Inv Y [] σ' H' z7/\Ext (qx ts.length ix σ) σ'/\tn i z7.heap/\(∀b∈fp,H' b=none)/\H' ac=none/\LiA ac ks z7.heap/\W i m' ks H') z6:=by
    refine ag0 one (λn s'=>∃j σ' H' ks,Inv Y [] σ' H' s'/\Ext σ8 σ'/\tn1 j s'.heap/\(∀b∈fp1,H' b=none)/\(∀b∈fp,∀o,s7.heap.get? b=some o->s'.heap.get? b=some o/\H' b=none)/\H' ac=none/\LiA ac ks s'.heap/\V j n ks H') ?_ n0
     ⟨0,_,H9,ks,I9.unpinned',⟨rfl,λ_ _ z=>z⟩,st9,λb hb=>(f9 b hb).1,λb hb=>pin9 b (aY _ hb),(pin9 ac (by simp) _ ac7).2,S9,v0⟩
    rintro k a5 ⟨j,τ5,G5,ks5,Q5,y5,t5,e5,o5,c5,d5,v5⟩
    have Q5':Inv Y [] σ8 G5 a5:=Q5.weak y5.1.symm y5.2;have fp5:∀b∈fp,G5 b=none:=λb hb=>by
     obtain⟨o,e,_⟩:=T.obj _ _ st7 b hb;exact(o5 b hb o e).2
    have dob:∃o,a5.heap.get? ac=some o/\∀v,o.data≠.cell v:=by
     obtain⟨its,k,ho,_⟩:=d5;exact⟨_,ho,λv z=>by cases z⟩
    have objs:∀b∈ac::fp,∃o,a5.heap.get? b=some o/\∀v,o.data≠.cell v:=λb hb=>by
     rcases aO.mp hb with e|e
     ·subst e;exact dob
     ·obtain⟨o,e',d⟩:=T.obj _ _ st7 b e;exact⟨o,(o5 b e o e').1,d⟩
    have Q5p:Inv Y (wk (ac::fp) a5.heap) σ8 G5 a5:=by
     refine Inv.pinned (aA:=[]) (fp:=ac::fp) Q5' (λb hb=>?_) objs
     rcases aO.mp hb with e|e
     ·subst e;exact statA c5
     ·exact stat fp5 b e
    have FF:∀b∈fp1,FpOk Y (wk (ac::fp) a5.heap) G5 b:=λb hb=>(f9 b hb).onL Yn (e5 b hb) (apart b hb);obtain⟨bo,hbo1,hbo2⟩:=dob;have keep6:∀{G6:Hp} {τ:St} {a6:Shared} {P:List (Addr×Obj)},Inv Y (wk (ac::fp) a5.heap++P) τ G6 a6->(∀b∈fp,∀o,s7.heap.get? b=some o->a6.heap.get? b=some o/\G6 b=none)/\G6 ac=none/\LiA ac ks5 a6.heap:=λ{G6 τ a6 P} I6=>by
     refine⟨λb hb o e=>?_,?_,?_⟩
     ·obtain⟨z1,z2,_⟩:=I6.pin (b,o) (aQ _ (cN _ (jq (aY _ hb) (o5 b hb o e).1)));exact⟨z1,z2⟩
     ·exact(I6.pin (ac,bo) (aQ _ (cN _ (jq (by simp) hbo1)))).2.1
     ·exact d5.keep λo ho=>by
       rw[hbo1]at ho;cases ho
       exact(I6.pin (ac,bo) (aQ _ (cN _ (jq (by simp) hbo1)))).1
    rcases turn1 j k ks5 G5 v5 with⟨stop1,m',hm',w6⟩|⟨go1,step1⟩
    ·refine thn (T1.done Y rfl rfl rfl Yc j _ a5 _ G5 _ Q5p FF t5 stop1) λr a6 ⟨hr,Q6⟩=>?_;subst hr;obtain⟨kk1,kk2,kk3⟩:=keep6 (P:=[]) (by rw[bP];exact Q6)
     refine⟨_,rfl,m',hm',i+1,σ8,G5,ks5,Q6.unpinned',x8,?_,fp5,c5,kk3,w6⟩;exact T.keep _ _ _ st7 λb hb o e=>(kk1 b hb o e).1
    ·refine thn (T1.item Y rfl rfl rfl Yc j _ a5 _ G5 _ Q5p FF t5 go1) λr a6 ⟨u1,hr,h6'⟩=>?_;subst hr;refine thn h6' λ_ a7 ⟨y,G7,Q7,ry,yy,t7,e7⟩=>?_;obtain⟨p1,p2,p3⟩:=keep6 (P:=[]) (by rw[bP];exact Q7)
     have Q7p:Inv Y (wk (ac::fp) a5.heap++wk fp1 a7.heap) σ8 G7 a7:=by
      refine Inv.pinned (fp:=fp1) Q7 (λb hb=>(f9 b hb).onL Yn (e7 b hb) (apart b hb)) (T1.obj _ _ t7)
     refine bI (YG1 _ a7 _ G7 y u1 _ Q7p ry (step1 y G7 yy)) (λ_ a8 ⟨τ8,G8,Q8,z8,q8'⟩=>?_) (λ_ _ z=>by rw[Yx]at z;exact z)
     refine bI (YT _ a8 _ G8 _ Q8 q8') (λok b8 ⟨G8',Q8',q9⟩=>?_) (λ_ _ z=>by rw[Yx]at z;exact z)
     cases ok with
     |false =>
      rw[bp aU]at q9 ⊢;obtain⟨n',hn',v9⟩:=q9;obtain⟨r1,r2,r3⟩:=keep6 Q8';refine⟨n',hn',j+1,τ8,G8',_,Q8'.unpinned',z8,?_,?_,r1,r2,r3,v9⟩
      ·exact T1.keep _ _ _ t7 λb hb o e=>(Q8'.pin (b,o) (aQ _ (aQ _ (jq hb e)))).1
      ·intro b hb
       obtain⟨o,e,_⟩:=T1.obj _ _ t7 b hb;exact(Q8'.pin (b,o) (aQ _ (aQ _ (jq hb e)))).2.1
     |true =>
      rw[aN rfl]at q9 ⊢;refine bI (YE _ b8 _ G8' _ Q8' q9) (λyv a9 ⟨z,G9,Q9,rz,few,n',hn',v9⟩=>?_) (λ_ _ z=>by rw[Yx]at z;exact z)
      obtain⟨r1,r2,its,k5,ac9,rv5,hz5⟩:=keep6 Q9;have hl:=rv5.length;refine cQ c8 ⟨_,ac9,rfl⟩ fW (fN _ _) (gP ac its.toArray k5 yv (by rw[aL];omega)) ⟨ac9,?_⟩
      have q:=hG ac9 (λa=>a.push yv);have qo:∀b o,b≠ac->a9.heap.get? b=some o->(a9.heap.update ac (Obj.mapSeq (λa=>a.push yv))).get? b=some o:=λb o hb e=>(cO a9.heap _ (eX hb)).trans e;obtain⟨k9,q9'⟩:∃k,(a9.heap.update ac (Obj.mapSeq (λa=>a.push yv))).get? ac=some {cls:=.type "list",data:=.seq (its++[yv]).toArray k}:=⟨_,by rw[q];simp;rfl⟩
      obtain⟨a0,a1,a2,a3,a4,a5'⟩:=statA (show G9 ac=none from r2)
      have nac:∀b∈fp,b≠ac:=λb hb z=>accF (z ▸ hb);have nac1:∀b∈fp1,b≠ac:=λb hb z=>apart b hb (by rw[z];simp)
      refine⟨n',hn',j+1,τ8,G9,_,(Q9.unpinned').turned qo a0 a1 a3 a4 a5',z8,?_,?_,?_,r2,⟨_,k9,q9',rv5.append (.cons rz .nil),by rw[ae,aM];omega⟩,v9⟩
      ·exact T1.keep _ _ _ t7 λb hb o e=>qo b o (nac1 b hb) (Q9.pin (b,o) (aQ _ (aQ _ (jq hb e)))).1
      ·intro b hb
       obtain⟨o,e,_⟩:=T1.obj _ _ t7 b hb;exact(Q9.pin (b,o) (aQ _ (aQ _ (jq hb e)))).2.1
      ·intro b hb o e
       obtain⟨z1,z2⟩:=r1 b hb o e;exact⟨qo b o (nac b hb) z1,z2⟩
   exact acn inner (T1.self _ 0 _ _ _ st9 inner)
 exact ab5 (loop _ rfl) (T.self _ 0 _ _ _ st4 (loop _ rfl))
end
end L2
namespace MI
open L2
open Classical in
noncomputable def aio(ck:Hd->Prop)(c:ST)(fe:SE)(x:D)(rd:Sd):List D->List D->Hd->R (List D)
 |[],zs,h=>if ck h then .ok zs h else .no
 |y::ys,zs,h=>if ck h then (c (some x::some y::rd) h).bind λb h1=>if b=true then ((fe (some x::some y::rd) h1).bind λd h2=>if zs.length+1<=LINE then aio ck c fe x rd ys (zs++[d]) h2 else .no) else aio ck c fe x rd ys zs h1 else .no
open Classical in
noncomputable def a71(ck:Hd->Prop)(fj:SI)(c:ST)(fe:SE)(rd:Sd):List D->List D->Hd->R (List D)
 |[],zs,h=>if ck h then .ok zs h else .no
 |x::xs,zs,h=>if ck h then (fj (some x::none::rd) h).bind λjt h1=>(aio jt.ck c fe x rd jt.xs zs h1).bind λzs1 h2=>a71 ck fj c fe rd xs zs1 h2 else .no
noncomputable def acp(fi fj:SI)(c:ST)(fe:SE)(ix:List Nat):SE:=λτ h=>(fi τ h).bind λit h1=>(a71 it.ck fj c fe (frs' ix τ) it.xs [] h1).bind (aa4 [])
def alq:ST:=λ_ h=>.ok true h
theorem ay1{K:Fg}{E:XD}{J:It}{jt:Itm}{c:ST}{fe:SE}{x:D}{vx:V}{r:St}{rd:Sd}{k1:List D->Hd->R D}{ι0:List Addr}{H0:Hp}{h0:Hd}{Q:VK}{M:List V->Hp->Prop}{ks0:List V}{zs0:List D}
  (ir:akg K ι0 H0 J jt) (rx:Rep K ι0 H0 vx x) (S:SRep K ι0 H0 r rd) (Rh:HRep K ι0 H0 h0) (rz:Reps K ι0 H0 ks0 zs0) (o:out K E (a04 K) ι0 H0 ((aio jt.ck c fe x rd jt.xs zs0 h0).bind k1) Q)
  (fin:∀ks zs ι H h,Gr ι0 H0 ι H->HRep K ι H h->Reps K ι H ks zs->out K E (a04 K) ι H (k1 zs h) Q->M ks H) :
  ∃V':Nat->Nat->List V->Hp->Prop,(∃n,V' 0 n ks0 H0)/\∀j n ks H,V' j n ks H->
   (J.stop j H/\M ks H) \/
   (J.go j H/\∀y H',J.yld j H y H'->a0g 1 y (some vx::none::r) H' λσ3 H4=>L2.Ext (some vx::none::r) σ3/\lift K E afa c σ3 H4 λok H4'=>if ok=true then lift K E (a04 K) fe σ3 H4' (λz H5=>ks.length<sizeLine/\∃n',n'<n/\V' (j+1) n' (ks++[z]) H5) else ∃n',n'<n/\V' (j+1) n' ks H4'):=by
 refine⟨λj n ks H=>n=jt.xs.length-j/\j<=jt.xs.length/\∃ι h zs,Gr ι0 H0 ι H/\HRep K ι H h/\Reps K ι H ks zs/\out K E (a04 K) ι H ((aio jt.ck c fe x rd (jt.xs.drop j) zs h).bind k1) Q,⟨_,rfl,ba _,ι0,h0,zs0,.refl _ _,Rh,rz,o⟩,?_⟩
 rintro j n ks H ⟨rfl,hj,ι,h,zs,g0,Rh,rz,o⟩
 by_cases hlt:j<jt.xs.length
 ·rw[cW hlt,aio]at o
  by_cases hc:jt.ck h
  ·rw[aN hc,R.bind_assoc]at o;obtain⟨go,yl⟩:=(ir ι H h g0 Rh hc).1 j _ (ai hlt);refine .inr ⟨go,λy H' yy=>?_⟩;obtain⟨g1,r1,hr1⟩:=yl y H' yy;have o':=a2m o g1;have st:∀{ι':List Addr} {H'':Hp},Gr ι H' ι' H''->SRep K ι' H'' (some vx::some y::r) (some x::some jt.xs[j]::rd):=λg=>zr ((rx.mono (g0.trans g1)).mono g) (zr (r1.mono g) ((S.mono (g0.trans g1)).mono g));refine⟨⟨rfl,λi v e=>?_⟩,ι,some x::some jt.xs[j]::rd,h,st (.refl _ _),hr1,dz o' λok h1 ι1 H1 u g2 r2 hr2 o2=>?_⟩
   ·match i,e with
    |0,e=>exact e
    |1,e=>simp at e
    |i+2,e=>simpa using e
   ·have r2:u=ok:=r2;subst r2
    cases u with
    |false =>
     rw[bp aU]at o2 ⊢;exact⟨jt.xs.length-(j+1),by omega,rfl,hlt,ι1,h1,zs,(g0.trans g1).trans g2,hr2,rz.mono (g1.trans g2),o2⟩
    |true =>
     rw[aN rfl]at o2 ⊢;rw[R.bind_assoc]at o2;refine⟨ι1,_,h1,st g2,hr2,dz o2 λd h2 ι2 H2 z g3 r3 hr3 o3=>?_⟩
     by_cases h6:zs.length+1<=LINE
     ·rw[aN h6]at o3;have few:ks.length<sizeLine:=by have:=ll h6;rw[<-rz.len]at this;omega
      exact⟨few,jt.xs.length-(j+1),by omega,rfl,hlt,ι2,h2,zs++[d],((g0.trans g1).trans g2).trans g3,hr3,(rz.mono ((g1.trans g2).trans g3)).app (.cons r3 .nil),o3⟩
     ·rw[bp h6]at o3;exact o3.elim
  ·rw[bp hc]at o;exact o.elim
 ·have e:j=jt.xs.length:=by omega
  subst e;rw[c6 (ay _),aio]at o
  by_cases hc:jt.ck h
  ·rw[aN hc]at o;exact .inl ⟨(ir ι H h g0 Rh hc).2,fin ks zs ι H h g0 Rh rz o⟩
  ·rw[bp hc]at o;exact o.elim
theorem auh{K:Fg}{E:XD}{J:It}{it:Itm}{fj:SI}{c:ST}{fe:SE}{r:St}{rd:Sd}{ι0:List Addr}{H0:Hp}{h0:Hd}{Q:VK}
  (ir:akg K ι0 H0 J it) (S:SRep K ι0 H0 r rd) (Rh:HRep K ι0 H0 h0) (o:out K E (a04 K) ι0 H0 ((a71 it.ck fj c fe rd it.xs [] h0).bind (aa4 [])) Q) :
  az7 (lift K E (ap2 K) fj) (List.replicate 2 none++r) (a0g 0) (a0g 1) (lift K E afa c) (lift K E (a04 K) fe) Q J H0:=by
 refine⟨λi m ks H=>m=it.xs.length-i/\i<=it.xs.length/\∃ι h zs,Gr ι0 H0 ι H/\HRep K ι H h/\Reps K ι H ks zs/\out K E (a04 K) ι H ((a71 it.ck fj c fe rd (it.xs.drop i) zs h).bind (aa4 [])) Q,⟨_,rfl,ba _,ι0,h0,[],.refl _ _,Rh,.nil,o⟩,?_⟩
 rintro i m ks H ⟨rfl,hi,ι,h,zs,g0,Rh,rz,o⟩
 by_cases hlt:i<it.xs.length
 ·rw[cW hlt,a71]at o
  by_cases hc:it.ck h
  ·rw[aN hc,R.bind_assoc]at o;obtain⟨go,yl⟩:=(ir ι H h g0 Rh hc).1 i _ (ai hlt);refine .inr ⟨go,λx H' y=>?_⟩;obtain⟨g1,r1,hr1⟩:=yl x H' y;have o':=a2m o g1;refine⟨⟨rfl,λk v e=>?_⟩,ι,some it.xs[i]::none::rd,h,zr r1 ?_,hr1,dz o' λjt h1 ι1 H1 J1 g2 r2 hr2 o2=>?_⟩
   ·match k,e with
    |0,e=>simp at e
    |1,e=>simp at e
    |k+2,e=>simpa using e
   ·have S':=S.mono (g0.trans g1);refine⟨by simp[S'.len],λk d e=>?_⟩
    cases k with
    |zero=>simp at e
    |succ k=>simpa using S'.val k d (by simpa using e)
   ·rw[R.bind_assoc]at o2;refine ay1 (k1:=λks1 h2=>(a71 it.ck fj c fe rd (it.xs.drop (i+1)) ks1 h2).bind (aa4 [])) r2 (r1.mono g2) (S.mono ((g0.trans g1).trans g2)) hr2 (rz.mono (g1.trans g2)) o2 λks' zs' ι3 H3 h3 g3 hr3 rz3 o3=>?_;exact⟨it.xs.length-(i+1),by omega,rfl,hlt,ι3,h3,zs',((g0.trans g1).trans g2).trans g3,hr3,rz3,o3⟩
  ·rw[bp hc]at o;exact o.elim
 ·have e:i=it.xs.length:=by omega
  subst e;rw[c6 (ay _),a71]at o
  by_cases hc:it.ck h
  ·rw[aN hc]at o;have o1:out K E (a04 K) ι H (.ok (.ref h.length) (h++[.lst ([]++zs)])) Q:=o;rw[dH]at o1;exact .inl ⟨(ir ι H h g0 Rh hc).2,yh (E:=E) rz Rh o1⟩
  ·rw[bp hc]at o;exact o.elim
section
variable{X:Cx}{E:XD}{aD t0 i0 t1 i1 cn:Expr}{aB:Scope}{pos:Pos}{cl:List (Str×Addr)}{a b:Str}{fr:List Str}{ix:List Nat}{fi fj:SI}{fe:SE}{c:ST}
theorem aqb{σ:St}{H:Hp}{Q:VK}(h:lift X.K E (a04 X.K) (acp fi fj c fe ix) σ H Q):aq9 (lift X.K E (ap2 X.K) fi) (lift X.K E (ap2 X.K) fj) (qx 2 ix) (a0g 0) (a0g 1) (lift X.K E afa c) (lift X.K E (a04 X.K) fe) σ H Q:=by
 obtain⟨ι,τ,h,Sr,Rh,o⟩:=h;refine⟨ι,τ,h,Sr,Rh,dz o λit h1 ι1 H1 J g1 r1 hr1 o1=>?_⟩;exact auh r1 (a5l (Sr.mono g1) ix) hr1 o1
theorem aip:PCn X [] (lift X.K E afa alq):=λaA s σ H Q I ⟨ι,τ,h,_,Rh,o⟩=>auf aA s σ H Q I (o ι H true (.refl _ _) rfl Rh)
theorem aqc{spos:Pos}{x:Str}{i:Nat}{pos':Pos}{cs:List Expr}(hN:X.N.Nodup)(hi':X.N[i]? = some x)(hx:Loc X.env.scope x)(one:One cs)(hc:X.calm=true)(S:CSc X aB cl [a,b] fr ix)(hi:MI X E t0 i0 fi)
  (hg0:∀C fp s H,PG (cxC X ([a,b]++fr) aB cl C fp s H) t0 (a0g 0)) (hj:∀C fp s H,MI (cxC X ([a,b]++fr) aB cl C fp s H) E t1 i1 fj) (hg1:∀C fp s H,PG (cxC X ([a,b]++fr) aB cl C fp s H) t1 (a0g 1)) (ht:∀C fp s H,PCn (cxC X ([a,b]++fr) aB cl C fp s H) cs (lift X.K E afa c)) (he:∀C fp s H,ME (cxC X ([a,b]++fr) aB cl C fp s H) E aD fe)
  (hs0:∀x,foldedSetIterable i0 X.env x=pure x:=by intro _;rfl) (hs1:∀env x,foldedSetIterable i1 env x=pure x:=by intro _ _;rfl) (hsw:swapsWith (.ListComp aD [⟨t0,i0,[],0⟩,⟨t1,i1,cs,0⟩] aB pos) (some (.Name x pos')) spos.line X.env=pure true:=by rfl) (hf:Hf X x:=by first|exact .inl rfl|exact .inr rfl|assumption) :
  PS X (.Assign [.Name x pos'] (.ListComp aD [⟨t0,i0,[],0⟩,⟨t1,i1,cs,0⟩] aB pos) spos) (awd (aq9 (lift X.K E (ap2 X.K) fi) (lift X.K E (ap2 X.K) fj) (qx 2 ix) (a0g 0) (a0g 1) (lift X.K E afa c) (lift X.K E (a04 X.K) fe)) (a0g i)):=by
 intro aA s σ H D I h
 rw[exec_Assign_Name_used _ _ _ _ hsw];refine af (dO (af ?_));refine af (bI (aqa one hc S hi hg0 hj hg1 ht he hs0 hs1 (some (assign (.Name x pos') X.env)) I h (adf hN hi' hx hf)) (λ_ s' hq=>ax (ax hq)) λ_ _ e=>e)
theorem ab6{spos:Pos}{x:Str}{i:Nat}{pos':Pos}{cs:List Expr}(hN:X.N.Nodup)(hi':X.N[i]? = some x)(hx:Loc X.env.scope x)(one:One cs)(hc:X.calm=true)(S:CSc X aB cl [a,b] fr ix)(hi:MI X E t0 i0 fi)
  (hg0:∀C fp s H,PG (cxC X ([a,b]++fr) aB cl C fp s H) t0 (a0g 0)) (hj:∀C fp s H,MI (cxC X ([a,b]++fr) aB cl C fp s H) E t1 i1 fj) (hg1:∀C fp s H,PG (cxC X ([a,b]++fr) aB cl C fp s H) t1 (a0g 1)) (ht:∀C fp s H,PCn (cxC X ([a,b]++fr) aB cl C fp s H) cs (lift X.K E afa c)) (he:∀C fp s H,ME (cxC X ([a,b]++fr) aB cl C fp s H) E aD fe)
  (hs0:∀x,foldedSetIterable i0 X.env x=pure x:=by intro _;rfl) (hs1:∀env x,foldedSetIterable i1 env x=pure x:=by intro _ _;rfl) (hsw:swapsWith (.ListComp aD [⟨t0,i0,[],0⟩,⟨t1,i1,cs,0⟩] aB pos) (some (.Name x pos')) spos.line X.env=pure true:=by rfl) (hf:Hf X x:=by first|exact .inl rfl|exact .inr rfl|assumption) :
  MS X E (.Assign [.Name x pos'] (.ListComp aD [⟨t0,i0,[],0⟩,⟨t1,i1,cs,0⟩] aB pos) spos) (m7 i (sZ (acp fi fj c fe ix))) :=
 PS.weak (an8 (aqc hN hi' hx one hc S hi hg0 hj hg1 ht he hs0 hs1 hsw hf)) λN σ H q=>aqb (axw (an9 q))
end
structure CK (K:Fg) (mg:Str->Option Value) (c:Str) (C:Addr) (ks:List Str):Prop where
 m:mg c=some (.ref C)
 ns:PySem.W.nsIn K mainGlobals c=some (some (.ref C))
 cl:Cls K C
 na:∀k∈ks,NoAttr K C k
def ay2(K:Fg)(ta:TE)(f:Str):TE:=λσ H Q=>ta σ H λx H1=>∃a C dx fs v,x=.ref a/\Rd H1 a (.ins C dx fs)/\Cls K C/\NoAttr K C f/\fs.lookup f=some v/\Q v H1
section
variable{X:Cx}{E:XD}
theorem aqd(he:PE X e ta)(hb:attributeBase e f X.env (eval e X.env)=eval e X.env):PE X (.Attribute e f pos) (ay2 X.K ta f):=by
 intro aA s σ H Q I h
 refine aoj hb (L2.thn (he aA s σ H _ I h) λu s1 ⟨x,H1,I1,rx,a,C,dx,fs,v,ex,ea,c,n,l,q⟩=>?_);subst ex;obtain rfl:u=Value.ref a:=rx
 rcases ea with ea|⟨o,ea⟩
 ·exact af0 I1 ea c n l λu' s2 I2 ru=>⟨v,H1,I2,ru,q⟩
 ·obtain⟨_,_,_,ne,ob,mA,nn,r,_⟩:=I1.hok a _ ea;obtain⟨u,hu,ru⟩:=RelO.some_of (v:=v) (o:=mA f) (by rw[<-l];exact r f)
  exact ago I1.kIn ⟨ob,nn,ne⟩ (c.get f) c.hd n hu (aaa ru) ⟨v,H1,I1.tok _,ru,q⟩
theorem a72{us:List (Str×V)}:∀{us:List (Str×V)} {kvs:List (Str×D)},KRep K ι H us kvs->kvs.lookup k=some d->∃v,us.lookup k=some v/\Rep K ι H v d
 |[],[],_,e=>by cases e
 |[],_::_,r,_=>by cases r.1
 |_::_,[],r,_=>by cases r.1
 |(k1,v1)::us,(k2,d2)::kvs,⟨h1,h2⟩,e=>by
  simp only[bH,List.cons.injEq]at h1;obtain⟨rfl,h1⟩:=h1
  cases h2 with
  |cons r rs =>
   rw[List.lookup_cons]at e ⊢
   cases hk:k == k1 with
   |true=>rw[hk]at e;cases e;exact⟨_,rfl,r⟩
   |false=>rw[hk]at e;exact a72 (us:=us) ⟨h1,rs⟩ e
def ay3(c k:Str):D->Hd->Option D
 |.ins c' ks xs,_=>if c'=c then (ks.zip xs).lookup k else none
 |.ref i,h=>(match h[i]? with|some (.ins c' fs)=>if c'=c then fs.lookup k else none|_=>none)
 |_,_=>none
def qj(c k:Str)(d:D)(h:Hd):R D:=match ay3 c k d h with
 |some x=>.ok x h
 |none=>.no
theorem aui{c k:Str}{C:Addr}{ks:List Str}(hk:CK X.K X.mg c C ks)(hf:k∈ks)(he:ME X E e f)(hb:attributeBase e k X.env (eval e X.env)=eval e X.env:=by rfl):ME X E (.Attribute e k pos) (s1 (qj c k) f):=by
 refine PE.weak (aqd he hb) λσ H Q ⟨ι,τ,h,S,Rh,o⟩=>?_;refine⟨ι,τ,h,S,Rh,dz o λd h1 ι1 H1 v g1 r1 hr1 o1=>?_⟩;unfold qj at o1
 split at o1
 ·rename_i x hx
  cases r1 with
  |@ref a i ha =>
   obtain⟨ob,e1,e2⟩:=hr1.at ha;simp only[ay3,e1]at hx
   cases ob with
   |ins c' fs =>
    simp only at hx
    split at hx
    ·rename_i hc;subst hc;obtain⟨C',dx,us,h3,hn,kr⟩:=e2;rw[hk.ns]at hn;cases hn
     obtain⟨v,l,r⟩:=a72 (us:=us) kr hx;exact⟨a,C,dx,us,v,rfl,.inl h3,hk.cl,hk.na _ hf,l,o1 ι1 H1 v (.refl _ _) r hr1⟩
    ·cases hx
   |_=>cases hx
  |@ins a C' dx oo c' us ks' xs h3 hn ek rs =>
   simp only[ay3]at hx
   split at hx
   ·rename_i hc;subst hc;rw[hk.ns]at hn;cases hn
    obtain⟨v,l,r⟩:=a72 (us:=us) (a5o ek rs) hx;exact⟨a,C,dx,us,v,rfl,.inr ⟨oo,h3⟩,hk.cl,hk.na _ hf,l,o1 ι1 H1 v (.refl _ _) r hr1⟩
   ·cases hx
  |_=>cases hx
 ·exact o1.elim
theorem mj{c k:Str}{C:Addr}{ks:List Str}(hk:CK X.K X.mg c C ks)(he:ME X E e f)(hf:k∈ks:=by decide +kernel)(hb:attributeBase e k X.env (eval e X.env)=eval e X.env:=by rfl):ME X E (.Attribute e k pos) (s1 (qj c k) f):=aui hk hf he hb
def a2a(c:Str)(n:Nat)(F:SF)(ds:List D)(h:Hd):R D:=if ds.length=n then (match F (.ref h.length::ds) (h++[.ins c []]) with
 |.ok .non h'=>.ok (.ref h.length) h'
 |_=>.no) else .no
theorem aqe{c:Str}{C:Addr}{ks:List Str}(hk:CK X.K X.mg c C ks)(M:Mk X.K C f)(G:FnOk X.prog X.w X.K X.mg X.base CX0 k f fd ps (ph X.K (n+1) F))(hb:Binds X.K fd ps [])(hr:Room (k+1) X.A)(ha:MA X X0 (e::es) ka)(hg:Gl X c:=by rfl)
  (hdb:(c == ("__debug__" : Str))=false:=by decide) (he:starEach (e::es) X.env=(false,eval e X.env)::starEach es X.env:=by rfl) (hpl:(backTo pos (starEach es X.env)).any (·.1)=false:=by rfl) :
  ME X X0 (.Call (.Name c p) (e::es) [] pos) (sA (a2a c n F) ka):=by
 refine PE.weak (aol M G hr hg hk.m hb .nil aov ha hdb he hpl) λσ H Q ⟨ι,τ,h,S,Rh,o⟩=>?_;refine⟨ι,τ,h,S,Rh,dz o λds h1 ι1 H1 vs g1 r1 hr1 o1=>?_⟩
 intro x dx nx nd ne
 unfold a2a at o1
 split at o1
 ·rename_i hl;have n2:upd H1 dx (.own x) x=none:=by rw[jc ne.symm];exact nx
  have g2:Gr ι1 H1 (ι1++[x]) (upd (upd H1 dx (.own x)) x (.ins C dx [])):=(a1s nd _).trans (adh n2 _);have hr2:HRep X.K (ι1++[x]) (upd (upd H1 dx (.own x)) x (.ins C dx [])) (h1++[.ins c []]):=(hr1.aside nd _).add n2 ⟨C,dx,[],uc,hk.ns,rfl,.nil⟩;have ix:(ι1++[x])[h1.length]? = some x:=by rw[<-hr1.len];simp
  rw[bP];refine⟨by rw[aJ,r1.len,hl],ι1++[x],.ref h1.length::ds,_,.cons (.ref ix) (r1.mono g2),hr2,?_⟩
  split at o1
  ·rename_i h' hF;rw[hF]
   intro ι' H' v g r hr'
   cases r
   exact⟨rfl,o1 ι' H' _ (g2.trans g) (.ref (g.at ix)) hr'⟩
  ·exact o1.elim
 ·exact o1.elim
structure Di (P:Program) (w:World) (K:Fg) (mg:Str->Option Value) (base:Heap) (k:Nat) (c:Str) (C:Addr) (ks ps:List Str) (n:Nat) (F:SF) (f:Addr) (fd:FuncData):Prop where
 ok:FnOk P w K mg base CX0 k f fd ps (ph K (n+1) F)
 b:Binds K fd ps []
 mke:Mk K C f
 ck:CK K mg c C ks
theorem acq{X:Cx}{ks ps:List Str}(G:Di X.prog X.w X.K X.mg X.base k c C ks ps n F f fd)(hr:Room k' X.A)(hk:k+1<=k')(ha:MA X X0 (e::es) ka)(hg:Gl X c:=by rfl)
  (hdb:(c == ("__debug__" : Str))=false:=by decide) (he:starEach (e::es) X.env=(false,eval e X.env)::starEach es X.env:=by rfl) (hpl:(backTo pos (starEach es X.env)).any (·.1)=false:=by rfl) :
  ME X X0 (.Call (.Name c p) (e::es) [] pos) (sA (a2a c n F) ka):=aqe G.ck G.mke G.ok G.b (hr.mono hk) ha hg hdb he hpl
def abm{α:Type}(f:Str)(v:α):List (Str×α)->List (Str×α)
 |[]=>[(f,v)]
 |(g,x)::r=>if g=f then (g,v)::r else (g,x)::abm f v r
theorem ab7{k:Str}(q:Rep K ι H v d):∀{us:List (Str×V)} {kvs:List (Str×D)},KRep K ι H us kvs->KRep K ι H (a8m k v us) (abm k d kvs)
 |[],[],_=>⟨rfl,.cons q .nil⟩
 |[],_::_,r=>by cases r.1
 |_::_,[],r=>by cases r.1
 |(k1,v1)::us,(k2,d2)::kvs,⟨h1,h2⟩=>by
  simp only[bH,List.cons.injEq]at h1;obtain⟨rfl,h1⟩:=h1
  cases h2 with
  |cons r rs =>
   unfold a8m abm
   split
   ·exact⟨by simp[h1],.cons q rs⟩
   ·have ih:=ab7 (k:=k) q (us:=us) (kvs:=kvs) ⟨h1,rs⟩;exact⟨by simp[ih.1],.cons r ih.2⟩
def a7h(c k:Str)(fo fe:SE):SS:=λτ h=>(fe τ h).fl λy h1=>(fo τ h1).fl λx h2=>match x with
 |.ref i=>(match h2[i]? with
  |some (.ins c' fs)=>if c'=c/\fs.length<1000 then .nx τ (h2.set i (.ins c (abm k y fs))) else .no
  |_=>.no)
 |_=>.no
theorem a84{c k:Str}{C:Addr}{ks:List Str}(hk:CK X.K X.mg c C ks)(hf:k∈ks)(ho:ME X E o fo)(he:ME X E e fe)(hs:swapsWith e (some (.Attribute o k pos')) pos.line X.env=pure false:=by rfl) :
  MS X E (.Assign [.Attribute o k pos'] e pos) (a7h c k fo fe):=by
 refine PS.weak (asm ho he hs) λN σ H ⟨ι,τ,h,S,Rh,o⟩=>?_;refine⟨ι,τ,h,S,Rh,vq o λy h1 ι1 H1 v g1 r1 hr1 o1=>⟨ι1,τ,h1,S.mono g1,hr1,vq o1 λx h2 ι2 H2 u g2 r2 hr2 o2=>?_⟩⟩
 split at o2
 ·rename_i i
  cases r2 with
  |@ref a _ ha =>
   split at o2
   ·rename_i c' fs hx
    split at o2
    ·rename_i hc;obtain⟨rfl,hl⟩:=hc;obtain⟨C',dx,us,h3,hn,kr⟩:=hr2.obj i a _ ha hx;rw[hk.ns]at hn;cases hn
     have lu:us.length=fs.length:=by simpa using aK List.length kr.1
     have gp:=a6e hr2 ha (.ins C dx (a8m k v us));exact⟨a,C,dx,us,rfl,h3,hk.cl,hk.na _ hf,by omega,o2 ι2 _ σ gp (((S.mono g1).mono g2).mono gp) (hr2.put ha ⟨C,dx,_,uc,hk.ns,let q:=ab7 (k:=k) (r1.mono g2) kr; ⟨q.1,q.2.mono gp⟩⟩)⟩
    ·exact o2.elim
   ·exact o2.elim
 ·exact o2.elim
end
end MI
namespace K11
open L2 MI
noncomputable def a5r:SS :=
 (qg (sA wu (aj (sZ (s1 a9g (sV 0))) cu)))
noncomputable def a0z(v7:SF)(oh:SF):SE :=
 (sA (jh false 1 oh) (aj (sV 0) cu))
noncomputable def a4a(v7:SF)(oh:SF):SS :=
 (iu (sIf (sT (s2 hEq (s2 gIx (sV 0) (sI 0)) (sC (.str "one"))))
 (qg (sI 1))
 sNx)
 (iu (m7 1 (sA ahi (aj (sZ (a1v (sIt (sA (jh false 1 v7) (aj (sV 0) cu))) t1 (a0z v7 oh) [])) cu)))
 (iu (sIf (sT (s2 hEq (s2 gIx (sV 0) (sI 0)) (sC (.str "times"))))
 (qg (s2 yq (s2 gIx (sV 0) (sI 3)) (sV 1)))
 sNx)
 (qg (sV 1)))))
noncomputable def a0b:SS :=
 (iu (a7h "Patch" "signs" (sV 0) (sV 1))
 (iu (a7h "Patch" "firsts" (sV 0) (sV 2))
 (iu (a7h "Patch" "pairs" (sV 0) (sV 3))
 (iu (a7h "Patch" "lasts" (sV 0) (sV 4))
 (a7h "Patch" "empty" (sV 0) (sV 5))))))
noncomputable def a2b(jj:SF):SE :=
 (sV 1)
noncomputable def a02(jj:SF):ST :=
 (sT (s2 hEq (sV 0) (sV 2)))
noncomputable def a2c(jj:SF):SS :=
 (a0j (sML afd (sV 1) (aj (sA (jh false 1 jj) (aj (sZ (aap (sIt (s1 (qj "Patch" "pairs") (sV 0))) (tN 2) (a02 jj) (a2b jj) [2])) cu)) cu)))
noncomputable def a0c(jj:SF):SS :=
 (iu (m7 1 (sA u9 (aj (sA (jh false 1 jj) (aj (s1 (qj "Patch" "firsts") (sV 0)) cu)) cu)))
 (iu (a7f (sRg aao (aj (sI 1) (aj (s2 gk (sA xq (aj (s1 (qj "Patch" "signs") (sV 0)) cu)) (sI 1)) cu))) (kN 2) (a2c jj))
 (iu (m7 3 (aam (ah4 (s1 (qj "Patch" "empty") (sV 0))) (sZ (s2 gk (s1 (qj "Patch" "lasts") (sV 0)) (sZ (sA u9 (aj (sI 0) cu))))) (s1 (qj "Patch" "lasts") (sV 0))))
 (qg (sA yg (aj (sA wu (aj (sZ (s2 gk (sZ (sA u9 (aj (sC (.str "")) cu))) (s1 (qj "Patch" "signs") (sV 0)))) cu)) (aj (sA wu (aj (sV 1) cu)) (aj (sA (jh false 1 jj) (aj (sV 3) cu)) cu))))))))
noncomputable def ud(bh:SF)(kj:SF)(je:SF)(iy:SF)(ji:SF)(jb:SF)(km:SF):SS :=
 (iu (sIf (sT (s2 hEq (s2 gIx (sV 0) (sI 0)) (sC (.str "one"))))
 (qg (sZ (sA (a2a "Patch" 5 bh) (aj (sZ (sA u9 (aj (s2 gIx (sV 0) (sI 1)) cu))) (aj (sZ (sA u9 (aj (sV 1) cu))) (aj (sZ (sA u9 cu)) (aj (sZ (sA u9 (aj (sV 1) cu))) (aj (sC (.bl false)) cu))))))))
 sNx)
 (iu (sIf (sT (s2 hEq (s2 gIx (sV 0) (sI 0)) (sC (.str "row"))))
 (qg (sA (jh false 1 je) (aj (sA (jh false 2 km) (aj (s2 gIx (sV 0) (sI 1)) (aj (sV 1) cu))) cu)))
 sNx)
 (iu (sIf (sT (s2 hEq (s2 gIx (sV 0) (sI 0)) (sC (.str "either"))))
 (qg (sA (jh false 1 ji) (aj (sA (jh false 2 km) (aj (s2 gIx (sV 0) (sI 1)) (aj (sV 1) cu))) cu)))
 sNx)
 (iu (sIf (sT (s2 hEq (s2 gIx (sV 0) (sI 0)) (sC (.str "many"))))
 (qg (sA (jh false 1 kj) (aj (sA (jh false 2 iy) (aj (s2 gIx (sV 0) (sI 1)) (aj (sV 1) cu))) cu)))
 sNx)
 (qg (sA (jh false 2 jb) (aj (sA (jh false 2 km) (aj (sZ (s2 yq (sZ (sA u9 (aj (s2 gIx (sV 0) (sI 1)) cu))) (s2 gIx (sV 0) (sI 3)))) (aj (sV 1) cu))) (aj (s2 gIx (sV 0) (sI 2)) cu))))))))
noncomputable def wg(iy:SF):SS :=
 (iu (m7 5 (sA (jh false 2 iy) (aj (sV 4) (aj (sV 3) cu))))
 (iu (a0j (sML afd (sV 2) (aj (sV 5) cu)))
 (a4g 3 yz (sA xq (aj (s1 (qj "Patch" "signs") (sV 5)) cu)))))
noncomputable def xu(iy:SF):SS :=
 (iu (m7 2 (sA u9 cu))
 (iu (m7 3 (sV 1))
 (iu (a7f (sIt (sV 0)) (kN 4) (wg iy))
 (qg (sV 2)))))
noncomputable def acr(bh:SF):SE :=
 (sA yg (aj (sV 0) (aj (sV 1) cu)))
noncomputable def a5s(bh:SF):SS :=
 (iu (m7 2 (aam (ah4 (s1 (qj "Patch" "empty") (sV 0))) (sZ (s2 gk (s1 (qj "Patch" "firsts") (sV 0)) (s1 (qj "Patch" "firsts") (sV 1)))) (s1 (qj "Patch" "firsts") (sV 0))))
 (iu (m7 3 (aam (ah4 (s1 (qj "Patch" "empty") (sV 1))) (sZ (s2 gk (s1 (qj "Patch" "lasts") (sV 0)) (s1 (qj "Patch" "lasts") (sV 1)))) (s1 (qj "Patch" "lasts") (sV 1))))
 (iu (m7 4 (sZ (acp (sIt (s1 (qj "Patch" "lasts") (sV 0))) (sIt (s1 (qj "Patch" "firsts") (sV 2))) alq (acr bh) [1])))
 (qg (sZ (sA (a2a "Patch" 5 bh) (aj (sZ (s2 gk (s1 (qj "Patch" "signs") (sV 0)) (s1 (qj "Patch" "signs") (sV 1)))) (aj (sV 2) (aj (sZ (s2 gk (sZ (s2 gk (s1 (qj "Patch" "pairs") (sV 0)) (sV 4))) (s1 (qj "Patch" "pairs") (sV 1)))) (aj (sV 3) (aj (a6g (s1 (qj "Patch" "empty") (sV 0)) (s1 (qj "Patch" "empty") (sV 1))) cu)))))))))))
noncomputable def qt(bh:SF)(jz:SF):SS :=
 (m7 1 (sA (jh false 2 jz) (aj (sV 1) (aj (sV 2) cu))))
noncomputable def wj(bh:SF)(jz:SF):SS :=
 (iu (m7 1 (sZ (sA (a2a "Patch" 5 bh) (aj (sZ (sA u9 cu)) (aj (sZ (sA u9 cu)) (aj (sZ (sA u9 cu)) (aj (sZ (sA u9 cu)) (aj (sC (.bl true)) cu))))))))
 (iu (a7f (sIt (sV 0)) (kN 2) (qt bh jz))
 (qg (sV 1))))
noncomputable def ue(bh:SF):SS :=
 (iu (a0j (sML a6p (s1 (qj "Patch" "signs") (sV 1)) (aj (s1 (qj "Patch" "signs") (sV 2)) cu)))
 (iu (a0j (sML a6p (s1 (qj "Patch" "firsts") (sV 1)) (aj (s1 (qj "Patch" "firsts") (sV 2)) cu)))
 (iu (a0j (sML a6p (s1 (qj "Patch" "pairs") (sV 1)) (aj (s1 (qj "Patch" "pairs") (sV 2)) cu)))
 (iu (a0j (sML a6p (s1 (qj "Patch" "lasts") (sV 1)) (aj (s1 (qj "Patch" "lasts") (sV 2)) cu)))
 (a7h "Patch" "empty" (sV 1) (ag9 (s1 (qj "Patch" "empty") (sV 1)) (s1 (qj "Patch" "empty") (sV 2))))))))
noncomputable def xn(bh:SF):SS :=
 (iu (m7 1 (sA (a2a "Patch" 5 bh) (aj (sA u9 cu) (aj (sA u9 cu) (aj (sA u9 cu) (aj (sA u9 cu) (aj (sC (.bl false)) cu)))))))
 (iu (a7f (sIt (sV 0)) (kN 2) (ue bh))
 (qg (sV 1))))
noncomputable def a5i(bh:SF):SE :=
 (sA yg (aj (sV 0) (aj (sV 1) cu)))
noncomputable def zf(bh:SF):SS :=
 (iu (m7 1 (sZ (acp (sIt (s1 (qj "Patch" "lasts") (sV 0))) (sIt (s1 (qj "Patch" "firsts") (sV 2))) alq (a5i bh) [0])))
 (qg (sZ (sA (a2a "Patch" 5 bh) (aj (s1 (qj "Patch" "signs") (sV 0)) (aj (s1 (qj "Patch" "firsts") (sV 0)) (aj (sZ (s2 gk (s1 (qj "Patch" "pairs") (sV 0)) (sV 1))) (aj (s1 (qj "Patch" "lasts") (sV 0)) (aj (sC (.bl true)) cu)))))))))
noncomputable def qb(bh:SF)(jz:SF):SS :=
 (iu (m7 2 (sA (jh false 2 jz) (aj (s2 gIx (sV 0) (sV 3)) (aj (sV 2) cu))))
 (sIf (sT (s2 gGe (sV 3) (sV 1)))
 (m7 2 (sZ (sA (a2a "Patch" 5 bh) (aj (s1 (qj "Patch" "signs") (sV 2)) (aj (s1 (qj "Patch" "firsts") (sV 2)) (aj (s1 (qj "Patch" "pairs") (sV 2)) (aj (s1 (qj "Patch" "lasts") (sV 2)) (aj (sC (.bl true)) cu))))))))
 sNx))
noncomputable def v4(bh:SF)(jz:SF):SS :=
 (iu (m7 2 (sZ (sA (a2a "Patch" 5 bh) (aj (sZ (sA u9 cu)) (aj (sZ (sA u9 cu)) (aj (sZ (sA u9 cu)) (aj (sZ (sA u9 cu)) (aj (sC (.bl true)) cu))))))))
 (iu (a7f (sRg arj (aj (sA xq (aj (sV 0) cu)) cu)) (kN 3) (qb bh jz))
 (qg (sV 2))))
noncomputable def a2s:SS :=
 (iu (sIf (sT (s2 (gIn false) (s2 gIx (sV 0) (sI 0)) (sA yg (aj (sC (.str "row")) (aj (sC (.str "either")) cu)))))
 (qg (s2 gIx (sV 0) (sI 1)))
 sNx)
 (iu (sIf (sT (s2 hEq (s2 gIx (sV 0) (sI 0)) (sC (.str "many"))))
 (qg (sA yg (aj (s2 gIx (sV 0) (sI 1)) cu)))
 sNx)
 (qg (s2 a7g (sA yg (aj (s2 gIx (sV 0) (sI 1)) cu)) (s2 gIx (sV 0) (sI 3))))))
end K11
namespace MI
open L2
def auj(i j:Int):Prop:=0<=j/\(Builtin.Int.intBits i:Int)*j<=2^27
instance (i j:Int):Decidable (auj i j):=by unfold auj;infer_instance
end MI
namespace K15
open L2 MI
noncomputable def a5t(iy:SF)(u6:SF)(oh:SF):SS :=
 (iu (sIf (sT (s2 gGt (sA (jh false 1 oh) (aj (sV 0) cu)) (sI 10)))
 atv
 sNx)
 (qg (sA (jh false 1 u6) (aj (sA (jh false 2 iy) (aj (sV 0) (aj (sI 1) cu))) cu))))
end K15
namespace K12
open L2 MI
noncomputable def qm(bw:SF)(g8:SF)(iz:SF)(ie:SF)(au:SF):SS :=
 (iu (sIf (sT (s2 hEq (s2 gIx (sV 0) (sI 0)) (sC (.str "either"))))
 (a4g 4 a0o (sA (jh false 4 bw) (aj (sV 8) (aj (sV 1) (aj (sV 2) (aj (sV 3) cu))))))
 (iu (sIf (a7o (sT (s2 hEq (s2 gIx (sV 0) (sI 0)) (sC (.str "times")))) (sT (s2 gGe (sV 7) (sV 6))))
 (a4g 4 a0o (sV 5))
 sNx)
 (m7 5 (sA (jh false 4 g8) (aj (sV 8) (aj (sV 1) (aj (sV 2) (aj (sV 5) cu))))))))
 (a4g 1 yz (sA (jh false 1 au) (aj (sV 8) cu))))
noncomputable def n8(bw:SF)(g8:SF)(iz:SF)(ie:SF)(au:SF):SS :=
 (iu (sIf (sT (s2 hEq (sA (jh false 1 au) (aj (sV 0) cu)) (sI 0)))
 (qg (sA u9 (aj (sV 3) cu)))
 sNx)
 (iu (sIf (sT (s2 hEq (s2 gIx (sV 0) (sI 0)) (sC (.str "one"))))
 (qg (aam (a7o (sT (s2 gLt (sV 3) (sA xq (aj (sV 2) cu)))) (sT (s2 hEq (s2 gIx (sV 2) (sV 3)) (s2 gk (sV 1) (sI 1))))) (sA u9 (aj (s2 gk (sV 3) (sI 1)) cu)) (sA u9 cu)))
 sNx)
 (iu (sIf (sT (s2 hEq (s2 gIx (sV 0) (sI 0)) (sC (.str "many"))))
 (qg (sA (jh false 4 iz) (aj (s2 gIx (sV 0) (sI 1)) (aj (sV 1) (aj (sV 2) (aj (sV 3) cu))))))
 sNx)
 (iu (m7 4 (sA u9 cu))
 (iu (m7 5 (sZ (sA u9 (aj (sV 3) cu))))
 (iu (m7 6 (aam (sT (s2 hEq (s2 gIx (sV 0) (sI 0)) (sC (.str "times")))) (s2 gIx (sV 0) (sI 2)) (sI 0)))
 (iu (a7f (aaw (sA (jh false 1 ie) (aj (sV 0) cu))) (ah8 2 (a1t (kN 7) (a1t (kN 8) ajr))) (qm bw g8 iz ie au))
 (iu (sIf (sT (s2 hNe (s2 gIx (sV 0) (sI 0)) (sC (.str "either"))))
 (a4g 4 a0o (sV 5))
 sNx)
 (qg (s1 a9g (sV 4)))))))))))
noncomputable def xx(bw:SF):SS :=
 (a4g 4 a0o (sA (jh false 4 bw) (aj (sV 0) (aj (sV 1) (aj (sV 2) (aj (sV 5) cu))))))
noncomputable def mq(bw:SF):SS :=
 (iu (m7 4 (sA u9 cu))
 (iu (a7f (sIt (sV 3)) (kN 5) (xx bw))
 (qg (s1 a9g (sV 4)))))
noncomputable def uh(bw:SF):SS :=
 (sIf (sT (s2 (gIn true) (sV 6) (sV 4)))
 (a0j (sML afd (sV 4) (aj (sV 6) cu)))
 sNx)
noncomputable def yr(bw:SF):ST :=
 (sT (s2 gLt (sV 5) (sA xq (aj (sV 4) cu))))
noncomputable def yt(bw:SF):SS :=
 (iu (a7f (sIt (sA (jh false 4 bw) (aj (sV 0) (aj (sV 1) (aj (sV 2) (aj (s2 gIx (sV 4) (sV 5)) cu)))))) (kN 6) (uh bw))
 (a4g 5 yz (sI 1)))
noncomputable def ou(bw:SF):SS :=
 (iu (m7 4 (sA u9 (aj (sV 3) cu)))
 (iu (m7 5 (sI 0))
 (iu (sWh (yr bw) (yt bw) 100000)
 (qg (sA a6q (aj (sV 4) cu))))))
noncomputable def sr(cj:SF)(ak:SF)(ie:SF)(au:SF):SS :=
 (iu (sIf (a7o (sT (s2 gGt (sA (jh false 1 au) (aj (sV 7) cu)) (sI 0))) (sOr (sT (s2 gLt (sV 4) (sI 0))) (sT (s2 hEq (sV 4) (sV 6)))))
 (a4g 5 a0o (sA (jh false 3 cj) (aj (sV 0) (aj (sV 7) (aj (sV 2) cu)))))
 sNx)
 (sIf (sT (s2 hNe (s2 gIx (sV 1) (sI 0)) (sC (.str "many"))))
 (a4g 2 yz (sA (jh false 1 au) (aj (sV 7) cu)))
 sNx))
noncomputable def a0d(cj:SF)(ak:SF)(ie:SF)(au:SF):SS :=
 (iu (sIf (sT (s2 hEq (s2 gIx (sV 1) (sI 0)) (sC (.str "one"))))
 (qg (sA u9 (aj (s2 gk (sV 2) (sI 1)) cu)))
 sNx)
 (iu (m7 3 (sA (jh false 1 ie) (aj (sV 1) cu)))
 (iu (sIf (sT (s2 hEq (s2 gIx (sV 1) (sI 0)) (sC (.str "many"))))
 (m7 3 (s2 a7g (sA yg (aj (s2 gIx (sV 1) (sI 1)) cu)) (sA (jh false 2 ak) (aj (sV 0) (aj (sI 3) cu)))))
 sNx)
 (iu (sIf (sT (s2 hEq (s2 gIx (sV 1) (sI 0)) (sC (.str "times"))))
 (m7 3 (s2 a7g (sA yg (aj (s2 gIx (sV 1) (sI 1)) cu)) (s2 gk (s2 gIx (sV 1) (sI 2)) (sA (jh false 2 ak) (aj (sV 0) (aj (s2 gk (s2 a8k (s2 gIx (sV 1) (sI 3)) (s2 gIx (sV 1) (sI 2))) (sI 1)) cu))))))
 sNx)
 (iu (m7 4 (aam (sT (s2 hEq (s2 gIx (sV 1) (sI 0)) (sC (.str "either")))) (sA (jh false 2 ak) (aj (sV 0) (aj (sA xq (aj (sV 3) cu)) cu))) (s1 ap7 (sI 1))))
 (iu (m7 5 (sA u9 cu))
 (iu (a7f (aaw (sV 3)) (ah8 2 (a1t (kN 6) (a1t (kN 7) ajr))) (sr cj ak ie au))
 (qg (sV 5)))))))))
noncomputable def a1a(ak:SF):ST :=
 (a7o (sT (s2 gLt (sA xq (aj (sV 2) cu)) (sI 10))) (a7o (sT (s2 hNe (s2 gIx (s2 gIx (sV 1) (sI 1)) (sV 3)) (sA yg cu))) (sOr (sT (s2 (gIn true) (sV 3) (s2 gIx (sV 1) (sI 2)))) (sT (s2 gGt (sA (jh false 2 ak) (aj (sV 0) (aj (sI 3) cu))) (sI 0))))))
noncomputable def a1b(ak:SF):SS :=
 (iu (m7 3 (s2 gIx (s2 gIx (s2 gIx (sV 1) (sI 1)) (sV 3)) (sA (jh false 2 ak) (aj (sV 0) (aj (sA xq (aj (s2 gIx (s2 gIx (sV 1) (sI 1)) (sV 3)) cu)) cu)))))
 (a0j (sML afd (sV 2) (aj (sV 3) cu))))
noncomputable def a2t(ak:SF):SS :=
 (iu (m7 2 (sA u9 cu))
 (iu (m7 3 (sI 0))
 (iu (sWh (a1a ak) (a1b ak) 100000)
 (qg (sV 2)))))
noncomputable def a2u(ak:SF):SS :=
 (iu (m7 3 (sA (jh false 2 ak) (aj (sV 0) (aj (s2 gk (sA xq (aj (sV 1) cu)) (sI 1)) cu))))
 (iu (m7 4 (sA (jh false 2 ak) (aj (sV 0) (aj (sI 4) cu))))
 (iu (sIf (sT (s2 hEq (sV 4) (sI 0)))
 (qg (s2 gk (sZ (a5a (sV 1) oN (oS (sV 3)))) (sZ (a5a (sV 1) (oS (s2 gk (sV 3) (sI 1))) oN))))
 sNx)
 (iu (sIf (sT (s2 hEq (sV 4) (sI 1)))
 (qg (s2 gk (sZ (a5a (sV 1) oN (oS (sV 3)))) (sZ (a5a (sV 1) (oS (sA a6k (aj (sI 0) (aj (s2 a8k (sV 3) (sI 1)) cu)))) oN))))
 sNx)
 (qg (s2 gk (sZ (s2 gk (sZ (a5a (sV 1) oN (oS (sV 3)))) (sZ (sA u9 (aj (s2 gk (sI 1) (sA (jh false 2 ak) (aj (sV 0) (aj (sV 2) cu)))) cu))))) (sZ (a5a (sV 1) (oS (s2 gk (sV 3) (s2 a5m (sV 4) (sI 3)))) oN))))))))
noncomputable def ux:SS :=
 (iu (sIf (sT (s2 (gIn true) (sV 3) (s2 gIx (s2 gIx (sV 0) (sI 1)) (sV 2))))
 (qg (sC (.bl false)))
 sNx)
 (m7 2 (sV 3)))
noncomputable def a1c:SS :=
 (iu (m7 2 (sI 0))
 (iu (a7f (sIt (sV 1)) (kN 3) ux)
 (qg (s2 (gIn false) (sV 2) (s2 gIx (sV 0) (sI 2))))))
noncomputable def a9i(j6:SF)(j4:SF)(bw:SF)(cj:SF)(ak:SF)(j7:SF)(dh:SF)(gh:SF)(gw:SF)(au:SF)(n6:SF):SE :=
 (s2 gk (sI 1) (sA (jh false 2 ak) (aj (sV 1) (aj (sV 2) cu))))
noncomputable def a9j(j6:SF)(j4:SF)(bw:SF)(cj:SF)(ak:SF)(j7:SF)(dh:SF)(gh:SF)(gw:SF)(au:SF)(n6:SF):SS :=
 (iu (m7 7 (sZ (a5a (sA (jh false 3 cj) (aj (sV 1) (aj (sV 2) (aj (sI 0) cu)))) oN (oS (sI 10)))))
 (iu (a4g 5 a0o (sZ (sA u9 (aj (sV 7) (aj (sA (jh false 2 j7) (aj (sV 1) (aj (sV 4) cu))) cu)))))
 (sIf (sT (s2 gGt (sV 3) (sI 0)))
 (a4g 5 a0o (sZ (sA u9 (aj (sA (jh false 3 j4) (aj (sV 1) (aj (sV 7) (aj (sV 3) cu)))) (aj (sZ (a1v (sRg a2w (aj (s2 gk (sV 6) (sI 2)) cu)) t1 (a9i j6 j4 bw cj ak j7 dh gh gw au n6) [1,3])) cu)))))
 sNx)))
noncomputable def a9k(j6:SF)(j4:SF)(bw:SF)(cj:SF)(ak:SF)(j7:SF)(dh:SF)(gh:SF)(gw:SF)(au:SF)(n6:SF):SS :=
 (sIf (sT (s2 hNe (sA (jh false 2 j6) (aj (sV 4) (aj (sV 8) cu))) (s2 (gIn false) (sA xq (aj (sV 8) cu)) (sA (jh false 4 bw) (aj (sV 2) (aj (sI 0) (aj (sV 8) (aj (sI 0) cu))))))))
 atv
 sNx)
noncomputable def alr(j6:SF)(j4:SF)(bw:SF)(cj:SF)(ak:SF)(j7:SF)(dh:SF)(gh:SF)(gw:SF)(au:SF)(n6:SF):SS :=
 (iu (m7 1 (sA (jh true 1 gh) (aj (sV 0) cu)))
 (iu (m7 2 (sA (jh false 5 dh) (aj (sV 1) (aj (sA (jh false 1 gw) (aj (sV 1) cu)) (aj (sI 5) (aj (sI 10) (aj (sA u9 (aj (sI 24) cu)) cu)))))))
 (iu (m7 3 (sA (jh false 1 au) (aj (sV 2) cu)))
 (iu (m7 4 (sA (jh false 1 n6) (aj (sV 2) cu)))
 (iu (sIf (sOr (sT (s2 hNe (sA xq (aj (s2 gIx (sV 4) (sI 1)) cu)) (s2 gk (sI 1) (sV 3)))) (sT (s2 hNe (sA xq (aj (s2 gIx (sV 4) (sI 0)) cu)) (s2 gk (sI 1) (sV 3)))))
 atv
 sNx)
 (iu (m7 5 (sA u9 (aj (sZ (sA u9 cu)) cu)))
 (iu (a7f (sRg a2w (aj (sI 2) cu)) (kN 6) (a9j j6 j4 bw cj ak j7 dh gh gw au n6))
 (iu (a7f (sIt (sV 5)) (kN 8) (a9k j6 j4 bw cj ak j7 dh gh gw au n6))
 (qg (sC (.bl true)))))))))))
end K12
namespace MI
open L2
theorem di(ha:ME X E a fa)(hb:ME X E b fb)(hp:a8q b:=by exact λ_ _=>rfl):ME X E (.Subscript a b pos) (s2 gIx fa fb):=a4m ha hb hp
theorem jf(i:Nat)(hN:X.N.Nodup)(he:ME X E e fa)(hi:X.N[i]? = some x:=by rfl)(hx:Loc X.env.scope x:=by first|exact Or.inl rfl|exact Or.inr rfl)(hs:swapsWith e (some (.Name x pos')) pos.line X.env=pure false:=by rfl)(hf:Hf X x:=by first|exact .inl rfl|exact .inr rfl|assumption) :
  MS X E (.Assign [.Name x pos'] e pos) (m7 i fa):=ata hN hi hx he hs hf
theorem j8{X:Cx}(G:Dn X.prog X.w X.K X.mg X.base k x ps (ph X.K n F) f fd)(hr:Room k' X.A)(hk:k<=k')(ha:MA X X0 (e::es) ka)(hg:Gl X x:=by rfl)
  (hdb:(x == ("__debug__" : Str))=false:=by decide) (he:starEach (e::es) X.env=(false,eval e X.env)::starEach es X.env:=by rfl) (hpl:(backTo pos (starEach es X.env)).any (·.1)=false:=by rfl):ME X X0 (.Call (.Name x p) (e::es) [] pos) (sA (jh false n F) ka):=adw false G (hr.mono hk) hg ha hdb he hpl
theorem yu(hm:X.mg "len" = none)(ha:MA X E [e] ka)(hg:Gl X "len":=by rfl)(he:starEach [e] X.env=(false,eval e X.env)::starEach [] X.env:=by rfl)(hpl:(backTo pos (starEach [] X.env)).any (·.1)=false:=by rfl):ME X E (.Call (.Name "len" p) [e] [] pos) (sA xq ka) :=
 aan (L2.CallR.or aah aai) ap8 hg hm at5 ha (by decide) (by decide) he hpl
theorem sy(ho:OpR X (compareOp op) r)(hs:a3m X.K g r)(ha:ME X E a fa)(hb:ME X E b fb)(hm:behindInMarks op b=false:=by exact a7j _):MT X E (.Compare a [op] [b] pos) (sT (s2 g fa fb)):=a0h ho hs ha hb hm
theorem m8(hu:X.A.units+64<cLine)(ha:ME X E a fa)(hb:ME X E b fb):MT X E (.Compare a [.Eq] [b] pos) (sT (s2 hEq fa fb)):=a0h (adq hu) a93 ha hb (a7j _)
theorem pgn(i:Nat)(hN:N.Nodup:=by decide +kernel)(hi:N[i]? = some x:=by rfl)(hx:∀C fp s H,Loc (cxC X N aB cl C fp s H).env.scope x:=by exact λ_ _ _ _=>Or.inl rfl)(hf:∀C fp s H,(cxC X N aB cl C fp s H).fn x=true\/(cxC X N aB cl C fp s H).env.scope.names.lookup x=some .local:=by exact λ_ _ _ _=>.inr rfl) :
  ∀C fp s H,PG (cxC X N aB cl C fp s H) (.Name x pos) (a0g i):=λC fp s H=>abw (X:=cxC X N aB cl C fp s H) hN hi (hx C fp s H) (hf C fp s H)
theorem pgm(i:Nat)(hN:N.Nodup:=by decide +kernel)(hi:N[i]? = some x:=by rfl)(hx:Loc (cxC X N aB cl C fp s H).env.scope x:=by exact Or.inl rfl)(hf:(cxC X N aB cl C fp s H).fn x=true\/(cxC X N aB cl C fp s H).env.scope.names.lookup x=some .local:=by exact .inr rfl) :
  PG (cxC X N aB cl C fp s H) (.Name x pos) (a0g i):=abw (X:=cxC X N aB cl C fp s H) hN hi hx hf
def allP(P:α->Prop):List α->Prop
 |[]=>True
 |a::l=>P a/\allP P l
theorem allP.mem{P:α->Prop}:∀{l:List α},allP P l->∀a∈l,P a
 |b::l,h,a,m=>by
  rcases aO.mp m with rfl|m
  ·exact h.1
  ·exact h.2.mem a m
theorem als{X:Cx}(ts fr:List Str)(ix:List Nat)(clos:closureFor aB X.env=pure cl:=by rfl)(kind:aB.kind=.function:=by rfl)
  (nocell:(aB.names.all λp=>p.2 != .cell)=true:=by rfl) (names:(aB.names.all λp=>p.2 != .local || aB.names.lookup p.1 == some .local)=true:=by rfl) (sub:allP (λp=>X.env.cells.lookup p.1=some p.2) cl:=by repeat' constructor)
  (has:((relabel aB X.env).names.all λp => !(p.2 == .cell || p.2 == .free) || (cl.lookup p.1).isSome)=true:=by rfl) (nofn:(ts.all λy=>(relabel aB X.env).names.lookup y == some .local)=true:=by rfl)
  (len:ix.length=fr.length:=by rfl) (vis:((fr.zip ix).all λp=>X.N[p.2]? == some p.1 && (X.env.kindOf p.1 == some .cell || X.env.kindOf p.1 == some .free) && ((relabel aB X.env).names.lookup p.1 == some .cell || (relabel aB X.env).names.lookup p.1 == some .free))=true:=by rfl) :
  CSc X aB cl ts fr ix:=.of clos kind nocell names sub.mem has nofn len vis
theorem aqf{aB:Scope}(ts:List Str)(kind:aB.kind=.function:=by rfl)(h:∀y∈aB.names,y.2≠.cell/\y.2≠.free:=by decide +kernel)(names:∀y∈aB.names,y.2=.local->aB.names.lookup y.1=some .local:=by decide +kernel)
  (ht:∀y∈ts,aB.names.lookup y=some .local:=by decide +kernel):CSc X aB [] ts [] []:=.noFree kind h names ht
section
variable{α:Type}{us:List α}
theorem len0{P:List α->Prop}(h:us.length=0)(k:P []):P us:=by cases us with|nil=>exact k|cons _ _=>cases h
theorem ag1{P:List α->Prop}(h:us.length=n+1)(k:∀a vs,vs.length=n->P (a::vs)):P us:=by cases us with|nil=>cases h|cons a vs=>exact k a vs (i4 h)
theorem az8{P:List α->Prop}(h:us.length=1)(k:∀a,P [a]):P us:=ag1 h λa _ h=>len0 (P:=λus=>P (a::us)) h (k a)
theorem auk{P:List α->Prop}(h:us.length=2)(k:∀a b,P [a,b]):P us:=ag1 h λa _ h=>az8 (P:=λus=>P (a::us)) h (k a)
theorem az9{P:List α->Prop}(h:us.length=3)(k:∀a b c,P [a,b,c]):P us:=ag1 h λa _ h=>auk (P:=λus=>P (a::us)) h (k a)
theorem aza{P:List α->Prop}(h:us.length=4)(k:∀a b c d,P [a,b,c,d]):P us:=ag1 h λa _ h=>az9 (P:=λus=>P (a::us)) h (k a)
theorem azb{P:List α->Prop}(h:us.length=5)(k:∀a b c d e,P [a,b,c,d,e]):P us:=ag1 h λa _ h=>aza (P:=λus=>P (a::us)) h (k a)
theorem b0k{P:List α->Prop}(h:us.length=6)(k:∀a b c d e f,P [a,b,c,d,e,f]):P us:=ag1 h λa _ h=>azb (P:=λus=>P (a::us)) h (k a)
end
end MI
namespace K12
open L2 MI
def cst(s:Stmt)(j:Nat):Stmt:=match s with
 |.ClassDef _ _ _ b _ _ _ _ _ _ _=>b.getD j (.Pass ⟨0,0,0,0⟩)
 |_=>s
def top(i:Nat):Stmt:=PySem.Challenge.pw_nearreach_k12_whole_courses_and_spreads.main.body.getD i (.Pass ⟨0,0,0,0⟩)
structure Nm (mg:Str->Option Value):Prop where
 abs:mg "abs" = none
 enumerate:mg "enumerate" = none
 int:mg "int" = none
 len:mg "len" = none
 max:mg "max" = none
 range:mg "range" = none
 reversed:mg "reversed" = none
 set:mg "set" = none
 sorted:mg "sorted" = none
 sum:mg "sum" = none
 tuple:mg "tuple" = none
structure Cn (mg:Str->Option Value):Prop where
 HEAVIEST:∃t,mg "HEAVIEST" = some (.int 10 t)
section
variable{P:Program}{w:World}{K:Fg}{mg:Str->Option Value}{base:Heap}{f:Addr}
def MD(P:Program)(w:World)(K:Fg)(mg:Str->Option Value)(base:Heap)(f:Addr)(k:Nat)(N:List Str)(x:Str)(t:Stmt)(b:SS):Prop:=∀(cdv:Value) (A:Around) (outer:List Env) (s:Shared) (H:Hp) (E:XK),Room k (A.deeper (PyProof.Rows.envOfC x (cz t) s.heap.objs.size f cdv))->MSs (agq CX0 P w K mg base N x (cz t) f cdv A outer s H E).nox X0 (vo t) b
local macro_rules|`(tactic|walk_at "sc") => `(tactic|exact⟨rfl,rfl,rfl,by decide +kernel,rfl,by decide +kernel,by decide +kernel⟩)
theorem azc:FnScope ["numbers"] ["numbers"] (cz (top 4)):=by walk_at "sc"
theorem m_0(M:Nm mg):MD P w K mg base f k ["numbers"] "rising" (top 4) (K11.a5r):=λcdv A outer s H E hr =>
 have SC:=azc
 (bx (gq (a6h (L2.CallR.or yx (a05 rfl)) a3t rfl M.tuple a5j (aa (zb (acj rfl M.sorted rfl M.set rfl (bj 0))) bc))))
theorem azd:FnScope ["shape"] ["shape"] (cz (top 7)):=by walk_at "sc"
theorem m_1:MD P w K mg base f k ["shape"] "inner" (top 7) (ENG.a9h):=λcdv A outer s H E hr =>
 have SC:=azd
 (aq (nj (a0h (adq hr.u) a93 (a4m (bj 0) az (λ_ _=>rfl)) jg (a7j _))
 (bx (gq (vf bc)))
 gm)
 (aq (nj (PW.pt (ac3 (a0h (adq hr.u) a93 (a4m (bj 0) az (λ_ _=>rfl)) jg (a7j _)) (a7p (a0h (adq hr.u) a93 (a4m (bj 0) az (λ_ _=>rfl)) jg (a7j _)))))
 (bx (gq (a4m (bj 0) az (λ_ _=>rfl))))
 gm)
 (bx (gq (vf (aa (a4m (bj 0) az (λ_ _=>rfl)) bc))))))
theorem aze:FnScope ["shape","parts"] ["shape"] (cz (top 8)):=by walk_at "sc"
theorem m_2(M:Nm mg)(D_1:Dn P w K mg base k_1 "inner" ["shape"] (ph K 1 F_1) a_1 d_1)(h_1:k_1<=k)(D_2:Dn P w K mg base k_2 "weight" ["shape"] (ph K 1 F_2) a_2 d_2)(h_2:k_2<=k):MD P w K mg base f k ["shape","parts"] "weight" (top 8) (K11.a4a F_1 F_2):=λcdv A outer s H E hr =>
 have SC:=aze
 (aq (nj (m8 hr.u (di (bj 0) az) jg)
 (bx (gq az))
 gm)
 (aq (jf 1 SC.nd (aan (a4l rfl) acb rfl M.sum ahj (aa (zb (ac6 rfl (aqf ["part"]) (zm (j8 D_1 hr h_1 (aa (bj 0) bc))) (pgn 0) adk (λ_ _ _ _=>(j8 D_2 hr h_2 (aa (bj 0) bc))))) bc)))
 (aq (nj (m8 hr.u (di (bj 0) az) jg)
 (bx (gq (a3h (di (bj 0) az) (bj 1))))
 gm)
 (bx (gq (bj 1))))))
theorem azf:FnScope ["self","signs","firsts","pairs","lasts","empty"] ["self","signs","firsts","pairs","lasts","empty"] (cz (cst (top 10) 0)):=by walk_at "sc"
theorem m_3{k:Nat}{C_Patch:Addr}(Q_Patch:CK K mg "Patch" C_Patch ["signs","firsts","pairs","lasts","empty"])(cdv:Value)(A:Around)(outer:List Env)(s:Shared)(H:Hp)(E:XK)(hr:Room k (A.deeper (PyProof.Rows.envOfC "Patch.__init__" (cz (cst (top 10) 0)) s.heap.objs.size f cdv))):MSs (agq CX0 P w K mg base ["self","signs","firsts","pairs","lasts","empty"] "Patch.__init__" (cz (cst (top 10) 0)) f cdv A outer s H E).nox X0 (vo (cst (top 10) 0)) (K11.a0b) :=
 have SC:=azf
 (aq (a84 Q_Patch (by decide +kernel) (bj 0) (bj 1))
 (aq (a84 Q_Patch (by decide +kernel) (bj 0) (bj 2))
 (aq (a84 Q_Patch (by decide +kernel) (bj 0) (bj 3))
 (aq (a84 Q_Patch (by decide +kernel) (bj 0) (bj 4))
 (bx (a84 Q_Patch (by decide +kernel) (bj 0) (bj 5)))))))
theorem azg:FnScope ["shape"] ["shape"] (cz (top 11)):=by walk_at "sc"
theorem m_4(C:Cn mg)(D_6:Dn P w K mg base k_6 "patch_of" ["shape","at"] (ph K 2 F_6) a_6 d_6)(h_6:k_6<=k)(D_5:Dn P w K mg base k_5 "patch_rows" ["patch"] (ph K 1 F_5) a_5 d_5)(h_5:k_5<=k)(D_2:Dn P w K mg base k_2 "weight" ["shape"] (ph K 1 F_2) a_2 d_2)(h_2:k_2<=k):MD P w K mg base f k ["shape"] "spread" (top 11) (K15.a5t F_6 F_5 F_2):=λcdv A outer s H E hr =>
 have SC:=azg
 (aq (nj (sy aex a7u (j8 D_2 hr h_2 (aa (bj 0) bc)) (aoy rfl C.HEAVIEST.choose_spec))
 aht
 gm)
 (bx (gq (j8 D_5 hr h_5 (aa (j8 D_6 hr h_6 (aa (bj 0) (aa az bc))) bc)))))
theorem azh:FnScope ["patch","nexts","place","lasts"] ["patch"] (cz (top 12)):=by walk_at "sc"
theorem m_5(M:Nm mg)(Q_Patch:CK K mg "Patch" C_Patch ["signs","firsts","pairs","lasts","empty"])(D_0:Dn P w K mg base k_0 "rising" ["numbers"] (ph K 1 F_0) a_0 d_0)(h_0:k_0<=k):MD P w K mg base f k ["patch","nexts","place","lasts"] "patch_rows" (top 12) (K11.a0c F_0):=λcdv A outer s H E hr =>
 have SC:=azh
 (aq (jf 1 SC.nd (jd (aa (j8 D_0 hr h_0 (aa (mj Q_Patch (bj 0)) bc)) bc)))
 (aq (zp bN rfl (ap3 rfl M.range (aa az (aa (ig (yu M.len (aa (mj Q_Patch (bj 0)) bc)) az) bc))) (qz (i:=2) SC.nd rfl (Or.inr rfl)) (bx (a0t (a8z c8 de a1q a6l (bj 1) (aa (j8 D_0 hr h_0 (aa (zb (akh rfl (als ["one","other"] ["place"] [2]) (zm (mj Q_Patch (bj 0))) (λ_ _ _ _=>aml rfl (a8j (pgm 0) (a8j (pgm 1) agd))) atd (λ_ _ _ _=>(bj 1)) (λ_ _ _ _=>(m8 hr.u (bj 0) (bj 2))))) bc)) bc)))))
 (aq (jf 3 SC.nd (a7r (ah5 (mj Q_Patch (bj 0))) (zb (ig (mj Q_Patch (bj 0)) (zb (jd (aa az bc))))) (mj Q_Patch (bj 0))))
 (bx (gq (vf (aa (a6h (L2.CallR.or yx (a05 rfl)) a3t rfl M.tuple a5j (aa (zb (ig (zb (jd (aa jg bc))) (mj Q_Patch (bj 0)))) bc)) (aa (a6h (L2.CallR.or yx (a05 rfl)) a3t rfl M.tuple a5j (aa (bj 1) bc)) (aa (j8 D_0 hr h_0 (aa (bj 3) bc)) bc)))))))))
theorem azi:FnScope ["shape","at"] ["shape","at"] (cz (top 13)):=by walk_at "sc"
theorem m_6(Q_Patch:CK K mg "Patch" C_Patch ["signs","firsts","pairs","lasts","empty"])(D_3:Di P w K mg base k_3 "Patch" C_Patch ["signs","firsts","pairs","lasts","empty"] ["self","signs","firsts","pairs","lasts","empty"] 5 F_3 a_3 d_3)(h_3:k_3+1<=k)(D_11:Dn P w K mg base k_11 "patch_again" ["patch"] (ph K 1 F_11) a_11 d_11)(h_11:k_11<=k)(D_9:Dn P w K mg base k_9 "patch_in_turn" ["patches"] (ph K 1 F_9) a_9 d_9)(h_9:k_9<=k)(D_6:Dn P w K mg base k_6 "patch_of" ["shape","at"] (ph K 2 F_6) a_6 d_6)(h_6:k_6<=k)(D_10:Dn P w K mg base k_10 "patch_of_one" ["patches"] (ph K 1 F_10) a_10 d_10)(h_10:k_10<=k)(D_12:Dn P w K mg base k_12 "patch_of_times" ["copies","low"] (ph K 2 F_12) a_12 d_12)(h_12:k_12<=k)(D_7:Dn P w K mg base k_7 "patches_of" ["shapes","at"] (ph K 2 F_7) a_7 d_7)(h_7:k_7<=k):MD P w K mg base f k ["shape","at"] "patch_of" (top 13) (K11.ud F_3 F_11 F_9 F_6 F_10 F_12 F_7):=λcdv A outer s H E hr =>
 have SC:=azi
 (aq (nj (m8 hr.u (di (bj 0) az) jg)
 (bx (gq (zb (acq D_3 hr h_3 (aa (zb (jd (aa (di (bj 0) az) bc))) (aa (zb (jd (aa (bj 1) bc))) (aa (zb (jd bc)) (aa (zb (jd (aa (bj 1) bc))) (aa aal bc)))))))))
 gm)
 (aq (nj (m8 hr.u (di (bj 0) az) jg)
 (bx (gq (j8 D_9 hr h_9 (aa (j8 D_7 hr h_7 (aa (di (bj 0) az) (aa (bj 1) bc))) bc))))
 gm)
 (aq (nj (m8 hr.u (di (bj 0) az) jg)
 (bx (gq (j8 D_10 hr h_10 (aa (j8 D_7 hr h_7 (aa (di (bj 0) az) (aa (bj 1) bc))) bc))))
 gm)
 (aq (nj (m8 hr.u (di (bj 0) az) jg)
 (bx (gq (j8 D_11 hr h_11 (aa (j8 D_6 hr h_6 (aa (di (bj 0) az) (aa (bj 1) bc))) bc))))
 gm)
 (bx (gq (j8 D_12 hr h_12 (aa (j8 D_7 hr h_7 (aa (zb (a3h (zb (jd (aa (di (bj 0) az) bc))) (di (bj 0) az))) (aa (bj 1) bc))) (aa (di (bj 0) az) bc)))))))))
theorem azj:FnScope ["shapes","at","patches","place","shape","patch"] ["shapes","at"] (cz (top 14)):=by walk_at "sc"
theorem m_7(M:Nm mg)(Q_Patch:CK K mg "Patch" C_Patch ["signs","firsts","pairs","lasts","empty"])(D_6:Dn P w K mg base k_6 "patch_of" ["shape","at"] (ph K 2 F_6) a_6 d_6)(h_6:k_6<=k):MD P w K mg base f k ["shapes","at","patches","place","shape","patch"] "patches_of" (top 14) (K11.xu F_6):=λcdv A outer s H E hr =>
 have SC:=azj
 (aq (jf 2 SC.nd (jd bc))
 (aq (jf 3 SC.nd (bj 1))
 (aq (zp bN rfl (zm (bj 0)) (qz (i:=4) SC.nd rfl (Or.inl rfl)) (aq (jf 5 SC.nd (j8 D_6 hr h_6 (aa (bj 4) (aa (bj 3) bc))))
 (aq (a0t (a8z c8 de a1q a6l (bj 2) (aa (bj 5) bc)))
 (bx (a06 (i:=3) SC.nd rfl (Or.inl rfl) (a1o.or qw) a07 (yu M.len (aa (mj Q_Patch (bj 5)) bc)))))))
 (bx (gq (bj 2))))))
theorem azk:FnScope ["one","other","firsts","lasts","between"] ["one","other"] (cz (top 15)):=by walk_at "sc"
theorem m_8(Q_Patch:CK K mg "Patch" C_Patch ["signs","firsts","pairs","lasts","empty"])(D_3:Di P w K mg base k_3 "Patch" C_Patch ["signs","firsts","pairs","lasts","empty"] ["self","signs","firsts","pairs","lasts","empty"] 5 F_3 a_3 d_3)(h_3:k_3+1<=k):MD P w K mg base f k ["one","other","firsts","lasts","between"] "joined" (top 15) (K11.a5s F_3):=λcdv A outer s H E hr =>
 have SC:=azk
 (aq (jf 2 SC.nd (a7r (ah5 (mj Q_Patch (bj 0))) (zb (ig (mj Q_Patch (bj 0)) (mj Q_Patch (bj 1)))) (mj Q_Patch (bj 0))))
 (aq (jf 3 SC.nd (a7r (ah5 (mj Q_Patch (bj 1))) (zb (ig (mj Q_Patch (bj 0)) (mj Q_Patch (bj 1)))) (mj Q_Patch (bj 1))))
 (aq (ab6 (i:=4) SC.nd rfl (Or.inl rfl) (.inl rfl) rfl (als ["last","first"] ["other"] [1]) (zm (mj Q_Patch (bj 0))) (pgn 0) (λ_ _ _ _=>(zm (mj Q_Patch (bj 2)))) (pgn 1) (λ_ _ _ _=>aip) (λ_ _ _ _=>(vf (aa (bj 0) (aa (bj 1) bc)))))
 (bx (gq (zb (acq D_3 hr h_3 (aa (zb (ig (mj Q_Patch (bj 0)) (mj Q_Patch (bj 1)))) (aa (bj 2) (aa (zb (ig (zb (ig (mj Q_Patch (bj 0)) (bj 4))) (mj Q_Patch (bj 1)))) (aa (bj 3) (aa (at8 (mj Q_Patch (bj 0)) (amu (mj Q_Patch (bj 1)))) bc))))))))))))
theorem azl:FnScope ["patches","whole","patch"] ["patches"] (cz (top 16)):=by walk_at "sc"
theorem m_9(Q_Patch:CK K mg "Patch" C_Patch ["signs","firsts","pairs","lasts","empty"])(D_3:Di P w K mg base k_3 "Patch" C_Patch ["signs","firsts","pairs","lasts","empty"] ["self","signs","firsts","pairs","lasts","empty"] 5 F_3 a_3 d_3)(h_3:k_3+1<=k)(D_8:Dn P w K mg base k_8 "joined" ["one","other"] (ph K 2 F_8) a_8 d_8)(h_8:k_8<=k):MD P w K mg base f k ["patches","whole","patch"] "patch_in_turn" (top 16) (K11.wj F_3 F_8):=λcdv A outer s H E hr =>
 have SC:=azl
 (aq (jf 1 SC.nd (zb (acq D_3 hr h_3 (aa (zb (jd bc)) (aa (zb (jd bc)) (aa (zb (jd bc)) (aa (zb (jd bc)) (aa aal bc))))))))
 (aq (zp bN rfl (zm (bj 0)) (qz (i:=2) SC.nd rfl (Or.inl rfl)) (bx (jf 1 SC.nd (j8 D_8 hr h_8 (aa (bj 1) (aa (bj 2) bc))))))
 (bx (gq (bj 1)))))
theorem aul:FnScope ["patches","whole","patch"] ["patches"] (cz (top 17)):=by walk_at "sc"
theorem b0l(Q_Patch:CK K mg "Patch" C_Patch ["signs","firsts","pairs","lasts","empty"])(D_3:Di P w K mg base k_3 "Patch" C_Patch ["signs","firsts","pairs","lasts","empty"] ["self","signs","firsts","pairs","lasts","empty"] 5 F_3 a_3 d_3)(h_3:k_3+1<=k):MD P w K mg base f k ["patches","whole","patch"] "patch_of_one" (top 17) (K11.xn F_3):=λcdv A outer s H E hr =>
 have SC:=aul
 (aq (jf 1 SC.nd (acq D_3 hr h_3 (aa (jd bc) (aa (jd bc) (aa (jd bc) (aa (jd bc) (aa aal bc)))))))
 (aq (zp bN rfl (zm (bj 0)) (qz (i:=2) SC.nd rfl (Or.inl rfl)) (aq (a0t (a8z e8 e9 (MtR.or a2p a2l) a5p (mj Q_Patch (bj 1)) (aa (mj Q_Patch (bj 2)) bc)))
 (aq (a0t (a8z e8 e9 (MtR.or a2p a2l) a5p (mj Q_Patch (bj 1)) (aa (mj Q_Patch (bj 2)) bc)))
 (aq (a0t (a8z e8 e9 (MtR.or a2p a2l) a5p (mj Q_Patch (bj 1)) (aa (mj Q_Patch (bj 2)) bc)))
 (aq (a0t (a8z e8 e9 (MtR.or a2p a2l) a5p (mj Q_Patch (bj 1)) (aa (mj Q_Patch (bj 2)) bc)))
 (bx (a84 Q_Patch (by decide +kernel) (bj 1) (axs (mj Q_Patch (bj 1)) (amu (mj Q_Patch (bj 2)))))))))))
 (bx (gq (bj 1)))))
theorem aum:FnScope ["patch","between"] ["patch"] (cz (top 18)):=by walk_at "sc"
theorem b0m(Q_Patch:CK K mg "Patch" C_Patch ["signs","firsts","pairs","lasts","empty"])(D_3:Di P w K mg base k_3 "Patch" C_Patch ["signs","firsts","pairs","lasts","empty"] ["self","signs","firsts","pairs","lasts","empty"] 5 F_3 a_3 d_3)(h_3:k_3+1<=k):MD P w K mg base f k ["patch","between"] "patch_again" (top 18) (K11.zf F_3):=λcdv A outer s H E hr =>
 have SC:=aum
 (aq (ab6 (i:=1) SC.nd rfl (Or.inl rfl) (.inl rfl) rfl (als ["last","first"] ["patch"] [0]) (zm (mj Q_Patch (bj 0))) (pgn 0) (λ_ _ _ _=>(zm (mj Q_Patch (bj 2)))) (pgn 1) (λ_ _ _ _=>aip) (λ_ _ _ _=>(vf (aa (bj 0) (aa (bj 1) bc)))))
 (bx (gq (zb (acq D_3 hr h_3 (aa (mj Q_Patch (bj 0)) (aa (mj Q_Patch (bj 0)) (aa (zb (ig (mj Q_Patch (bj 0)) (bj 1))) (aa (mj Q_Patch (bj 0)) (aa aal bc))))))))))
theorem aun:FnScope ["copies","low","whole","number"] ["copies","low"] (cz (top 19)):=by walk_at "sc"
theorem b0n(M:Nm mg)(Q_Patch:CK K mg "Patch" C_Patch ["signs","firsts","pairs","lasts","empty"])(D_3:Di P w K mg base k_3 "Patch" C_Patch ["signs","firsts","pairs","lasts","empty"] ["self","signs","firsts","pairs","lasts","empty"] 5 F_3 a_3 d_3)(h_3:k_3+1<=k)(D_8:Dn P w K mg base k_8 "joined" ["one","other"] (ph K 2 F_8) a_8 d_8)(h_8:k_8<=k):MD P w K mg base f k ["copies","low","whole","number"] "patch_of_times" (top 19) (K11.v4 F_3 F_8):=λcdv A outer s H E hr =>
 have SC:=aun
 (aq (jf 2 SC.nd (zb (acq D_3 hr h_3 (aa (zb (jd bc)) (aa (zb (jd bc)) (aa (zb (jd bc)) (aa (zb (jd bc)) (aa aal bc))))))))
 (aq (zp bN rfl (aua rfl M.reversed rfl M.range (aa (yu M.len (aa (bj 0) bc)) bc)) (qz (i:=3) SC.nd rfl (Or.inl rfl)) (aq (jf 2 SC.nd (j8 D_8 hr h_8 (aa (di (bj 0) (bj 3)) (aa (bj 2) bc))))
 (bx (nj (sy aoe ahf (bj 3) (bj 1))
 (bx (jf 2 SC.nd (zb (acq D_3 hr h_3 (aa (mj Q_Patch (bj 2)) (aa (mj Q_Patch (bj 2)) (aa (mj Q_Patch (bj 2)) (aa (mj Q_Patch (bj 2)) (aa aal bc)))))))))
 gm))))
 (bx (gq (bj 2)))))
theorem auo:FnScope ["_law_script","_law_cells"] ["_law_script"] (cz (top 21)):=by walk_at "sc"
theorem b0o(M:Nm mg):MD P w K mg base f k ["_law_script","_law_cells"] "_law_source" (top 21) (SRC.a08):=λcdv A outer s H E hr =>
 have SC:=auo
 (aq (akq (i:=1) SC.nd rfl (Or.inl rfl) rfl (aqf ["_law_cell"]) (zm (zb (qe (bj 0) yj (ym az)))) (pgn 0) adk (λ_ _ _ _=>(ig (a3h az (aan ak4 ap9 rfl M.abs at6 (aa (bj 0) bc))) (a6h agm apb rfl M.int at7 (aa (ac2 (a8l.or vm) a3r (bj 0) az (a7j _)) bc)))))
 (bx (gq (jd (aa (bj 1) (aa az (aa az (aa az (aa (a7t (aan (a4l rfl) acb rfl M.sum ahj (aa (bj 1) bc)) az) bc)))))))))
theorem aup:FnScope ["_law_left","_law_many","_law_cell","_law_told"] ["_law_left","_law_many"] (cz (top 22)):=by walk_at "sc"
theorem b0p(M:Nm mg):MD P w K mg base f k ["_law_left","_law_many","_law_cell","_law_told"] "_law_draw" (top 22) (SRC.a2q):=λcdv A outer s H E hr =>
 have SC:=aup
 (aq (a97 (bj 0) az az (a1o.or qw) a07)
 (aq (nj (PW.pt (a7q (m8 hr.u (di (bj 0) az) az) (a6f (sy (a8l.or vm) a3r (di (bj 0) az) (yu M.len (aa (di (bj 0) az) bc))))))
 (aq (jf 2 SC.nd (di (di (bj 0) az) (di (bj 0) az)))
 (aq (a97 (bj 0) az az (a1o.or qw) a07)
 (bx (nj (sy aoe ahf (bj 2) (ahe az az))
 (bx (amv (bj 2) (bj 0) az))
 (bx (amv (a7t (ig (a3h (di (bj 0) az) az) (bj 2)) az) (bj 0) az))))))
 gm)
 (aq (nj (sy aex a7u (di (bj 0) az) az)
 (aq (jf 3 SC.nd (a7t (di (bj 0) az) (bj 1)))
 (aq (a97 (bj 0) az (bj 1) ak2 ahc)
 (bx (gq (bj 3)))))
 gm)
 (aq (jf 3 SC.nd (a7t (ahe (ig (ig (di (bj 0) az) az) (a3h (di (bj 0) az) az)) az) az))
 (bx (gq (a7t (adm (a7t (ahe (ig (a3h (bj 3) az) (di (bj 0) az)) az) az) az) (bj 1))))))))
theorem auq:FnScope ["_law_some"] [] (cz (top 23)):=by walk_at "sc"
theorem b0q:MD P w K mg base f k ["_law_some"] "_law_signs" (top 23) (SRC.zx):=λcdv A outer s H E hr =>
 have SC:=auq
 (aq (jf 0 SC.nd jg)
 (bx (gq (ig (bj 0) jg))))
theorem aur:FnScope ["_law_left","_law_rest","_law_told","_law_k","_law_at"] ["_law_left"] (cz (top 24)):=by walk_at "sc"
theorem b0r(M:Nm mg)(D_14:Dn P w K mg base k_14 "_law_draw" ["_law_left","_law_many"] (ph K 2 F_14) a_14 d_14)(h_14:k_14<=k)(D_15:Dn P w K mg base k_15 "_law_signs" [] (ph K 0 F_15) a_15 d_15)(h_15:k_15<=k):MD P w K mg base f k ["_law_left","_law_rest","_law_told","_law_k","_law_at"] "_law_tongue" (top 24) (SRC.a09 F_14 F_15):=λcdv A outer s H E hr =>
 have SC:=aur
 (aq (jf 1 SC.nd (ahs false D_15 (hr.mono h_15) rfl))
 (aq (jf 2 SC.nd jg)
 (aq (zp bN rfl (a6i rfl M.range (aa (ig az (j8 D_14 hr h_14 (aa (bj 0) (aa az bc)))) bc)) (qz (i:=3) SC.nd rfl (Or.inl rfl)) (aq (jf 4 SC.nd (j8 D_14 hr h_14 (aa (bj 0) (aa (yu M.len (aa (bj 1) bc)) bc))))
 (aq (a06 (i:=2) SC.nd rfl (Or.inl rfl) (a1o.or qw) a07 (di (bj 1) (bj 4)))
 (bx (jf 1 SC.nd (ig (qe (bj 1) yj (ym (bj 4))) (qe (bj 1) (ym (ig (bj 4) az)) yj)))))))
 (bx (gq (bj 2))))))
theorem aus:FnScope ["_law_left","_law_tongue_here","_law_rest","_law_told","_law_many","_law_k","_law_at"] ["_law_left","_law_tongue_here"] (cz (top 25)):=by walk_at "sc"
theorem b0s(M:Nm mg)(D_14:Dn P w K mg base k_14 "_law_draw" ["_law_left","_law_many"] (ph K 2 F_14) a_14 d_14)(h_14:k_14<=k):MD P w K mg base f k ["_law_left","_law_tongue_here","_law_rest","_law_told","_law_many","_law_k","_law_at"] "_law_ones" (top 25) (DRW.a2r F_14):=λcdv A outer s H E hr =>
 have SC:=aus
 (aq (jf 2 SC.nd (bj 1))
 (aq (jf 3 SC.nd jg)
 (aq (jf 4 SC.nd az)
 (aq (nj (m8 hr.u (j8 D_14 hr h_14 (aa (bj 0) (aa az bc))) az)
 (bx (jf 4 SC.nd (ig az (j8 D_14 hr h_14 (aa (bj 0) (aa (yu M.len (aa (bj 1) bc)) bc))))))
 gm)
 (aq (zp bN rfl (a6i rfl M.range (aa (bj 4) bc)) (qz (i:=5) SC.nd rfl (Or.inl rfl)) (aq (jf 6 SC.nd (j8 D_14 hr h_14 (aa (bj 0) (aa (yu M.len (aa (bj 2) bc)) bc))))
 (aq (a06 (i:=3) SC.nd rfl (Or.inl rfl) (a1o.or qw) a07 (di (bj 2) (bj 6)))
 (bx (jf 2 SC.nd (ig (qe (bj 2) yj (ym (bj 6))) (qe (bj 2) (ym (ig (bj 6) az)) yj)))))))
 (bx (gq (bj 3))))))))
theorem aut:FnScope ["_law_shape_here"] ["_law_shape_here"] (cz (top 26)):=by walk_at "sc"
theorem b0t(M:Nm mg)(D_18:Dn P w K mg base k_18 "_law_weight" ["_law_shape_here"] (ph K 1 F_18) a_18 agb)(h_18:k_18<=k):MD P w K mg base f k ["_law_shape_here"] "_law_weight" (top 26) (DRW.xr F_18):=λcdv A outer s H E hr =>
 have SC:=aut
 (aq (nj (m8 hr.u (di (bj 0) az) jg)
 (bx (gq az))
 gm)
 (aq (nj (a0h (a8t.or a3o) a8y (di (bj 0) az) (vf (aa jg (aa jg bc))) (by with_unfolding_all rfl))
 (bx (gq (aan (a4l rfl) acb rfl M.sum ahj (aa (zb (ac6 rfl (aqf ["_law_part"]) (zm (di (bj 0) az)) (pgn 0) adk (λ_ _ _ _=>(j8 D_18 hr h_18 (aa (bj 0) bc))))) bc))))
 gm)
 (aq (nj (m8 hr.u (di (bj 0) az) jg)
 (bx (gq (j8 D_18 hr h_18 (aa (di (bj 0) az) bc))))
 gm)
 (bx (gq (a3h (di (bj 0) az) (j8 D_18 hr h_18 (aa (di (bj 0) az) bc))))))))
theorem auu:FnScope ["_law_left","_law_tongue_here","_law_deep","_law_purse","_law_room","_law_sort","_law_high","_law_low","_law_parts","_law_k","_law_part"] ["_law_left","_law_tongue_here","_law_deep","_law_purse","_law_room"] (cz (top 27)):=by walk_at "sc"
theorem b0u(M:Nm mg)(D_14:Dn P w K mg base k_14 "_law_draw" ["_law_left","_law_many"] (ph K 2 F_14) a_14 d_14)(h_14:k_14<=k)(D_17:Dn P w K mg base k_17 "_law_ones" ["_law_left","_law_tongue_here"] (ph K 2 F_17) a_17 d_17)(h_17:k_17<=k)(D_19:Dn P w K mg base k_19 "_law_shape" ["_law_left","_law_tongue_here","_law_deep","_law_purse","_law_room"] (ph K 5 F_19) a_19 ayp)(h_19:k_19<=k)(D_18:Dn P w K mg base k_18 "_law_weight" ["_law_shape_here"] (ph K 1 F_18) a_18 agb)(h_18:k_18<=k):MD P w K mg base f k ["_law_left","_law_tongue_here","_law_deep","_law_purse","_law_room","_law_sort","_law_high","_law_low","_law_parts","_law_k","_law_part"] "_law_shape" (top 27) (DRW.a01 F_14 F_17 F_19 F_18):=λcdv A outer s H E hr =>
 have SC:=auu
 (aq (a97 (bj 4) az az agj ac8)
 (aq (jf 5 SC.nd (j8 D_14 hr h_14 (aa (bj 0) (aa az bc))))
 (aq (nj (PW.pt (ac3 (m8 hr.u (bj 2) az) (ac3 (sy (a8l.or vm) a3r (di (bj 4) az) az) (a7p (m8 hr.u (bj 5) az)))))
 (aq (nj (PW.pt (ac3 (m8 hr.u (bj 3) az) (a7p (m8 hr.u (j8 D_14 hr h_14 (aa (bj 0) (aa az bc))) az))))
 (bx (gq (vf (aa jg (aa (vf bc) bc)))))
 gm)
 (bx (gq (vf (aa jg (aa (j8 D_17 hr h_17 (aa (bj 0) (aa (bj 1) bc))) bc))))))
 gm)
 (aq (nj (sy (a8l.or vm) a3r (bj 5) az)
 (bx (gq (vf (aa jg (aa (j8 D_19 hr h_19 (aa (bj 0) (aa (bj 1) (aa (aaq (bj 2) az) (aa (bj 3) (aa (bj 4) bc)))))) bc)))))
 gm)
 (aq (nj (sy (a8l.or vm) a3r (bj 5) az)
 (aq (jf 6 SC.nd (j8 D_14 hr h_14 (aa (bj 0) (aa az bc))))
 (aq (jf 7 SC.nd (j8 D_14 hr h_14 (aa (bj 0) (aa (ig (bj 6) az) bc))))
 (bx (gq (vf (aa jg (aa (j8 D_19 hr h_19 (aa (bj 0) (aa (bj 1) (aa (aaq (bj 2) az) (aa (adm (bj 3) (aan (aa9 rfl) adp rfl M.max an6 (aa az (aa (bj 6) bc)))) (aa (bj 4) bc)))))) (aa (bj 7) (aa (bj 6) bc)))))))))
 gm)
 (aq (jf 8 SC.nd (jd bc))
 (aq (zp bN rfl (a6i rfl M.range (aa (di (vf (aa az (aa az (aa az (aa az (aa az (aa az (aa az (aa az bc))))))))) (j8 D_14 hr h_14 (aa (bj 0) (aa az bc)))) bc)) (qz (i:=9) SC.nd rfl (Or.inl rfl)) (bx (nj (sy aex a7u (di (bj 4) az) az)
 (aq (jf 10 SC.nd (j8 D_19 hr h_19 (aa (bj 0) (aa (bj 1) (aa (aaq (bj 2) az) (aa (bj 3) (aa (bj 4) bc)))))))
 (aq (a06 (i:=3) SC.nd rfl (Or.inl rfl) agj ac8 (j8 D_18 hr h_18 (aa (bj 10) bc)))
 (bx (a0t (a8z c8 de a1q a6l (bj 8) (aa (bj 10) bc))))))
 gm)))
 (bx (gq (vf (aa (di (vf (aa jg (aa jg bc))) (adm (bj 5) az)) (aa (a6h (L2.CallR.or yx (a05 rfl)) a3t rfl M.tuple a5j (aa (bj 8) bc)) bc))))))))))))
theorem auv:FnScope ["_law_shape_here"] ["_law_shape_here"] (cz (top 28)):=by walk_at "sc"
theorem b0v:MD P w K mg base f k ["_law_shape_here"] "_law_laid" (top 28) (K11.a2s):=λcdv A outer s H E hr =>
 have SC:=auv
 (aq (nj (a0h (a8t.or a3o) a8y (di (bj 0) az) (vf (aa jg (aa jg bc))) (by with_unfolding_all rfl))
 (bx (gq (di (bj 0) az)))
 gm)
 (aq (nj (m8 hr.u (di (bj 0) az) jg)
 (bx (gq (vf (aa (di (bj 0) az) bc))))
 gm)
 (bx (gq (acl (vf (aa (di (bj 0) az) bc)) (di (bj 0) az))))))
theorem auw:FnScope ["_law_shape_here","_law_at","_law_row","_law_k","_law_found","_law_here","_law_low","_law_count","_law_part"] ["_law_shape_here","_law_at","_law_row","_law_k"] (cz (top 29)):=by walk_at "sc"
theorem b0w(M:Nm mg)(D_21:Dn P w K mg base k_21 "_law_comes" ["_law_shape_here","_law_at","_law_row","_law_k"] (ph K 4 F_21) a_21 aw9)(h_21:k_21<=k)(D_22:Dn P w K mg base k_22 "_law_comes_behind" ["_law_part","_law_at","_law_row","_law_here"] (ph K 4 F_22) a_22 d_22)(h_22:k_22<=k)(D_23:Dn P w K mg base k_23 "_law_comes_often" ["_law_part","_law_at","_law_row","_law_k"] (ph K 4 F_23) a_23 d_23)(h_23:k_23<=k)(D_20:Dn P w K mg base k_20 "_law_laid" ["_law_shape_here"] (ph K 1 F_20) a_20 d_20)(h_20:k_20<=k)(D_18:Dn P w K mg base k_18 "_law_weight" ["_law_shape_here"] (ph K 1 F_18) a_18 agb)(h_18:k_18<=k):MD P w K mg base f k ["_law_shape_here","_law_at","_law_row","_law_k","_law_found","_law_here","_law_low","_law_count","_law_part"] "_law_comes" (top 29) (n8 F_21 F_22 F_23 F_20 F_18):=λcdv A outer s H E hr =>
 have SC:=auw
 (aq (nj (m8 hr.u (j8 D_18 hr h_18 (aa (bj 0) bc)) az)
 (bx (gq (jd (aa (bj 3) bc))))
 gm)
 (aq (nj (m8 hr.u (di (bj 0) az) jg)
 (bx (gq (a7r (PW.pt (a7q (sy (a8l.or vm) a3r (bj 3) (yu M.len (aa (bj 2) bc))) (a6f (m8 hr.u (di (bj 2) (bj 3)) (ig (bj 1) az))))) (jd (aa (ig (bj 3) az) bc)) (jd bc))))
 gm)
 (aq (nj (m8 hr.u (di (bj 0) az) jg)
 (bx (gq (j8 D_23 hr h_23 (aa (di (bj 0) az) (aa (bj 1) (aa (bj 2) (aa (bj 3) bc)))))))
 gm)
 (aq (jf 4 SC.nd (jd bc))
 (aq (jf 5 SC.nd (zb (jd (aa (bj 3) bc))))
 (aq (jf 6 SC.nd (a7r (m8 hr.u (di (bj 0) az) jg) (di (bj 0) az) az))
 (aq (zp bN rfl (ahy rfl M.enumerate (j8 D_20 hr h_20 (aa (bj 0) bc))) (amw rfl (a5n (qz (i:=7) SC.nd rfl (Or.inl rfl)) (a5n (qz (i:=8) SC.nd rfl (Or.inl rfl)) ah9))) (aq (nj (m8 hr.u (di (bj 0) az) jg)
 (bx (a06 (i:=4) SC.nd rfl (Or.inl rfl) a0x a00 (j8 D_21 hr h_21 (aa (bj 8) (aa (bj 1) (aa (bj 2) (aa (bj 3) bc)))))))
 (aq (nj (PW.pt (a7q (m8 hr.u (di (bj 0) az) jg) (a6f (sy aoe ahf (bj 7) (bj 6)))))
 (bx (a06 (i:=4) SC.nd rfl (Or.inl rfl) a0x a00 (bj 5)))
 gm)
 (bx (jf 5 SC.nd (j8 D_22 hr h_22 (aa (bj 8) (aa (bj 1) (aa (bj 2) (aa (bj 5) bc)))))))))
 (bx (a06 (i:=1) SC.nd rfl (Or.inl rfl) (a1o.or qw) a07 (j8 D_18 hr h_18 (aa (bj 8) bc))))))
 (aq (nj (sy (a7w hr.u) a4o (di (bj 0) az) jg)
 (bx (a06 (i:=4) SC.nd rfl (Or.inl rfl) a0x a00 (bj 5)))
 gm)
 (bx (gq (acj rfl M.sorted rfl M.set rfl (bj 4))))))))))))
theorem auy:FnScope ["_law_part","_law_at","_law_row","_law_here","_law_told","_law_k"] ["_law_part","_law_at","_law_row","_law_here"] (cz (top 30)):=by walk_at "sc"
theorem b0x(M:Nm mg)(D_21:Dn P w K mg base k_21 "_law_comes" ["_law_shape_here","_law_at","_law_row","_law_k"] (ph K 4 F_21) a_21 aw9)(h_21:k_21<=k):MD P w K mg base f k ["_law_part","_law_at","_law_row","_law_here","_law_told","_law_k"] "_law_comes_behind" (top 30) (mq F_21):=λcdv A outer s H E hr =>
 have SC:=auy
 (aq (jf 4 SC.nd (jd bc))
 (aq (zp bN rfl (zm (bj 3)) (qz (i:=5) SC.nd rfl (Or.inl rfl)) (bx (a06 (i:=4) SC.nd rfl (Or.inl rfl) a0x a00 (j8 D_21 hr h_21 (aa (bj 0) (aa (bj 1) (aa (bj 2) (aa (bj 5) bc))))))))
 (bx (gq (acj rfl M.sorted rfl M.set rfl (bj 4))))))
theorem auz:FnScope ["_law_part","_law_at","_law_row","_law_k","_law_found","_law_at_one","_law_end"] ["_law_part","_law_at","_law_row","_law_k"] (cz (top 31)):=by walk_at "sc"
theorem b0y(M:Nm mg)(D_21:Dn P w K mg base k_21 "_law_comes" ["_law_shape_here","_law_at","_law_row","_law_k"] (ph K 4 F_21) a_21 aw9)(h_21:k_21<=k):MD P w K mg base f k ["_law_part","_law_at","_law_row","_law_k","_law_found","_law_at_one","_law_end"] "_law_comes_often" (top 31) (ou F_21):=λcdv A outer s H E hr =>
 have SC:=auz
 (aq (jf 4 SC.nd (jd (aa (bj 3) bc)))
 (aq (jf 5 SC.nd az)
 (aq (adi 100000 bN (sy (a8l.or vm) a3r (bj 5) (yu M.len (aa (bj 4) bc))) (aq (zp bN rfl (zm (j8 D_21 hr h_21 (aa (bj 0) (aa (bj 1) (aa (bj 2) (aa (di (bj 4) (bj 5)) bc)))))) (qz (i:=6) SC.nd rfl (Or.inl rfl)) (bx (nj (a0h (a4k.or a1p) aca (bj 6) (bj 4) (by with_unfolding_all rfl))
 (bx (a0t (a8z c8 de a1q a6l (bj 4) (aa (bj 6) bc))))
 gm)))
 (bx (a06 (i:=5) SC.nd rfl (Or.inl rfl) (a1o.or qw) a07 az))))
 (bx (gq (aan a98 afi rfl M.sorted ai0 (aa (bj 4) bc)))))))
theorem av0:FnScope ["_law_left","_law_shape_here","_law_at","_law_parts","_law_chosen","_law_row","_law_k","_law_part"] ["_law_left","_law_shape_here","_law_at"] (cz (top 32)):=by walk_at "sc"
theorem b0z(M:Nm mg)(D_24:Dn P w K mg base k_24 "_law_course" ["_law_left","_law_shape_here","_law_at"] (ph K 3 F_24) a_24 ayq)(h_24:k_24<=k)(D_14:Dn P w K mg base k_14 "_law_draw" ["_law_left","_law_many"] (ph K 2 F_14) a_14 d_14)(h_14:k_14<=k)(D_20:Dn P w K mg base k_20 "_law_laid" ["_law_shape_here"] (ph K 1 F_20) a_20 d_20)(h_20:k_20<=k)(D_18:Dn P w K mg base k_18 "_law_weight" ["_law_shape_here"] (ph K 1 F_18) a_18 agb)(h_18:k_18<=k):MD P w K mg base f k ["_law_left","_law_shape_here","_law_at","_law_parts","_law_chosen","_law_row","_law_k","_law_part"] "_law_course" (top 32) (a0d F_24 F_14 F_20 F_18):=λcdv A outer s H E hr =>
 have SC:=av0
 (aq (nj (m8 hr.u (di (bj 1) az) jg)
 (bx (gq (jd (aa (ig (bj 2) az) bc))))
 gm)
 (aq (jf 3 SC.nd (j8 D_20 hr h_20 (aa (bj 1) bc)))
 (aq (nj (m8 hr.u (di (bj 1) az) jg)
 (bx (jf 3 SC.nd (acl (vf (aa (di (bj 1) az) bc)) (j8 D_14 hr h_14 (aa (bj 0) (aa az bc))))))
 gm)
 (aq (nj (m8 hr.u (di (bj 1) az) jg)
 (bx (jf 3 SC.nd (acl (vf (aa (di (bj 1) az) bc)) (ig (di (bj 1) az) (j8 D_14 hr h_14 (aa (bj 0) (aa (ig (aaq (di (bj 1) az) (di (bj 1) az)) az) bc)))))))
 gm)
 (aq (jf 4 SC.nd (a7r (m8 hr.u (di (bj 1) az) jg) (j8 D_14 hr h_14 (aa (bj 0) (aa (yu M.len (aa (bj 3) bc)) bc))) (ath az)))
 (aq (jf 5 SC.nd (jd bc))
 (aq (zp bN rfl (ahy rfl M.enumerate (bj 3)) (amw rfl (a5n (qz (i:=6) SC.nd rfl (Or.inl rfl)) (a5n (qz (i:=7) SC.nd rfl (Or.inl rfl)) ah9))) (aq (nj (PW.pt (a7q (sy aex a7u (j8 D_18 hr h_18 (aa (bj 7) bc)) az) (a6f (PW.pt (ac3 (sy (a8l.or vm) a3r (bj 4) az) (a7p (m8 hr.u (bj 4) (bj 6))))))))
 (bx (a06 (i:=5) SC.nd rfl (Or.inl rfl) a0x a00 (j8 D_24 hr h_24 (aa (bj 0) (aa (bj 7) (aa (bj 2) bc))))))
 gm)
 (bx (nj (sy (a7w hr.u) a4o (di (bj 1) az) jg)
 (bx (a06 (i:=2) SC.nd rfl (Or.inl rfl) (a1o.or qw) a07 (j8 D_18 hr h_18 (aa (bj 7) bc))))
 gm))))
 (bx (gq (bj 5))))))))))
theorem av1:FnScope ["_law_left","_law_told","_law_row","_law_here"] ["_law_left","_law_told"] (cz (top 33)):=by walk_at "sc"
theorem b11(M:Nm mg)(D_14:Dn P w K mg base k_14 "_law_draw" ["_law_left","_law_many"] (ph K 2 F_14) a_14 d_14)(h_14:k_14<=k):MD P w K mg base f k ["_law_left","_law_told","_law_row","_law_here"] "_law_gone" (top 33) (a2t F_14):=λcdv A outer s H E hr =>
 have SC:=av1
 (aq (jf 2 SC.nd (jd bc))
 (aq (jf 3 SC.nd az)
 (aq (adi 100000 bN (PW.pt (a7q (sy (a8l.or vm) a3r (yu M.len (aa (bj 2) bc)) az) (a7q (sy (a7w hr.u) a4o (di (di (bj 1) az) (bj 3)) (vf bc)) (a6f (PW.pt (ac3 (a0h (a4k.or a1p) aca (bj 3) (di (bj 1) az) (by with_unfolding_all rfl)) (a7p (sy aex a7u (j8 D_14 hr h_14 (aa (bj 0) (aa az bc))) az)))))))) (aq (jf 3 SC.nd (di (di (di (bj 1) az) (bj 3)) (j8 D_14 hr h_14 (aa (bj 0) (aa (yu M.len (aa (di (di (bj 1) az) (bj 3)) bc)) bc)))))
 (bx (a0t (a8z c8 de a1q a6l (bj 2) (aa (bj 3) bc))))))
 (bx (gq (bj 2))))))
theorem av2:FnScope ["_law_left","_law_row","_law_many","_law_at","_law_sort"] ["_law_left","_law_row","_law_many"] (cz (top 34)):=by walk_at "sc"
theorem b12(M:Nm mg)(D_14:Dn P w K mg base k_14 "_law_draw" ["_law_left","_law_many"] (ph K 2 F_14) a_14 d_14)(h_14:k_14<=k):MD P w K mg base f k ["_law_left","_law_row","_law_many","_law_at","_law_sort"] "_law_bent" (top 34) (a2u F_14):=λcdv A outer s H E hr =>
 have SC:=av2
 (aq (jf 3 SC.nd (j8 D_14 hr h_14 (aa (bj 0) (aa (ig (yu M.len (aa (bj 1) bc)) az) bc))))
 (aq (jf 4 SC.nd (j8 D_14 hr h_14 (aa (bj 0) (aa az bc))))
 (aq (nj (m8 hr.u (bj 4) az)
 (bx (gq (ig (zb (qe (bj 1) yj (ym (bj 3)))) (zb (qe (bj 1) (ym (ig (bj 3) az)) yj)))))
 gm)
 (aq (nj (m8 hr.u (bj 4) az)
 (bx (gq (ig (zb (qe (bj 1) yj (ym (bj 3)))) (zb (qe (bj 1) (ym (aan (aa9 rfl) adp rfl M.max an6 (aa az (aa (aaq (bj 3) az) bc)))) yj)))))
 gm)
 (bx (gq (ig (zb (ig (zb (qe (bj 1) yj (ym (bj 3)))) (zb (jd (aa (ig az (j8 D_14 hr h_14 (aa (bj 0) (aa (bj 2) bc)))) bc))))) (zb (qe (bj 1) (ym (ig (bj 3) (adm (bj 4) az))) yj)))))))))
theorem av3:FnScope ["_law_told","_law_row","_law_here","_law_place"] ["_law_told","_law_row"] (cz (top 35)):=by walk_at "sc"
theorem b13:MD P w K mg base f k ["_law_told","_law_row","_law_here","_law_place"] "_law_along" (top 35) (a1c):=λcdv A outer s H E hr =>
 have SC:=av3
 (aq (jf 2 SC.nd az)
 (aq (zp bN rfl (zm (bj 1)) (qz (i:=3) SC.nd rfl (Or.inl rfl)) (aq (nj (a0h (a4k.or a1p) aca (bj 3) (di (di (bj 0) az) (bj 2)) (by with_unfolding_all rfl))
 (bx (gq aal))
 gm)
 (bx (jf 2 SC.nd (bj 3)))))
 (bx (gq (ac2 (a8t.or a3o) a8y (bj 2) (di (bj 0) az) (by with_unfolding_all rfl))))))
theorem av4:FnScope ["_law_script","_law_left","_law_shape_here","_law_many","_law_told","_law_rows","_law_k","_law_course_here","_law_row"] ["_law_script"] (cz (top 36)):=by walk_at "sc"
theorem b14(M:Nm mg)(D_27:Dn P w K mg base k_27 "_law_along" ["_law_told","_law_row"] (ph K 2 F_27) a_27 d_27)(h_27:k_27<=k)(D_26:Dn P w K mg base k_26 "_law_bent" ["_law_left","_law_row","_law_many"] (ph K 3 F_26) a_26 d_26)(h_26:k_26<=k)(D_21:Dn P w K mg base k_21 "_law_comes" ["_law_shape_here","_law_at","_law_row","_law_k"] (ph K 4 F_21) a_21 aw9)(h_21:k_21<=k)(D_24:Dn P w K mg base k_24 "_law_course" ["_law_left","_law_shape_here","_law_at"] (ph K 3 F_24) a_24 ayq)(h_24:k_24<=k)(D_14:Dn P w K mg base k_14 "_law_draw" ["_law_left","_law_many"] (ph K 2 F_14) a_14 d_14)(h_14:k_14<=k)(D_25:Dn P w K mg base k_25 "_law_gone" ["_law_left","_law_told"] (ph K 2 F_25) a_25 d_25)(h_25:k_25<=k)(D_19:Dn P w K mg base k_19 "_law_shape" ["_law_left","_law_tongue_here","_law_deep","_law_purse","_law_room"] (ph K 5 F_19) a_19 ayp)(h_19:k_19<=k)(D_13:Dn P w K mg base k_13 "_law_source" ["_law_script"] (ph K 1 F_13) a_13 d_13)(h_13:k_13<=k)(D_16:Dn P w K mg base k_16 "_law_tongue" ["_law_left"] (ph K 1 F_16) a_16 d_16)(h_16:k_16<=k)(D_18:Dn P w K mg base k_18 "_law_weight" ["_law_shape_here"] (ph K 1 F_18) a_18 agb)(h_18:k_18<=k)(D_4:Dn P w K mg base k_4 "spread" ["shape"] (ph K 1 F_4) a_4 d_4)(h_4:k_4<=k):MD P w K mg base f k ["_law_script","_law_left","_law_shape_here","_law_many","_law_told","_law_rows","_law_k","_law_course_here","_law_row"] "law" (top 36) (alr F_27 F_26 F_21 F_24 F_14 F_25 F_19 F_13 F_16 F_18 F_4):=λcdv A outer s H E hr =>
 have SC:=av4
 (aq (jf 1 SC.nd (adw true D_13 (hr.mono h_13) rfl (aa (bj 0) bc)))
 (aq (jf 2 SC.nd (j8 D_19 hr h_19 (aa (bj 1) (aa (j8 D_16 hr h_16 (aa (bj 1) bc)) (aa az (aa az (aa (jd (aa az bc)) bc)))))))
 (aq (jf 3 SC.nd (j8 D_18 hr h_18 (aa (bj 2) bc)))
 (aq (jf 4 SC.nd (j8 D_4 hr h_4 (aa (bj 2) bc)))
 (aq (nj (PW.pt (ac3 (sy (a7w hr.u) a4o (yu M.len (aa (di (bj 4) az) bc)) (ig az (bj 3))) (a7p (sy (a7w hr.u) a4o (yu M.len (aa (di (bj 4) az) bc)) (ig az (bj 3))))))
 aht
 gm)
 (aq (jf 5 SC.nd (jd (aa (zb (jd bc)) bc)))
 (aq (zp bN rfl (a6i rfl M.range (aa az bc)) (qz (i:=6) SC.nd rfl (Or.inl rfl)) (aq (jf 7 SC.nd (zb (qe (j8 D_24 hr h_24 (aa (bj 1) (aa (bj 2) (aa az bc)))) yj (ym az))))
 (aq (a06 (i:=5) SC.nd rfl (Or.inl rfl) a0x a00 (zb (jd (aa (bj 7) (aa (j8 D_25 hr h_25 (aa (bj 1) (aa (bj 4) bc))) bc)))))
 (bx (nj (sy aex a7u (bj 3) az)
 (bx (a06 (i:=5) SC.nd rfl (Or.inl rfl) a0x a00 (zb (jd (aa (j8 D_26 hr h_26 (aa (bj 1) (aa (bj 7) (aa (bj 3) bc)))) (aa (zb (ac6 rfl (als ["_law_place"] ["_law_left","_law_many"] [1,3]) (a6i rfl M.range (aa (ig (bj 6) az) bc)) (pgn 0) adk (λ_ _ _ _=>(ig az (j8 D_14 hr h_14 (aa (bj 1) (aa (bj 2) bc))))))) bc))))))
 gm)))))
 (aq (zp bN rfl (zm (bj 5)) (qz (i:=8) SC.nd rfl (Or.inl rfl)) (bx (nj (sy (a7w hr.u) a4o (j8 D_27 hr h_27 (aa (bj 4) (aa (bj 8) bc))) (ac2 (a8t.or a3o) a8y (yu M.len (aa (bj 8) bc)) (j8 D_21 hr h_21 (aa (bj 2) (aa az (aa (bj 8) (aa az bc))))) (by with_unfolding_all rfl)))
 aht
 gm)))
 (bx (gq aal))))))))))
end
end K12
namespace SPR
structure Pt where
 w:Nat
 e:Bool
 B:Nat->Nat->Bool
 E:Nat->Nat->Bool
 F:Nat->Nat->Nat->Bool
def sw:List Pt->Nat
 |[]=>0
 |x::xs=>x.w+sw xs
def aE:List Pt->Bool
 |[]=>true
 |x::xs=>x.e && aE xs
def oE:List Pt->Bool
 |[]=>false
 |x::xs=>x.e || oE xs
def sB:List Pt->Nat->Nat->Bool
 |[],_,_=>false
 |x::xs,a,p=>x.B a p || (x.e && sB xs (a+x.w) p)
def sE:List Pt->Nat->Nat->Bool
 |[],_,_=>false
 |x::xs,a,p=>(x.E a p && aE xs) || sE xs (a+x.w) p
def sF:List Pt->Nat->Nat->Nat->Bool
 |[],_,_,_=>false
 |x::xs,a,p,q=>x.F a p q || (x.E a p && sB xs (a+x.w) q) || sF xs (a+x.w) p q
def oB:List Pt->Nat->Nat->Bool
 |[],_,_=>false
 |x::xs,a,p=>x.B a p || oB xs (a+x.w) p
def oEn:List Pt->Nat->Nat->Bool
 |[],_,_=>false
 |x::xs,a,p=>x.E a p || oEn xs (a+x.w) p
def oF:List Pt->Nat->Nat->Nat->Bool
 |[],_,_,_=>false
 |x::xs,a,p,q=>x.F a p q || oF xs (a+x.w) p q
def tE(lo:Nat):Nat->List Pt->Nat->Nat->Bool
 |_,[],_,_=>false
 |k,x::xs,a,p=>(x.E a p && (decide (lo<=k+1) || aE xs)) || tE lo (k+1) xs (a+x.w) p
def eT(lo:Nat):Nat->List Pt->Bool
 |_,[]=>true
 |k,x::xs=>decide (lo<=k) || (x.e && eT lo (k+1) xs)
def aiq:Pt:=⟨1,false,λa p=>p == a+1,λa p=>p == a+1,λ_ _ _=>false⟩
def abn(xs:List Pt):Pt:=⟨sw xs,aE xs,sB xs,sE xs,sF xs⟩
def a4h(xs:List Pt):Pt:=⟨sw xs,oE xs,oB xs,oEn xs,oF xs⟩
def ajv(x:Pt):Pt:=⟨x.w,true,x.B,x.E,λa p q=>x.F a p q || (x.E a p && x.B a q)⟩
def aqg(x:Pt)(lo hi:Nat):Pt:=⟨hi*x.w,lo == 0 || x.e,sB (List.replicate hi x),tE lo 0 (List.replicate hi x),sF (List.replicate hi x)⟩
structure Pt.Ok (x:Pt):Prop where
 b:∀a p,x.B a p=true->a<p/\p<=a+x.w
 e:∀a p,x.E a p=true->a<p/\p<=a+x.w
 f:∀a p q,x.F a p q=true->(a<p/\p<=a+x.w)/\a<q/\q<=a+x.w
theorem air:∀{xs:List Pt},(∀x∈xs,x.Ok)->∀{a p},sB xs a p=true->a<p/\p<=a+sw xs
 |[],_,_,_,h=>by cases h
 |x::xs,o,a,p,h=>by
  simp only[sB,br,bF]at h;simp only[sw]
  rcases h with h|⟨_,h⟩
  ·have:=(o x (by simp)).b a p h;omega
  ·have:=air (λy hy=>o y (by simp[hy])) h;omega
theorem av5:∀{xs:List Pt},(∀x∈xs,x.Ok)->∀{a p},sE xs a p=true->a<p/\p<=a+sw xs
 |[],_,_,_,h=>by cases h
 |x::xs,o,a,p,h=>by
  simp only[sE,br,bF]at h;simp only[sw]
  rcases h with⟨h,_⟩|h
  ·have:=(o x (by simp)).e a p h;omega
  ·have:=av5 (λy hy=>o y (by simp[hy])) h;omega
theorem aqh{lo:Nat}:∀{xs:List Pt},(∀x∈xs,x.Ok)->∀{k a p},tE lo k xs a p=true->a<p/\p<=a+sw xs
 |[],_,_,_,_,h=>by cases h
 |x::xs,o,k,a,p,h=>by
  simp only[tE,br,bF]at h;simp only[sw]
  rcases h with⟨h,_⟩|h
  ·have:=(o x (by simp)).e a p h;omega
  ·have:=aqh (λy hy=>o y (by simp[hy])) h;omega
theorem alu:∀{xs:List Pt},(∀x∈xs,x.Ok)->∀{a p q},sF xs a p q=true->(a<p/\p<=a+sw xs)/\a<q/\q<=a+sw xs
 |[],_,_,_,_,h=>by cases h
 |x::xs,o,a,p,q,h=>by
  simp only[sF,br,bF]at h;simp only[sw];have o':∀y∈xs,y.Ok:=λy hy=>o y (by simp[hy])
  rcases h with(h|⟨h,h'⟩)|h
  ·have:=(o x (by simp)).f a p q h;omega
  ·have:=(o x (by simp)).e a p h;have:=air o' h';omega
  ·have:=alu o' h;omega
theorem av6:∀{xs:List Pt},(∀x∈xs,x.Ok)->∀{a p},oB xs a p=true->a<p/\p<=a+sw xs
 |[],_,_,_,h=>by cases h
 |x::xs,o,a,p,h=>by
  simp only[oB,br]at h;simp only[sw]
  rcases h with h|h
  ·have:=(o x (by simp)).b a p h;omega
  ·have:=av6 (λy hy=>o y (by simp[hy])) h;omega
theorem anj:∀{xs:List Pt},(∀x∈xs,x.Ok)->∀{a p},oEn xs a p=true->a<p/\p<=a+sw xs
 |[],_,_,_,h=>by cases h
 |x::xs,o,a,p,h=>by
  simp only[oEn,br]at h;simp only[sw]
  rcases h with h|h
  ·have:=(o x (by simp)).e a p h;omega
  ·have:=anj (λy hy=>o y (by simp[hy])) h;omega
theorem av7:∀{xs:List Pt},(∀x∈xs,x.Ok)->∀{a p q},oF xs a p q=true->(a<p/\p<=a+sw xs)/\a<q/\q<=a+sw xs
 |[],_,_,_,_,h=>by cases h
 |x::xs,o,a,p,q,h=>by
  simp only[oF,br]at h;simp only[sw]
  rcases h with h|h
  ·have:=(o x (by simp)).f a p q h;omega
  ·have:=av7 (λy hy=>o y (by simp[hy])) h;omega
theorem ab8(x:Pt):∀n,sw (List.replicate n x)=n*x.w
 |0=>by simp[sw]
 |n+1=>by rw[aV,sw,ab8 x n,bX];omega
theorem av8:aiq.Ok:=⟨λa p h=>by simp[aiq]at h ⊢;omega,λa p h=>by simp[aiq]at h ⊢;omega,λa p q h=>by cases h⟩
theorem ank{xs:List Pt}(o:∀x∈xs,x.Ok):(abn xs).Ok:=⟨λ_ _ h=>air o h,λ_ _ h=>av5 o h,λ_ _ _ h=>alu o h⟩
theorem ais{xs:List Pt}(o:∀x∈xs,x.Ok):(a4h xs).Ok:=⟨λ_ _ h=>av6 o h,λ_ _ h=>anj o h,λ_ _ _ h=>av7 o h⟩
theorem av9{x:Pt}(o:x.Ok):(ajv x).Ok:=⟨o.b,o.e,λa p q h=>by
 simp only[ajv,br,bF]at h ⊢
 rcases h with h|⟨h1,h2⟩
 ·exact o.f a p q h
 ·exact⟨o.e a p h1,o.b a q h2⟩⟩
theorem ava{x:Pt}(o:x.Ok)(lo hi:Nat):(aqg x lo hi).Ok:=by
 have o':∀y∈List.replicate hi x,y.Ok:=λy hy=>by rw[eh hy];exact o
 have w:(aqg x lo hi).w=sw (List.replicate hi x):=(ab8 x hi).symm;exact⟨λa p h=>by rw[w];exact air o' h,λa p h=>by rw[w];exact aqh o' h,λa p q h=>by rw[w];exact alu o' h⟩
theorem a0p:∀(xs:List Pt) (x:Pt),sw (xs++[x])=sw xs+x.w
 |[],x=>by simp[sw]
 |y::xs,x=>by rw[bV,sw,sw,a0p xs x];omega
theorem ait:∀(xs:List Pt) (x:Pt),aE (xs++[x])=(aE xs && x.e)
 |[],x=>by simp[aE]
 |y::xs,x=>by rw[bV,aE,aE,ait xs x,Bool.and_assoc]
theorem anl:∀(xs:List Pt) (x:Pt),oE (xs++[x])=(oE xs || x.e)
 |[],x=>by simp[oE]
 |y::xs,x=>by rw[bV,oE,oE,anl xs x,gW]
theorem aiu:∀(xs:List Pt) (x:Pt) (a p:Nat),sB (xs++[x]) a p=(sB xs a p || (aE xs && x.B (a+sw xs) p))
 |[],x,a,p=>by simp[sB,aE,sw]
 |y::xs,x,a,p=>by
  rw[bV,sB,sB,aE,sw,aiu xs x,c9]
  cases y.B a p<;>cases y.e<;>simp
theorem anm:∀(xs:List Pt) (x:Pt) (a p:Nat),sE (xs++[x]) a p=((sE xs a p && x.e) || x.E (a+sw xs) p)
 |[],x,a,p=>by simp[sE,aE,sw]
 |y::xs,x,a,p=>by
  rw[bV,sE,sE,ait,sw,anm xs x,c9]
  cases y.E a p<;>cases aE xs<;>cases x.e<;>simp
theorem ano:∀(xs:List Pt) (x:Pt) (a p q:Nat),sF (xs++[x]) a p q=(sF xs a p q || (sE xs a p && x.B (a+sw xs) q) || x.F (a+sw xs) p q)
 |[],x,a,p,q=>by simp[sF,sE,sB,sw]
 |y::xs,x,a,p,q=>by
  rw[bV,sF,sF,sE,aiu,sw,ano xs x,c9]
  cases y.F a p q<;>cases y.E a p<;>cases aE xs<;>cases sB xs (a+y.w) q<;>cases sF xs (a+y.w) p q<;>cases sE xs (a+y.w) p<;>simp
theorem anp:∀(xs:List Pt) (x:Pt) (a p:Nat),oB (xs++[x]) a p=(oB xs a p || x.B (a+sw xs) p)
 |[],x,a,p=>by simp[oB,sw]
 |y::xs,x,a,p=>by rw[bV,oB,oB,anp xs x,sw,c9,gW]
theorem aiv:∀(xs:List Pt) (x:Pt) (a p:Nat),oEn (xs++[x]) a p=(oEn xs a p || x.E (a+sw xs) p)
 |[],x,a,p=>by simp[oEn,sw]
 |y::xs,x,a,p=>by rw[bV,oEn,oEn,aiv xs x,sw,c9,gW]
theorem anq:∀(xs:List Pt) (x:Pt) (a p q:Nat),oF (xs++[x]) a p q=(oF xs a p q || x.F (a+sw xs) p q)
 |[],x,a,p,q=>by simp[oF,sw]
 |y::xs,x,a,p,q=>by rw[bV,oF,oF,anq xs x,sw,c9,gW]
theorem aiw{x:Pt}(h:x.e=true):∀n,aE (List.replicate n x)=true
 |0=>rfl
 |n+1=>by rw[aV,aE,h,aiw h n];rfl
theorem aix{x:Pt}{lo:Nat}(h:x.e=true):∀n k,eT lo k (List.replicate n x)=true
 |0,_=>rfl
 |n+1,k=>by rw[aV,eT,h,aix h n (k+1)];simp
theorem aqi{x:Pt}{lo k n:Nat}:eT lo k (List.replicate n x)=(decide (lo<=k) || aE (List.replicate n x)):=by
 cases h:x.e with
 |true=>rw[aix h,aiw h];simp
 |false =>
  cases n with
  |zero=>simp[eT,aE]
  |succ n=>simp[aV,eT,aE,h]
theorem avb{x:Pt}{lo hi:Nat}(hl:lo<=hi):eT lo 0 (List.replicate hi x)=(lo == 0 || x.e):=by
 rw[aqi]
 cases hi with
 |zero =>
  obtain rfl:lo=0:=by omega
  simp
 |succ n =>
  cases h:x.e with
  |true=>rw[aiw h];simp
  |false=>rw[aV,aE,h];cases lo<;>simp
end SPR
namespace HND
open L2 MI
noncomputable def zx:SS :=
 (iu (m7 0 (sC (.str " !\"#$&'()*+,-./0123456789:;<=>?@ABCDEFGHIJKLMNOPQRSTUVWXYZ[\\]^_`")))
 (qg (s2 gk (sV 0) (sC (.str "abcdefghijklmnopqrstuvwxyz{|}~\n")))))
end HND
namespace MI
open L2
abbrev S(l:List Nat):Str:=⟨l.toArray⟩
theorem alv(l:List Nat):(S l).cps.toList=l:=by simp
theorem ag2(l:List Nat):(S l).length=l.length:=by simp[Str.length]
theorem aqj(x:Str):S x.cps.toList=x:=by cases x;simp
theorem ay4(a b:List Nat):S a++S b=S (a++b):=by rw[<-aqj (S a++S b),axp]
section
variable{h:Hd}{a b l:List Nat}{i:Nat}{c:Nat}
theorem azm(hl:l.length<=LINE)(e:l[i]? = some c):gIx (.str (S l)) (.int (i:Nat)) h=.ok (.str (S [c])) h:=by
 unfold gIx;simp only[ag2,aN hl,alv,wy e]
theorem alw(hl:a.length+b.length<=LINE):gk (.str (S a)) (.str (S b)) h=.ok (.str (S (a++b))) h:=by
 unfold gk;simp only[ag2,aN hl,ay4]
theorem aqk(hl:l.length<=LINE):xq [.str (S l)] h=.ok (.int l.length) h:=by
 unfold xq;simp only[ag2,aN hl]
theorem azn(k:Nat)(hl:l.length<=LINE):ace (.str (S l)) none (some (k:Int)) h=.ok (.str (S (l.take k))) h:=by
 show gSl (.str (S l)) none (some (k:Int)) h=_;unfold gSl;simp only[ag2,aN hl,alv,a6b]
theorem anr(k:Nat)(hl:l.length<=LINE):ace (.str (S l)) (some (k:Int)) none h=.ok (.str (S (l.drop k))) h:=by
 show gSl (.str (S l)) (some (k:Int)) none h=_;unfold gSl;simp only[ag2,aN hl,alv,a6c]
end
section
variable{h:Hd}{i j:Int}{xs ys:List D}
theorem a66:gIx (.tup xs) (.int i) h=(match atI xs i with|some d=>.ok d h|none=>.no):=rfl
theorem ab9:gIx (.rol xs) (.int i) h=(match atI xs i with|some d=>.ok d h|none=>.no):=rfl
theorem aba:gIx (.ref k) (.int i) h=(match a0u (.ref k) h with|some xs=>(match atI xs i with|some d=>.ok d h|none=>.no)|none=>.no):=rfl
theorem a9l:xq [.tup xs] h=.ok (.int xs.length) h:=rfl
theorem a4r:xq [.rol xs] h=.ok (.int xs.length) h:=rfl
theorem a73:xq [.ref k] h=(match a0u (.ref k) h with|some xs=>.ok (.int xs.length) h|none=>.no):=rfl
theorem a1k:gk (.int i) (.int j) h=.ok (.int (i+j)) h:=rfl
theorem a4s:yz (.int i) (.int j) h=.ok (.int (i+j)) h:=rfl
open Classical in
theorem a3e:yq (.int i) (.int j) h=if CMul i j then .ok (.int (i*j)) h else .no:=by unfold yq;rfl
theorem tu(b:Bool):tru (.bl b) h=.ok b h:=rfl
theorem a9m:tru (.int i) h=.ok (i != 0) h:=rfl
theorem a9n:tru (.rol xs) h=.ok (!xs.isEmpty) h:=rfl
theorem a9o:tru (.tup xs) h=.ok (!xs.isEmpty) h:=rfl
theorem a9p:tru .non h=.ok false h:=rfl
theorem ag3:hEq (.int i) (.int j) h=.ok (.bl (i == j)) h:=rfl
theorem ag4:hNe (.int i) (.int j) h=.ok (.bl (!(i == j))) h:=rfl
theorem avc(a b:Str):hEq (.str a) (.str b) h=.ok (.bl (a == b)) h:=rfl
theorem avd(a b:Str):hNe (.str a) (.str b) h=.ok (.bl (!(a == b))) h:=rfl
theorem alx(a b:Bool):hEq (.bl a) (.bl b) h=.ok (.bl (a == b)) h:=rfl
theorem aly(a b:Bool):hNe (.bl a) (.bl b) h=.ok (.bl (!(a == b))) h:=rfl
theorem ae9(x:D):gIs x .non h=.ok (.bl (aar x)) h:=by cases x<;>rfl
theorem a4b(x:D):an2 x .non h=.ok (.bl (!aar x)) h:=by cases x<;>rfl
theorem alz(a b:Bool):gIs (.bl a) (.bl b) h=.ok (.bl (a == b)) h:=rfl
theorem a5u(a b:Bool):an2 (.bl a) (.bl b) h=.ok (.bl (a != b)) h:=rfl
theorem awl:aar (.int i)=false:=rfl
theorem awm(x:Str):aar (.str x)=false:=rfl
theorem awn:aar .non=true:=rfl
theorem awo:aar (.tup xs)=false:=rfl
end
end MI
namespace HND
open L2 MI AT
def awp:Str := " !\"#$&'()*+,-./0123456789:;<=>?@ABCDEFGHIJKLMNOPQRSTUVWXYZ[\\]^_`"
def awq:Str := "abcdefghijklmnopqrstuvwxyz{|}~\n"
def sig:List Nat:=awp.cps.toList++awq.cps.toList
theorem aql:sig.length=95:=by decide +kernel
theorem ave:sig.Nodup:=by decide +kernel
noncomputable def jw:SF:=nq zx 1
theorem lits{h:Hd}:gk (.str awp) (.str awq) h=.ok (.str (S sig)) h:=by
 rw[<-aqj awp,<-aqj awq,alw (by decide +kernel)]
 rfl
theorem a9q:Pu jw 0 [] (.str (S sig)):=by
 refine Pu.of rfl (by simp) (r:=.ok (.str (S sig)) []) ?_ (by rw[jr (du _) (by simp)];rfl) (du _)
 unfold jw;rw[iw];unfold zx;have e:=@lits [];unfold awp awq at e;show toR (iu (m7 0 _) _ [none] [])=_;simp only[xg,m7,sC,a2x,a5d,qg,s2,sV,List.set_cons_zero,gU,dj,e,aax]
structure Tongue (l:List Nat):Prop where
 lo:1<=l.length
 hi:l.length<=6
 nd:l.Nodup
 sub:∀c∈l,c∈sig
theorem abb(a r:List Nat)(i:Nat)(c:Nat)(e:r[i]? = some c):List.Perm (a++r) ((a++[c])++(r.take i++r.drop (i+1))):=by
 obtain⟨hi,e⟩:=av.mp e;have:r=r.take i++c::r.drop (i+1):=by rw[<-e];simp
 rw[cJ];refine List.Perm.append_left a ?_;rw[List.singleton_append]
 conv=>lhs;rw[this]
 exact List.perm_middle
end HND
namespace MI
open L2
theorem ay5(n:Nat):rng 0 n=(List.range n).map λi:Nat=>D.int (i:Nat):=by
 unfold rng;exact eB λi _=>by rw[Int.zero_add]
theorem ay6(a:Int)(n:Nat):rng a n=(List.range n).map λi:Nat=>D.int (a+(i:Nat)):=rfl
theorem acs(h:n<=LINE):B62 (n:Int):=by
 have:n<=16777216:=h
 unfold B62;omega
theorem aea(h:Hd)(z:n<=LINE):a2w [.int (n:Nat)] h=.ok ⟨(List.range n).map λi:Nat=>D.int (i:Nat),λ_=>True⟩ h:=by
 unfold a2w;simp only[acs z,dI,dC,ay5]
theorem avf(h:Hd)(za:a<=LINE)(z:n<=LINE):aao [.int (a:Nat),.int (n:Nat)] h=.ok ⟨(List.range (n-a)).map λi:Nat=>D.int ((a+i:Nat)),λ_=>True⟩ h:=by
 unfold aao;simp only[acs z,acs za,and_self,dI,ay6];rw[show((n:Int)-(a:Int)).toNat=n-a by omega]
 congr 2
theorem ay7(e:f τ h=.ok d h):aj f cu τ h=.ok [d] h:=by unfold aj cu;rw[e];rfl
theorem ay8(e:f τ h=.ok c h)(e':g τ h=.ok d h):aj f (aj g cu) τ h=.ok [c,d] h:=by unfold aj;rw[e,dj,e',dj];rfl
theorem aqm(e:f τ h=.ok (.int (n:Nat)) h)(z:n<=LINE):sRg a2w (aj f cu) τ h=.ok ⟨(List.range n).map λi:Nat=>D.int (i:Nat),λ_=>True⟩ h:=by
 unfold sRg;rw[ay7 e,dj];exact aea h z
theorem aqn(e':g τ h=.ok (.int (a:Nat)) h)(e:f τ h=.ok (.int (n:Nat)) h)(za:a<=LINE)(z:n<=LINE):sRg aao (aj g (aj f cu)) τ h=.ok ⟨(List.range (n-a)).map λi:Nat=>D.int ((a+i:Nat)),λ_=>True⟩ h:=by
 unfold sRg;rw[ay8 e' e,dj];exact avf h za z
theorem bz(e:τ[i]? = some (some d)):sV i τ h=.ok d h:=by unfold sV;rw[e]
theorem a74{fi:SI}{t:D->Option Sd}{fe:SE}{ix:List Nat}{τ:Sd}{h:Hd}{α:Type}(g F:α->D)(xs:List α)(e:fi τ h=.ok ⟨xs.map g,λ_=>True⟩ h)(z:xs.length<=LINE)
  (st:∀x∈xs,a8w t fe (frs' ix τ) (g x) h=.ok (F x) h):a1v fi t fe ix τ h=.ok (.ref h.length) (h++[.lst (xs.map F)]):=by
 unfold a1v;rw[e,dj];dsimp only;rw[aN (by rw[ah];exact z),aay g F st]
 rfl
theorem aiy{fi:SI}{t:D->Option Sd}{c:ST}{fe:SE}{ix:List Nat}{τ:Sd}{h:Hd}{α:Type}(g:α->D)(F:α->Option D)(xs:List α)(e:fi τ h=.ok ⟨xs.map g,λ_=>True⟩ h)(z:xs.length<=LINE)
  (st:∀x∈xs,ac4 t c fe (frs' ix τ) (g x) h=.ok (F x) h):aap fi t c fe ix τ h=.ok (.ref h.length) (h++[.lst (xs.filterMap F)]):=by
 unfold aap;rw[e,dj];dsimp only;rw[aN (by rw[ah];exact z),aaz g F st]
 rfl
theorem a9r(fe:SE)(r:Sd)(x:D)(h:Hd):a8w t1 fe r x h=fe (some x::r) h:=rfl
section
variable{f k f1 f2 f3:SE}{c c1 c2:ST}{g p q:SS}{τ τ1:Sd}{h h1 h2 h3 h4:Hd}{a b d v:D}{i:Nat}{t u:Bool}
theorem aa5(d:D)(τ:Sd)(h:Hd):sC d τ h=.ok d h:=rfl
theorem aiz(e3:G [] h=.ok v h1):sA G cu τ h=.ok v h1:=e3
theorem qd(e1:f τ h=.ok a h1)(e3:G [a] h1=.ok v h2):sA G (aj f cu) τ h=.ok v h2:=by
 have:aj f cu τ h=.ok [a] h1:=by unfold aj;rw[e1];rfl
 unfold sA;rw[this,dj,e3]
theorem a0e(e1:f τ h=.ok a h1)(e2:k τ h1=.ok b h2)(e3:G [a,b] h2=.ok v h3):sA G (aj f (aj k cu)) τ h=.ok v h3:=by
 have:aj f (aj k cu) τ h=.ok [a,b] h2:=by unfold aj;rw[e1,dj,e2];rfl
 unfold sA;rw[this,dj,e3]
theorem ay9(e0:f1 τ h=.ok d h1)(e1:f τ h1=.ok a h2)(e2:k τ h2=.ok b h3)(e3:G [d,a,b] h3=.ok v h4):sA G (aj f1 (aj f (aj k cu))) τ h=.ok v h4:=by
 have:aj f1 (aj f (aj k cu)) τ h=.ok [d,a,b] h3:=by unfold aj;rw[e0,dj,e1,dj,e2];rfl
 unfold sA;rw[this,dj,e3]
theorem jk(e:f τ h=.ok d h1):iu (m7 i f) g τ h=g (τ.set i (some d)) h1:=by
 rw[xg];unfold m7;rw[e];rfl
theorem ant(e:f τ h=.ok d h1):m7 i f τ h=.nx (τ.set i (some d)) h1:=by
 unfold m7;rw[e];rfl
theorem um(e:p τ h=.nx τ1 h1):iu p g τ h=g τ1 h1:=by rw[xg,e];rfl
theorem v6(e:p τ h=.rt d h1):iu p g τ h=.rt d h1:=by rw[xg,e];rfl
theorem ifT(e:c τ h=.ok true h1):sIf c p q τ h=p τ h1:=by unfold sIf;rw[e];rfl
theorem ifF(e:c τ h=.ok false h1):sIf c p q τ h=q τ h1:=by unfold sIf;rw[e];rfl
theorem ifN(e:c τ h=.ok false h1):iu (sIf c p sNx) g τ h=g τ h1:=by rw[xg,ifF e];rfl
theorem tof(e:f τ h=.ok (.bl t) h1):sT f τ h=.ok t h1:=by unfold sT;rw[e];rfl
theorem a1d(e:f τ h=.ok d h1)(e':tru d h1=.ok t h2):ah4 f τ h=.ok t h2:=by unfold ah4;rw[e,dj,e']
theorem a4c(e:c1 τ h=.ok true h1)(e':c2 τ h1=.ok t h2):a7o c1 c2 τ h=.ok t h2:=by unfold a7o;rw[e,dj,aN rfl,e']
theorem a7b(e:c1 τ h=.ok false h1):a7o c1 c2 τ h=.ok false h1:=by unfold a7o;rw[e,dj,bp (by simp)]
theorem orT(e:c1 τ h=.ok true h1):sOr c1 c2 τ h=.ok true h1:=by unfold sOr;rw[e,dj,aN rfl]
theorem orF(e:c1 τ h=.ok false h1)(e':c2 τ h1=.ok t h2):sOr c1 c2 τ h=.ok t h2:=by unfold sOr;rw[e,dj,bp (by simp),e']
theorem avh(e:c τ h=.ok t h1):amt c τ h=.ok (!t) h1:=by unfold amt;rw[e];rfl
theorem abo(e:c τ h=.ok true h1):amt c τ h=.ok false h1:=avh e
theorem abp(e:c τ h=.ok false h1):amt c τ h=.ok true h1:=avh e
theorem m9(e:f τ h=.ok d h1):qg f τ h=.rt d h1:=by unfold qg;rw[e];rfl
theorem avi(e:f τ h=.ok (.bl true) h1)(e':k τ h1=.ok d h2):a6g f k τ h=.ok d h2:=by unfold a6g;rw[e,dj];exact e'
theorem a4d(e1:f τ h=.ok d h1)(l:isL d h1=true)(e2:A τ h1=.ok ds h2)(e3:G d ds h2=.ok v h3):a0j (sML G f A) τ h=.nx τ h3:=by
 unfold a0j sML;rw[e1,dj,aN l,e2,dj,e3];rfl
theorem arg1(e:f τ h=.ok d h1):aj f cu τ h=.ok [d] h1:=by unfold aj cu;rw[e];rfl
theorem nu(e1:f τ h=.ok a h1)(e2:k τ h1=.ok b h2)(e3:G a b h2=.ok v h3):s2 G f k τ h=.ok v h3:=by
 unfold s2;rw[e1,dj,e2,dj,e3]
theorem qu(e:τ[i]? = some (some a))(e3:G a d h=.ok v h3):s2 G (sV i) (sC d) τ h=.ok v h3:=nu (bz e) (aa5 _ _ _) e3
theorem ckk:sC d τ h=.ok d h:=rfl
theorem tvc(e:τ[i]? = some (some a))(e3:G a d h=.ok (.bl t) h3):sT (s2 G (sV i) (sC d)) τ h=.ok t h3:=tof (nu (bz e) (aa5 _ _ _) e3)
theorem t2s(e1:f τ h=.ok a h1)(e2:k τ h1=.ok b h2)(e3:G a b h2=.ok (.bl t) h3):sT (s2 G f k) τ h=.ok t h3:=tof (nu e1 e2 e3)
theorem ifr(e:c τ h=.ok true h1)(e2:f τ h1=.ok d h2):sIf c (qg f) q τ h=.rt d h2:=aR (ifT e) (m9 e2)
theorem ets{rr:R D}(e:f τ h=.ok d h1)(e2:toR (g (τ.set i (some d)) h1)=rr):toR (iu (m7 i f) g τ h)=rr:=by rw[jk e,e2]
theorem eti{rr:R D}(e:c τ h=.ok false h1)(e2:toR (g τ h1)=rr):toR (iu (sIf c p sNx) g τ h)=rr:=by rw[ifN e,e2]
theorem etr{fa fb:Fl}{rr:R D}(e:fa=fb)(e2:toR fb=rr):toR fa=rr:=by rw[e,e2]
theorem uv(e1:f τ h=.ok a h1)(e3:G a h1=.ok v h2):s1 G f τ h=.ok v h2:=by
 unfold s1;rw[e1,dj,e3]
theorem a2d(ht:τ[i]? = some (some a))(e:f τ h=.ok b h1)(e2:G a b h1=.ok d h2):a4g i G f τ h=.nx (τ.set i (some d)) h2:=by
 unfold a4g;rw[ht];dsimp only;rw[e,a2x,e2];rfl
theorem avj(e1:f1 τ h=.ok v h1)(e2:f2 τ h1=.ok a h2)(e3:f3 τ h2=.ok b h3)(e4:put a b v h3=some h4):afb f1 f2 f3 τ h=.nx τ h4:=by
 unfold afb;rw[e1,a2x,e2,a2x,e3,a2x,e4]
theorem a2e{fi:SI}{G:SG}{b:SS}{xs:List D}{ck:Hd->Prop}(e:fi τ h=.ok ⟨xs,ck⟩ h1):iu (a7f fi G b) g τ h=thn (forL ck G b xs τ h1) g:=by
 rw[xg];unfold a7f;rw[e];rfl
theorem acu(e:f τ h=.ok d h1)(e2:ajs d h1=.ok ⟨xs,ck⟩ h1):sIt f τ h=.ok ⟨xs,ck⟩ h1:=by
 unfold sIt;rw[e,dj,e2]
theorem abd(e:h[i]? = some (.lst xs))(z:xs.length<LINE):afd (.ref i) [a] h=.ok .non (h.set i (.lst (xs++[a]))):=by
 unfold afd;simp only[e,aN z]
theorem a85(e:h[i]? = some (.lst xs))(hj:xs[j]? = some y):gIx (.ref i) (.int (j:Nat)) h=.ok y h:=by
 rw[aba];unfold a0u;simp only[e,wy hj]
theorem avk(hj:xs[j]? = some y):gIx (.rol xs) (.int (j:Nat)) h=.ok y h:=by
 rw[ab9];simp only[wy hj]
theorem a9s(hj:xs[j]? = some y):gIx (.tup xs) (.int (j:Nat)) h=.ok y h:=by
 rw[a66];simp only[wy hj]
theorem aj0(e:h[i]? = some (.lst xs)):xq [.ref i] h=.ok (.int (xs.length:Nat)) h:=by
 rw[a73];unfold a0u;simp only[e]
theorem aqo(e:h[i]? = some (.lst xs)):wu [.ref i] h=.ok (.tup xs) h:=by
 unfold wu a0u;simp only[e]
theorem div_ii(c:0<y/\y<1073741824):a5m (.int x) (.int y) h=.ok (.int (x / y)) h:=by unfold a5m;exact aN c
theorem a86(c:0<y):a4z (.int x) (.int y) h=.ok (.int (x%y)) h:=by unfold a4z;exact aN c
theorem a87(c:y<x):gGt (.int x) (.int y) h=.ok (.bl true) h:=by unfold gGt;simp only[c,decide_true]
theorem a9t(c:¬ y<x):gGt (.int x) (.int y) h=.ok (.bl false) h:=by unfold gGt;simp only[c,decide_false]
theorem a7c(c:x<y):gLt (.int x) (.int y) h=.ok (.bl true) h:=by unfold gLt;simp only[c,decide_true]
theorem a7d(c:¬ x<y):gLt (.int x) (.int y) h=.ok (.bl false) h:=by unfold gLt;simp only[c,decide_false]
theorem zg(c:x=y):hEq (.int x) (.int y) h=.ok (.bl true) h:=by rw[ag3,c,fM]
theorem zj(c:¬ x=y):hEq (.int x) (.int y) h=.ok (.bl false) h:=by rw[ag3,cb.mpr c]
theorem a1m(c:x=y):hNe (.int x) (.int y) h=.ok (.bl false) h:=by rw[ag4,c,fM];rfl
theorem a2y(c:¬ x=y):hNe (.int x) (.int y) h=.ok (.bl true) h:=by rw[ag4,cb.mpr c];rfl
theorem a1e(x:Int):ap7 (.int x) h=.ok (.int (-x)) h:=rfl
theorem uy(x y:Int):MI.a8k (.int x) (.int y) h=.ok (.int (x-y)) h:=rfl
theorem j5(h:n<=1000000):n<=LINE:=by show n<=16777216;omega
theorem aj1(h:n<=1000000):n<LINE:=by show n<16777216;omega
theorem a4e:MI.yg [a,b] h=.ok (.tup [a,b]) h:=by unfold MI.yg;rw[aN (j5 (by simp))]
theorem abe:MI.yg [a,b,v] h=.ok (.tup [a,b,v]) h:=by unfold MI.yg;rw[aN (j5 (by simp))]
end
end MI
namespace SRC
open L2 MI AT
structure Src (o:O) (N:Nat):Prop where
 ex:∃(cells:List Int) (a l c s:Int),o=.lst [.rol (cells.map D.int),.int a,.int l,.int c,.int s]/\0<=a/\0<=l/\0<=s/\s<2147483647/\0<=c/\c<=N
theorem Src.clo(P:Src o N):vg 0 o:=by
 obtain⟨cells,a,l,c,s,rfl,_⟩:=P.ex;exact bu (ik (dg λx _=>c7 x)) (bu (c7 _) (bu (c7 _) (bu (c7 _) (bu (c7 _) fu))))
theorem Src.up(P:Src o N)(h:N<=M):Src o M:=by
 obtain⟨cells,a,l,c,s,e,h1,h2,h3,h4,h5,h6⟩:=P.ex;exact⟨cells,a,l,c,s,e,h1,h2,h3,h4,h5,by omega⟩
noncomputable def ak:SF:=nq a2q 4
abbrev so(cells:List Int)(a l c s:Int):O:=.lst [.rol (cells.map D.int),.int a,.int l,.int c,.int s]
theorem aeb(e:h[i]? = some (.lst xs))(hj:xs[j]? = some y):aju (.ref i) (.int (j:Nat)) h=.ok y h:=by
 unfold aju;simp only[e,wy hj]
theorem awr(e1:fo τ h=.ok o h)(e2:fi τ h=.ok i h)(e3:aju o i h=.ok x h)(e4:fe τ h=.ok y h)(e5:G x y h=.ok z h)(e6:put o i z h=some h'):a1x G fo fi fe τ h=.nx τ h':=by
 unfold a1x;rw[e1,a2x,e2,a2x,e3,a2x,e4,a2x,e5,a2x,e6]
theorem b15(c:y<=x):gGe (.int x) (.int y) h=.ok (.bl true) h:=by show R.ok (D.bl (decide (y<=x))) h=_;rw[cV c]
theorem b16(c:¬ y<=x):gGe (.int x) (.int y) h=.ok (.bl false) h:=by show R.ok (D.bl (decide (y<=x))) h=_;rw[bA c]
theorem aj2(P:Src o N)(hN:N<=1000000000)(m0:0<m)(m1:m<1073741824):∃r o',ak [.ref 0,.int m] [o]=.ok (.int r) [o']/\0<=r/\r<m/\Src o' (N+1):=by
 obtain⟨cells,a,l,c,s,rfl,a0,l0,s0,s1,c0,c1⟩:=P.ex;unfold ak;rw[iw];show ∃r o',toR (a2q [some (.ref 0),some (.int m),none,none] [so cells a l c s])=_/\_;unfold a2q;have last:∀s':Int,0<=s'->s'<2147483647->∃r q,0<=r/\r<m/\(s'+1+(c+1)*7919)^(3:Int).toNat%2147483647=q/\(q*48271+(c+1))^(2:Int).toNat%2147483629 / 64%m=r/\CMul (c+1) 7919/\CMul q 48271 /\
   (∀h,a7s (.int (s'+1+(c+1)*7919)) (.int 3) h=.ok (.int ((s'+1+(c+1)*7919)^(3:Int).toNat)) h)/\∀h,a7s (.int (q*48271+(c+1))) (.int 2) h=.ok (.int ((q*48271+(c+1))^(2:Int).toNat)) h:=λs' h0 h1=>by
  have q0:0<=(s'+1+(c+1)*7919)^(3:Int).toNat%2147483647:=eK _ (by decide)
  have q1:(s'+1+(c+1)*7919)^(3:Int).toNat%2147483647<2147483647:=dQ _ (by decide)
  refine⟨_,_,eK _ (by omega),dQ _ m0,rfl,rfl,.inr ⟨by decide,by decide⟩,.inr ⟨by decide,by decide⟩,λh=>au4 ⟨by decide,by decide,by omega⟩,λh=>au4 ⟨by decide,by decide,?_⟩⟩
  generalize (s'+1+(c+1)*7919)^(3:Int).toNat%2147483647=q at q0 q1
  omega
 have x0:∀{a l c s:Int},gIx (.ref 0) (.int 0) [so cells a l c s]=.ok (.rol (cells.map D.int)) [so cells a l c s]:=λ{a l c s}=>a85 (j:=0) rfl rfl;have x1:∀{a l c s:Int},gIx (.ref 0) (.int 1) [so cells a l c s]=.ok (.int a) [so cells a l c s]:=λ{a l c s}=>a85 (j:=1) rfl rfl;have x2:∀{a l c s:Int},gIx (.ref 0) (.int 2) [so cells a l c s]=.ok (.int l) [so cells a l c s]:=λ{a l c s}=>a85 (j:=2) rfl rfl;have x3:∀{a l c s:Int},gIx (.ref 0) (.int 3) [so cells a l c s]=.ok (.int c) [so cells a l c s]:=λ{a l c s}=>a85 (j:=3) rfl rfl
 have x4:∀{a l c s:Int},gIx (.ref 0) (.int 4) [so cells a l c s]=.ok (.int s) [so cells a l c s]:=λ{a l c s}=>a85 (j:=4) rfl rfl;have u3:∀{a l c s:Int} {τ:Sd},τ[0]? = some (some (.ref 0))->a1x yz (sV 0) (sI 3) (sI 1) τ [so cells a l c s]=.nx τ [so cells a l (c+1) s]:=λ{a l c s τ} h0=>awr (bz h0) ckk (aeb (j:=3) rfl rfl) ckk a4s rfl;have u1:∀{a l c s:Int} {τ:Sd},τ[0]? = some (some (.ref 0))->a1x yz (sV 0) (sI 1) (sI 1) τ [so cells a l c s]=.nx τ [so cells (a+1) l c s]:=λ{a l c s τ} h0=>awr (bz h0) ckk (aeb (j:=1) rfl rfl) ckk a4s rfl
 have p18:∀{h:Hd},a7s (.int 10) (.int 18) h=.ok (.int 1000000000000000000) h:=λ{h}=>p18 h;have e1:∀{a l c s:Int} {t2:Option D},0<l->toR (iu (sIf (sT (s2 gGt (s2 gIx (sV 0) (sI 2)) (sI 0))) (iu (m7 3 (s2 a4z (s2 gIx (sV 0) (sI 2)) (sV 1))) (iu (a1x a5m (sV 0) (sI 2) (sV 1)) (qg (sV 3)))) sNx) (iu (m7 3 (s2 a4z (s2 a7s (s2 gk (s2 gk (s2 gIx (sV 0) (sI 4)) (sI 1)) (s2 yq (s2 gIx (sV 0) (sI 3)) (sI 7919))) (sI 3)) (sI 2147483647))) (qg (s2 a4z (s2 a5m (s2 a4z (s2 a7s (s2 gk (s2 yq (sV 3) (sI 48271)) (s2 gIx (sV 0) (sI 3))) (sI 2)) (sI 2147483629)) (sI 64)) (sV 1)))) [some (.ref 0),some (.int m),t2,none] [so cells a l c s])=.ok (.int (l%m)) [so cells a (l / m) c s]:=λ{a l c s t2} hl=>by
  refine aK toR (v6 (aR (ifT (t2s (qu rfl x2) ckk (a87 hl))) ?_));refine aR (jk (nu (qu rfl x2) (bz rfl) (a86 m0))) ?_;refine aR (um (awr (bz rfl) ckk (aeb (j:=2) rfl rfl) (bz rfl) (div_ii ⟨m0,m1⟩) rfl)) ?_;exact m9 (bz rfl)
 have e2:∀{a s':Int} {t2:Option D},0<=s'->s'<2147483647->∃r,0<=r/\r<m/\toR (iu (sIf (sT (s2 gGt (s2 gIx (sV 0) (sI 2)) (sI 0))) (iu (m7 3 (s2 a4z (s2 gIx (sV 0) (sI 2)) (sV 1))) (iu (a1x a5m (sV 0) (sI 2) (sV 1)) (qg (sV 3)))) sNx) (iu (m7 3 (s2 a4z (s2 a7s (s2 gk (s2 gk (s2 gIx (sV 0) (sI 4)) (sI 1)) (s2 yq (s2 gIx (sV 0) (sI 3)) (sI 7919))) (sI 3)) (sI 2147483647))) (qg (s2 a4z (s2 a5m (s2 a4z (s2 a7s (s2 gk (s2 yq (sV 3) (sI 48271)) (s2 gIx (sV 0) (sI 3))) (sI 2)) (sI 2147483629)) (sI 64)) (sV 1)))) [some (.ref 0),some (.int m),t2,none] [so cells a 0 (c+1) s'])=.ok (.int r) [so cells a 0 (c+1) s']:=λ{a s' t2} h0 h1=>by
  obtain⟨r,q,r0,r1,eq,er,d1,d2,d3,d4⟩:=last s' h0 h1;refine⟨r,r0,r1,?_⟩;refine eti (t2s (qu rfl x2) ckk (a9t (by omega))) ?_
  refine ets (nu (nu (nu (nu (qu rfl x4) ckk a1k) (nu (qu rfl x3) ckk (a3e.trans (aN d1))) a1k) ckk (d3 _)) ckk (a86 (by decide))) ?_
  rw[eq];refine etr (m9 (nu (nu (nu (nu (nu (qu rfl (a3e.trans (aN d2))) (qu rfl x3) a1k) ckk (d4 _)) ckk (a86 (by decide))) ckk (div_ii ⟨by decide,by decide⟩)) (bz rfl) (a86 m0))) ?_
  rw[er];rfl
 by_cases hA:l=0/\a<(cells.length:Int)
 ·obtain⟨rfl,ha⟩:=hA;obtain⟨j,rfl⟩:=fv a0;have hj:j<cells.length:=by omega
  have gx:∀{h:Hd},gIx (.rol (cells.map D.int)) (.int (j:Nat)) h=.ok (.int cells[j]) h:=λ{h}=>avk (by rw[bJ,ai hj];rfl)
  have tt:∀{c s:Int} {t2 t3:Option D},a7o (sT (s2 hEq (s2 gIx (sV 0) (sI 2)) (sI 0))) (sT (s2 gLt (s2 gIx (sV 0) (sI 1)) (sA xq (aj (s2 gIx (sV 0) (sI 0)) cu)))) [some (.ref 0),some (.int m),t2,t3] [so cells (j:Nat) 0 c s]=.ok true [so cells (j:Nat) 0 c s]:=λ{c s t2 t3} =>
   a4c (t2s (qu rfl x2) ckk (zg rfl)) (t2s (qu rfl x1) (qd (qu rfl x0) (a4r.trans (by rw[ah]))) (a7c ha))
  have s2':0<=(s*31+cells[j])%2147483647:=eK _ (by decide)
  have s3:(s*31+cells[j])%2147483647<2147483647:=dQ _ (by decide)
  have go:∀{o':O} {g:SS},sIf (sT (s2 gGe (sV 2) (s2 a7s (sI 10) (sI 18)))) (afb (sV 2) (sV 0) (sI 2)) (afb (s2 a4z (s2 gk (s2 yq (s2 gIx (sV 0) (sI 4)) (sI 31)) (sV 2)) (sI 2147483647)) (sV 0) (sI 4)) [some (.ref 0),some (.int m),some (.int cells[j]),none] [so cells ((j:Nat)+1) 0 (c+1) s]=.nx [some (.ref 0),some (.int m),some (.int cells[j]),none] [o']->
    toR (iu (a1x yz (sV 0) (sI 3) (sI 1)) (iu (sIf (a7o (sT (s2 hEq (s2 gIx (sV 0) (sI 2)) (sI 0))) (sT (s2 gLt (s2 gIx (sV 0) (sI 1)) (sA xq (aj (s2 gIx (sV 0) (sI 0)) cu))))) (iu (m7 2 (s2 gIx (s2 gIx (sV 0) (sI 0)) (s2 gIx (sV 0) (sI 1)))) (iu (a1x yz (sV 0) (sI 1) (sI 1)) (sIf (sT (s2 gGe (sV 2) (s2 a7s (sI 10) (sI 18)))) (afb (sV 2) (sV 0) (sI 2)) (afb (s2 a4z (s2 gk (s2 yq (s2 gIx (sV 0) (sI 4)) (sI 31)) (sV 2)) (sI 2147483647)) (sV 0) (sI 4))))) sNx) g) [some (.ref 0),some (.int m),none,none] [so cells (j:Nat) 0 c s])=toR (g [some (.ref 0),some (.int m),some (.int cells[j]),none] [o']):=λ{o' g} e=>by
   refine etr (um (u3 rfl)) ?_;refine aK toR (um (aR (ifT tt) ?_));refine aR (jk (nu (qu rfl x0) (qu rfl x1) gx)) ?_;exact aR (um (u1 rfl)) e
  generalize cells[j]=x at *
  by_cases hB:(1000000000000000000:Int)<=x
  ·refine⟨x%m,_,(go (o':=so cells ((j:Nat)+1) x (c+1) s) (aR (ifT (t2s (bz rfl) (nu ckk ckk p18) (b15 hB))) (avj (bz rfl) (bz rfl) ckk rfl))).trans (e1 (by omega)),eK _ (by omega),dQ _ m0,⟨cells,(j:Int)+1,x / m,c+1,s,rfl,by omega,Int.ediv_nonneg (by omega) (by omega),s0,s1,by omega,by omega⟩⟩
  ·obtain⟨r,r0,r1,e⟩:=e2 (a:=(j:Nat)+1) (t2:=some (.int x)) s2' s3;exact⟨r,_,(go (o':=so cells ((j:Nat)+1) 0 (c+1) ((s*31+x)%2147483647)) (aR (ifF (t2s (bz rfl) (nu ckk ckk p18) (b16 hB))) (avj (nu (nu (nu (qu rfl x4) ckk (a3e.trans (aN (.inr ⟨by decide,by decide⟩)))) (bz rfl) a1k) ckk (a86 (by decide))) (bz rfl) ckk rfl))).trans e,r0,r1,⟨cells,(j:Int)+1,0,c+1,_,rfl,by omega,by omega,s2',s3,by omega,by omega⟩⟩
 ·have tt:a7o (sT (s2 hEq (s2 gIx (sV 0) (sI 2)) (sI 0))) (sT (s2 gLt (s2 gIx (sV 0) (sI 1)) (sA xq (aj (s2 gIx (sV 0) (sI 0)) cu)))) [some (.ref 0),some (.int m),none,none] [so cells a l (c+1) s]=.ok false [so cells a l (c+1) s]:=by
   by_cases hl:l=0
   ·exact a4c (t2s (qu rfl x2) ckk (zg hl)) (t2s (qu rfl x1) (qd (qu rfl x0) (a4r.trans (by rw[ah]))) (a7d λz=>hA ⟨hl,z⟩))
   ·exact a7b (t2s (qu rfl x2) ckk (zj hl))
  by_cases hC:0<l
  ·exact⟨l%m,_,(aK toR (um (u3 rfl))).trans ((aK toR (ifN tt)).trans (e1 hC)),eK _ (by omega),dQ _ m0,⟨cells,a,l / m,c+1,s,rfl,a0,Int.ediv_nonneg (by omega) (by omega),s0,s1,by omega,by omega⟩⟩
  ·have:l=0:=by omega
   subst this;obtain⟨r,r0,r1,e⟩:=e2 (a:=a) (t2:=none) s0 s1;exact⟨r,_,(aK toR (um (u3 rfl))).trans ((aK toR (ifN tt)).trans e),r0,r1,⟨cells,a,0,c+1,s,rfl,a0,by omega,s0,s1,by omega,by omega⟩⟩
theorem acv(P:Src o N)(hN:N<=1000000000)(m0:0<m)(m1:m<1073741824):∃r o',Dr ak 2 [.int m] o (.int r) o'/\0<=r/\r<m/\Src o' (N+1):=by
 obtain⟨r,o',e,r0,r1,P'⟩:=aj2 P hN m0 m1;refine⟨r,o',Dr.of rfl (by simp[c7]) P.clo e (jr (c7 _) ?_) (c7 _) P'.clo,r0,r1,P'⟩
 intro u hu
 simp at hu
 subst hu;exact a1y (by omega) P'.clo
end SRC
namespace EVX
open L2 MI
section
variable{i:Nat}{cs:Str->Bool}{fb fs p g:SS}{τ τ1 τ2:Sd}{h h1 h2:Hd}{c:Str}{f:SE}{ka:SA}{ds:List D}{F:SF}{n:Nat}
theorem u5(e:f τ h=.ok d h1)(e2:ka τ h1=.ok ds h2):aj f ka τ h=.ok (d::ds) h2:=by
 unfold aj;rw[e,dj,e2];rfl
theorem a1f:MI.yg [a] h=.ok (.tup [a]) h:=by unfold MI.yg;rw[aN (j5 (by simp))]
theorem a2f:MI.yg [] h=.ok (.tup []) h:=by unfold MI.yg;rw[aN (j5 (by simp))]
theorem ju:sZ apd τ []=.ok (.rod [] []) []:=by
 unfold sZ;show a7x 0 (.ok (.ref 0) [.dK []])=_;refine a3i (h1:=[.dK []]) ?_ (by simp)
 unfold FU a1l;rw[bp (by simp only[MI.clo];omega)]
 rfl
end
end EVX
namespace SRC
open L2 MI AT HND EVX
noncomputable def gh:SF:=nq a08 2
theorem ints_map:∀l:List Int,a4n (l.map D.int)=some l
 |[]=>rfl
 |a::l=>by rw[bH];simp only[a4n,ints_map l,Option.map_some]
theorem b17(e:k τ h=.ok ds h1)(eg:g ds h1=.ok d h2):sA g k τ h=.ok d h2:=by
 unfold sA;rw[e,dj,eg]
def cell(x:Int):Int:=2*az5 x+(if decide (x<0)=true then 1 else 0)
theorem aj3(ns:List Int)(h:Hd):∃o,Src o 0/\jh true 1 gh [.scr (ns.map D.int)] h=.ok (.ref h.length) (h++[o]):=by
 have cl:clos 0 ((ns.take 63).map D.int):=dg λx _=>c7 x;have z1:sZ (a5a (sV 0) oN (oS (sI 63))) [some (.scr (ns.map D.int)),none] []=.ok (.rol ((ns.take 63).map D.int)) []:=by
  refine al2 (by
   show gSl (.scr (ns.map D.int)) none (some ((63:Nat):Int)) []=_;unfold gSl;simp only[a6b,ib]) cl (by simp)
 have z2:sZ (a1v (sIt (sZ (a5a (sV 0) oN (oS (sI 63))))) t1 zu []) [some (.scr (ns.map D.int)),none] []=.ok (.rol ((ns.take 63).map λx=>D.int (cell x))) []:=by
  refine al2 (a74 D.int (λx=>D.int (cell x)) (ns.take 63) (acu z1 rfl) (j5 (by simp;omega)) λx _=>?_) (dg λx _=>c7 _) (by simp)
  rw[a9r];unfold zu;exact nu (nu ckk (qd (bz rfl) (ai1 _ _)) (a3e.trans (aN (.inl ⟨by decide,by decide⟩)))) (qd (qu rfl rfl) rfl) a1k
 have em:((ns.take 63).map λx=>D.int (cell x))=((ns.take 63).map cell).map D.int:=by rw[eL];rfl
 rw[em]at z2
 generalize (ns.take 63).map cell=cs at z2
 have e:gh [.scr (ns.map D.int)] []=.ok (.ref 0) [.lst [.rol (cs.map D.int),.int 0,.int 0,.int 0,.int (cs.sum%2147483647)]]:=by
  unfold gh;rw[iw];show toR (a08 [some (.scr (ns.map D.int)),none] [])=_;unfold a08;refine etr (jk z2) ?_;have su:ahi [.rol (cs.map D.int)] []=.ok (.int cs.sum) []:=by unfold ahi;simp only[ints_map]
  exact aK toR (m9 (b17 (u5 (bz rfl) (u5 ckk (u5 ckk (u5 ckk (u5 (nu (qd (bz rfl) su) ckk (a86 (by decide))) rfl))))) rfl))
 have P:Src (.lst [.rol (cs.map D.int),.int 0,.int 0,.int 0,.int (cs.sum%2147483647)]) 0:=⟨cs,0,0,0,_,rfl,by decide,by decide,eK _ (by decide),dQ _ (by decide),by decide,by decide⟩
 exact⟨_,P,au2 rfl (by simpa[MI.clo] using (dg λx _=>c7 x:clos 0 (ns.map D.int))) e rfl P.clo h⟩
noncomputable def jw:SF:=nq zx 1
theorem a9q:Pu jw 0 [] (.str (S sig)):=HND.a9q
noncomputable def gw:SF:=nq (a09 ak jw) 5
theorem anu{a b:List Nat}(l:a.length+b.length<=LINE):yz (.str (S a)) (.str (S b)) h=.ok (.str (S (a++b))) h:=by
 have:=alw (h:=h) l
 simpa[yz,gk,b0c] using this
theorem am0(e:f τ h=.ok (.int i) h1):oS f τ h=.ok (some i) h1:=by unfold oS;rw[e];rfl
theorem am1(e:f τ h=.ok d h1)(e1:lo τ h1=.ok a h2)(e2:hi τ h2=.ok b h3)(e3:ace d a b h3=.ok v h4):a5a f lo hi τ h=.ok v h4:=by
 unfold a5a;rw[e,dj,e1,dj,e2,dj,e3]
theorem aj4(P:Src o N)(hN:N<=999999000):∃l o',Tongue l/\Dr gw 1 [] o (.str (S l)) o'/\Src o' (N+7):=by
 obtain⟨r0,o1,e1,r0a,r0b,P1⟩:=acv (m:=6) P (by omega) (by decide) (by decide)
 have lo:=a0w (g:=kN 3) (b:=zy ak jw) (λi:Nat=>D.int (0+(i:Nat)))
  (λpre τ h=>∃(aG told:List Nat) (u:O) (t3 t4:Option D),τ=[some (.ref 0),some (.str (S aG)),some (.str (S told)),t3,t4]/\h=[u]/\Src u (N+1+pre.length)/\told.length=pre.length/\(told++aG).length=95/\(told++aG).Nodup/\∀c∈told++aG,c∈sig)
  (List.range (1+r0).toNat) [some (.ref 0),some (.str (S sig)),some (.str (S [])),none,none] [o1] ?_
  ⟨sig,[],o1,none,none,rfl,rfl,P1,rfl,by simp[aql],by simpa using ave,by simp⟩
 ·obtain⟨τ',h',e2,aG,told,u,t3,t4,rfl,rfl,P2,l1,l2,nd,sb⟩:=lo;rw[bK]at P2 l1;have T:Tongue told:=⟨by omega,by omega,(bS.mp nd).1,λc hc=>sb c (cN _ hc)⟩
  refine⟨told,u,T,Dr.of rfl (by simp) P.clo (r:=.ok (.str (S told)) [u]) ?_ (jr (du _) (by simpa using a1y (by omega) P2.clo)) (du _) P2.clo,P2.up (by omega)⟩
  unfold gw;rw[iw];show toR (a09 ak jw [some (.ref 0),none,none,none,none] [o])=_;unfold a09;have c2:jh false 2 ak [.ref 0,.int 6] [o]=.ok (.int r0) [o1]:=e1 0 [o] rfl;have bd:B62 (1+r0):=by unfold B62;omega
  refine ets (aiz (a9q _)) ?_;refine etr (jk ckk) ?_;have it:sRg a2w (aj (s2 gk (sI 1) (sA (jh false 2 ak) (aj (sV 0) (aj (sI 6) cu)))) cu) [some (.ref 0),some (.str (S sig)),some (.str ""),none,none] [o]=.ok ⟨rng 0 (1+r0).toNat,λ_=>True⟩ [o1]:=by
   unfold sRg;rw[arg1 (nu ckk (a0e (bz rfl) ckk c2) a1k),dj];exact aN bd
  refine etr (a2e it) ?_;refine aR (aK (λz=>toR (MI.thn z _)) e2) ?_;exact aK toR (m9 (bz rfl))
 ·rintro pre i post τ h all ⟨aG,told,u,t3,t4,rfl,rfl,P2,l1,l2,nd,sb⟩
  have aH:pre.length<(1+r0).toNat:=by
   have:=aK List.length all
   simp at this;omega
  rw[ae]at l2;obtain⟨r,u',e2,ra,rb,P3⟩:=acv (m:=(aG.length:Nat)) P2 (by omega) (by omega) (by omega)
  obtain⟨j,rfl⟩:=fv ra;have hj:j<aG.length:=by omega
  have gx:aG[j]? = some aG[j]:=ai hj;have pp:=abb told aG j aG[j] gx;refine⟨_,_,rfl,_,_,?_,aG.take j++aG.drop (j+1),told++[aG[j]],u',some (.int (0+(i:Nat))),some (.int (j:Nat)),rfl,rfl,by simpa[c9] using P3,by simp[l1],?_,pp.nodup_iff.mp nd,λc hc=>sb c (pp.mem_iff.mpr hc)⟩
  ·unfold zy;have L:∀n:Nat,n<=95->n<=LINE:=λn hn=>by show n<=16777216;omega
   have c2:=e2 0 [u] rfl;have x1:∀h,gIx (.str (S aG)) (.int (j:Nat)) h=.ok (.str (S [aG[j]])) h:=λh=>azm (L _ (by omega)) gx
   have x2:∀h,xq [.str (S aG)] h=.ok (.int aG.length) h:=λh=>aqk (L _ (by omega))
   have x3:∀h,yz (.str (S told)) (.str (S [aG[j]])) h=.ok (.str (S (told++[aG[j]]))) h:=λh=>anu (L _ (by simp;omega))
   have x4:∀h,ace (.str (S aG)) none (some (j:Int)) h=.ok (.str (S (aG.take j))) h:=λh=>azn j (L _ (by omega))
   have x5:∀h,ace (.str (S aG)) (some ((j:Int)+1)) none h=.ok (.str (S (aG.drop (j+1)))) h:=λh=>anr (j+1) (L _ (by omega))
   have x6:∀h,gk (.str (S (aG.take j))) (.str (S (aG.drop (j+1)))) h=.ok (.str (S (aG.take j++aG.drop (j+1)))) h:=λh=>alw (L _ (by simp;omega))
   have c2:jh false 2 ak [.ref 0,.int (aG.length:Nat)] [u]=.ok (.int (j:Nat)) [u']:=c2;refine aR (jk (a0e (bz rfl) (qd (bz rfl) (x2 _)) c2)) ?_;refine aR (um (a2d rfl (nu (bz rfl) (bz rfl) (x1 _)) (x3 _))) ?_;exact ant (nu (am1 (bz rfl) rfl (am0 (bz rfl)) (x4 _)) (am1 (bz rfl) (am0 (qu rfl a1k)) rfl (x5 _)) (x6 _))
  ·rw[<-pp.length_eq];simpa using l2
end SRC
namespace PN
open L2 MI AT HND EVX
end PN
namespace HND
open L2 MI AT
theorem aec{ck:Hd->Prop}{g:SG}{b:SS}{α:Type}(f:α->D)(I:List α->Sd->Hd->Prop)(c:∀pre τ h,I pre τ h->ck h):∀(xs pre:List α) (τ:Sd) (h:Hd),
  (∀pre' x post τ h,pre++xs=pre'++x::post->I pre' τ h->∃τ1 h1,g (f x) τ h=.nx τ1 h1/\∃τ2 h2,b τ1 h1=.nx τ2 h2/\I (pre'++[x]) τ2 h2)->I pre τ h->∃τ' h',forL ck g b (xs.map f) τ h=.nx τ' h'/\I (pre++xs) τ' h'
 |[],pre,τ,h,_,i0=>⟨τ,h,by rw[dB,forL,aN (c _ _ _ i0)],by simpa using i0⟩
 |x::xs,pre,τ,h,st,i0=>by
  obtain⟨τ1,h1,e1,τ2,h2,e2,i2⟩:=st pre x xs τ h rfl i0;obtain⟨τ',h',e3,i3⟩:=aec f I c xs (pre++[x]) τ2 h2 (λpre' y post τ h e=>st pre' y post τ h (by simpa using e)) i2
  refine⟨τ',h',?_,by simpa using i3⟩
  rw[bH,forL,aN (c _ _ _ i0),e1];dsimp only;rw[e2];exact e3
abbrev bf(i:Nat):D:=.int (i:Nat)
structure Table where
 tg:List Nat
 go:List (List Nat)
 ks:List Int
end HND
namespace PAP
open L2 MI AT HND
theorem avl(e:f τ h=.ok (.bl false) h1):a6g f k τ h=.ok (.bl false) h1:=by unfold a6g;rw[e,dj]
theorem a7i(e:f τ h=.ok (.int i) h1):oS f τ h=.ok (some i) h1:=by unfold oS;rw[e];rfl
theorem a9u(e:f τ h=.ok d h1)(e1:lo τ h1=.ok a h2)(e2:hi τ h2=.ok b h3)(e3:ace d a b h3=.ok v h4):a5a f lo hi τ h=.ok v h4:=by
 unfold a5a;rw[e,dj,e1,dj,e2,dj,e3]
theorem aya(xs:List D)(lo hi:Option Int)(h:Hd):ace (.tup xs) lo hi h=.ok (.tup (a69 xs lo hi)) h:=by
 unfold ace;dsimp only
 split
 ·rename_i w;obtain⟨a,b⟩:=w
  congr 2
  unfold a69;rw[a,b,gG,bZ (by omega)]
 ·rfl
theorem abq(xs:List D)(k:Nat)(h:Hd):ace (.tup xs) none (some (k:Int)) h=.ok (.tup (xs.take k)) h:=by rw[aya,a6b]
theorem yw(xs:List D)(k:Nat)(h:Hd):ace (.tup xs) (some (k:Int)) none h=.ok (.tup (xs.drop k)) h:=by rw[aya,a6c]
theorem a2z{xs ys:List D}(z:xs.length+ys.length<=1000000):gk (.tup xs) (.tup ys) h=.ok (.tup (xs++ys)) h:=by
 cases xs with
 |nil=>rfl
 |cons x xs =>
  show(if (x::xs).length+ys.length<=LINE then R.ok (D.tup (x::xs++ys)) h else .no)=_
  rw[aN (j5 z)]
theorem a1f:MI.yg [a] h=.ok (.tup [a]) h:=by unfold MI.yg;rw[aN (j5 (by simp))]
theorem a2f:MI.yg [] h=.ok (.tup []) h:=by unfold MI.yg;rw[aN (j5 (by simp))]
theorem u5(e:f τ h=.ok d h1)(e2:k τ h1=.ok ds h2):aj f k τ h=.ok (d::ds) h2:=by
 unfold aj;rw[e,dj,e2,dj]
theorem aof(e:k τ h=.ok ds h1)(e2:G ds h1=.ok v h2):sA G k τ h=.ok v h2:=by
 unfold sA;rw[e,dj,e2]
theorem ju:sZ apd τ []=.ok (.rod [] []) []:=by
 unfold sZ;show a7x 0 (.ok (.ref 0) [.dK []])=_;refine a3i (h1:=[.dK []]) ?_ (by simp)
 unfold FU a1l;rw[bp (by simp only[MI.clo];omega)]
 rfl
theorem yc{h h':Hd}(hl:h'.length=h.length)(e:f τ h=.ok (.ref h'.length) (h'++[.lst xs]))(cx:clos h.length xs)(c:∀o∈h',vg h.length o):sZ f τ h=.ok (.rol xs) h':=by
 unfold sZ;rw[e,zc (by omega) (by simp) cx (by rw[<-hl];simpa[hl] using c)]
 rw[<-hl];simp
end PAP
def aoo:=@PAP.aof
def cns:=@PAP.u5
namespace BF
section
variable(s:Nat)(step:Nat->Nat->Nat)(K:Nat->Bool)
def fl:Nat->Nat->Bool
 |0,r=>K r
 |k+1,r=>(List.range s).any λc=>fl k (step r c)
variable{s step K}
end
theorem a9v:∀(n:Nat) (l:List Nat),l.Nodup->(∀x∈l,x<n)->l.length<=n
 |0,l,_,h=>by
  cases l with
  |nil=>exact ay _
  |cons x l=>exact absurd (h x bE) (by omega)
 |n+1,l,nd,h=>by
  have:=a9v n (l.erase n) (nd.erase n) λx hx=>by
   have h1:=h x (List.mem_of_mem_erase hx);have h2:x≠n:=λz=>by subst z;exact(List.Nodup.not_mem_erase nd) hx
   omega
  have:=List.length_erase (a:=n) (l:=l)
  split at this<;>omega
end BF
namespace SRC
open L2 MI AT HND EVX
theorem a75{l:List Nat}:inD (bf x) (l.map bf)=decide (x∈l):=by
 unfold inD;rw[List.any_map]
 by_cases h:x∈l
 ·rw[cV h,hJ];exact⟨x,h,by show((x:Int) == (x:Int))=true;simp⟩
 ·rw[bA h,List.any_eq_false]
  intro y hy
  have:x≠y:=λe=>h (e ▸ hy)
  show ¬ ((y:Int) == (x:Int))=true;rw[eM];omega
theorem aed{l:List Nat}(e:h[i]? = some (.lst (l.map bf))):gIn true (bf x) (.ref i) h=.ok (.bl (!decide (x∈l))) h:=by
 have fl:xf (bf x)=true/\(l.map bf).all xf=true:=⟨rfl,by
  rw[bU]
  intro y hy
  obtain⟨n,_,rfl⟩:=da.mp hy
  rfl⟩
 unfold gIn a0u;simp only[e,aN fl,dI,a75]
abbrev cst(l:List Nat):List Int:=l.map λx:Nat=>(x:Int)
theorem a76(l:List Nat):l.map bf=(cst l).map D.int:=by unfold cst;rw[eL];rfl
theorem ag5{l:List Nat}(e:h[i]? = some (.lst (l.map bf))):a5b (.ref i) h=some (cst l):=by
 unfold a5b;simp only[e];rw[a76,ints_map]
theorem a4t(l:List Nat):∃m:List Nat,PySem.W.sortI (cst l)=cst m/\m.Perm l/\m.Pairwise (·<=·):=by
 have p:=gD (cst l);have s:=PySem.W.sortI_rises (cst l);refine⟨(PySem.W.sortI (cst l)).map Int.toNat,?_,?_,?_⟩
 ·unfold cst;rw[eL];have:∀x∈PySem.W.sortI (l.map λx:Nat=>(x:Int)),((λx:Nat=>(x:Int)) ∘ Int.toNat) x=x:=λx hx=>by
   have:=p.mem_iff.mp hx
   obtain⟨y,_,rfl⟩:=da.mp this;simp
  rw[eB this];simp
 ·have:=p.map Int.toNat
  have e:(cst l).map Int.toNat=l:=by
   unfold cst;rw[eL];exact(eB λx _=>by simp).trans (List.map_id l)
  rwa[e]at this
 ·rw[List.pairwise_map];exact s.imp λh=>by omega
def pos(m:List Nat)(x:Nat):Nat:=(ixI (x:Int) (cst m)).getD 0
theorem abf{l:List Nat}(e:h[i]? = some (.lst (l.map bf)))(z:l.length<64)(em:PySem.W.sortI (cst l)=cst m):a6q [.ref i] h=.ok (.ref h.length) (h++[.lst (m.map bf)]):=by
 have q:=ag5 e;unfold a6q;simp only[q];rw[aN (by unfold cst;rw[ah];exact z),em,<-a76]
end SRC
namespace K22
open L2 MI AT HND
section
variable(T:Table)
def knd(r:Nat):Bool:=decide ((T.ks[r]?).getD (-1) ≠ -1)
end
end K22
namespace PN
open L2 MI AT HND EVX K22
end PN
namespace EVT
open L2 MI AT HND
section
variable{f g k f1 f2 f3:SE}{ka:SA}{c c1 c2:ST}{τ:Sd}{h h1 h2 h3:Hd}{a b d v:D}{i:Nat}{t u:Bool}{xs ys ds:List D}
theorem ayb:cu τ h=.ok [] h:=rfl
theorem b1a:oN τ h=.ok none h:=rfl
theorem PuE(p:Pu F n ds d):jh false n F ds h=.ok d h:=p h
theorem b1b(p:Dr F n ds o d o'):jh false n F (.ref 0::ds) (o::h)=.ok d (o'::h):=p 0 (o::h) rfl
theorem a3a(hv:n<xs.length):gIx (.rol xs) (.int (n:Nat)) h=.ok (xs.getD n .non) h:=avk (by rw[dM,ai hv];rfl)
theorem a3b(hv:n<xs.length):gIx (.tup xs) (.int (n:Nat)) h=.ok (xs.getD n .non) h:=a9s (by rw[dM,ai hv];rfl)
theorem avm:xq [.tup xs] h=.ok (bf xs.length) h:=rfl
theorem uz:xq [.rol xs] h=.ok (bf xs.length) h:=rfl
theorem b1c(e:f τ h=.ok (.bl true) h1):ag9 f g τ h=.ok (.bl true) h1:=by unfold ag9;rw[e,dj]
theorem b1d(e:f τ h=.ok (.bl false) h1)(e':g τ h1=.ok d h2):ag9 f g τ h=.ok d h2:=by unfold ag9;rw[e,dj];exact e'
theorem aws(e:c τ h=.ok true h1)(e':f τ h1=.ok d h2):aam c f g τ h=.ok d h2:=by unfold aam;rw[e,dj,aN rfl,e']
theorem aqp(e:c τ h=.ok false h1)(e':g τ h1=.ok d h2):aam c f g τ h=.ok d h2:=by unfold aam;rw[e,dj,bp (by simp),e']
theorem ark(e:f τ h=R.ok (D.ref h1.length) (h1++[.lst xs]))(hl:h1.length=h.length)(cx:clos 0 xs)(co:∀o∈h1,vg 0 o):sZ f τ h=.ok (.rol xs) h1 :=
 PAP.yc hl e (vy (ba _) cx) λo ho=>a1y (ba _) (co o ho)
theorem avn(e:ka τ h=.ok ds h1)(hl:h1.length=h.length)(cd:clos 0 ds)(co:∀o∈h1,vg 0 o)(z:ds.length<=1000000):sZ (sA MI.u9 ka) τ h=.ok (.rol ds) h1:=by
 refine ark ?_ hl cd co;unfold sA;rw[e,dj];unfold MI.u9;exact aN (j5 z)
theorem uo(e:f τ h=.ok (.tup xs) h1)(hl:h1.length=h.length)(cd:clos 0 xs)(co:∀o∈h1,vg 0 o):sZ (sA atm (aj f cu)) τ h=.ok (.rol xs) h1:=ark (qd e rfl) hl cd co
theorem uq(e:f τ h=.ok (.str (S l)) h1)(hl:h1.length=h.length)(co:∀o∈h1,vg 0 o)(z:l.length<=1000000):sZ (sA atm (aj f cu)) τ h=.ok (.rol (l.map λc=>.str (S [c]))) h1:=by
 refine ark (qd e ?_) hl (dg λ_ _=>du _) co;show(if (S l).length<=LINE then R.ok (D.ref h1.length) (h1++[O.lst (a1u (S l))]) else R.no)=_
 rw[aN (j5 (by rw[ag2];exact z))]
 unfold a1u;rw[alv]
theorem ug(e1:f τ h=.ok (.rol xs) h1)(e2:g τ h1=.ok (.rol ys) h2)(hl:h2.length=h.length)(c1:clos 0 xs)(c2:clos 0 ys)(co:∀o∈h2,vg 0 o)(z:xs.length+ys.length<=1000000):sZ (s2 gk f g) τ h=.ok (.rol (xs++ys)) h2:=by
 refine ark (nu e1 e2 ?_) hl (jx.mpr λx hx=>(aX.mp hx).elim (jx.mp c1 x) (jx.mp c2 x)) co;rw[acf (xs:=xs) (ys:=ys) rfl rfl,aN (j5 z)]
theorem ye{k:Int}(e1:f τ h=.ok (.rol xs) h1)(e2:g τ h1=.ok (.int k) h2)(hl:h2.length=h.length)(c1:clos 0 xs)(co:∀o∈h2,vg 0 o)(z:xs.length*k.toNat<=1000000)(zn : -1000000<=k/\k<=1000000):sZ (s2 yq f g) τ h=.ok (.rol (List.replicate k.toNat xs).flatten) h2:=by
 refine ark (nu e1 e2 ?_) hl (jx.mpr λx hx=>?_) co
 ·have:yq (.rol xs) (.int k) h2=if (-(2^63)<=k/\k<2^63)/\xs.length*k.toNat<=LINE then .ok (.ref h2.length) (h2++[.lst (List.replicate k.toNat xs).flatten]) else .no:=rfl
  rw[this,aN ⟨by omega,j5 z⟩]
 ·obtain⟨l,hl,hx⟩:=List.mem_flatten.mp hx;rw[(gF.mp hl).2]at hx;exact jx.mp c1 x hx
theorem ju(co:∀o∈h,vg 0 o):sZ apd τ h=.ok (.rod [] []) h:=by
 unfold sZ;show a7x h.length (.ok (.ref h.length) (h++[.dK []]))=_;rw[a3i (d':=.rod [] []) ?_ ?_]
 ·simp
 ·unfold FU a1l;rw[bp (by simp only[MI.clo];omega)]
  simp[a0r]
 ·simp only[List.take_left'];exact λo ho=>a1y (ba _) (co o ho)
theorem ur:(List.replicate n xs).flatten.length=n*xs.length:=by simp
theorem jy(c1:clos i xs)(c2:clos i ys):clos i (xs++ys):=jx.mpr λx hx=>(aX.mp hx).elim (jx.mp c1 x) (jx.mp c2 x)
theorem jm(c:clos i xs):clos i (xs.take n):=jx.mpr λx hx=>jx.mp c x (List.mem_of_mem_take hx)
theorem jo(c:clos i xs):clos i (xs.drop n):=jx.mpr λx hx=>jx.mp c x (List.mem_of_mem_drop hx)
theorem o6(c:clos i xs):clos i (List.replicate n xs).flatten:=jx.mpr λx hx=>by
 obtain⟨l,hl,hx⟩:=List.mem_flatten.mp hx;rw[(gF.mp hl).2]at hx;exact jx.mp c x hx
theorem o7(c:clos i xs):clo i (xs.getD n .non):=by
 rw[dM]
 cases e:xs[n]? with
 |none=>exact rm
 |some x=>exact jx.mp c x (bM e)
theorem o8:clo i (.rod [] []):=by simp[clo,clos]
theorem aqq:∀u∈([]:List O),vg 0 u:=λu hu=>by cases hu
theorem ut(c:vg 0 o):∀u∈[o],vg 0 u:=λu hu=>by rw[aI]at hu;subst hu;exact c
end
def wth(ws:List D)(k:Nat)(d:D):List D:=ws.take k++[d]++ws.drop (k+1)
theorem o9(c:clos i ws)(cd:clo i d):clos i (wth ws k d):=jy (jy (jm c) (bu cd fu)) (jo c)
theorem avo{α:Type}(l:List α):a69 l none (some (-1))=l.take (l.length-1):=by
 unfold a69;rw[HT.a8o,gG,Nat.sub_zero]
 congr 1
 unfold HT.sIx;simp;omega
theorem a3c(ys:List D)(hh:Hd):ace (.tup ys) none (some (-1)) hh=.ok (.tup (ys.take (ys.length-1))) hh:=by rw[PAP.aya,avo]
end EVT
def zds:=@EVT.avn
def ltn:=@EVT.avm
def onn:=@EVT.b1a
def zrl:=@EVT.ark
def drz:=@EVT.b1b
def nlc:=@EVT.aqq
def nlo:=@EVT.ayb
namespace MI
open L2 SRC HND
theorem aj5{y:Nat}:(y:Int)∈cst l↔y∈l:=by
 unfold cst;rw[da]
 constructor
 ·rintro⟨x,hx,e⟩;have:x=y:=by omega
  subst this;exact hx
 ·intro h;exact⟨y,h,rfl⟩
theorem aj6(l:List Nat)(y:Nat):stepK (cst l) (y:Int)=cst (stepK l y):=by
 unfold L2.stepK
 by_cases h:y∈l
 ·rw[aN h,aN (aj5.mpr h)]
 ·rw[bp h,bp λz=>h (aj5.mp z)];unfold cst;rw[bg];rfl
structure Fw (n:Nat) (l:List Nat):Prop where
 nd:l.Nodup
 lt:∀x∈l,x<n
theorem Fw.nil:Fw n []:=⟨gJ,by simp⟩
theorem Fw.len(h:Fw n l):l.length<=n:=BF.a9v n l h.nd h.lt
theorem Fw.step(M:Fw n l)(hx:x<n):Fw n (stepK l x):=by
 unfold L2.stepK
 by_cases h:x∈l
 ·rw[aN h];exact M
 rw[bp h];refine⟨?_,λy hy=>?_⟩
 ·rw[bS];refine⟨M.nd,by simp,λa ha b hb=>?_⟩
  rw[aI]at hb;subst hb;exact λe=>h (e ▸ ha)
 ·rcases aX.mp hy with z|z
  ·exact M.lt y z
  ·rw[aI]at z;subst z;exact hx
theorem am2{x y:Nat}:y∈stepK l x↔y∈l\/y=x:=by
 unfold L2.stepK
 by_cases h:x∈l
 ·rw[aN h];exact⟨.inl,λz=>z.elim id λe=>e ▸ h⟩
 ·rw[bp h,aX,aI]
theorem Fw.fold:∀{r l:List Nat},Fw n l->(∀x∈r,x<n)->Fw n (r.foldl stepK l)
 |[],_,h,_=>h
 |x::r,l,h,k=>Fw.fold (r:=r) (h.step (k x bE)) λy hy=>k y (aY _ hy)
theorem aee:∀{r l:List Nat},y∈r.foldl stepK l↔y∈l\/y∈r
 |[],l=>by simp
 |x::r,l=>by
  rw[fV,aee (r:=r),am2,aO]
  constructor
  ·rintro((h|h)|h)
   ·exact .inl h
   ·exact .inr (.inl h)
   ·exact .inr (.inr h)
  ·rintro(h|h|h)
   ·exact .inl (.inl h)
   ·exact .inl (.inr h)
   ·exact .inr h
end MI
namespace ENG
open L2 MI
abbrev Rl:=Nat->Nat->Prop
open Classical in
noncomputable def fl(n:Nat)(R:Rl)(a:Nat):List Nat:=(List.range (n+1)).filter λe=>decide (R a e)
theorem m5{n a e:Nat}{R:Rl}:e∈fl n R a↔e<=n/\R a e:=by
 unfold fl;simp only[dF,dR,dD];exact⟨λ⟨h1,h2⟩=>⟨by omega,h2⟩,λ⟨h1,h2⟩=>⟨by omega,h2⟩⟩
theorem aj7{n a:Nat}{R:Rl}:(fl n R a).Nodup:=List.Pairwise.filter _ List.nodup_range
theorem aj8{n a:Nat}{R:Rl}:(fl n R a).Pairwise (·<=·):=by
 refine List.Pairwise.filter _ ?_;exact(List.pairwise_lt_range (n:=n+1)).imp λh=>gc h
theorem a03{n a:Nat}{R:Rl}:(fl n R a).length<=n+1:=by
 have:=fL (λe=>@decide (R a e) (Classical.propDecidable _)) (List.range (n+1))
 rw[bK]at this;exact this
theorem a3d{n a:Nat}{R:Rl}{ts:List Nat}(nd:ts.Nodup)(st:ts.Pairwise (·<=·))(m:∀e,e∈ts↔e<=n/\R a e):ts=fl n R a:=by
 have p:ts.Perm (fl n R a):=(List.perm_ext_iff_of_nodup nd aj7).mpr λe=>by rw[m,m5]
 exact p.eq_of_pairwise (λx y _ _ h1 h2=>Nat.le_antisymm h1 h2) st aj8
theorem acw{n a b:Nat}{R T:Rl}(h:∀e,e<=n->(R a e↔T b e)):fl n R a=fl n T b:=a3d aj7 aj8 λe=>by
 rw[m5]
 constructor
 ·rintro⟨h1,h2⟩;exact⟨h1,(h e h1).mp h2⟩
 ·rintro⟨h1,h2⟩;exact⟨h1,(h e h1).mpr h2⟩
def cmp(P R:Rl):Rl:=λa e=>∃b,P a b/\R b e
def chn(Rs:List Rl):Rl:=Rs.foldl cmp (· = ·)
def pw(R:Rl):Nat->Rl
 |0=>(· = ·)
 |k+1=>cmp (pw R k) R
def star(R:Rl):Rl:=λa e=>∃k,pw R k a e
def btw(R:Rl)(lo hi:Nat):Rl:=λa e=>∃k,lo<=k/\k<=hi/\pw R k a e
end ENG
namespace MI
open L2 SRC HND
theorem abg:∀(r l:List Nat),(cst r).foldl stepK (cst l)=cst (r.foldl stepK l)
 |[],l=>rfl
 |x::r,l=>by
  show(cst r).foldl stepK (stepK (cst l) (x:Int))=_;rw[aj6];exact abg r _
theorem aef{l:List Nat}{d:D}{n:Nat}(hn:n<=60)(lt:∀y∈l,y<n)(ll:l.length<=4000){h:Hd}(e:afx d h=some (cst l)) :
  ∃ts:List Nat,Fw n ts/\ts.Pairwise (·<=·)/\(∀y,y∈ts↔y∈l)/\a9g d h=.ok (.ref h.length) (h++[.lst (ts.map bf)]):=by
 obtain⟨m,em,pm,sm⟩:=a4t (l.foldl stepK []);have F:Fw n (l.foldl stepK []):=Fw.fold .nil lt;refine⟨m,⟨pm.nodup_iff.mpr F.nd,λx hx=>F.lt x (pm.mem_iff.mp hx)⟩,sm,λy=>?_,?_⟩
 ·rw[pm.mem_iff,aee];simp
 ·unfold a9g;rw[e];have fl:=F.len;have cl:(cst l).length<=4000:=by unfold cst;rw[ah];exact ll
  simp only[aN cl];have:(cst l).foldl stepK []=cst (l.foldl stepK []):=abg l [];rw[this];unfold axz;rw[aN (by unfold cst;rw[ah];omega),em,<-a76]
theorem a77:∀l:List Nat,a4n (l.map bf)=some (cst l)
 |[]=>rfl
 |x::l=>by
  show(a4n (l.map bf)).map _=_;rw[a77 l];rfl
theorem aj9(l:List Nat)(h:Hd):afx (.rol (l.map bf)) h=some (cst l):=a77 l
end MI
namespace SHD
open L2 MI AT HND EVX
open PAP hiding u5 a1f a2f ju yc aof
def Dr2(F:SF)(n:Nat)(ds:List D)(o p:O)(d:D)(o' p':O):Prop:=∀i j h,i≠j->h[i]? = some o->h[j]? = some p->jh false n F (.ref i::.ref j::ds) h=.ok d ((h.set i o').set j p')
theorem Dr2.of{F:SF}{n:Nat}{ds:List D}{o o' p p':O}{r:R D}{d:D}(hn:ds.length+2=n)(cd:∀x∈ds,clo 0 x)(co:vg 0 o)(cp:vg 0 p)(e:F (.ref 0::.ref 1::ds) [o,p]=r)(z:a7x 2 r=.ok d [o',p'])(c:clo 0 d)(co':vg 0 o')(cp':vg 0 p'):Dr2 F n ds o p d o' p':=λi j h ne hi hj=>by
 obtain⟨p1,_,p3⟩:=a3w cd;have e1:a0v (.ref i::.ref j::ds)=[i,j]:=by
  have:a0v (.ref i::.ref j::ds)=i::j::a0v ds:=rfl
  rw[this,p1]
 have e2:a0i 0 (.ref i::.ref j::ds)=.ref 0::.ref 1::ds:=by
  have:a0i 0 (.ref i::.ref j::ds)=.ref 0::.ref 1::a0i 2 ds:=rfl
  rw[this,p3]
 unfold jh;rw[aN (by simpa using hn)]
 unfold aph;rw[e1];simp only[a0r,hi,hj,aJ,bC,cD,eY,gE,Nat.reduceAdd];have all:∀x∈(D.ref i::.ref j::ds),clo 0 x\/isRef x:=λx hx=>by
  rcases aO.mp hx with rfl|hx
  ·exact .inr ⟨i,rfl⟩
  rcases aO.mp hx with rfl|hx
  ·exact .inr ⟨j,rfl⟩
  ·exact .inl (cd x hx)
 rw[aN ⟨by simp[ne],all,λu hu=>by simp only[aO,bD,dA]at hu;rcases hu with rfl|rfl;exact co;exact cp⟩,e2,e,z]
 simp[c,co',cp',vh]
theorem ayc{F:SF}{n:Nat}{ds:List D}{o o' p p':O}{d:D}{h:Hd}(q:Dr2 F n ds o p d o' p'):jh false n F (.ref 0::.ref 1::ds) (o::p::h)=.ok d (o'::p'::h):=q 0 1 (o::p::h) (by decide) rfl rfl
inductive Sh where
 |one (s:List Nat)|row (ps:List Sh)|eit (ps:List Sh)|many (p:Sh)|tim (p:Sh) (lo hi:Nat)
mutual
def sd:Sh->D
 |.one s=>.tup [.str "one",.str (S s)]
 |.row ps=>.tup [.str "row",.tup (sds ps)]
 |.eit ps=>.tup [.str "either",.tup (sds ps)]
 |.many p=>.tup [.str "many",sd p]
 |.tim p lo hi=>.tup [.str "times",sd p,bf lo,bf hi]
def sds:List Sh->List D
 |[]=>[]
 |p::ps=>sd p::sds ps
end
theorem a3j:∀ps,sds ps=ps.map sd
 |[]=>by rw[sds];rfl
 |p::ps=>by rw[sds,a3j ps];rfl
def a4u(tg:List Nat):Nat->Sh->Prop
 |0,_=>False
 |n+1,s=>match s with
  |.one s=>1<=s.length/\s.length<=6/\∀c∈s,c∈tg
  |.row ps=>ps.length<=6/\∀p∈ps,a4u tg n p
  |.eit ps=>1<=ps.length/\ps.length<=6/\∀p∈ps,a4u tg n p
  |.many p=>a4u tg n p
  |.tim p lo hi=>lo<=hi/\hi<=4/\a4u tg n p
mutual
theorem ww:∀p,MI.clo 0 (sd p)
 |.one s=>by rw[sd];exact gf (bu (du _) (bu (du _) fu))
 |.row ps=>by rw[sd];exact gf (bu (du _) (bu (gf (a2g ps)) fu))
 |.eit ps=>by rw[sd];exact gf (bu (du _) (bu (gf (a2g ps)) fu))
 |.many p=>by rw[sd];exact gf (bu (du _) (bu (ww p) fu))
 |.tim p lo hi=>by rw[sd];exact gf (bu (du _) (bu (ww p) (bu (c7 _) (bu (c7 _) fu))))
theorem a2g:∀ps,clos 0 (sds ps)
 |[]=>by rw[sds];exact fu
 |p::ps=>by rw[sds];exact bu (ww p) (a2g ps)
end
def bnd:Nat->Nat
 |0=>200
 |d+1=>7*bnd d
theorem aja:∀d,200<=bnd d
 |0=>by decide
 |d+1=>by have:=aja d;rw[bnd];omega
theorem acx(x:Int):vg 0 (.lst [.int x]):=bu (c7 _) fu
theorem aqr{o p:O}(c:vg 0 o)(c':vg 0 p):∀u∈[o,p],vg 0 u:=λu hu=>by
 simp only[aO,bD,dA]at hu
 rcases hu with rfl|rfl
 ·exact c
 ·exact c'
theorem b1e{d:D}{o p:O}{h:Hd}(c:MI.clo 0 d)(co:vg 0 o)(cp:vg 0 p):a7x 2 (.ok d (o::p::h))=.ok d [o,p]:=jr (ana (by omega) c) (by
 intro u hu
 simp only[List.take_succ_cons,i7]at hu;exact a1y (by omega) (aqr co cp u hu))
theorem b1f{a b c d:D}{h:Hd}:MI.yg [a,b,c,d] h=.ok (.tup [a,b,c,d]) h:=by unfold MI.yg;rw[aN (j5 (by simp))]
theorem qp{xs:List D}{h:Hd}:wu [.rol xs] h=.ok (.tup xs) h:=rfl
theorem ixp{o:O}{v:D}{h:Hd}:gIx (.ref 1) (.int 0) (o::.lst [v]::h)=.ok v (o::.lst [v]::h):=rfl
theorem subn{n:Nat}{h:Hd}:MI.a8k (.int ((n+1:Nat):Int)) (.int 1) h=.ok (bf n) h:=by
 rw[uy,show((n+1:Nat):Int)-1=(n:Int) by omega]
theorem a9w{x y:Int}{h:Hd}:gk (.int x) (.int y) h=.ok (.int (x+y)) h:=rfl
section
variable{a b c d:D}{xs:List D}{h:Hd}
theorem ix0:gIx (.tup (a::xs)) (.int 0) h=.ok a h:=a9s (j:=0) rfl
theorem ix1:gIx (.tup (a::b::xs)) (.int 1) h=.ok b h:=a9s (j:=1) rfl
theorem ix2:gIx (.tup (a::b::c::xs)) (.int 2) h=.ok c h:=a9s (j:=2) rfl
theorem ix3:gIx (.tup (a::b::c::d::xs)) (.int 3) h=.ok d h:=a9s (j:=3) rfl
theorem abr{x:Str}:hEq (.str x) (.str x) h=.ok (.bl true) h:=by rw[avc,fM]
theorem abt{x y:Str}(e:(x == y)=false):hEq (.str x) (.str y) h=.ok (.bl false) h:=by rw[avc,e]
theorem abu{x y:Str}(e:(x == y)=false):hNe (.str x) (.str y) h=.ok (.bl true) h:=by rw[avd,e];rfl
theorem abv{x:Str}:hNe (.str x) (.str x) h=.ok (.bl false) h:=by rw[avd,fM];rfl
end
inductive All2 {α β:Type} (Q:α->β->Prop):List α->List β->Prop
 |nil:All2 Q [] []
 |cons {x:α} {y:β} {xs:List α} {ys:List β} (h:Q x y) (t:All2 Q xs ys):All2 Q (x::xs) (y::ys)
theorem All2.snoc{α β:Type}{Q:α->β->Prop}{x:α}{y:β}(h:Q x y):∀{xs:List α} {ys:List β},All2 Q xs ys->All2 Q (xs++[x]) (ys++[y])
 |_,_,.nil=>.cons h .nil
 |_,_,.cons q t=>.cons q (All2.snoc h t)
theorem All2.len{α β:Type}{Q:α->β->Prop}:∀{xs:List α} {ys:List β},All2 Q xs ys->ys.length=xs.length
 |_,_,.nil=>rfl
 |_,_,.cons _ t=>by rw[aJ,aJ,t.len]
theorem All2.rt{α β:Type}{Q:α->β->Prop}:∀{xs:List α} {ys:List β},All2 Q xs ys->∀y∈ys,∃x∈xs,Q x y
 |_,_,.nil,y,hy=>by cases hy
 |_,_,.cons q t,y,hy=>by
  rcases aO.mp hy with rfl|hy
  ·exact⟨_,bE,q⟩
  ·obtain⟨x,hx,q⟩:=t.rt y hy;exact⟨x,aY _ hx,q⟩
theorem pu1{F:SF}{n:Nat}{ds:List D}{d:D}(hn:ds.length=n)(ca:∀x∈ds,MI.clo 0 x)(c:MI.clo 0 d)(e:F ds []=.ok d []):Pu F n ds d:=Pu.of hn ca e (jr c (by simp)) c
theorem ayd{x:D}(c:MI.clo 0 x):∀y∈[x],MI.clo 0 y:=λy hy=>by rw[aI.mp hy];exact c
end SHD
local macro_rules|`(tactic|walk_at "c") => `(tactic|first|assumption|exact MI.c7 _|(with_reducible exact EVT.o8)|exact MI.du _|exact MI.uf _|exact MI.rm|exact MI.fu|((with_reducible apply MI.bu)<;>walk_at "c")|((with_reducible apply MI.gf);walk_at "c")|((with_reducible apply MI.ik);walk_at "c")|((with_reducible apply EVT.jy)<;>walk_at "c")|((with_reducible apply EVT.jm);walk_at "c")|((with_reducible apply EVT.jo);walk_at "c")|((with_reducible apply EVT.o6);walk_at "c")|((with_reducible apply EVT.o7);walk_at "c")|((with_reducible apply EVT.o9)<;>walk_at "c")|exact MI.dg fun _ _=>MI.c7 _|exact MI.dg fun _ _=>MI.du _)
local macro_rules|`(tactic|walk_at "h") => `(tactic|first|assumption|exact nlc|exact EVT.ut (by assumption))
local macro_rules|`(tactic|walk_at "z") => `(tactic|first|assumption|omega|(simp only[aJ,bC,ae,bb,bq,ah,aM,EVT.ur,Int.reduceToNat]<;>omega))
local macro_rules|`(tactic|walk_at "l") => `(tactic|first
 |(with_reducible assumption)
 |(with_reducible exact PAP.a2f)|(with_reducible exact PAP.a1f)|(with_reducible exact MI.a4e)|(with_reducible exact MI.abe)
 |(with_reducible exact ltn)|(with_reducible exact EVT.uz)
 |((with_reducible apply EVT.PuE);with_reducible assumption)
 |((with_reducible apply drz);with_reducible assumption)
 |(with_reducible exact EVT.a3c _ _)|(with_reducible exact PAP.abq _ _ _)|(with_reducible exact PAP.yw _ _ _)
 |((with_reducible apply PAP.a2z);walk_at "z")
 |((with_reducible apply EVT.a3a);walk_at "z")
 |((with_reducible apply EVT.a3b);walk_at "z")
 |(with_reducible exact MI.uy _ _)|(with_reducible exact MI.a1e _)|(with_reducible exact MI.tu _)
 |((with_reducible apply MI.a7c);walk_at "z")|((with_reducible apply MI.a7d);walk_at "z")
 |((with_reducible apply MI.a87);walk_at "z")|((with_reducible apply MI.a9t);walk_at "z")
 |((with_reducible apply MI.zg);walk_at "z")|((with_reducible apply MI.zj);walk_at "z")
 |((with_reducible apply MI.a2y);walk_at "z")|((with_reducible apply MI.a1m);walk_at "z")
 |exact rfl)
local macro_rules|`(tactic|walk_at "x") => `(tactic|first
 |(with_reducible assumption)
 |(with_reducible exact MI.aa5 _ _ _)
 |((with_reducible apply MI.bz);exact rfl)
 |(with_reducible exact nlo)|(with_reducible exact onn)
 |((with_reducible apply zds);walk_at "x";exact rfl;walk_at "c";walk_at "h";walk_at "z")
 |((with_reducible apply EVT.uo);walk_at "x";exact rfl;walk_at "c";walk_at "h")
 |((with_reducible apply EVT.uq);walk_at "x";exact rfl;walk_at "h";walk_at "z")
 |((with_reducible apply EVT.ug);walk_at "x";walk_at "x";exact rfl;walk_at "c";walk_at "c";walk_at "h";walk_at "z")
 |((with_reducible apply EVT.ye);walk_at "x";walk_at "x";exact rfl;walk_at "c";walk_at "h";walk_at "z";walk_at "z")
 |((with_reducible apply EVT.ju);walk_at "h")
 |((with_reducible apply MI.nu);walk_at "x";walk_at "x";walk_at "l")
 |((with_reducible apply MI.uv);walk_at "x";walk_at "l")
 |((with_reducible apply aoo);walk_at "x";walk_at "l")
 |((with_reducible apply cns);walk_at "x";walk_at "x")
 |((with_reducible apply PAP.a9u);walk_at "x";walk_at "x";walk_at "x";walk_at "l")
 |((with_reducible apply PAP.a7i);walk_at "x")
 |((with_reducible apply MI.tof);walk_at "x")
 |((with_reducible apply MI.a1d);walk_at "x";walk_at "l")
 |((with_reducible apply MI.abo);walk_at "x")|((with_reducible apply MI.abp);walk_at "x")
 |((with_reducible apply MI.a4c);walk_at "x";walk_at "x")|((with_reducible apply MI.a7b);walk_at "x")
 |((with_reducible apply MI.orT);walk_at "x")|((with_reducible apply MI.orF);walk_at "x";walk_at "x"))
local macro_rules|`(tactic|walk_at "l") => `(tactic|first|(with_reducible exact SHD.ix0)|(with_reducible exact SHD.ix1)|(with_reducible exact SHD.ix2)|(with_reducible exact SHD.ix3)|(with_reducible exact SHD.abr)|((with_reducible apply SHD.abt);exact(by decide))|(with_reducible exact SHD.abv)|((with_reducible apply SHD.abu);exact(by decide))|(with_reducible exact SHD.a9w)|(with_reducible exact SHD.qp))
namespace ENG
open L2 MI AT HND EVX SHD
open PAP hiding u5 a1f a2f ju yc aof
open SRC (cst a76)
abbrev lsD(l:List Nat):D:=.rol (l.map bf)
def En(w:List Nat):Nat->Sh->Rl
 |0,_=>λ_ _=>False
 |d+1,s=>match s with
  |.one sg=>λa e=>∃c,w[a]? = some c/\c∈sg/\e=a+1
  |.row ps=>chn (ps.map (En w d))
  |.eit ps=>λa e=>∃p∈ps,En w d p a e
  |.many p=>star (En w d p)
  |.tim p lo hi=>btw (En w d p) lo hi
def kids:Sh->List Sh
 |.one _=>[]
 |.row ps=>ps
 |.eit ps=>ps
 |.many p=>[p]
 |.tim p _ _=>[p]
theorem acy{tg:List Nat}{d:Nat}{s:Sh}(k:a4u tg (d+1) s):(kids s).length<=6/\∀p∈kids s,a4u tg d p:=by
 cases s with
 |one s=>exact⟨by simp[kids],by simp[kids]⟩
 |row ps=>exact k
 |eit ps=>exact⟨k.2.1,k.2.2⟩
 |many p=>exact⟨by simp[kids],λq hq=>by rw[aI.mp hq];exact k⟩
 |tim p lo hi=>exact⟨by simp[kids],λq hq=>by rw[aI.mp hq];exact k.2.2⟩
theorem aqs(l:List Sh):clos 0 (l.map sd):=dg λp _=>ww p
noncomputable def v7:SF:=nq a9h 1
theorem am3(s:Sh):Pu v7 1 [sd s] (.tup ((kids s).map sd)):=by
 refine pu1 rfl (ayd (ww s)) (gf (aqs _)) ?_;unfold v7;rw[iw];show toR (a9h [some (sd s)] [])=_;unfold a9h
 cases s with
 |one s=>rw[sd];exact aK toR (v6 (ifr (by walk_at "x") (aiz PAP.a2f)))
 |row ps =>
  rw[sd,a3j];exact aR (aK toR (ifN (by walk_at "x"))) (aK toR (v6 (ifr (orT (by walk_at "x")) (qu rfl ix1))))
 |eit ps =>
  rw[sd,a3j];exact aR (aK toR (ifN (by walk_at "x"))) (aK toR (v6 (ifr (orF (by walk_at "x") (by walk_at "x")) (qu rfl ix1))))
 |many p =>
  rw[sd];exact aR (aK toR (ifN (by walk_at "x"))) (aR (aK toR (ifN (orF (by walk_at "x") (by walk_at "x")))) (aK toR (m9 (qd (qu rfl ix1) PAP.a1f))))
 |tim p lo hi =>
  rw[sd];exact aR (aK toR (ifN (by walk_at "x"))) (aR (aK toR (ifN (orF (by walk_at "x") (by walk_at "x")))) (aK toR (m9 (qd (qu rfl ix1) PAP.a1f))))
end ENG
namespace DRW
open L2 MI AT HND EVX SHD
open PAP hiding u5 a1f a2f ju yc aof
open SRC (Src)
open SRC (cst a76 aed a4t abf)
open ENG
theorem dw{o:O}{N:Nat}{m:Int}(P:Src o N)(hN:N<=1000000000)(m0:0<m)(m1:m<1073741824):∃(r:Nat) (o':O),Dr SRC.ak 2 [.int m] o (bf r) o'/\(r:Int)<m/\Src o' (N+1):=by
 obtain⟨r,o',e,r0,r1,P'⟩:=SRC.acv P hN m0 m1;obtain⟨r,rfl⟩:=fv r0;exact⟨r,o',e,r1,P'⟩
theorem ag6{a b:Nat}{h:Hd}:gk (bf a) (bf b) h=.ok (bf (a+b)) h:=rfl
mutual
def wt:Sh->Nat
 |.one _=>1
 |.row ps=>wts ps
 |.eit ps=>wts ps
 |.many p=>wt p
 |.tim p _ hi=>hi*wt p
def wts:List Sh->Nat
 |[]=>0
 |p::ps=>wt p+wts ps
end
theorem acz:∀(l:List Sh) (s:Sh),wts (l++[s])=wts l+wt s
 |[],s=>by rw[dH,wts,wts,wts];omega
 |p::l,s=>by rw[bV,wts,wts,acz l s];omega
theorem ad0:∀l:List Sh,((l.map λs=>(wt s:Int)).sum)=(wts l:Nat)
 |[]=>by rw[wts];rfl
 |p::l=>by rw[bH,List.sum_cons,ad0 l,wts];omega
mutual
def pn:Sh->Nat
 |.one _=>1
 |.row ps=>1+pns ps
 |.eit ps=>1+pns ps
 |.many p=>1+pn p
 |.tim p _ _=>1+pn p
def pns:List Sh->Nat
 |[]=>0
 |p::ps=>pn p+pns ps
end
theorem ajb:∀(l:List Sh) (s:Sh),pns (l++[s])=pns l+pn s
 |[],s=>by rw[dH,pns,pns,pns];omega
 |p::l,s=>by rw[bV,pns,pns,ajb l s];omega
noncomputable def au:Nat->SF
 |0=>λ_ _=>.no
 |n+1=>nq (xr (au n)) 1
theorem a2h(x:Str)(h:Hd):gIn false (.str x) (.tup [.str "row",.str "either"]) h=.ok (.bl (("row" : Str) == x || (("either" : Str) == x || false))) h:=rfl
theorem a0q{tg:List Nat}:∀(d n:Nat),d<=n->∀s,a4u tg d s->Pu (au n) 1 [sd s] (bf (wt s))
 |0,_,_,_,k=>k.elim
 |d+1,0,h,_,_=>absurd h (by omega)
 |d+1,n+1,h,s,k=>by
  have ih:=a0q (tg:=tg) d n (by omega)
  refine Pu.of rfl (by simp[ww]) (r:=.ok (bf (wt s)) []) ?_ (jr (c7 _) (by simp)) (c7 _)
  show nq (xr (au n)) 1 [sd s] []=_;rw[iw];show toR (xr (au n) [some (sd s)] [])=_;unfold xr;have many:∀(hd:Str) (ps:List Sh),(∀p∈ps,a4u tg d p)->ps.length<=6->sA ahi (aj (sZ (a1v (sIt (s2 gIx (sV 0) (sI 1))) MI.t1 (vz (au n)) [])) cu) [some (.tup [.str hd,.tup (sds ps)])] []=.ok (bf (wts ps)) []:=λhd ps kp lp=>by
   have z:sZ (a1v (sIt (s2 gIx (sV 0) (sI 1))) MI.t1 (vz (au n)) []) [some (.tup [.str hd,.tup (sds ps)])] []=.ok (.rol ((ps.map λs=>(wt s:Int)).map D.int)) []:=by
    refine al2 ?_ (dg λ_ _=>c7 _) (by simp)
    rw[eL];refine a74 sd (λs=>D.int (wt s:Int)) ps (acu (qu rfl rfl) (by rw[a3j];rfl)) (j5 (by omega)) λp hp=>?_
    rw[a9r];unfold vz;exact qd (bz rfl) (ih p (kp p hp) [])
   refine qd z ?_;unfold ahi;simp only[SRC.ints_map,ad0]
  match s,k with
  |.one sg,k =>
   rw[sd,wt];exact aK toR (v6 (aR (ifT (by walk_at "x")) (m9 ckk)))
  |.row ps,k =>
   rw[sd,wt];refine eti (by walk_at "x") ?_
   exact aK toR (v6 (ifr (t2s (qu rfl SHD.ix0) (a0e ckk ckk a4e) (a2h _ _)) (many _ ps k.2 k.1)))
  |.eit ps,k =>
   rw[sd,wt];refine eti (by walk_at "x") ?_
   exact aK toR (v6 (ifr (t2s (qu rfl SHD.ix0) (a0e ckk ckk a4e) (a2h _ _)) (many _ ps k.2.2 k.2.1)))
  |.many p,k =>
   rw[sd,wt];have c1:=ih p k;refine eti (by walk_at "x") ?_
   refine eti (t2s (qu rfl SHD.ix0) (a0e ckk ckk a4e) (a2h _ _)) ?_;exact aK toR (v6 (ifr (by walk_at "x") (by walk_at "x")))
  |.tim p lo hi,k =>
   rw[sd,wt];have c1:=ih p k.2.2;have h4:=k.2.1;refine eti (by walk_at "x") ?_
   refine eti (t2s (qu rfl SHD.ix0) (a0e ckk ckk a4e) (a2h _ _)) ?_;refine eti (by walk_at "x") ?_
   have m:yq (bf hi) (bf (wt p)) []=.ok (bf (hi*wt p)) []:=a3e.trans ((aN (.inl ⟨by omega,by omega⟩)).trans (by rw[<-i5]))
   exact aK toR (m9 (nu (qu rfl SHD.ix3) (qd (qu rfl SHD.ix1) (c1 _)) m))
noncomputable def lq:SF:=nq (a2r SRC.ak) 7
theorem aqt{tg:List Nat}(t1:1<=tg.length)(t6:tg.length<=6)(nd:tg.Nodup){o:O}{N:Nat}(P:Src o N)(hN:N<=999999000):∃l o',1<=l.length/\l.length<=tg.length/\l.Nodup/\(∀c∈l,c∈tg)/\Dr lq 2 [.str (S tg)] o (.str (S l)) o'/\Src o' (N+8):=by
 have lt:∀h,xq [.str (S tg)] h=.ok (bf tg.length) h:=λh=>aqk (j5 (by omega))
 obtain⟨many,o1,m1,m6,P1,pre⟩:∃(many:Nat) (o1:O),1<=many/\many<=tg.length/\Src o1 (N+2)/\∀g:SS,iu (sIf (sT (s2 hEq (sA (jh false 2 SRC.ak) (aj (sV 0) (aj (sI 2) cu))) (sI 0))) (m7 4 (s2 gk (sI 1) (sA (jh false 2 SRC.ak) (aj (sV 0) (aj (sA xq (aj (sV 1) cu)) cu))))) sNx) g [some (.ref 0),some (.str (S tg)),some (.str (S tg)),some (.str (S [])),some (.int 1),none,none] [o]=g [some (.ref 0),some (.str (S tg)),some (.str (S tg)),some (.str (S [])),some (bf many),none,none] [o1]:=by
  obtain⟨q,u,e,_,Q⟩:=dw (m:=2) P (by omega) (by decide) (by decide)
  by_cases hq:q=0
  ·obtain⟨r,u',e',r1,Q'⟩:=dw (m:=(tg.length:Int)) Q (by omega) (by omega) (by omega)
   refine⟨1+r,u',by omega,by omega,Q',λg=>um (aR (ifT (t2s (a0e (bz rfl) ckk (e 0 _ rfl)) ckk (zg (by omega)))) (ant (nu ckk (a0e (bz rfl) (qd (bz rfl) (lt _)) (e' 0 _ rfl)) ag6)))⟩
  ·exact⟨1,u,by omega,by omega,Q.up (by omega),λg=>ifN (t2s (a0e (bz rfl) ckk (e 0 _ rfl)) ckk (zj (by omega)))⟩
 obtain⟨τ',h',e2,aG,told,u,t5,t6',rfl,rfl,P2,l1,l2,nd',sb⟩:=a0w (g:=kN 5) (b:=a0y SRC.ak) bf
  (λpre τ h=>∃(aG told:List Nat) (u:O) (t5 t6:Option D),τ=[some (.ref 0),some (.str (S tg)),some (.str (S aG)),some (.str (S told)),some (bf many),t5,t6]/\h=[u]/\Src u (N+2+pre.length)/\told.length=pre.length/\(told++aG).length=tg.length/\(told++aG).Nodup/\∀c∈told++aG,c∈tg)
  (List.range many) [some (.ref 0),some (.str (S tg)),some (.str (S tg)),some (.str (S [])),some (bf many),none,none] [o1] (by
   rintro pre i post τ h al ⟨aG,told,u,t5,t6',rfl,rfl,P2,l1,l2,nd',sb⟩
   have aH:pre.length<many:=by
    have:=aK List.length al
    simp at this;omega
   rw[ae]at l2;obtain⟨j,u',e2,rb,P3⟩:=dw (m:=(aG.length:Int)) P2 (by omega) (by omega) (by omega)
   have hj:j<aG.length:=by omega
   have gx:aG[j]? = some aG[j]:=ai hj;have pp:=abb told aG j aG[j] gx;refine⟨_,_,rfl,_,_,?_,aG.take j++aG.drop (j+1),told++[aG[j]],u',some (bf i),some (bf j),rfl,rfl,by simpa[c9] using P3,by simp[l1],?_,pp.nodup_iff.mp nd',λc hc=>sb c (pp.mem_iff.mpr hc)⟩
   ·unfold a0y;refine aR (jk (a0e (bz rfl) (qd (bz rfl) (aqk (j5 (by omega)))) (e2 0 [u] rfl))) ?_
    refine aR (um (a2d rfl (nu (bz rfl) (bz rfl) (azm (j5 (by omega)) gx)) (SRC.anu (j5 (by simp;omega))))) ?_
    exact ant (nu (SRC.am1 (bz rfl) rfl (SRC.am0 (bz rfl)) (azn j (j5 (by omega)))) (SRC.am1 (bz rfl) (SRC.am0 (qu rfl a1k)) rfl (anr (j+1) (j5 (by omega)))) (alw (j5 (by simp;omega))))
   ·rw[<-pp.length_eq];simpa using l2) ⟨tg,[],o1,none,none,rfl,rfl,P1,rfl,rfl,nd,λc hc=>hc⟩
 rw[bK]at P2 l1;refine⟨told,u,by omega,by omega,(bS.mp nd').1,λc hc=>sb c (cN _ hc),Dr.of rfl (by simp[du]) P.clo (r:=.ok (.str (S told)) [u]) ?_ (jr (du _) (by simpa using a1y (by omega) P2.clo)) (du _) P2.clo,P2.up (by omega)⟩
 unfold lq;rw[iw];show toR (a2r SRC.ak [some (.ref 0),some (.str (S tg)),none,none,none,none,none] [o])=_;unfold a2r;refine ets (bz rfl) ?_;refine etr (jk ckk) ?_;refine etr (jk ckk) ?_;refine etr (pre _) ?_;refine etr (a2e (aqm (n:=many) (bz rfl) (j5 (by omega)))) ?_
 refine aR (aK (λz=>toR (MI.thn z _)) e2) ?_;exact aK toR (m9 (bz rfl))
mutual
def Nd:Sh->Prop
 |.one s=>s.Nodup
 |.row ps=>Nds ps
 |.eit ps=>Nds ps
 |.many p=>Nd p
 |.tim p _ _=>Nd p
def Nds:List Sh->Prop
 |[]=>True
 |p::ps=>Nd p/\Nds ps
end
theorem ajc:∀{l:List Sh} {s:Sh},Nds l->Nd s->Nds (l++[s])
 |[],s,_,h=>by rw[dH,Nds,Nds];exact⟨h,trivial⟩
 |p::l,s,a,h=>by rw[Nds]at a;rw[bV,Nds];exact⟨a.1,ajc a.2 h⟩
def Dr5(F:SF)(a b c:D)(o q:O)(d:D)(o' q':O):Prop:=∀i j h,i≠j->h[i]? = some o->h[j]? = some q->jh false 5 F [.ref i,a,b,c,.ref j] h=.ok d ((h.set i o').set j q')
theorem Dr5.of{F:SF}{x:Str}{y z:Int}{o o' q q':O}{r:R D}{d:D}(co:vg 0 o)(cq:vg 0 q)(e:F [.ref 0,.str x,.int y,.int z,.ref 1] [o,q]=r)(zz:a7x 2 r=.ok d [o',q'])(c:clo 0 d)(co':vg 0 o')(cq':vg 0 q'):Dr5 F (.str x) (.int y) (.int z) o q d o' q':=λi j h ne hi hj=>by
 have e1:a0v [.ref i,.str x,.int y,.int z,.ref j]=[i,j]:=rfl;have e2:a0i 0 [.ref i,.str x,.int y,.int z,.ref j]=[.ref 0,.str x,.int y,.int z,.ref 1]:=rfl;unfold jh;rw[aN (by rfl:([D.ref i,D.str x,D.int y,D.int z,D.ref j]:List D).length=5)]
 unfold aph;rw[e1];simp only[a0r,hi,hj,aJ,bC,cD,eY,gE,Nat.reduceAdd];have all:∀v∈[D.ref i,.str x,.int y,.int z,.ref j],clo 0 v\/isRef v:=λv hv=>by
  simp only[aO,bD,dA]at hv
  rcases hv with rfl|rfl|rfl|rfl|rfl
  ·exact .inr ⟨i,rfl⟩
  ·exact .inl (du _)
  ·exact .inl (c7 _)
  ·exact .inl (c7 _)
  ·exact .inr ⟨j,rfl⟩
 rw[aN ⟨by simp[ne],all,λu hu=>by simp only[aO,bD,dA]at hu;rcases hu with rfl|rfl;exact co;exact cq⟩,e2,e,zz]
 simp[c,co',cq',vh]
theorem azo{F:SF}{a b c:D}{o o' p p':O}{d:D}{h:Hd}(q:Dr5 F a b c o p d o' p'):jh false 5 F [.ref 0,a,b,c,.ref 1] (o::p::h)=.ok d (o'::p'::h):=q 0 1 (o::p::h) (by decide) rfl rfl
noncomputable def dh:Nat->SF
 |0=>λ_ _=>.no
 |n+1=>nq (a01 SRC.ak lq (dh n) (au 5)) 11
def Drawn(tg:List Nat)(n d:Nat):Prop:=∀(o:O) (N p:Nat) (x:Int),Src o N->N+bnd d<=900000000->p<=1000->∃s o',a4u tg d s/\wt s<=p/\Nd s/\Dr5 (dh n) (.str (S tg)) (bf d) (bf p) o (.lst [.int x]) (sd s) o' (.lst [.int (x-pn s)])/\Src o' (N+bnd d)
def Res(tg:List Nat)(d N p:Nat)(x:Int)(r:R D):Prop:=∃s o' hs,r=.ok (sd s) (o'::.lst [.int (x-pn s)]::hs)/\a4u tg d s/\wt s<=p/\Nd s/\Src o' N
theorem Res.tr{tg:List Nat}{d N p:Nat}{x:Int}{r r':R D}(e:r=r')(q:Res tg d N p x r'):Res tg d N p x r:=e ▸ q
theorem Res.to{tg:List Nat}{d N p n:Nat}{o:O}{x:Int}{r:R D}(co:vg 0 o)(e:dh n [.ref 0,.str (S tg),bf d,bf p,.ref 1] [o,.lst [.int x]]=r)(q:Res tg d N p x r):∃s o',a4u tg d s/\wt s<=p/\Nd s/\Dr5 (dh n) (.str (S tg)) (bf d) (bf p) o (.lst [.int x]) (sd s) o' (.lst [.int (x-pn s)])/\Src o' N:=by
 obtain⟨s,o',hs,e',k,w,nd,P⟩:=q;exact⟨s,o',k,w,nd,Dr5.of co (acx _) (e.trans e') (b1e (ww s) P.clo (acx _)) (ww s) P.clo (acx _),P⟩
theorem am4{tg:List Nat}{n d p:Nat}{o:O}{x:Int}:dh (n+1) [.ref 0,.str (S tg),bf d,bf p,.ref 1] [o,.lst [.int x]]=toR (a01 SRC.ak lq (dh n) (au 5) [some (.ref 0),some (.str (S tg)),some (bf d),some (bf p),some (.ref 1),none,none,none,none,none,none] [o,.lst [.int x]]):=by
 show nq (a01 SRC.ak lq (dh n) (au 5)) 11 [.ref 0,.str (S tg),bf d,bf p,.ref 1] [o,.lst [.int x]]=_;rw[iw];rfl
theorem ix8(r:Nat)(h:r<8)(h':Hd):∃m:Nat,1<=m/\m<=6/\gIx (.tup [.int 1,.int 2,.int 2,.int 3,.int 3,.int 4,.int 5,.int 6]) (bf r) h'=.ok (bf m) h':=by
 rcases r with _|_|_|_|_|_|_|_|r
 ·exact⟨1,by decide,by decide,rfl⟩
 ·exact⟨2,by decide,by decide,rfl⟩
 ·exact⟨2,by decide,by decide,rfl⟩
 ·exact⟨3,by decide,by decide,rfl⟩
 ·exact⟨3,by decide,by decide,rfl⟩
 ·exact⟨4,by decide,by decide,rfl⟩
 ·exact⟨5,by decide,by decide,rfl⟩
 ·exact⟨6,by decide,by decide,rfl⟩
 ·omega
theorem ixq{o:O}{v:D}{h:Hd}:gIx (.ref 1) (.int 0) (o::.lst [v]::h)=.ok v (o::.lst [v]::h):=rfl
local macro_rules|`(tactic|walk_at "l") => `(tactic|first|((with_reducible apply azo);with_reducible assumption)|(with_reducible exact ixq)|(with_reducible exact subn)|(with_reducible exact a9w))
theorem a88{tg:List Nat}(t1:1<=tg.length)(t6:tg.length<=6)(nd:tg.Nodup){n d:Nat}(hd:d<=4)(ih:0<d->Drawn tg n d):Drawn tg (n+1) (d+1):=by
 intro o N p x P hN hp
 have bl:=aja d;have be:bnd (d+1)=7*bnd d:=rfl;refine Res.to P.clo am4 ?_;unfold a01;obtain⟨r,o1,e1,r1,P1⟩:=dw (m:=9) P (by omega) (by decide) (by decide)
 have pu:put (.ref 1) (.int 0) (.int (x-1)) [o,.lst [.int x]]=some [o,.lst [.int (x-1)]]:=rfl;refine Res.tr (aK toR (um (SRC.awr (bz rfl) ckk (SRC.aeb (i:=1) (j:=0) rfl rfl) ckk (uy _ _) pu))) ?_;refine Res.tr (aK toR (jk (by walk_at "x"))) ?_
 by_cases leaf:d=0\/x-1<1\/r=0
 ·have c:sOr (sT (s2 hEq (sV 2) (sI 1))) (sOr (sT (s2 gLt (s2 gIx (sV 4) (sI 0)) (sI 1))) (sT (s2 hEq (sV 5) (sI 0)))) [some (.ref 0),some (.str (S tg)),some (bf (d+1)),some (bf p),some (.ref 1),some (bf r),none,none,none,none,none] [o1,.lst [.int (x-1)]]=.ok true [o1,.lst [.int (x-1)]]:=by
   by_cases a:d=0
   ·exact orT (by walk_at "x")
   ·by_cases b:x-1<1
    ·exact orF (by walk_at "x") (orT (by walk_at "x"))
    ·have:r=0:=by omega
     exact orF (by walk_at "x") (orF (by walk_at "x") (by walk_at "x"))
  have emp:∀u:O,Src u (N+2)->Res tg (d+1) (N+bnd (d+1)) p x (.ok (sd (.row [])) [u,.lst [.int (x-1)]]):=λu Q=>⟨.row [],u,[],by rw[pn,pns];simp,⟨by simp,by simp⟩,by rw[wt,wts];omega,by rw[Nd,Nds];trivial,Q.up (by omega)⟩
  by_cases p0:p=0
  ·refine Res.tr (aK toR (v6 (aR (ifT c) (v6 (ifr (orT (by walk_at "x")) (by walk_at "x")))))) (emp o1 (P1.up (by omega)))
  ·obtain⟨q,o2,e2,q1,P2⟩:=dw (m:=8) P1 (by omega) (by decide) (by decide)
   by_cases q0:q=0
   ·refine Res.tr (aK toR (v6 (aR (ifT c) (v6 (ifr (orF (by walk_at "x") (by walk_at "x")) (by walk_at "x")))))) (emp o2 P2)
   ·obtain⟨l,o3,l1,l2,l3,l4,e3,P3⟩:=aqt t1 t6 nd P2 (by omega)
    refine Res.tr (aK toR (v6 (aR (ifT c) (aR (ifN (orF (by walk_at "x") (by walk_at "x"))) (m9 (by walk_at "x")))))) ?_
    exact⟨.one l,o3,[],by rw[pn];rfl,⟨l1,by omega,l4⟩,by rw[wt];omega,by rw[Nd];exact l3,P3.up (by omega)⟩
 ·have d0:¬ d=0:=λz=>leaf (.inl z);have xp:¬ x-1<1:=λz=>leaf (.inr (.inl z));have rp:¬ r=0:=λz=>leaf (.inr (.inr z));refine Res.tr (aK toR (ifN (orF (by walk_at "x") (orF (by walk_at "x") (by walk_at "x"))))) ?_
  have ih:=ih (by omega)
  obtain⟨d,rfl⟩:∃d',d=d'+1:=⟨d-1,by omega⟩
  by_cases h3:r<3
  ·obtain⟨s,o3,k3,w3,n3,e3,P3⟩:=ih o1 (N+1) p (x-1) P1 (by omega) hp
   refine Res.tr (aK toR (v6 (ifr (by walk_at "x") (by walk_at "x")))) ?_
   exact⟨.many s,o3,[],by rw[sd,pn,show x-1-(pn s:Int)=x-((1+pn s:Nat):Int) by omega];rfl,k3,by rw[wt];exact w3,by rw[Nd];exact n3,P3.up (by omega)⟩
  ·refine Res.tr (aK toR (ifN (by walk_at "x"))) ?_
   by_cases h5:r<5
   ·obtain⟨hi,o2,e2,b1,P2⟩:=dw (m:=5) P1 (by omega) (by decide) (by decide)
    obtain⟨lo,o3,e3,c1,P3⟩:=dw (m:=(hi:Int)+1) P2 (by omega) (by omega) (by omega)
    obtain⟨m,hm,m1,mw⟩:∃m:Nat,a6k [.int 1,bf hi] [o3,.lst [.int (x-1)]]=.ok (bf m) [o3,.lst [.int (x-1)]]/\1<=m/\m<=4/\hi<=m:=by
     refine⟨(if (hi:Int) > 1 then (hi:Int) else 1).toNat,?_,?_⟩
     ·show R.ok (D.int (if (hi:Int) > 1 then (hi:Int) else 1)) _=_
      rw[show bf (if (hi:Int) > 1 then (hi:Int) else 1).toNat=D.int (if (hi:Int) > 1 then (hi:Int) else 1) from aK D.int (by split<;>omega)]
     ·split<;>omega
    obtain⟨s,o4,k4,w4,n4,e4,P4⟩:=ih o3 (N+1+1+1) (p / m) (x-1) P3 (by omega) (bO (Nat.div_le_self _ _) hp)
    have dv:a5m (bf p) (bf m) [o3,.lst [.int (x-1)]]=.ok (bf (p / m)) [o3,.lst [.int (x-1)]]:=(div_ii ⟨by omega,by omega⟩).trans (by rw[<-Int.natCast_ediv])
    refine Res.tr (aK toR (v6 (aR (ifT (by walk_at "x")) (aR (jk (by walk_at "x")) (aR (jk (a0e (bz rfl) (qu rfl a9w) (drz e3))) (m9 (aoo (cns ckk (cns (aoo (cns (bz rfl) (cns (bz rfl) (cns (qu rfl subn) (cns (nu (bz rfl) (a0e ckk (bz rfl) hm) dv) (cns (bz rfl) nlo))))) (azo e4)) (cns (bz rfl) (cns (bz rfl) nlo)))) b1f))))))) ?_
    refine⟨.tim s lo hi,o4,[],by rw[sd,pn,show x-1-(pn s:Int)=x-((1+pn s:Nat):Int) by omega];rfl,⟨by omega,by omega,k4⟩,?_,by rw[Nd];exact n4,P4.up (by omega)⟩
    rw[wt];exact bO (cX mw.2 w4) (Nat.mul_div_le p m)
   ·refine Res.tr (aK toR (ifN (by walk_at "x"))) ?_
    obtain⟨q,o2,e2,q1,P2⟩:=dw (m:=8) P1 (by omega) (by decide) (by decide)
    obtain⟨k,k1,k6,hk⟩:=ix8 q (by omega) [o2,.lst [.int (x-1)],.lst []]
    have nl:MI.u9 [] [o1,.lst [.int (x-1)]]=.ok (.ref 2) [o1,.lst [.int (x-1)],.lst []]:=aN (j5 (by simp))
    refine Res.tr (aK toR (jk (aoo nlo nl))) ?_;have t8:MI.yg [.int 1,.int 2,.int 2,.int 3,.int 3,.int 4,.int 5,.int 6] [o1,.lst [.int (x-1)],.lst []]=.ok (.tup [.int 1,.int 2,.int 2,.int 3,.int 3,.int 4,.int 5,.int 6]) [o1,.lst [.int (x-1)],.lst []]:=by unfold MI.yg;rw[aN (j5 (by simp))]
    have it:sRg a2w (aj (s2 gIx (sA MI.yg (aj (sI 1) (aj (sI 2) (aj (sI 2) (aj (sI 3) (aj (sI 3) (aj (sI 4) (aj (sI 5) (aj (sI 6) cu))))))))) (sA (jh false 2 SRC.ak) (aj (sV 0) (aj (sI 8) cu)))) cu) [some (.ref 0),some (.str (S tg)),some (bf (d+1+1)),some (bf p),some (.ref 1),some (bf r),none,none,some (.ref 2),none,none] [o1,.lst [.int (x-1)],.lst []]=.ok ⟨(List.range k).map bf,λ_=>True⟩ [o2,.lst [.int (x-1)],.lst []]:=by
     unfold sRg;rw[arg1 (nu (aoo (cns ckk (cns ckk (cns ckk (cns ckk (cns ckk (cns ckk (cns ckk (cns ckk nlo)))))))) t8) (a0e (bz rfl) ckk (drz e2)) hk),dj];exact aea _ (j5 (by omega))
    refine Res.tr (aK toR (a2e it)) ?_;obtain⟨τ',h',e3,ss,o3,t9,t10,rfl,rfl,P3,ks,ws,ns,sl,s1⟩:=a0w (g:=kN 9) (b:=xm SRC.ak lq (dh n) (au 5)) bf
     (λpre τ h=>∃(ss:List Sh) (o':O) (t9 t10:Option D),τ=[some (.ref 0),some (.str (S tg)),some (bf (d+1+1)),some (bf (p-wts ss)),some (.ref 1),some (bf r),none,none,some (.ref 2),t9,t10]/\h=[o',.lst [.int (x-1-pns ss)],.lst (ss.map sd)]/\Src o' (N+2+pre.length*bnd (d+1))/\(∀s∈ss,a4u tg (d+1) s)/\wts ss<=p/\Nds ss/\ss.length<=pre.length/\(1<=pre.length->1<=ss.length))
     (List.range k) [some (.ref 0),some (.str (S tg)),some (bf (d+1+1)),some (bf p),some (.ref 1),some (bf r),none,none,some (.ref 2),none,none] [o2,.lst [.int (x-1)],.lst []] (by
      rintro pre i post τ h al ⟨ss,o',t9,t10,rfl,rfl,P',ks,ws,ns,sl,s1⟩
      have hl:pre.length<k:=by
       have:=aK List.length al
       simp at this;omega
      have kb:(pre.length+1)*bnd (d+1)<=6*bnd (d+1):=cC _ (by omega)
      rw[bX]at kb;refine⟨_,_,rfl,?_⟩;show ∃τ2 h2,xm SRC.ak lq (dh n) (au 5) [some (.ref 0),some (.str (S tg)),some (bf (d+1+1)),some (bf (p-wts ss)),some (.ref 1),some (bf r),none,none,some (.ref 2),some (bf i),t10] [o',.lst [.int (x-1-pns ss)],.lst (ss.map sd)]=.nx τ2 h2/\_;unfold xm
      by_cases room:0<x-1-(pns ss:Int)
      ·obtain⟨s,o5,k5,w5,n5,e5,P5⟩:=ih o' _ (p-wts ss) (x-1-pns ss) P' (by omega) (by omega)
       have c1:=a0q (d+1) 5 (by omega) s k5
       have sb:MI.a8k (bf (p-wts ss)) (bf (wt s)) [o5,.lst [.int (x-1-pns ss-pn s)],.lst (ss.map sd)]=.ok (bf (p-wts (ss++[s]))) [o5,.lst [.int (x-1-pns ss-pn s)],.lst (ss.map sd)]:=by
        rw[uy,acz,show((p-wts ss:Nat):Int)-(wt s:Nat)=((p-(wts ss+wt s):Nat):Int) by omega]
       refine⟨_,_,aR (ifT (by walk_at "x")) (aR (jk (by walk_at "x")) (aR (um (a2d rfl (qd (bz rfl) (c1 _)) sb)) (a4d (bz rfl) rfl (cns (bz rfl) nlo) (abd (i:=2) rfl (aj1 (by simp;omega)))))),ss++[s],o5,some (bf i),some (sd s),rfl,?_,?_,?_,?_,?_,?_,?_⟩
       ·rw[bg,ajb];show[o5,O.lst [.int (x-1-pns ss-pn s)],.lst (ss.map sd++[sd s])]=_;rw[show x-1-(pns ss:Int)-(pn s:Int)=x-1-((pns ss+pn s:Nat):Int) by omega]
        rfl
       ·rw[ae,aM,bX,<-c9];exact P5
       ·intro u hu
        rcases aX.mp hu with hu|hu
        ·exact ks u hu
        ·rw[aI.mp hu];exact k5
       ·rw[acz];omega
       ·exact ajc ns n5
       ·rw[ae,ae,aM,aM];omega
       ·intro _;rw[ae,aM];omega
      ·refine⟨_,_,ifF (by walk_at "x"),ss,o',some (bf i),t10,rfl,rfl,P'.up ?_,ks,ws,ns,?_,?_⟩
       ·rw[ae,aM,bX];omega
       ·rw[ae];omega
       ·intro _
        by_cases z:1<=pre.length
        ·exact s1 z
        ·exfalso
         have:ss.length=0:=by omega
         rw[gV.mp this,pns]at room;omega) ⟨[],o2,none,none,by rw[wts];rfl,by rw[pns];simp,by simpa using P2,by simp,by rw[wts];omega,by rw[Nds];trivial,by simp,by simp⟩
    rw[bK]at P3 sl s1;have kb:k*bnd (d+1)<=6*bnd (d+1):=cC _ k6;refine Res.tr (aK (λz=>toR (MI.thn z _)) e3) ?_;rw[a5d];have tp:wu [.ref 2] [o3,.lst [.int (x-1-pns ss)],.lst (ss.map sd)]=.ok (.tup (ss.map sd)) [o3,.lst [.int (x-1-pns ss)],.lst (ss.map sd)]:=aqo rfl;have xe:x-1-(pns ss:Int)=x-((1+pns ss:Nat):Int):=by omega
    by_cases h7:r<7
    ·have g1:a5m (bf r) (.int 7) [o3,.lst [.int (x-1-pns ss)],.lst (ss.map sd)]=.ok (bf 0) [o3,.lst [.int (x-1-pns ss)],.lst (ss.map sd)]:=(div_ii ⟨by decide,by decide⟩).trans (by rw[show(r:Int) / 7=((0:Nat):Int) by omega])
     refine Res.tr (aK toR (m9 (a0e (nu (a0e ckk ckk a4e) (qu rfl g1) (a9s (j:=0) rfl)) (qd (bz rfl) tp) a4e))) ?_;exact⟨.row ss,o3,[.lst (ss.map sd)],by rw[sd,a3j,pn,xe];rfl,⟨by omega,ks⟩,by rw[wt];exact ws,by rw[Nd];exact ns,P3.up (by omega)⟩
    ·have g1:a5m (bf r) (.int 7) [o3,.lst [.int (x-1-pns ss)],.lst (ss.map sd)]=.ok (bf 1) [o3,.lst [.int (x-1-pns ss)],.lst (ss.map sd)]:=(div_ii ⟨by decide,by decide⟩).trans (by rw[show(r:Int) / 7=((1:Nat):Int) by omega])
     refine Res.tr (aK toR (m9 (a0e (nu (a0e ckk ckk a4e) (qu rfl g1) (a9s (j:=1) rfl)) (qd (bz rfl) tp) a4e))) ?_;exact⟨.eit ss,o3,[.lst (ss.map sd)],by rw[sd,a3j,pn,xe];rfl,⟨s1 (by omega),by omega,ks⟩,by rw[wt];exact ws,by rw[Nd];exact ns,P3.up (by omega)⟩
theorem aeg{tg:List Nat}(t1:1<=tg.length)(t6:tg.length<=6)(nd:tg.Nodup):∀(d n:Nat),d<=4->d<=n->Drawn tg (n+1) (d+1)
 |0,n,_,_=>a88 t1 t6 nd (by omega) λz=>absurd z (by omega)
 |d+1,0,_,h=>absurd h (by omega)
 |d+1,n+1,h,h'=>a88 t1 t6 nd h λ_=>aeg t1 t6 nd d n (by omega) (by omega)
theorem am5{α β:Type}{fi:SI}{t:D->Option Sd}{fe:SE}{ix:List Nat}{τ:Sd}{o0 o:O}{hs:Hd}(xs:List α)(g:α->D)(k:β->D)(Q:α->β->Prop){N B M:Nat}(P:Src o N)(hM:N+xs.length*B<=M)(z:xs.length<=1000000)(ch:∀u∈hs,vg 0 u)
  (e:fi τ (o0::hs)=.ok ⟨xs.map g,λ_=>True⟩ (o::hs)) (st:∀x∈xs,∀o N,Src o N->N+B<=M->∃y o',a8w t fe (frs' ix τ) (g x) (o::hs)=.ok (k y) (o'::hs)/\MI.clo 0 (k y)/\Q x y/\Src o' (N+B)) :
  ∃ys o',sZ (a1v fi t fe ix) τ (o0::hs)=.ok (.rol (ys.map k)) (o'::hs)/\All2 Q xs ys/\Src o' (N+xs.length*B)/\clos 0 (ys.map k):=by
 have mp:=ae0 (f:=a8w t fe (frs' ix τ)) g (λpre zs h=>∃(ys:List β) (o':O),zs=ys.map k/\h=o'::hs/\Src o' (N+pre.length*B)/\All2 Q pre ys/\clos 0 (ys.map k)) xs [] [] (o::hs) ?_ ⟨[],o,rfl,rfl,by simpa using P,.nil,fu⟩
 ·obtain⟨zs,h',mp,ys,o',zq,rfl,P',q,cl⟩:=mp;simp only[dH]at zq P' q;subst zq;refine⟨ys,o',zrl ?_ rfl cl (λu hu=>?_),q,P',cl⟩
  ·unfold a1v;rw[e,dj];dsimp only;rw[aN (j5 (by rw[ah];exact z)),mp]
   rfl
  ·rcases aO.mp hu with rfl|hu
   ·exact P'.clo
   ·exact ch u hu
 ·rintro pre x post zs h al ⟨ys,o',rfl,rfl,P',q,cl⟩
  have al:xs=pre++x::post:=al;have hl:pre.length+1<=xs.length:=by rw[al];simp
  have kb:(pre.length+1)*B<=xs.length*B:=cC _ hl;rw[bX]at kb;obtain⟨y,o'',e',cy,qy,P''⟩:=st x (by rw[al];simp) o' _ P' (by omega)
  refine⟨k y,o''::hs,e',ys++[y],o'',by simp,rfl,?_,q.snoc qy,?_⟩
  ·rw[ae,aM,bX];exact P''.up (by omega)
  ·rw[bg];exact EVT.jy cl (bu cy fu)
theorem a75(x:Nat):∀l:List Nat,inD (bf x) (l.map bf)=decide (x∈l)
 |[]=>by simp[inD]
 |y::l=>by
  show(eqF (bf y) (bf x) || inD (bf x) (l.map bf))=_
  rw[a75 x l];show(((y:Int) == (x:Int)) || decide (x∈l))=_
  by_cases h:y=x
  ·subst h;simp
  ·have:((y:Int) == (x:Int))=false:=cb.mpr (by omega)
   rw[this,Bool.false_or];exact eD.mpr (by simp[eX h])
theorem aeh(l:List Nat):(l.map bf).all xf=true:=by
 rw[bU]
 intro x hx
 obtain⟨y,_,rfl⟩:=da.mp hx;rfl
theorem avp(x:Nat)(l:List Nat)(h:Hd):gIn false (bf x) (.tup (l.map bf)) h=.ok (.bl (decide (x∈l))) h:=by
 show(if xf (bf x)=true/\(l.map bf).all xf=true then R.ok (D.bl (if false=true then !inD (bf x) (l.map bf) else inD (bf x) (l.map bf))) h else .no)=_
 rw[aN ⟨rfl,aeh l⟩,bp (by decide),a75]
theorem avq(x:Nat)(l:List Nat)(h:Hd):gIn false (bf x) (lsD l) h=.ok (.bl (decide (x∈l))) h:=by
 show(if xf (bf x)=true/\(l.map bf).all xf=true then R.ok (D.bl (if false=true then !inD (bf x) (l.map bf) else inD (bf x) (l.map bf))) h else .no)=_
 rw[aN ⟨rfl,aeh l⟩,bp (by decide),a75]
open Classical in
noncomputable def tk(w:List Nat)(s:Sh):Bool:=decide (En w 5 s 0 w.length)
end DRW
namespace K11
open L2 MI AT HND EVX SPR
open SHD
open PAP hiding u5 a1f a2f ju yc aof
open DRW (wt wts)
mutual
def pt:Sh->Pt
 |.one _=>aiq
 |.row ps=>abn (pts ps)
 |.eit ps=>a4h (pts ps)
 |.many p=>ajv (pt p)
 |.tim p lo hi=>aqg (pt p) lo hi
def pts:List Sh->List Pt
 |[]=>[]
 |p::ps=>pt p::pts ps
end
theorem ad1:∀l:List Sh,pts l=l.map pt
 |[]=>by rw[pts];rfl
 |p::l=>by rw[pts,ad1 l];rfl
mutual
theorem a4v:∀s:Sh,(pt s).w=wt s
 |.one _=>by rw[pt,wt];rfl
 |.row ps=>by rw[pt,wt];exact ad2 ps
 |.eit ps=>by rw[pt,wt];exact ad2 ps
 |.many p=>by rw[pt,wt];exact a4v p
 |.tim p lo hi=>by rw[pt,wt,<-a4v p];rfl
theorem ad2:∀l:List Sh,sw (pts l)=wts l
 |[]=>by rw[pts,wts];rfl
 |p::l=>by rw[pts,wts,sw,a4v p,ad2 l]
end
mutual
theorem a2i:∀s:Sh,(pt s).Ok
 |.one _=>by rw[pt];exact av8
 |.row ps=>by rw[pt];exact ank (a89 ps)
 |.eit ps=>by rw[pt];exact ais (a89 ps)
 |.many p=>by rw[pt];exact av9 (a2i p)
 |.tim p lo hi=>by rw[pt];exact ava (a2i p) lo hi
theorem a89:∀l:List Sh,∀x∈pts l,x.Ok
 |[],x,h=>by rw[pts]at h;cases h
 |p::l,x,h=>by
  rw[pts]at h
  rcases aO.mp h with rfl|h
  ·exact a2i p
  ·exact a89 l x h
end
def laid:Sh->List Sh
 |.one _=>[]
 |.row ps=>ps
 |.eit ps=>ps
 |.many p=>[p]
 |.tim p _ hi=>List.replicate hi p
noncomputable def ie:SF:=nq a2s 1
theorem aqu(x:D):ie [x] []=toR (a2s [some x] []):=by
 unfold ie;rw[iw];rfl
theorem a78(p:Sh):∀n,sds (List.replicate n p)=List.replicate n (sd p)
 |0=>by rw[fZ,sds];rfl
 |n+1=>by rw[aV,sds,a78 p n];rfl
theorem a3k{tg:List Nat}{d:Nat}{s:Sh}(k:a4u tg (d+1) s)(n1:∀sg,s≠.one sg):Pu ie 1 [sd s] (.tup (sds (laid s))):=by
 refine Pu.of rfl (by simp[ww]) (r:=.ok (.tup (sds (laid s))) []) ?_ (jr (gf (a2g _)) (by simp)) (gf (a2g _))
 rw[aqu];unfold a2s
 match s,k with
 |.one sg,_=>exact absurd rfl (n1 sg)
 |.row ps,k =>
  rw[sd,laid];exact aK toR (v6 (ifr (t2s (qu rfl SHD.ix0) (a0e ckk ckk a4e) (DRW.a2h _ _)) (qu rfl SHD.ix1)))
 |.eit ps,k =>
  rw[sd,laid];exact aK toR (v6 (ifr (t2s (qu rfl SHD.ix0) (a0e ckk ckk a4e) (DRW.a2h _ _)) (qu rfl SHD.ix1)))
 |.many p,k =>
  rw[sd,laid];refine eti (t2s (qu rfl SHD.ix0) (a0e ckk ckk a4e) (DRW.a2h _ _)) ?_;refine aK toR (v6 (aR (ifT (by walk_at "x")) (m9 ?_)))
  rw[sds,sds];exact qd (qu rfl SHD.ix1) a1f
 |.tim p lo hi,k =>
  rw[sd,laid];refine eti (t2s (qu rfl SHD.ix0) (a0e ckk ckk a4e) (DRW.a2h _ _)) ?_;refine eti (by walk_at "x") ?_
  refine aK toR (m9 ?_);rw[a78];exact nu (qd (qu rfl SHD.ix1) a1f) (qu rfl SHD.ix3) (ay0 (by have:=k.2.1;omega))
theorem avr(a b:Nat)(h:Hd):yz (bf a) (bf b) h=.ok (bf (a+b)) h:=rfl
def enl:Nat->List Sh->List D
 |_,[]=>[]
 |i,q::qs=>.tup [bf i,sd q]::enl (i+1) qs
theorem anv:∀(i:Nat) (ps:List Sh),((List.range' i (sds ps).length).zip (sds ps)).map (λp=>D.tup [.int (p.1:Nat),p.2])=enl i ps
 |_,[]=>by rw[sds];rfl
 |i,q::ps=>by
  have ih:=anv (i+1) ps;rw[sds,aJ,List.range'_succ,List.zip_cons_cons,bH,ih];rfl
theorem aei{τ:Sd}{h:Hd}{f:SE}{ps:List Sh}(e:f τ h=.ok (.tup (sds ps)) h):aaw f τ h=.ok ⟨enl 0 ps,λ_=>True⟩ h:=by
 unfold aaw;rw[e,dj];show R.ok (⟨((List.range (sds ps).length).zip (sds ps)).map λp=>.tup [.int (p.1:Nat),p.2],λ_=>True⟩:Itm) h=_;rw[List.range_eq_range',anv]
section
variable{c1 c2:ST}{f g:SE}{τ:Sd}{h:Hd}{a b:Bool}
theorem aye(e:f τ h=.ok (.bl a) h)(e':g τ h=.ok (.bl b) h):a6g f g τ h=.ok (.bl (a && b)) h:=by
 cases a with
 |false=>exact avl e
 |true=>exact avi e e'
theorem b1g(e:f τ h=.ok (.bl a) h)(e':g τ h=.ok (.bl b) h):ag9 f g τ h=.ok (.bl (a || b)) h:=by
 cases a with
 |false=>exact EVT.b1d e e'
 |true=>exact EVT.b1c e
end
mutual
def mk:Sh->List (List Nat)
 |.one s=>[s]
 |.row ps=>mks ps
 |.eit ps=>mks ps
 |.many p=>mk p
 |.tim p _ hi=>(List.replicate hi (mk p)).flatten
def mks:List Sh->List (List Nat)
 |[]=>[]
 |p::ps=>mk p++mks ps
end
theorem a9x:∀l:List Sh,mks l=(l.map mk).flatten
 |[]=>by rw[mks];rfl
 |p::l=>by rw[mks,a9x l];rfl
mutual
theorem a8a:∀s:Sh,(mk s).length=wt s
 |.one _=>by rw[mk,wt];rfl
 |.row ps=>by rw[mk,wt];exact ad3 ps
 |.eit ps=>by rw[mk,wt];exact ad3 ps
 |.many p=>by rw[mk,wt];exact a8a p
 |.tim p lo hi=>by rw[mk,wt,List.length_flatten,fA,a8a p,List.sum_replicate_nat]
theorem ad3:∀l:List Sh,(mks l).length=wts l
 |[]=>by rw[mks,wts];rfl
 |p::l=>by rw[mks,wts,ae,a8a p,ad3 l]
end
abbrev sgD(l:List (List Nat)):List D:=l.map λz=>D.str (S z)
theorem a2j(l:List (List Nat)):clos 0 (sgD l):=dg λ_ _=>du _
abbrev KP:List Str:=["signs","firsts","pairs","lasts","empty"]
abbrev prD(p:Nat×Nat):D:=.tup [bf p.1,bf p.2]
abbrev pD(sg:List (List Nat))(fs:List Nat)(ps:List (Nat×Nat))(ls:List Nat)(e:Bool):D:=.ins "Patch" KP [.rol (sgD sg),.rol (fs.map bf),.rol (ps.map prD),.rol (ls.map bf),.bl e]
theorem a5g{a b c d e:D}{h:Hd}:qj "Patch" "signs" (.ins "Patch" KP [a,b,c,d,e]) h=.ok a h:=rfl
theorem a4f{a b c d e:D}{h:Hd}:qj "Patch" "firsts" (.ins "Patch" KP [a,b,c,d,e]) h=.ok b h:=rfl
theorem a8b{a b c d e:D}{h:Hd}:qj "Patch" "pairs" (.ins "Patch" KP [a,b,c,d,e]) h=.ok c h:=rfl
theorem a3f{a b c d e:D}{h:Hd}:qj "Patch" "lasts" (.ins "Patch" KP [a,b,c,d,e]) h=.ok d h:=rfl
theorem a8c{a b c d e:D}{h:Hd}:qj "Patch" "empty" (.ins "Patch" KP [a,b,c,d,e]) h=.ok e h:=rfl
noncomputable def bh:SF:=nq a0b 6
theorem a4w{k:Str}{fo fe:SE}{τ:Sd}{h:Hd}{i:Nat}{y:D}{fs:List (Str×D)}(e1:fe τ h=.ok y h)(e2:fo τ h=.ok (.ref i) h)(e3:h[i]? = some (.ins "Patch" fs))(z:fs.length<1000):a7h "Patch" k fo fe τ h=.nx τ (h.set i (.ins "Patch" (abm k y fs))):=by
 unfold a7h;rw[e1];show(fo τ h).fl _=_;rw[e2];show(match h[i]? with|some (.ins c' fs)=>if c' = "Patch"/\fs.length<1000 then Fl.nx τ (h.set i (.ins "Patch" (abm k y fs))) else .no|_=>.no)=_
 rw[e3];exact aN ⟨rfl,z⟩
theorem a9y{h:Hd}{i:Nat}{o u:O}(e:h[i]? = some o):(h.set i u)[i]? = some u:=by
 obtain⟨l,_⟩:=av.mp e;rw[cE l]
theorem aqv{a b c d e:D}{h:Hd}{i:Nat}(hi:h[i]? = some (.ins "Patch" [])):bh [.ref i,a,b,c,d,e] h=.ok .non (h.set i (.ins "Patch" (KP.zip [a,b,c,d,e]))):=by
 unfold bh;rw[iw];show toR (a0b [some (.ref i),some a,some b,some c,some d,some e] h)=_;unfold a0b;rw[um (a4w (bz rfl) (bz rfl) hi (by show 0<1000;omega))]
 have h1:=a9y (u:=.ins "Patch" (abm "signs" a [])) hi;rw[um (a4w (bz rfl) (bz rfl) h1 (by show 1<1000;omega))]
 have h2:=a9y (u:=.ins "Patch" (abm "firsts" b (abm "signs" a []))) h1;rw[um (a4w (bz rfl) (bz rfl) h2 (by show 2<1000;omega))]
 have h3:=a9y (u:=.ins "Patch" (abm "pairs" c (abm "firsts" b (abm "signs" a [])))) h2;rw[um (a4w (bz rfl) (bz rfl) h3 (by show 3<1000;omega))]
 have h4:=a9y (u:=.ins "Patch" (abm "lasts" d (abm "pairs" c (abm "firsts" b (abm "signs" a []))))) h3;rw[a4w (bz rfl) (bz rfl) h4 (by show 4<1000;omega)]
 simp only[List.set_set];rfl
theorem ajd{a b c d e:D}{h:Hd}:a2a "Patch" 5 bh [a,b,c,d,e] h=.ok (.ref h.length) (h++[.ins "Patch" (KP.zip [a,b,c,d,e])]):=by
 unfold a2a;rw[aN (show[a,b,c,d,e].length=5 from rfl),aqv (i:=h.length) (by simp)]
 simp
theorem five{f1 f2 f3 f4 f5:SE}{τ:Sd}{h:Hd}{a b c d e:D}(e1:f1 τ h=.ok a h)(e2:f2 τ h=.ok b h)(e3:f3 τ h=.ok c h)(e4:f4 τ h=.ok d h)(e5:f5 τ h=.ok e h):aj f1 (aj f2 (aj f3 (aj f4 (aj f5 cu)))) τ h=.ok [a,b,c,d,e] h :=
 cns e1 (cns e2 (cns e3 (cns e4 (cns e5 nlo))))
theorem avs{ka:SA}{τ:Sd}{h:Hd}{a b c d e:D}(ek:ka τ h=.ok [a,b,c,d,e] h)(cl:clos 0 [a,b,c,d,e])(ch:∀u∈h,vg 0 u):sZ (sA (a2a "Patch" 5 bh) ka) τ h=.ok (.ins "Patch" KP [a,b,c,d,e]) h:=by
 have ea:sA (a2a "Patch" 5 bh) ka τ h=.ok (.ref h.length) (h++[.ins "Patch" (KP.zip [a,b,c,d,e])]):=aoo ek ajd;unfold sZ;rw[ea];have cl':clos h.length [a,b,c,d,e]:=vy (ba _) cl;have z:=a3i (n:=h.length) (d:=.ref h.length) (d':=.ins "Patch" KP [a,b,c,d,e]) (h1:=h++[.ins "Patch" (KP.zip [a,b,c,d,e])]) ?_ ?_
 ·rw[z];simp
 ·show a1l h.length _ (19+1) _=_;rw[a1l,bp (by simp only[MI.clo];omega)]
  show(match (h++[O.ins "Patch" (KP.zip [a,b,c,d,e])])[h.length]? with|some (.lst xs)=>_|some (.dK kvs)=>_|some (.dT kvs)=>_|some (.ins c kvs)=>_|none=>_)=_
  rw[aP (ay _),Nat.sub_self];show(a0r (a1l h.length _ 19) [a,b,c,d,e]).map (D.ins "Patch" KP)=_;rw[a99 (f:=a1l h.length (h++[O.ins "Patch" (KP.zip [a,b,c,d,e])]) 19) λx hx=>a5q (k:=18) ((jx.mp cl') x hx)];rfl
 ·intro o ho
  simp only[List.take_left']at ho;exact a1y (ba _) (ch o (by simpa using ho))
theorem avt(sg:List (List Nat))(fs:List Nat)(ps:List (Nat×Nat))(ls:List Nat)(e:Bool):MI.clo 0 (pD sg fs ps ls e):=by
 simp only[MI.clo,MI.clos,and_true];exact⟨a2j _,dg λ_ _=>c7 _,dg λ_ _=>gf (bu (c7 _) (bu (c7 _) fu)),dg λ_ _=>c7 _⟩
theorem aje{c:ST}{fe:SE}{x:D}{rd:Sd}{h:Hd}{α:Type}(g F:α->D):∀(ys:List α) (zs:List D),zs.length+ys.length<=1000000->(∀y∈ys,c (some x::some (g y)::rd) h=.ok true h/\fe (some x::some (g y)::rd) h=.ok (F y) h)->aio (λ_=>True) c fe x rd (ys.map g) zs h=.ok (zs++ys.map F) h
 |[],zs,_,_=>by rw[dB,aio,aN True.intro,dB,bP]
 |y::ys,zs,hz,st=>by
  obtain⟨e1,e2⟩:=st y (by simp)
  rw[aJ]at hz;rw[bH,aio,aN True.intro,e1,dj,aN rfl,e2,dj,aN (j5 (by omega)),aje g F ys (zs++[F y]) (by rw[ae];show zs.length+1+ys.length<=_;omega) λy hy=>st y (by simp[hy])]
  rw[cJ];rfl
def prod(xs ys:List Nat):List (Nat×Nat):=xs.flatMap λx=>ys.map λy=>(x,y)
theorem a2v(xs ys:List Nat):(prod xs ys).length=xs.length*ys.length:=by
 unfold prod
 induction xs with
 |nil=>simp
 |cons x xs ih=>rw[fG,ae,ih,ah,aJ,bX];omega
theorem a9z{xs ys:List Nat}{p q:Nat}:(p,q)∈prod xs ys↔p∈xs/\q∈ys:=by
 unfold prod;simp only[hU,da,ia]
 constructor
 ·rintro⟨x,hx,y,hy,rfl,rfl⟩;exact⟨hx,hy⟩
 ·rintro⟨hx,hy⟩;exact⟨p,hx,q,hy,rfl,rfl⟩
theorem aej{fj:SI}{rd:Sd}{h:Hd}{ys:List Nat}(e:∀x:Nat,fj (some (bf x)::none::rd) h=.ok ⟨ys.map bf,λ_=>True⟩ h):∀(xs:List Nat) (zs:List D),zs.length+xs.length*ys.length<=1000000->a71 (λ_=>True) fj alq (sA yg (aj (sV 0) (aj (sV 1) cu))) rd (xs.map bf) zs h=.ok (zs++(prod xs ys).map prD) h
 |[],zs,_=>by rw[dB,a71,aN True.intro];show _=R.ok (zs++[]) h;rw[bP]
 |x::xs,zs,hz=>by
  rw[aJ,bX]at hz;rw[bH,a71,aN True.intro,e x,dj];have:=aje (c:=alq) (fe:=sA yg (aj (sV 0) (aj (sV 1) cu))) (x:=bf x) (rd:=rd) (h:=h) bf (λy=>prD (x,y)) ys zs (by omega) λy _=>⟨rfl,aoo (cns (bz rfl) (cns (bz rfl) nlo)) a4e⟩
  show(aio (λ_=>True) alq _ (bf x) rd (ys.map bf) zs h).bind _=_;rw[this,dj,aej e xs _ (by rw[ae,ah];omega)]
  unfold prod;rw[fG,bg,cJ,eL];rfl
theorem aqw{fi fj:SI}{ix:List Nat}{τ:Sd}{h:Hd}{xs ys:List Nat}(e1:fi τ h=.ok ⟨xs.map bf,λ_=>True⟩ h)(e2:∀x:Nat,fj (some (bf x)::none::frs' ix τ) h=.ok ⟨ys.map bf,λ_=>True⟩ h)(z:xs.length*ys.length<=1000000):acp fi fj alq (sA yg (aj (sV 0) (aj (sV 1) cu))) ix τ h=.ok (.ref h.length) (h++[.lst ((prod xs ys).map prD)]):=by
 unfold acp;rw[e1,dj];show(a71 (λ_=>True) fj alq _ (frs' ix τ) (xs.map bf) [] h).bind _=_;rw[aej e2 xs [] (by simpa using z)]
 rfl
theorem a79(ps:List (Nat×Nat)):clos 0 (ps.map prD):=dg λ_ _=>gf (bu (c7 _) (bu (c7 _) fu))
theorem dq(ps:List Nat):clos 0 (ps.map bf):=dg λ_ _=>c7 _
theorem anw{fi fj:SI}{ix:List Nat}{τ:Sd}{h:Hd}{xs ys:List Nat}(e1:fi τ h=.ok ⟨xs.map bf,λ_=>True⟩ h)(e2:∀x:Nat,fj (some (bf x)::none::frs' ix τ) h=.ok ⟨ys.map bf,λ_=>True⟩ h)(z:xs.length*ys.length<=1000000)(ch:∀u∈h,vg 0 u):sZ (acp fi fj alq (sA yg (aj (sV 0) (aj (sV 1) cu))) ix) τ h=.ok (.rol ((prod xs ys).map prD)) h :=
 zrl (aqw e1 e2 z) rfl (a79 _) ch
end K11
namespace K11
open L2 MI AT HND EVX SPR
open SHD
open PAP hiding u5 a1f a2f ju yc aof
open DRW (wt wts)
structure Pa where
 sg:List (List Nat)
 fs:List Nat
 ps:List (Nat×Nat)
 ls:List Nat
 e:Bool
abbrev pd(u:Pa):D:=pD u.sg u.fs u.ps u.ls u.e
def jn(u v:Pa):Pa:=⟨u.sg++v.sg,if u.e then u.fs++v.fs else u.fs,u.ps++prod u.ls v.fs++v.ps,if v.e then u.ls++v.ls else v.ls,u.e && v.e⟩
def again(u:Pa):Pa:=⟨u.sg,u.fs,u.ps++prod u.ls u.fs,u.ls,true⟩
structure Sm (u:Pa):Prop where
 sg:u.sg.length<=100
 fs:u.fs.length<=100
 ls:u.ls.length<=100
 ps:u.ps.length<=100000
theorem a0f(u:Pa):MI.clo 0 (pd u):=avt _ _ _ _ _
theorem ayf(u:Pa):∀y∈[pd u],MI.clo 0 y:=λy hy=>by
 obtain rfl:=aI.mp hy;exact a0f u
theorem b1h(u v:Pa):∀y∈[pd u,pd v],MI.clo 0 y:=λy hy=>by
 rcases aO.mp hy with rfl|hy
 ·exact a0f u
 ·exact ayf v y hy
theorem aqx{c:ST}{f g:SE}{τ:Sd}{h:Hd}{b:Bool}{xs ys:List Nat}(ec:c τ h=.ok b h)(e1:f τ h=.ok (.rol (xs.map bf)) h)(e2:g τ h=.ok (.rol (ys.map bf)) h):aam c f g τ h=.ok (.rol ((if b then xs else ys).map bf)) h:=by
 cases b with
 |true=>exact EVT.aws ec e1
 |false=>exact EVT.aqp ec e2
theorem azp{f g:SE}{τ:Sd}{xs ys:List Nat}(e1:f τ []=.ok (.rol (xs.map bf)) [])(e2:g τ []=.ok (.rol (ys.map bf)) [])(z:xs.length+ys.length<=1000000):sZ (s2 gk f g) τ []=.ok (.rol ((xs++ys).map bf)) []:=by
 rw[bg];exact EVT.ug e1 e2 rfl (dq _) (dq _) nlc (by simpa using z)
theorem ayg{f g:SE}{τ:Sd}{xs ys:List (Nat×Nat)}(e1:f τ []=.ok (.rol (xs.map prD)) [])(e2:g τ []=.ok (.rol (ys.map prD)) [])(z:xs.length+ys.length<=1000000):sZ (s2 gk f g) τ []=.ok (.rol ((xs++ys).map prD)) []:=by
 rw[bg];exact EVT.ug e1 e2 rfl (a79 _) (a79 _) nlc (by simpa using z)
theorem b1i{f g:SE}{τ:Sd}{xs ys:List (List Nat)}(e1:f τ []=.ok (.rol (sgD xs)) [])(e2:g τ []=.ok (.rol (sgD ys)) [])(z:xs.length+ys.length<=1000000):sZ (s2 gk f g) τ []=.ok (.rol (sgD (xs++ys))) []:=by
 have:sgD (xs++ys)=sgD xs++sgD ys:=bg
 rw[this];exact EVT.ug e1 e2 rfl (a2j _) (a2j _) nlc (by simpa using z)
theorem avu{f1 f2 f3 f4 f5:SE}{τ:Sd}{u:Pa}(e1:f1 τ []=.ok (.rol (sgD u.sg)) [])(e2:f2 τ []=.ok (.rol (u.fs.map bf)) [])(e3:f3 τ []=.ok (.rol (u.ps.map prD)) [])(e4:f4 τ []=.ok (.rol (u.ls.map bf)) [])(e5:f5 τ []=.ok (.bl u.e) []):sZ (sA (a2a "Patch" 5 bh) (aj f1 (aj f2 (aj f3 (aj f4 (aj f5 cu)))))) τ []=.ok (pd u) [] :=
 avs (five e1 e2 e3 e4 e5) (bu (ik (a2j _)) (bu (ik (dq _)) (bu (ik (a79 _)) (bu (ik (dq _)) (bu (uf _) fu))))) nlc
noncomputable def jz:SF:=nq (a5s bh) 5
theorem abh{u v:Pa}(hu:Sm u)(hv:Sm v):Pu jz 2 [pd u,pd v] (pd (jn u v)):=by
 obtain⟨a1,a2,a3,a4⟩:=hu;obtain⟨b1,b2,b3,b4⟩:=hv;have pl:(prod u.ls v.fs).length<=10000:=by rw[a2v];exact cX a3 b2
 refine Pu.of rfl (b1h u v) (r:=.ok (pd (jn u v)) []) ?_ (jr (a0f _) nlc) (a0f _);unfold jz;rw[iw];show toR (a5s bh [some (pd u),some (pd v),none,none,none] [])=_;unfold a5s;rw[jk (aqx (a1d (uv (bz rfl) a8c) (tu _)) (azp (uv (bz rfl) a4f) (uv (bz rfl) a4f) (by omega)) (uv (bz rfl) a4f))]
 refine ets (aqx (a1d (uv (bz rfl) a8c) (tu _)) (azp (uv (bz rfl) a3f) (uv (bz rfl) a3f) (by omega)) (uv (bz rfl) a3f)) ?_
 refine ets (anw (xs:=u.ls) (ys:=v.fs) (acu (uv (bz rfl) a3f) rfl) (λx=>acu (uv (bz rfl) a4f) rfl) (by rw[<-a2v];omega) nlc) ?_
 exact aK toR (m9 (avu (u:=jn u v) (b1i (uv (bz rfl) a5g) (uv (bz rfl) a5g) (by omega)) (bz rfl) (ayg (ayg (uv (bz rfl) a8b) (bz rfl) (by omega)) (uv (bz rfl) a8b) (by rw[ae];omega)) (bz rfl) (aye (uv (bz rfl) a8c) (uv (bz rfl) a8c))))
noncomputable def kj:SF:=nq (zf bh) 2
theorem am6{u:Pa}(hu:Sm u):Pu kj 1 [pd u] (pd (again u)):=by
 obtain⟨a1,a2,a3,a4⟩:=hu;have pl:(prod u.ls u.fs).length<=10000:=by rw[a2v];exact cX a3 a2
 refine Pu.of rfl (ayf u) (r:=.ok (pd (again u)) []) ?_ (jr (a0f _) nlc) (a0f _);unfold kj;rw[iw];show toR (zf bh [some (pd u),none] [])=_;unfold zf;refine ets (anw (xs:=u.ls) (ys:=u.fs) (acu (uv (bz rfl) a3f) rfl) (λx=>acu (uv (bz rfl) a4f) rfl) (by rw[<-a2v];omega) nlc) ?_
 exact aK toR (m9 (avu (u:=again u) (uv (bz rfl) a5g) (uv (bz rfl) a4f) (ayg (uv (bz rfl) a8b) (bz rfl) (by omega)) (uv (bz rfl) a3f) ckk))
structure PW (k:Nat) (x:Pt) (a:Nat) (u:Pa):Prop where
 n:u.sg.length=x.w
 e:u.e=x.e
 f:∀p,p∈u.fs↔x.B a p=true
 l:∀p,p∈u.ls↔x.E a p=true
 s:∀p q,(p,q)∈u.ps↔x.F a p q=true
 lf:u.fs.length<=x.w
 ll:u.ls.length<=x.w
 lp:u.ps.length<=k*(x.w*x.w)
theorem PW.sm{k:Nat}{x:Pt}{a:Nat}{u:Pa}(w:PW k x a u)(hk:k<=10)(hw:x.w<=100):Sm u :=
 ⟨by rw[w.n];exact hw,bO w.lf hw,bO w.ll hw,bO w.lp (cX hk (cX hw hw))⟩
theorem sq(k a b:Nat)(hk:1<=k):k*(a*a)+a*b+k*(b*b)<=k*((a+b)*(a+b)):=by
 have e:(a+b)*(a+b)=a*a+a*b+(a*b+b*b):=by rw[Nat.add_mul,gX,gX,eH b a]
 have:a*b<=k*(a*b):=Nat.le_mul_of_pos_left _ hk
 rw[e,gX,gX,gX];omega
theorem anx{u v:Pa}{k a b:Nat}(hk:1<=k)(h1:u.ps.length<=k*(a*a))(h2:v.ps.length<=k*(b*b))(h3:u.ls.length<=a)(h4:v.fs.length<=b):(jn u v).ps.length<=k*((a+b)*(a+b)):=by
 have:=sq k a b hk
 have:(prod u.ls v.fs).length<=a*b:=by rw[a2v];exact cX h3 h4
 show(u.ps++prod u.ls v.fs++v.ps).length<=_;rw[ae,ae];omega
theorem ayh{k:Nat}(hk:1<=k){xs:List Pt}{x:Pt}{a:Nat}{u v:Pa}(hu:PW k (abn xs) a u)(hv:PW k x (a+sw xs) v):PW k (abn (xs++[x])) a (jn u v) where
 n:=by show(u.sg++v.sg).length=sw (xs++[x]);rw[ae,hu.n,hv.n,a0p];rfl
 e:=by show(u.e && v.e)=aE (xs++[x]);rw[hu.e,hv.e,ait];rfl
 f:=λp=>by
  have h1:=hu.f p;have h2:=hv.f p;have he:=hu.e;show p∈(if u.e then u.fs++v.fs else u.fs)↔sB (xs++[x]) a p=true
  rw[aiu]
  change _↔sB xs a p=true at h1
  change u.e=aE xs at he
  rw[<-he]
  cases u.e<;>simp[h1,h2]
 l:=λp=>by
  have h1:=hu.l p;have h2:=hv.l p;have he:=hv.e;show p∈(if v.e then u.ls++v.ls else v.ls)↔sE (xs++[x]) a p=true
  rw[anm]
  change _↔sE xs a p=true at h1
  rw[<-he]
  cases v.e<;>simp[h1,h2]
 s:=λp q=>by
  have h1:=hu.s p q;have h2:=hv.s p q;have h3:=hu.l p;have h4:=hv.f q;show(p,q)∈u.ps++prod u.ls v.fs++v.ps↔sF (xs++[x]) a p q=true
  change _↔sF xs a p q=true at h1
  change _↔sE xs a p=true at h3
  rw[ano,aX,aX,a9z,h1,h2,h3,h4];simp
 lf:=by
  have h1:=hu.lf;have h2:=hv.lf;show(if u.e then u.fs++v.fs else u.fs).length<=sw (xs++[x])
  change _<=sw xs at h1
  rw[a0p]
  cases u.e<;>simp<;>omega
 ll:=by
  have h1:=hu.ll;have h2:=hv.ll;show(if v.e then u.ls++v.ls else v.ls).length<=sw (xs++[x])
  change _<=sw xs at h1
  rw[a0p]
  cases v.e<;>simp<;>omega
 lp:=by
  show(jn u v).ps.length<=k*(sw (xs++[x])*sw (xs++[x]));rw[a0p];exact anx hk hu.lp hv.lp hu.ll hv.lf
theorem am7{k:Nat}{x:Pt}{a:Nat}{u:Pa}(h:PW k x a u):PW (k+1) (ajv x) a (again u) where
 n:=h.n
 e:=rfl
 f:=h.f
 l:=h.l
 s:=λp q=>by
  show(p,q)∈u.ps++prod u.ls u.fs↔(x.F a p q || (x.E a p && x.B a q))=true
  rw[aX,a9z,h.s,h.l,h.f];simp
 lf:=h.lf
 ll:=h.ll
 lp:=by
  have:(prod u.ls u.fs).length<=x.w*x.w:=by rw[a2v];exact cX h.ll h.lf
  have:=h.lp
  show(u.ps++prod u.ls u.fs).length<=(k+1)*(x.w*x.w);rw[ae,bX];omega
theorem PW.up{k:Nat}{x:Pt}{a:Nat}{u:Pa}(h:PW k x a u):PW (k+1) x a u:={h with lp:=bO h.lp (cC _ (fU k))}
def PWs(k:Nat):List Pt->Nat->List Pa->Prop
 |[],_,[]=>True
 |x::xs,a,u::us=>PW k x a u/\PWs k xs (a+x.w) us
 |_,_,_=>False
end K11
namespace K11
open L2 MI AT HND EVX SPR
open SHD
open PAP hiding u5 a1f a2f ju yc aof
open DRW (wt wts)
noncomputable def je:SF:=nq (wj bh jz) 3
theorem abi{k a:Nat}(hk:1<=k)(hk':k<=10){L:D}:∀(us:List Pa) (xs ys:List Pt) (u0:Pa) (t2:Option D),PW k (abn ys) a u0->PWs k xs (a+sw ys) us->sw ys+sw xs<=100->∃t2' u',forL (λ_=>True) (kN 2) (qt bh jz) (us.map pd) [some L,some (pd u0),t2] []=.nx [some L,some (pd u'),t2'] []/\PW k (abn (ys++xs)) a u'/\u'.sg=u0.sg++(us.map Pa.sg).flatten
 |[],[],ys,u0,t2,h0,_,_=>⟨t2,u0,by rw[dB,xj],by rw[bP];exact h0,by simp⟩
 |[],_::_,_,_,_,_,h,_=>h.elim
 |_::_,[],_,_,_,_,h,_=>h.elim
 |u::us,x::xs,ys,u0,t2,h0,h,hw=>by
  obtain⟨h1,h2⟩:=h;rw[sw]at hw;have h0':=ayh hk h0 h1;obtain⟨t2',u',e,w,g⟩:=abi hk hk' us xs (ys++[x]) (jn u0 u) (some (pd u)) h0' (by rw[a0p,<-c9];exact h2) (by rw[a0p];omega)
  refine⟨t2',u',?_,by rw[cJ]at w;exact w,by rw[g];simp[jn]⟩
  rw[bH,uw _ _ _ _ _ [some L,some (pd u0),some (pd u)] _ [] rfl,<-e];have:qt bh jz [some L,some (pd u0),some (pd u)] []=.nx [some L,some (pd (jn u0 u)),some (pd u)] []:=by
   unfold qt m7;rw[a0e (bz rfl) (bz rfl) (abh (h0.sm hk' (show sw ys<=100 by omega)) (h1.sm hk' (by omega)) [])]
   rfl
  rw[this];rfl
theorem aek(us:List Pa):clos 0 (us.map pd):=dg λu _=>a0f u
theorem azq(us:List Pa):∀y∈[D.rol (us.map pd)],MI.clo 0 y:=λy hy=>by
 obtain rfl:=aI.mp hy;exact ik (aek us)
def pa0(e:Bool):Pa:=⟨[],[],[],[],e⟩
theorem avv{τ:Sd}:sZ (sA u9 cu) τ []=.ok (.rol []) []:=zds nlo rfl fu nlc (by simp)
theorem avw{τ:Sd}{e:Bool}:sZ (sA (a2a "Patch" 5 bh) (aj (sZ (sA u9 cu)) (aj (sZ (sA u9 cu)) (aj (sZ (sA u9 cu)) (aj (sZ (sA u9 cu)) (aj (sC (.bl e)) cu)))))) τ []=.ok (pd (pa0 e)) []:=avu (u:=pa0 e) avv avv avv avv ckk
theorem b1j(k a:Nat):PW k (abn []) a (pa0 true):=⟨rfl,rfl,λp=>by simp[pa0,abn,sB],λp=>by simp[pa0,abn,sE],λp q=>by simp[pa0,abn,sF],ba _,ba _,ba _⟩
theorem ag7{k a:Nat}(hk:1<=k)(hk':k<=10){us:List Pa}{xs:List Pt}(h:PWs k xs a us)(hw:sw xs<=100):∃u,Pu je 1 [.rol (us.map pd)] (pd u)/\PW k (abn xs) a u/\u.sg=(us.map Pa.sg).flatten:=by
 obtain⟨t2',u',e,w,g⟩:=abi (a:=a) hk hk' (L:=.rol (us.map pd)) us xs [] (pa0 true) none (b1j k a) h (by rw[sw];omega)
 refine⟨u',Pu.of rfl (azq us) (r:=.ok (pd u') []) ?_ (jr (a0f _) nlc) (a0f _),w,g⟩;unfold je;rw[iw];show toR (wj bh jz [some (.rol (us.map pd)),none,none] [])=_;unfold wj;rw[jk avw];refine etr (a2e (acu (bz rfl) rfl)) ?_;refine aR (aK (λz=>toR (MI.thn z (qg (sV 1)))) e) ?_;exact aK toR (m9 (bz rfl))
def tS(lo m:Nat)(xs:List Pt):Pt:=⟨sw xs,eT lo m xs,sB xs,tE lo m xs,sF xs⟩
def sure(c:Bool)(u:Pa):Pa:={u with e:=c || u.e}
theorem avx{k lo m r a:Nat}(hk:1<=k){x:Pt}{u v:Pa}(hu:PW k x a u)(hv:PW k (tS lo (m+1) (List.replicate r x)) (a+x.w) v):PW k (tS lo m (List.replicate (r+1) x)) a (sure (decide (lo<=m)) (jn u v)):=by
 rw[aV];exact {
  n:=by show(u.sg++v.sg).length=sw (x::List.replicate r x);rw[ae,hu.n,hv.n,sw];rfl
  e:=by show(decide (lo<=m) || (u.e && v.e))=eT lo m (x::List.replicate r x);rw[hu.e,hv.e,eT];rfl
  f:=λp=>by
   have h1:=hu.f p;have h2:=hv.f p;have he:=hu.e;show p∈(if u.e then u.fs++v.fs else u.fs)↔sB (x::List.replicate r x) a p=true
   change _↔sB (List.replicate r x) (a+x.w) p=true at h2
   rw[sB,<-he]
   cases u.e<;>simp[h1,h2]
  l:=λp=>by
   have h1:=hu.l p;have h2:=hv.l p;have he:=hv.e;show p∈(if v.e then u.ls++v.ls else v.ls)↔tE lo m (x::List.replicate r x) a p=true
   change _↔tE lo (m+1) (List.replicate r x) (a+x.w) p=true at h2
   change v.e=eT lo (m+1) (List.replicate r x) at he
   rw[aqi]at he;rw[tE,<-he]
   cases v.e<;>simp[h1,h2]
  s:=λp q=>by
   have h1:=hu.s p q;have h2:=hv.s p q;have h3:=hu.l p;have h4:=hv.f q;show(p,q)∈u.ps++prod u.ls v.fs++v.ps↔sF (x::List.replicate r x) a p q=true
   change _↔sF (List.replicate r x) (a+x.w) p q=true at h2
   change _↔sB (List.replicate r x) (a+x.w) q=true at h4
   rw[sF,aX,aX,a9z,h1,h2,h3,h4];simp
  lf:=by
   have h1:=hu.lf;have h2:=hv.lf;show(if u.e then u.fs++v.fs else u.fs).length<=sw (x::List.replicate r x)
   change _<=sw (List.replicate r x) at h2
   rw[sw]
   cases u.e<;>simp<;>omega
  ll:=by
   have h1:=hu.ll;have h2:=hv.ll;show(if v.e then u.ls++v.ls else v.ls).length<=sw (x::List.replicate r x)
   change _<=sw (List.replicate r x) at h2
   rw[sw]
   cases v.e<;>simp<;>omega
  lp:=by
   show(jn u v).ps.length<=k*(sw (x::List.replicate r x)*sw (x::List.replicate r x));rw[sw];exact anx hk hu.lp hv.lp hu.ll hv.lf}
end K11
namespace K11
open L2 MI AT HND EVX SPR
open SHD
open PAP hiding u5 a1f a2f ju yc aof
open DRW (wt wts)
def dn:Nat->List D
 |0=>[]
 |n+1=>bf n::dn n
theorem avy:∀n:Nat,((List.range n).map λi:Nat=>D.int ((n-1-i:Nat)))=dn n
 |0=>rfl
 |n+1=>by
  rw[List.range_succ_eq_map,bH,eL,dn,<-avy n]
  congr 1
  refine eB λi _=>?_;show D.int ((n+1-1-(i+1):Nat))=D.int ((n-1-i:Nat))
  congr 2
  omega
theorem ajf{k:Nat}{x:Pt}:∀(n a:Nat) (us:List Pa),PWs k (List.replicate n x) a us->us.length=n/\∀i<n,∃u,us[i]? = some u/\PW k x (a+i*x.w) u
 |0,_,[],_=>⟨rfl,λ_ h=>absurd h (by omega)⟩
 |0,_,_::_,h=>h.elim
 |n+1,_,[],h=>by rw[aV]at h;exact h.elim
 |n+1,a,u::us,h=>by
  rw[aV]at h;obtain⟨h1,h2⟩:=h;obtain⟨l,al⟩:=ajf n _ us h2;refine⟨by rw[aJ,l],λi hi=>?_⟩
  cases i with
  |zero=>exact⟨u,rfl,by rw[Nat.zero_mul];exact h1⟩
  |succ i =>
   obtain⟨v,e,w⟩:=al i (by omega)
   refine⟨v,e,?_⟩;rw[bX,show a+(i*x.w+x.w)=a+x.w+i*x.w by omega]
   exact w
noncomputable def jb:SF:=nq (v4 bh jz) 4
theorem b1k{f:SE}{τ:Sd}{h:Hd}{d:D}{i:Nat}(e:f τ h=.ok d h):m7 i f τ h=.nx (τ.set i (some d)) h:=by
 unfold m7;rw[e];rfl
theorem a8d{k a lo:Nat}{x:Pt}(hk:1<=k)(hk':k<=10){us:List Pa}:∀(m r:Nat) (u0:Pa) (t3:Option D),PW k (tS lo m (List.replicate r x)) (a+m*x.w) u0->(m+r)*x.w<=100->(∀i<m,∃u,us[i]? = some u/\PW k x (a+i*x.w) u)->
  ∃u' t3',forL (λ_=>True) (kN 3) (qb bh jz) (dn m) [some (.rol (us.map pd)),some (bf lo),some (pd u0),t3] []=.nx [some (.rol (us.map pd)),some (bf lo),some (pd u'),t3'] []/\PW k (tS lo 0 (List.replicate (m+r) x)) a u'/\u'.sg=((us.take m).map Pa.sg).flatten++u0.sg
 |0,r,u0,t3,h0,_,_=>⟨u0,t3,by rw[dn,xj],by rw[Nat.zero_mul]at h0;rw[gE];exact h0,by simp⟩
 |m+1,r,u0,t3,h0,hw,al=>by
  obtain⟨u,eu,hu⟩:=al m (by omega)
  have h0':PW k (tS lo (m+1) (List.replicate r x)) (a+m*x.w+x.w) u0:=by rw[c9,<-bX];exact h0
  have hn:=avx hk hu h0';have w1:x.w<=100:=by
   have:1*x.w<=(m+1+r)*x.w:=cC _ (by omega)
   omega
  have w2:(tS lo (m+1) (List.replicate r x)).w<=100:=by
   show sw (List.replicate r x)<=100;rw[ab8];exact bO (cC _ (by omega)) hw
  obtain⟨u',t3',e,w,g⟩:=a8d hk hk' m (r+1) _ (some (bf m)) hn (by rw[show m+(r+1)=m+1+r by omega];exact hw) λi hi=>al i (by omega)
  refine⟨u',t3',?_,by rw[show m+(r+1)=m+1+r by omega]at w;exact w,by rw[g,List.take_succ,eu];simp[sure,jn]⟩
  rw[dn,uw _ _ _ _ _ [some (.rol (us.map pd)),some (bf lo),some (pd u0),some (bf m)] _ [] rfl,<-e];have:qb bh jz [some (.rol (us.map pd)),some (bf lo),some (pd u0),some (bf m)] []=.nx [some (.rol (us.map pd)),some (bf lo),some (pd (sure (decide (lo<=m)) (jn u u0))),some (bf m)] []:=by
   unfold qb;have ix:s2 gIx (sV 0) (sV 3) [some (.rol (us.map pd)),some (bf lo),some (pd u0),some (bf m)] []=.ok (pd u) []:=nu (bz rfl) (bz rfl) (avk (by rw[bJ,eu];rfl))
   refine aR (jk (a0e ix (bz rfl) (abh (hu.sm hk' w1) (h0.sm hk' w2) []))) ?_;have ge:sT (s2 gGe (sV 3) (sV 1)) [some (.rol (us.map pd)),some (bf lo),some (pd (jn u u0)),some (bf m)] []=.ok (decide (lo<=m)) []:=by
    refine t2s (bz rfl) (bz rfl) ?_;show R.ok (D.bl (decide ((lo:Int)<=(m:Int)))) []=_
    congr 2
    exact eD.mpr Int.ofNat_le
   cases z:decide (lo<=m) with
   |true =>
    rw[z]at ge;refine aR (ifT ge) ?_;have:=avu (τ:=[some (.rol (us.map pd)),some (bf lo),some (pd (jn u u0)),some (bf m)]) (u:=sure true (jn u u0)) (f1:=s1 (qj "Patch" "signs") (sV 2)) (f2:=s1 (qj "Patch" "firsts") (sV 2)) (f3:=s1 (qj "Patch" "pairs") (sV 2)) (f4:=s1 (qj "Patch" "lasts") (sV 2)) (f5:=sC (.bl true)) (uv (bz rfl) a5g) (uv (bz rfl) a4f) (uv (bz rfl) a8b) (uv (bz rfl) a3f) ckk;exact b1k this
   |false =>
    rw[z]at ge;exact ifF ge
  rw[this];rfl
theorem avz{x:Pt}{lo hi:Nat}(hl:lo<=hi):tS lo 0 (List.replicate hi x)=aqg x lo hi:=by
 unfold tS aqg;rw[ab8,avb hl]
theorem am8{k a lo hi:Nat}{x:Pt}(hk:1<=k)(hk':k<=10)(hl:lo<=hi){us:List Pa}(h:PWs k (List.replicate hi x) a us)(hw:hi*x.w<=100)(hh:hi<=1000000):∃u,Pu jb 2 [.rol (us.map pd),bf lo] (pd u)/\PW k (aqg x lo hi) a u/\u.sg=(us.map Pa.sg).flatten:=by
 obtain⟨ul,al⟩:=ajf hi a us h;have p0:PW k (tS lo hi (List.replicate 0 x)) (a+hi*x.w) (pa0 true):=⟨rfl,rfl,λp=>by simp[pa0,tS,sB],λp=>by simp[pa0,tS,tE],λp q=>by simp[pa0,tS,sF],ba _,ba _,ba _⟩
 obtain⟨u',t3',e,w,g⟩:=a8d hk hk' hi 0 (pa0 true) none p0 hw al;rw[Nat.add_zero,avz hl]at w;refine⟨u',Pu.of rfl ?_ (r:=.ok (pd u') []) ?_ (jr (a0f _) nlc) (a0f _),w,by rw[g,bZ (by omega)];simp[pa0]⟩
 ·intro y hy
  rcases aO.mp hy with rfl|hy
  ·exact ik (aek us)
  ·obtain rfl:=aI.mp hy;exact c7 _
 unfold jb;rw[iw];show toR (v4 bh jz [some (.rol (us.map pd)),some (bf lo),none,none] [])=_;unfold v4;rw[jk avw];have it:=auc (f:=sA xq (aj (sV 0) cu)) (τ:=[some (.rol (us.map pd)),some (bf lo),some (pd (pa0 true)),none]) (h:=[]) (n:=hi) (qd (bz rfl) (by show R.ok (bf (us.map pd).length) []=_;rw[ah,ul])) (j5 hh)
 rw[avy]at it;refine etr (a2e it) ?_;refine aR (aK (λz=>toR (MI.thn z (qg (sV 2)))) e) ?_;exact aK toR (m9 (bz rfl))
end K11
namespace K11
open L2 MI AT HND EVX SPR
open SHD
open PAP hiding u5 a1f a2f ju yc aof
open DRW (wt wts)
def oj(u v:Pa):Pa:=⟨u.sg++v.sg,u.fs++v.fs,u.ps++v.ps,u.ls++v.ls,u.e || v.e⟩
def hQ(a b c d:List D)(e:Bool):Hd:=[.lst a,.lst b,.lst c,.lst d,.ins "Patch" [("signs",.ref 0),("firsts",.ref 1),("pairs",.ref 2),("lasts",.ref 3),("empty",.bl e)]]
abbrev hO(u:Pa):Hd:=hQ (sgD u.sg) (u.fs.map bf) (u.ps.map prD) (u.ls.map bf) u.e
theorem aa0{h:Hd}{i:Nat}{xs ys:List D}(e:h[i]? = some (.lst xs))(z:xs.length+ys.length<=1000000):a6p (.ref i) [.rol ys] h=.ok .non (h.set i (.lst (xs++ys))):=by
 show(match h[i]?,a0m (.rol ys) h with|some (.lst xs),some ys=>if xs.length+ys.length<=LINE then R.ok D.non (h.set i (.lst (xs++ys))) else .no|_,_=>.no)=_
 rw[e];exact aN (j5 z)
theorem am9{L:D}{u v:Pa}(hu:Sm u)(hv:Sm v):ue bh [some L,some (.ref 4),some (pd v)] (hO u)=.nx [some L,some (.ref 4),some (pd v)] (hO (oj u v)):=by
 obtain⟨a1,a2,a3,a4⟩:=hu;obtain⟨b1,b2,b3,b4⟩:=hv;unfold ue
 generalize hA:sgD u.sg=A
 generalize hB:u.fs.map bf=B
 generalize hC:u.ps.map prD=C
 generalize hD:u.ls.map bf=E
 have lA:A.length<=100:=by rw[<-hA];simpa using a1
 have lB:B.length<=100:=by rw[<-hB];simpa using a2
 have lC:C.length<=100000:=by rw[<-hC];simpa using a4
 have lE:E.length<=100:=by rw[<-hD];simpa using a3
 have s1:a0j (sML a6p (s1 (qj "Patch" "signs") (sV 1)) (aj (s1 (qj "Patch" "signs") (sV 2)) cu)) [some L,some (.ref 4),some (pd v)] (hQ A B C E u.e)=.nx [some L,some (.ref 4),some (pd v)] (hQ (A++sgD v.sg) B C E u.e) :=
  a4d (uv (bz rfl) (rfl:qj "Patch" "signs" (.ref 4) (hQ A B C E u.e)=.ok (.ref 0) _)) rfl (cns (uv (bz rfl) a5g) nlo) (aa0 rfl (by rw[ah];omega))
 have s2:a0j (sML a6p (MI.s1 (qj "Patch" "firsts") (sV 1)) (aj (MI.s1 (qj "Patch" "firsts") (sV 2)) cu)) [some L,some (.ref 4),some (pd v)] (hQ (A++sgD v.sg) B C E u.e)=.nx [some L,some (.ref 4),some (pd v)] (hQ (A++sgD v.sg) (B++v.fs.map bf) C E u.e) :=
  a4d (uv (bz rfl) (rfl:qj "Patch" "firsts" (.ref 4) (hQ (A++sgD v.sg) B C E u.e)=.ok (.ref 1) _)) rfl (cns (uv (bz rfl) a4f) nlo) (aa0 rfl (by rw[ah];omega))
 have s3:a0j (sML a6p (MI.s1 (qj "Patch" "pairs") (sV 1)) (aj (MI.s1 (qj "Patch" "pairs") (sV 2)) cu)) [some L,some (.ref 4),some (pd v)] (hQ (A++sgD v.sg) (B++v.fs.map bf) C E u.e)=.nx [some L,some (.ref 4),some (pd v)] (hQ (A++sgD v.sg) (B++v.fs.map bf) (C++v.ps.map prD) E u.e) :=
  a4d (uv (bz rfl) (rfl:qj "Patch" "pairs" (.ref 4) (hQ (A++sgD v.sg) (B++v.fs.map bf) C E u.e)=.ok (.ref 2) _)) rfl (cns (uv (bz rfl) a8b) nlo) (aa0 rfl (by rw[ah];omega))
 have s4:a0j (sML a6p (MI.s1 (qj "Patch" "lasts") (sV 1)) (aj (MI.s1 (qj "Patch" "lasts") (sV 2)) cu)) [some L,some (.ref 4),some (pd v)] (hQ (A++sgD v.sg) (B++v.fs.map bf) (C++v.ps.map prD) E u.e)=.nx [some L,some (.ref 4),some (pd v)] (hQ (A++sgD v.sg) (B++v.fs.map bf) (C++v.ps.map prD) (E++v.ls.map bf) u.e) :=
  a4d (uv (bz rfl) (rfl:qj "Patch" "lasts" (.ref 4) (hQ (A++sgD v.sg) (B++v.fs.map bf) (C++v.ps.map prD) E u.e)=.ok (.ref 3) _)) rfl (cns (uv (bz rfl) a3f) nlo) (aa0 rfl (by rw[ah];omega))
 have s5:a7h "Patch" "empty" (sV 1) (ag9 (MI.s1 (qj "Patch" "empty") (sV 1)) (MI.s1 (qj "Patch" "empty") (sV 2))) [some L,some (.ref 4),some (pd v)] (hQ (A++sgD v.sg) (B++v.fs.map bf) (C++v.ps.map prD) (E++v.ls.map bf) u.e)=.nx [some L,some (.ref 4),some (pd v)] (hQ (A++sgD v.sg) (B++v.fs.map bf) (C++v.ps.map prD) (E++v.ls.map bf) (u.e || v.e)) :=
  (a4w (i:=4) (y:=.bl (u.e || v.e)) (fs:=[("signs",.ref 0),("firsts",.ref 1),("pairs",.ref 2),("lasts",.ref 3),("empty",.bl u.e)]) (b1g (uv (bz rfl) (rfl:qj "Patch" "empty" (.ref 4) (hQ (A++sgD v.sg) (B++v.fs.map bf) (C++v.ps.map prD) (E++v.ls.map bf) u.e)=.ok (.bl u.e) _)) (uv (bz rfl) a8c)) (bz rfl) rfl (by show 5<1000;omega)).trans rfl
 have hO':hO u=hQ A B C E u.e:=by show hQ (sgD u.sg) (u.fs.map bf) (u.ps.map prD) (u.ls.map bf) u.e=_;rw[hA,hB,hC,hD]
 rw[hO',um s1,um s2,um s3,um s4,s5];show _=Fl.nx _ (hQ (sgD (u.sg++v.sg)) ((u.fs++v.fs).map bf) ((u.ps++v.ps).map prD) ((u.ls++v.ls).map bf) (u.e || v.e))
 rw[show sgD (u.sg++v.sg)=sgD u.sg++sgD v.sg from bg,bg,bg,bg,hA,hB,hC,hD]
theorem ayi{k:Nat}(hk:1<=k){xs:List Pt}{x:Pt}{a:Nat}{u v:Pa}(hu:PW k (a4h xs) a u)(hv:PW k x (a+sw xs) v):PW k (a4h (xs++[x])) a (oj u v) where
 n:=by show(u.sg++v.sg).length=sw (xs++[x]);rw[ae,hu.n,hv.n,a0p];rfl
 e:=by show(u.e || v.e)=oE (xs++[x]);rw[hu.e,hv.e,anl];rfl
 f:=λp=>by
  have h1:=hu.f p;have h2:=hv.f p;show p∈u.fs++v.fs↔oB (xs++[x]) a p=true
  change _↔oB xs a p=true at h1
  rw[anp,aX,h1,h2,br]
 l:=λp=>by
  have h1:=hu.l p;have h2:=hv.l p;show p∈u.ls++v.ls↔oEn (xs++[x]) a p=true
  change _↔oEn xs a p=true at h1
  rw[aiv,aX,h1,h2,br]
 s:=λp q=>by
  have h1:=hu.s p q;have h2:=hv.s p q;show(p,q)∈u.ps++v.ps↔oF (xs++[x]) a p q=true
  change _↔oF xs a p q=true at h1
  rw[anq,aX,h1,h2,br]
 lf:=by
  have h1:=hu.lf;have h2:=hv.lf;show(u.fs++v.fs).length<=sw (xs++[x])
  change _<=sw xs at h1
  rw[a0p,ae];omega
 ll:=by
  have h1:=hu.ll;have h2:=hv.ll;show(u.ls++v.ls).length<=sw (xs++[x])
  change _<=sw xs at h1
  rw[a0p,ae];omega
 lp:=by
  have h1:=hu.lp;have h2:=hv.lp;show(u.ps++v.ps).length<=k*(sw (xs++[x])*sw (xs++[x]))
  change _<=k*(sw xs*sw xs) at h1
  have:=sq k (sw xs) x.w hk
  rw[a0p,ae];omega
noncomputable def ji:SF:=nq (xn bh) 3
theorem ael{k a:Nat}(hk:1<=k)(hk':k<=10){L:D}:∀(us:List Pa) (xs ys:List Pt) (u0:Pa) (t2:Option D),PW k (a4h ys) a u0->PWs k xs (a+sw ys) us->sw ys+sw xs<=100->∃t2' u',forL (λ_=>True) (kN 2) (ue bh) (us.map pd) [some L,some (.ref 4),t2] (hO u0)=.nx [some L,some (.ref 4),t2'] (hO u')/\PW k (a4h (ys++xs)) a u'/\u'.sg=u0.sg++(us.map Pa.sg).flatten
 |[],[],ys,u0,t2,h0,_,_=>⟨t2,u0,by rw[dB,xj],by rw[bP];exact h0,by simp⟩
 |[],_::_,_,_,_,_,h,_=>h.elim
 |_::_,[],_,_,_,_,h,_=>h.elim
 |u::us,x::xs,ys,u0,t2,h0,h,hw=>by
  obtain⟨h1,h2⟩:=h;rw[sw]at hw;have h0':=ayi hk h0 h1;obtain⟨t2',u',e,w,g⟩:=ael hk hk' us xs (ys++[x]) (oj u0 u) (some (pd u)) h0' (by rw[a0p,<-c9];exact h2) (by rw[a0p];omega)
  refine⟨t2',u',?_,by rw[cJ]at w;exact w,by rw[g];simp[oj]⟩
  rw[bH,uw _ _ _ _ _ [some L,some (.ref 4),some (pd u)] _ (hO u0) rfl,<-e,am9 (h0.sm hk' (show sw ys<=100 by omega)) (h1.sm hk' (by omega))]
  rfl
theorem aw0(u:Pa):a7x 0 (.ok (.ref 4) (hO u))=.ok (pd u) []:=by
 refine a3i (n:=0) ?_ (by simp)
 show a1l 0 _ (19+1) _=_;rw[a1l,bp (by simp only[MI.clo];omega)]
 show(a0r (a1l 0 (hO u) 19) [.ref 0,.ref 1,.ref 2,.ref 3,.bl u.e]).map (D.ins "Patch" KP)=_;have e0:a1l 0 (hO u) 19 (.ref 0)=some (.rol (sgD u.sg)):=a3v (k:=17) (ba _) rfl (a2j _);have e1:a1l 0 (hO u) 19 (.ref 1)=some (.rol (u.fs.map bf)):=a3v (k:=17) (ba _) rfl (dq _);have e2:a1l 0 (hO u) 19 (.ref 2)=some (.rol (u.ps.map prD)):=a3v (k:=17) (ba _) rfl (a79 _);have e3:a1l 0 (hO u) 19 (.ref 3)=some (.rol (u.ls.map bf)):=a3v (k:=17) (ba _) rfl (dq _);have e4:a1l 0 (hO u) 19 (.bl u.e)=some (.bl u.e):=a5q (k:=18) (uf _)
 simp only[a0r,e0,e1,e2,e3,e4];rfl
theorem ajg{k a:Nat}(hk:1<=k)(hk':k<=10){us:List Pa}{xs:List Pt}(h:PWs k xs a us)(hw:sw xs<=100):∃u,Pu ji 1 [.rol (us.map pd)] (pd u)/\PW k (a4h xs) a u/\u.sg=(us.map Pa.sg).flatten:=by
 have p0:PW k (a4h []) a (pa0 false):=⟨rfl,rfl,λp=>by simp[pa0,a4h,oB],λp=>by simp[pa0,a4h,oEn],λp q=>by simp[pa0,a4h,oF],ba _,ba _,ba _⟩
 obtain⟨t2',u',e,w,g⟩:=ael (a:=a) hk hk' (L:=.rol (us.map pd)) us xs [] (pa0 false) none p0 h (by rw[sw];omega)
 refine⟨u',Pu.of rfl (azq us) (r:=.ok (.ref 4) (hO u')) ?_ (aw0 u') (a0f _),w,g⟩;unfold ji;rw[iw];show toR (xn bh [some (.rol (us.map pd)),none,none] [])=_;unfold xn;have m:sA (a2a "Patch" 5 bh) (aj (sA u9 cu) (aj (sA u9 cu) (aj (sA u9 cu) (aj (sA u9 cu) (aj (sC (.bl false)) cu))))) [some (.rol (us.map pd)),none,none] []=.ok (.ref 4) (hO (pa0 false)):=by
  refine aoo (h1:=[.lst [],.lst [],.lst [],.lst []]) (ds:=[.ref 0,.ref 1,.ref 2,.ref 3,.bl false]) ?_ ?_
  ·rfl
  ·rw[ajd];rfl
 rw[jk m];refine etr (a2e (acu (bz rfl) rfl)) ?_;refine aR (aK (λz=>toR (MI.thn z (qg (sV 1)))) e) ?_;exact aK toR (m9 (bz rfl))
end K11
namespace K11
open L2 MI AT HND EVX SPR
open SHD
open PAP hiding u5 a1f a2f ju yc aof
open DRW (wt wts)
noncomputable def aa1(F:SF):SF:=nq (xu F) 6
def awt(F:SF)(k:Nat)(q:Sh):Prop:=∀a,∃u,Pu F 2 [sd q,bf (a+1)] (pd u)/\PW k (pt q) a u/\u.sg=mk q
theorem a5h{F:SF}{k:Nat}{x y:D}:∀(ps:List Sh) (a:Nat) (us0:List Pa) (t4 t5:Option D),us0.length+ps.length<=1000->(∀q∈ps,awt F k q)->
  ∃(us:List Pa) (a':Nat) (t4' t5':Option D),forL (λ_=>True) (kN 4) (wg F) (sds ps) [some x,some y,some (.ref 0),some (bf (a+1)),t4,t5] [.lst (us0.map pd)]=.nx [some x,some y,some (.ref 0),some (bf a'),t4',t5'] [.lst ((us0++us).map pd)]/\PWs k (pts ps) a us/\us.map Pa.sg=ps.map mk
 |[],a,us0,t4,t5,_,_=>⟨[],a+1,t4,t5,by rw[sds,xj,bP],by rw[pts];exact True.intro,rfl⟩
 |q::ps,a,us0,t4,t5,hl,al=>by
  obtain⟨u,pu,w,g⟩:=al q (by simp) a
  rw[aJ]at hl;obtain⟨us,a',t4',t5',e,ws,gs⟩:=a5h (x:=x) (y:=y) ps (a+(pt q).w) (us0++[u]) (some (sd q)) (some (pd u)) (by rw[ae];show us0.length+1+ps.length<=1000;omega) λq hq=>al q (by simp[hq])
  refine⟨u::us,a',t4',t5',?_,by rw[pts];exact⟨w,ws⟩,by rw[bH,bH,g,gs]⟩
  rw[sds,uw _ _ _ _ _ [some x,some y,some (.ref 0),some (bf (a+1)),some (sd q),t5] _ [.lst (us0.map pd)] rfl];rw[show us0++u::us=us0++[u]++us by simp,<-e]
  have:wg F [some x,some y,some (.ref 0),some (bf (a+1)),some (sd q),t5] [.lst (us0.map pd)]=.nx [some x,some y,some (.ref 0),some (bf (a+(pt q).w+1)),some (sd q),some (pd u)] [.lst ((us0++[u]).map pd)]:=by
   unfold wg;refine aR (jk (a0e (bz rfl) (bz rfl) (pu _))) ?_;refine aR (um (a4d (bz rfl) rfl (cns (bz rfl) nlo) (abd rfl (by have:=j5 (n:=us0.length+1) (by omega);rw[ah];omega)))) ?_
   refine aR (a2d rfl (qd (uv (bz rfl) a5g) EVT.uz) (avr _ _ _)) ?_;have:a+1+(sgD u.sg).length=a+(pt q).w+1:=by rw[ah,w.n];omega
   rw[this,bg];rfl
  rw[this];rfl
theorem a4x{F:SF}{k:Nat}{x:D}{ps:List Sh}(cx:MI.clo 0 x)(it:∀h,ajs x h=.ok ⟨sds ps,λ_=>True⟩ h)(a:Nat)(hl:ps.length<=1000)(al:∀q∈ps,awt F k q):∃us:List Pa,Pu (aa1 F) 2 [x,bf (a+1)] (.rol (us.map pd))/\PWs k (pts ps) a us/\us.map Pa.sg=ps.map mk:=by
 obtain⟨us,a',t4',t5',e,ws,gs⟩:=a5h (x:=x) (y:=bf (a+1)) ps a [] none none (by simpa using hl) al
 refine⟨us,Pu.of rfl ?_ (r:=.ok (.ref 0) [.lst (us.map pd)]) ?_ (zc (ay _) rfl (aek _) (by simp)) (ik (aek _)),ws,gs⟩
 ·intro y hy
  rcases aO.mp hy with rfl|hy
  ·exact cx
  ·obtain rfl:=aI.mp hy;exact c7 _
 unfold aa1;rw[iw];show toR (xu F [some x,some (bf (a+1)),none,none,none,none] [])=_;unfold xu;rw[jk (aiz rfl:sA u9 cu [some x,some (bf (a+1)),none,none,none,none] []=.ok (.ref 0) [.lst []])];refine ets (bz rfl) ?_;refine etr (a2e (acu (bz rfl) (it _))) ?_;refine aR (aK (λz=>toR (MI.thn z (qg (sV 2)))) e) ?_;exact aK toR (m9 (bz rfl))
theorem PWs.up{k:Nat}:∀{xs:List Pt} {a:Nat} {us:List Pa},PWs k xs a us->PWs (k+1) xs a us
 |[],_,[],_=>True.intro
 |[],_,_::_,h=>h.elim
 |_::_,_,[],h=>h.elim
 |_::_,_,_::_,h=>⟨h.1.up,PWs.up h.2⟩
mutual
noncomputable def iy:Nat->SF
 |0=>λ_ _=>.no
 |n+1=>nq (ud bh kj je (iy n) ji jb (km n)) 2
noncomputable def km:Nat->SF
 |0=>λ_ _=>.no
 |n+1=>nq (xu (iy n)) 6
end
theorem ama(n:Nat)(x y:D):iy (n+1) [x,y] []=toR (ud bh kj je (iy n) ji jb (km n) [some x,some y] []):=by
 rw[iy,iw];rfl
theorem anz{ps:List Sh}(h:Hd):ajs (.tup (sds ps)) h=.ok ⟨sds ps,λ_=>True⟩ h:=rfl
theorem aw1{ps:List Sh}(h:Hd):ajs (.rol (sds ps)) h=.ok ⟨sds ps,λ_=>True⟩ h:=rfl
theorem ayj(n:Nat)(x:D):(List.replicate n [x]).flatten=List.replicate n x:=by
 induction n with
 |zero=>rfl
 |succ n ih=>rw[aV,aV,cP,ih];rfl
theorem aa2{tg:List Nat}:∀(d n:Nat),2*d<=n->d<=9->∀s,a4u tg d s->wt s<=100->awt (iy n) d s
 |0,_,_,_,_,k,_=>k.elim
 |d+1,0,h,_,_,_,_=>absurd h (by omega)
 |d+1,1,h,_,_,_,_=>absurd h (by omega)
 |d+1,n+2,h,h9,s,k,hw=>λa=>by
  have ih1:=aa2 (tg:=tg) d (n+1) (by omega) (by omega)
  have ih:=aa2 (tg:=tg) d n (by omega) (by omega)
  have pf:km (n+1)=aa1 (iy n):=by rw[km];rfl
  have cl:∀y∈[sd s,bf (a+1)],MI.clo 0 y:=λy hy=>by
   rcases aO.mp hy with rfl|hy
   ·exact ww s
   ·obtain rfl:=aI.mp hy;exact c7 _
  have fin:∀u,toR (ud bh kj je (iy (n+1)) ji jb (km (n+1)) [some (sd s),some (bf (a+1))] [])=.ok (pd u) []->Pu (iy (n+2)) 2 [sd s,bf (a+1)] (pd u):=λu e=>Pu.of rfl cl (r:=.ok (pd u) []) (by rw[ama];exact e) (jr (a0f _) nlc) (a0f _)
  have kids:∀{ps:List Sh},(∀q∈ps,a4u tg d q)->wts ps<=100->∀q∈ps,awt (iy n) d q:=by
   intro ps
   induction ps with
   |nil=>intro _ _ q hq;cases hq
   |cons p ps ih' =>
    intro ka kw q hq
    rw[wts]at kw
    rcases aO.mp hq with rfl|hq
    ·exact ih q (ka q (by simp)) (by omega)
    ·exact ih' (λq hq=>ka q (by simp[hq])) (by omega) q hq
  match s,k with
  |.one sg,k =>
   refine⟨⟨[sg],[a+1],[],[a+1],false⟩,fin _ ?_,?_,by rw[mk]⟩
   ·unfold ud;rw[sd];refine aK toR (v6 (aR (ifT (by walk_at "x")) (m9 ?_)))
    exact avu (u:=⟨[sg],[a+1],[],[a+1],false⟩) (zds (cns (qu rfl SHD.ix1) nlo) rfl (a2j [sg]) nlc (by simp)) (zds (cns (bz rfl) nlo) rfl (dq [a+1]) nlc (by simp)) avv (zds (cns (bz rfl) nlo) rfl (dq [a+1]) nlc (by simp)) ckk
   ·rw[pt];exact⟨rfl,rfl,λp=>by simp[aiq],λp=>by simp[aiq],λp q=>by simp[aiq],ay _,ay _,ba _⟩
  |.row ps,k =>
   rw[wt]at hw;obtain⟨us,pu,ws,gs⟩:=a4x (gf (a2g ps)) anz a (by have:=k.1;omega) (kids k.2 hw)
   rw[<-pf]at pu;obtain⟨u,pu2,w,g⟩:=ag7 (k:=d+1) (by omega) (by omega) ws.up (by rw[ad2];exact hw)
   refine⟨u,fin u ?_,by rw[pt];exact w,by rw[g,gs,mk,a9x]⟩
   unfold ud;rw[sd];refine eti (by walk_at "x") ?_
   exact aK toR (v6 (ifr (by walk_at "x") (qd (a0e (qu rfl SHD.ix1) (bz rfl) (pu [])) (pu2 []))))
  |.eit ps,k =>
   rw[wt]at hw;obtain⟨us,pu,ws,gs⟩:=a4x (gf (a2g ps)) anz a (by have:=k.2.1;omega) (kids k.2.2 hw)
   rw[<-pf]at pu;obtain⟨u,pu2,w,g⟩:=ajg (k:=d+1) (by omega) (by omega) ws.up (by rw[ad2];exact hw)
   refine⟨u,fin u ?_,by rw[pt];exact w,by rw[g,gs,mk,a9x]⟩
   unfold ud;rw[sd];refine eti (by walk_at "x") ?_
   refine eti (by walk_at "x") ?_
   exact aK toR (v6 (ifr (by walk_at "x") (qd (a0e (qu rfl SHD.ix1) (bz rfl) (pu [])) (pu2 []))))
  |.many p,k =>
   rw[wt]at hw;obtain⟨u,pu,w,g⟩:=ih1 p k hw a;refine⟨again u,fin _ ?_,by rw[pt];exact am7 w,by rw[mk];exact g⟩
   unfold ud;rw[sd];refine eti (by walk_at "x") ?_
   refine eti (by walk_at "x") ?_
   refine eti (by walk_at "x") ?_
   exact aK toR (v6 (ifr (by walk_at "x") (qd (a0e (qu rfl SHD.ix1) (bz rfl) (pu [])) (am6 (w.sm (by omega) (by rw[a4v];exact hw)) []))))
  |.tim p lo hi,k =>
   rw[wt]at hw;have kh:=k.2.1;have wr:wts (List.replicate hi p)<=100:=by rw[<-ad2,ad1,fA,ab8,a4v];exact hw
   obtain⟨us,pu,ws,gs⟩:=a4x (x:=.rol (sds (List.replicate hi p))) (ik (a2g _)) aw1 a (by rw[cI];omega) (kids (λq hq=>by rw[eh hq];exact k.2.2) wr)
   rw[<-pf]at pu;rw[ad1,fA]at ws;obtain⟨u,pu2,w,g⟩:=am8 (k:=d+1) (by omega) (by omega) k.1 ws.up (by rw[a4v];exact hw) (by omega)
   refine⟨u,fin u ?_,by rw[pt];exact w,by rw[g,gs,mk,fA]⟩
   unfold ud;rw[sd];refine eti (by walk_at "x") ?_
   refine eti (by walk_at "x") ?_
   refine eti (by walk_at "x") ?_
   refine eti (by walk_at "x") ?_
   have z:sZ (s2 yq (sZ (sA u9 (aj (s2 gIx (sV 0) (sI 1)) cu))) (s2 gIx (sV 0) (sI 3))) [some (.tup [.str "times",sd p,bf lo,bf hi]),some (bf (a+1))] []=.ok (.rol (sds (List.replicate hi p))) []:=by
    have:=EVT.ye (k:=(hi:Nat)) (f:=sZ (sA u9 (aj (s2 gIx (sV 0) (sI 1)) cu))) (g:=s2 gIx (sV 0) (sI 3)) (τ:=[some (.tup [.str "times",sd p,bf lo,bf hi]),some (bf (a+1))]) (h:=[]) (h1:=[]) (h2:=[]) (xs:=[sd p]) (zds (cns (qu rfl SHD.ix1) nlo) rfl (bu (ww p) fu) nlc (by simp)) (qu rfl SHD.ix3) rfl (bu (ww p) fu) nlc (by simp;omega) (by omega)
    rw[this,a78]
    congr 2
    exact ayj hi (sd p)
   exact aK toR (m9 (a0e (a0e z (bz rfl) (pu [])) (qu rfl SHD.ix2) (pu2 [])))
end K11
namespace K11
open L2 MI AT HND EVX SPR
open SHD
open PAP hiding u5 a1f a2f ju yc aof
open DRW (wt wts)
open ENG (fl m5 a3d a03)
noncomputable def jj:SF:=nq a5r 1
theorem a2k{l:List Nat}{n:Nat}{P:Nat->Prop}(hn:n+1<=60)(ll:l.length<=4000)(mem:∀y,y∈l↔P y)(bd:∀y,P y->y<=n):Pu jj 1 [.rol (l.map bf)] (.tup ((fl n (λ_ y=>P y) 0).map bf)):=by
 obtain⟨ts,fw,srt,m,es⟩:=aef (l:=l) (d:=.rol (l.map bf)) (h:=[]) hn (λy hy=>by have:=bd y ((mem y).mp hy);omega) ll (aj9 _ [])
 have et:ts=fl n (λ_ y=>P y) 0:=a3d fw.nd srt λy=>by
  rw[m,mem];exact⟨λh=>⟨bd y h,h⟩,λh=>h.2⟩
 rw[et]at es;refine Pu.of rfl ?_ (r:=.ok (.tup ((fl n (λ_ y=>P y) 0).map bf)) []) ?_ (jr (gf (dq _)) nlc) (gf (dq _))
 ·intro y hy;obtain rfl:=aI.mp hy;exact ik (dq _)
 unfold jj;rw[iw];show toR (a5r [some (.rol (l.map bf))] [])=_;unfold a5r;exact aK toR (m9 (qd (zrl (h1:=[]) (uv (bz rfl) es) rfl (dq _) nlc) SHD.qp))
noncomputable abbrev rwF(s:Sh)(p:Nat):List Nat:=fl (wt s) (λ_ q=>(pt s).F 0 p q=true) 0
noncomputable abbrev rwB(s:Sh):List Nat:=fl (wt s) (λ_ q=>(pt s).B 0 q=true) 0
noncomputable abbrev rwE(s:Sh):List Nat:=fl (wt s) (λ_ q=>(q=0/\(pt s).e=true)\/(pt s).E 0 q=true) 0
abbrev tpN(l:List Nat):D:=.tup (l.map bf)
noncomputable abbrev spD(s:Sh):D:=.tup [.tup (.str ""::sgD (mk s)),.tup (tpN (rwB s)::(List.range (wt s)).map λi=>tpN (rwF s (1+i))),tpN (rwE s)]
noncomputable def u6:SF:=nq (a0c jj) 4
theorem ayk{p q:Nat}{h:Hd}:hEq (bf p) (bf q) h=.ok (.bl (decide (p=q))) h:=by
 by_cases e:p=q
 ·rw[e,zg rfl,cV rfl]
 ·rw[zj (λz=>e (ic.mp z)),bA e]
theorem amb{ps:List (Nat×Nat)}{fi:SI}{τ:Sd}{h:Hd}{p:Nat}(e:fi τ h=.ok ⟨ps.map prD,λ_=>True⟩ h)(e2:τ[2]? = some (some (bf p)))(z:ps.length<=1000)(ch:∀u∈h,vg 0 u):sZ (aap fi (tN 2) (a02 jj) (a2b jj) [2]) τ h=.ok (.rol (((ps.filter λx=>x.1 == p).map Prod.snd).map bf)) h:=by
 have ff:∀ys:List (Nat×Nat),ys.filterMap (λx=>if x.1=p then some (bf x.2) else none)=((ys.filter λx=>x.1 == p).map Prod.snd).map bf:=λys=>by
  induction ys with
  |nil=>rfl
  |cons y ys ih=>by_cases q:y.1=p<;>simp[q,ih]
 refine zrl (h1:=h) ?_ rfl (dq _) ch;rw[<-ff];refine aiy prD _ ps e (j5 (by omega)) λx hx=>?_
 have fr:frs' [2] τ=[some (bf p)]:=by show[(τ[2]?).join]=_;rw[e2];rfl
 rw[fr];have tn:tN 2 (prD x)=some [some (bf x.1),some (bf x.2)]:=rfl;unfold ac4;rw[tn];dsimp only;rw[show[some (bf x.1),some (bf x.2)]++[some (bf p)]=[some (bf x.1),some (bf x.2),some (bf p)] from rfl]
 have t:(a02 jj) [some (bf x.1),some (bf x.2),some (bf p)] h=.ok (decide (x.1=p)) h:=t2s (bz rfl) (bz rfl) ayk;rw[t,dj]
 by_cases q:x.1=p
 ·rw[cV q,aN rfl,aN q];rfl
 ·rw[bA q,bp (by simp),bp q]
theorem aqy{s:Sh}{k:Nat}{u:Pa}(hk:k<=9)(hw:wt s<=10)(w:PW k (pt s) 0 u)(g:u.sg=mk s):Pu u6 1 [pd u] (spD s):=by
 have o:=a2i s;have lp:u.ps.length<=1000:=by
  have:=w.lp
  rw[a4v]at this;have:k*(wt s*wt s)<=9*(10*10):=cX hk (cX hw hw);omega
 have ls:=w.ll;have lf:=w.lf;rw[a4v]at ls lf;have B:=a2k (n:=wt s) (P:=λq=>(pt s).B 0 q=true) (l:=u.fs) (by omega) (by omega) w.f λy h=>by have:=(o.b 0 y h).2;rw[a4v]at this;omega
 have N:∀p,Pu jj 1 [.rol (((u.ps.filter λx=>x.1 == p).map Prod.snd).map bf)] (tpN (rwF s p)):=λp=>a2k (by omega) (by rw[ah];exact bO (fL _ _) (by omega)) (λy=>by
  rw[<-w.s];simp only[da,dF,eM]
  constructor
  ·rintro⟨⟨a,b⟩,⟨h1,h2⟩,rfl⟩;cases h2;exact h1
  ·intro h;exact⟨(p,y),⟨h,rfl⟩,rfl⟩) λy h=>by have:=(o.f 0 p y h).2.2;rw[a4v]at this;omega
 have E:Pu jj 1 [.rol ((if u.e then u.ls++[0] else u.ls).map bf)] (tpN (rwE s)):=a2k (by omega) (by cases u.e<;>simp<;>omega) (λy=>by
  have h1:=w.l y;have h2:=w.e;rw[<-h2]
  cases u.e<;>simp[h1,or_comm]) λy h=>by
   rcases h with⟨rfl,_⟩|h
   ·omega
   ·have:=(o.e 0 y h).2;rw[a4v]at this;omega
 have cr:∀(a:Nat) (l:List Nat),clos 0 (tpN (rwB s)::l.map λi=>tpN (rwF s (a+i))):=λa l=>bu (gf (dq _)) (dg λ_ _=>gf (dq _));have cs:clos 0 (.str ""::sgD (mk s)):=bu (du _) (a2j _);have cd:MI.clo 0 (spD s):=gf (bu (gf cs) (bu (gf (cr 1 _)) (bu (gf (dq _)) fu)));refine Pu.of rfl (ayf u) (r:=.ok (spD s) [.lst (tpN (rwB s)::(List.range (wt s)).map λi=>tpN (rwF s (1+i)))]) ?_ (jr cd (by simp)) cd
 unfold u6;rw[iw];show toR (a0c jj [some (pd u),none,none,none] [])=_;unfold a0c;refine etr (jk (h1:=[.lst [tpN (rwB s)]]) (d:=.ref 0) (qd (qd (uv (bz rfl) a4f) (B [])) rfl)) ?_;have sl:∀h,xq [.rol (sgD u.sg)] h=.ok (bf (wt s)) h:=λh=>by rw[EVT.uz,ah,w.n,a4v]
 have it:=aqn (a:=1) (n:=wt s+1) (g:=sC (.int 1)) (f:=s2 gk (sA xq (aj (s1 (qj "Patch" "signs") (sV 0)) cu)) (sI 1)) (τ:=[some (pd u),some (.ref 0),none,none]) (h:=[.lst [tpN (rwB s)]]) ckk (nu (qd (uv (bz rfl) a5g) (sl _)) ckk (DRW.ag6 (a:=wt s) (b:=1))) (j5 (by omega)) (j5 (by omega))
 refine etr (a2e it) ?_;obtain⟨τ',h',e,⟨t2,rfl⟩,rfl⟩:=a0w (g:=kN 2) (b:=a2c jj) (λi:Nat=>D.int ((1+i:Nat))) (λpre τ h=>(∃t2:Option D,τ=[some (pd u),some (.ref 0),t2,none])/\h=[.lst (tpN (rwB s)::pre.map λi=>tpN (rwF s (1+i)))]) (List.range (wt s+1-1)) [some (pd u),some (.ref 0),none,none] [.lst [tpN (rwB s)]]
  (by
   rintro pre q post τ h al ⟨⟨t2,rfl⟩,rfl⟩
   have pl:pre.length<=20:=by
    have:=aK List.length al
    rw[ae,bK]at this;omega
   refine⟨[some (pd u),some (.ref 0),some (bf (1+q)),none],_,rfl,_,_,a4d (bz rfl) rfl (cns (qd (amb (p:=1+q) (acu (uv (bz rfl) a8b) rfl) rfl lp ?_) (N (1+q) _)) nlo) (abd rfl ?_),⟨_,rfl⟩,?_⟩
   ·intro o ho;obtain rfl:=aI.mp ho;exact cr 1 pre
   ·have:=j5 (n:=pre.length+2) (by omega)
    rw[aJ,ah];omega
   ·show[O.lst ((tpN (rwB s)::pre.map λi=>tpN (rwF s (1+i)))++[tpN (rwF s (1+q))])]=_;rw[bg];rfl)
  ⟨⟨_,rfl⟩,rfl⟩
 rw[Nat.add_sub_cancel]at e;refine aR (aK (λz=>toR (MI.thn z _)) e) ?_;have ch:∀o∈[O.lst (tpN (rwB s)::(List.range (wt s)).map λi=>tpN (rwF s (1+i)))],vg 0 o:=λo ho=>by obtain rfl:=aI.mp ho;exact cr 1 _
 generalize hH:[O.lst (tpN (rwB s)::(List.range (wt s)).map λi=>tpN (rwF s (1+i)))]=H at ch
 have zl:aam (ah4 (s1 (qj "Patch" "empty") (sV 0))) (sZ (s2 gk (s1 (qj "Patch" "lasts") (sV 0)) (sZ (sA u9 (aj (sI 0) cu))))) (s1 (qj "Patch" "lasts") (sV 0)) [some (pd u),some (.ref 0),t2,none] H=.ok (.rol ((if u.e then u.ls++[0] else u.ls).map bf)) H:=by
  refine aqx (a1d (uv (bz rfl) a8c) (tu _)) ?_ (uv (bz rfl) a3f);rw[bg];exact EVT.ug (uv (bz rfl) a3f) (zds (cns ckk nlo) rfl (dq [0]) ch (by simp)) rfl (dq _) (dq [0]) ch (by rw[ah];show u.ls.length+1<=_;omega)
 refine etr (jk zl) ?_;have zs:∀t3,sZ (s2 gk (sZ (sA u9 (aj (sC (.str "")) cu))) (s1 (qj "Patch" "signs") (sV 0))) [some (pd u),some (.ref 0),t2,t3] H=.ok (.rol (.str ""::sgD (mk s))) H:=λt3=>by
  rw[<-g];exact EVT.ug (xs:=[.str ""]) (zds (cns ckk nlo) rfl (bu (du _) fu) ch (by simp)) (uv (bz rfl) a5g) rfl (bu (du _) fu) (a2j _) ch (by rw[ah,w.n,a4v];show 1+wt s<=_;omega)
 have gt:wu [.ref 0] H=.ok (.tup (tpN (rwB s)::(List.range (wt s)).map λi=>tpN (rwF s (1+i)))) H:=by rw[<-hH];rfl
 exact aK toR (m9 (aoo (cns (qd (zs _) SHD.qp) (cns (qd (bz rfl) gt) (cns (qd (bz rfl) (E H)) nlo))) abe))
end K11
namespace K11
open L2 MI AT HND EVX SPR
open SHD
open PAP hiding u5 a1f a2f ju yc aof
open DRW (wt wts)
open ENG (fl m5 a3d a03)
noncomputable def oh:Nat->SF
 |0=>λ_ _=>.no
 |n+1=>nq (a4a ENG.v7 (oh n)) 2
theorem a8e{tg:List Nat}:∀(d n:Nat),d<=n->∀s,a4u tg d s->Pu (oh n) 1 [sd s] (bf (wt s))
 |0,_,_,_,k=>k.elim
 |d+1,0,h,_,_=>absurd h (by omega)
 |d+1,n+1,h,s,k=>by
  have ih:=a8e (tg:=tg) d n (by omega)
  refine Pu.of rfl (by simp[ww]) (r:=.ok (bf (wt s)) []) ?_ (jr (c7 _) (by simp)) (c7 _)
  show nq (a4a ENG.v7 (oh n)) 2 [sd s] []=_;rw[iw];show toR (a4a ENG.v7 (oh n) [some (sd s),none] [])=_;unfold a4a;have sm:sA ahi (aj (sZ (a1v (sIt (sA (jh false 1 ENG.v7) (aj (sV 0) cu))) MI.t1 (a0z ENG.v7 (oh n)) [])) cu) [some (sd s),none] []=.ok (bf (wts (ENG.kids s))) []:=by
   obtain⟨kl,kk⟩:=ENG.acy k;have z:sZ (a1v (sIt (sA (jh false 1 ENG.v7) (aj (sV 0) cu))) MI.t1 (a0z ENG.v7 (oh n)) []) [some (sd s),none] []=.ok (.rol (((ENG.kids s).map λs=>(wt s:Int)).map D.int)) []:=by
    refine al2 ?_ (dg λ_ _=>c7 _) (by simp)
    rw[eL];refine a74 sd (λs=>D.int (wt s:Int)) (ENG.kids s) (acu (qd (bz rfl) (ENG.am3 s [])) rfl) (j5 (by omega)) λp hp=>?_
    rw[a9r];unfold a0z;exact qd (bz rfl) (ih p (kk p hp) [])
   refine qd z ?_;unfold ahi;simp only[SRC.ints_map,DRW.ad0]
  match s,k with
  |.one sg,k =>
   rw[sd,wt];exact aK toR (v6 (aR (ifT (by walk_at "x")) (m9 ckk)))
  |.row ps,k =>
   rw[sd] at *;rw[wt];refine eti (by walk_at "x") ?_
   refine etr (jk sm) ?_;refine eti (by walk_at "x") ?_
   exact aK toR (m9 (bz rfl))
  |.eit ps,k =>
   rw[sd] at *;rw[wt];refine eti (by walk_at "x") ?_
   refine etr (jk sm) ?_;refine eti (by walk_at "x") ?_
   exact aK toR (m9 (bz rfl))
  |.many p,k =>
   rw[sd] at *;rw[wt];refine eti (by walk_at "x") ?_
   refine etr (jk sm) ?_;refine eti (by walk_at "x") ?_
   rw[show wts (ENG.kids (.many p))=wt p by rw[ENG.kids,wts,wts];rfl]
   exact aK toR (m9 (bz rfl))
  |.tim p lo hi,k =>
   rw[sd] at *;rw[wt];refine eti (by walk_at "x") ?_
   refine etr (jk sm) ?_;rw[show wts (ENG.kids (.tim p lo hi))=wt p by rw[ENG.kids,wts,wts];rfl]
   refine aK toR (v6 (ifr (by walk_at "x") (nu (qu rfl SHD.ix3) (bz rfl) ?_)))
   have h4:=k.2.1;exact a3e.trans ((aN (.inl ⟨by omega,by omega⟩)).trans (by rw[<-i5]))
theorem b1l{a b:Nat}{h:Hd}:gGt (bf a) (bf b) h=.ok (.bl (decide (b<a))) h:=by
 show R.ok (D.bl (decide ((b:Int)<(a:Int)))) h=_
 congr 2
 exact eD.mpr Int.ofNat_lt
end K11
namespace K11
open L2 MI AT HND EVX SPR
open SHD
open PAP hiding u5 a1f a2f ju yc aof
open DRW (wt wts)
open ENG (fl m5 a3d a03)
end K11
namespace K11
open L2 MI AT HND EVX SPR
open SHD
open PAP hiding u5 a1f a2f ju yc aof
open DRW (wt wts)
open ENG (fl m5 a3d a03)
theorem awu{d:D}(c:MI.clo 0 d):∀y∈[d],MI.clo 0 y:=λy hy=>by obtain rfl:=aI.mp hy;exact c
theorem a8f(s:Sh):MI.clo 0 (spD s):=gf (bu (gf (bu (du _) (a2j _))) (bu (gf (bu (gf (dq _)) (dg λ_ _=>gf (dq _)))) (bu (gf (dq _)) fu)))
end K11
namespace SPR
section
variable{T:Nat->Nat->Prop}
inductive Wk (T:Nat->Nat->Prop) (F:Nat->Nat->Bool):Nat->Nat->Nat->Nat->Prop
 |refl (p i:Nat):Wk T F p i p i
 |step {p q r i j:Nat} (f:F p q=true) (t:T i q) (h:Wk T F q (i+1) r j):Wk T F p i r j
theorem Wk.tr{F:Nat->Nat->Bool}{p i q m r j:Nat}(h:Wk T F p i q m)(h':Wk T F q m r j):Wk T F p i r j:=by
 induction h with
 |refl=>exact h'
 |step f t _ ih=>exact .step f t (ih h')
theorem Wk.mono{F G:Nat->Nat->Bool}(m:∀p q,F p q=true->G p q=true){p i r j:Nat}(h:Wk T F p i r j):Wk T G p i r j:=by
 induction h with
 |refl=>exact .refl ..
 |step f t _ ih=>exact .step (m _ _ f) t ih
def Acc(T:Nat->Nat->Prop)(x:Pt)(a i j:Nat):Prop:=(i=j/\x.e=true)\/∃p r,x.B a p=true/\T i p/\Wk T (x.F a) p (i+1) r j/\x.E a r=true
def a8g(x y:Pt):Pt:=⟨x.w+y.w,x.e && y.e,λa p=>x.B a p || (x.e && y.B (a+x.w) p),λa p=>(x.E a p && y.e) || y.E (a+x.w) p,λa p q=>x.F a p q || (x.E a p && y.B (a+x.w) q) || y.F (a+x.w) p q⟩
theorem abj{x y:Pt}(ox:x.Ok)(oy:y.Ok){a p i r j:Nat}(h:Wk T ((a8g x y).F a) p i r j)(hp:a+x.w<p):Wk T (y.F (a+x.w)) p i r j/\a+x.w<r:=by
 induction h with
 |refl=>exact⟨.refl ..,hp⟩
 |step f t _ ih =>
  simp only[a8g,br,bF]at f
  rcases f with(f|⟨f,_⟩)|f
  ·have:=ox.f _ _ _ f;omega
  ·have:=ox.e _ _ f;omega
  ·obtain⟨h1,h2⟩:=ih (oy.f _ _ _ f).2.1;exact⟨.step f t h1,h2⟩
theorem amc{x y:Pt}(ox:x.Ok)(oy:y.Ok){a p i r j:Nat}(h:Wk T ((a8g x y).F a) p i r j)(hp:p<=a+x.w):(Wk T (x.F a) p i r j/\r<=a+x.w)\/∃p' m q,Wk T (x.F a) p i p' m/\x.E a p'=true/\y.B (a+x.w) q=true/\T m q/\Wk T (y.F (a+x.w)) q (m+1) r j/\a+x.w<r:=by
 induction h with
 |refl=>exact .inl ⟨.refl ..,hp⟩
 |@step p q r i j f t h ih =>
  simp only[a8g,br,bF]at f
  rcases f with(f|⟨f,g⟩)|f
  ·rcases ih (ox.f _ _ _ f).2.2 with⟨h1,h2⟩|⟨p',m,q',h1,h2,h3,h4,h5,h6⟩
   ·exact .inl ⟨.step f t h1,h2⟩
   ·exact .inr ⟨p',m,q',.step f t h1,h2,h3,h4,h5,h6⟩
  ·obtain⟨h1,h2⟩:=abj ox oy h (oy.b _ _ g).1;exact .inr ⟨p,i,q,.refl ..,f,g,t,h1,h2⟩
  ·have:=(oy.f _ _ _ f).1;omega
theorem ajh{x y:Pt}(ox:x.Ok)(oy:y.Ok){a i j:Nat}:Acc T (a8g x y) a i j↔∃m,Acc T x a i m/\Acc T y (a+x.w) m j:=by
 constructor
 ·rintro(⟨rfl,h⟩|⟨p,r,b,t,h,e⟩)
  ·simp only[a8g,bF]at h;exact⟨i,.inl ⟨rfl,h.1⟩,.inl ⟨rfl,h.2⟩⟩
  ·simp only[a8g,br,bF]at b e
   rcases b with b|⟨n,b⟩
   ·rcases amc ox oy h (ox.b _ _ b).2 with⟨h1,h2⟩|⟨p',m,q,h1,h2,h3,h4,h5,h6⟩
    ·rcases e with⟨e,n⟩|e
     ·exact⟨j,.inr ⟨p,r,b,t,h1,e⟩,.inl ⟨rfl,n⟩⟩
     ·have:=oy.e _ _ e;omega
    ·rcases e with⟨e,n⟩|e
     ·have:=ox.e _ _ e;omega
     ·exact⟨m,.inr ⟨p,p',b,t,h1,h2⟩,.inr ⟨q,r,h3,h4,h5,e⟩⟩
   ·obtain⟨h1,h2⟩:=abj ox oy h (oy.b _ _ b).1
    rcases e with⟨e,_⟩|e
    ·have:=ox.e _ _ e;omega
    ·exact⟨i,.inl ⟨rfl,n⟩,.inr ⟨p,r,b,t,h1,e⟩⟩
 ·have mx:∀p q,x.F a p q=true->(a8g x y).F a p q=true:=λp q h=>by simp[a8g,h]
  have my:∀p q,y.F (a+x.w) p q=true->(a8g x y).F a p q=true:=λp q h=>by simp[a8g,h]
  rintro⟨m,⟨rfl,n⟩|⟨p,r,b,t,h,e⟩,⟨rfl,n'⟩|⟨p',r',b',t',h',e'⟩⟩
  ·exact .inl ⟨rfl,by simp[a8g,n,n']⟩
  ·exact .inr ⟨p',r',by simp[a8g,n,b'],t',h'.mono my,by simp[a8g,e']⟩
  ·exact .inr ⟨p,r,by simp[a8g,b],t,h.mono mx,by simp[a8g,e,n']⟩
  ·exact .inr ⟨p,r',by simp[a8g,b],t,(h.mono mx).tr (.step (by simp[a8g,e,b']) t' (h'.mono my)),by simp[a8g,e']⟩
theorem aem{a i j:Nat}:Acc T (abn []) a i j↔i=j:=by
 constructor
 ·rintro(⟨h,_⟩|⟨p,r,b,_⟩)
  ·exact h
  ·cases b
 ·exact λh=>.inl ⟨h,rfl⟩
theorem aqz{x:Pt}{xs:List Pt}(ox:x.Ok)(os:∀y∈xs,y.Ok){a i j:Nat}:Acc T (abn (x::xs)) a i j↔∃m,Acc T x a i m/\Acc T (abn xs) (a+x.w) m j:=ajh (y:=abn xs) ox (ank os)
theorem amd{a i j:Nat}:¬ Acc T (a4h []) a i j:=by
 rintro(⟨_,h⟩|⟨p,r,b,_⟩)
 ·cases h
 ·cases b
theorem ame{x:Pt}{xs:List Pt}(ox:x.Ok)(os:∀y∈xs,y.Ok){a p i r j:Nat}(h:Wk T ((a4h (x::xs)).F a) p i r j):(p<=a+x.w->Wk T (x.F a) p i r j/\r<=a+x.w)/\(a+x.w<p->Wk T ((a4h xs).F (a+x.w)) p i r j/\a+x.w<r):=by
 have oy:=ais os
 induction h with
 |refl=>exact⟨λh=>⟨.refl ..,h⟩,λh=>⟨.refl ..,h⟩⟩
 |@step p q r i j f t h ih =>
  simp only[a4h,oF,br]at f
  rcases f with f|f
  ·have b:=ox.f _ _ _ f;refine⟨λhp=>?_,λhp=>by omega⟩
   obtain⟨h1,h2⟩:=ih.1 b.2.2;exact⟨.step f t h1,h2⟩
  ·have b:=oy.f _ _ _ f;refine⟨λhp=>by omega,λhp=>?_⟩
   obtain⟨h1,h2⟩:=ih.2 b.2.1;exact⟨.step f t h1,h2⟩
theorem ar0{x:Pt}{xs:List Pt}(ox:x.Ok)(os:∀y∈xs,y.Ok){a i j:Nat}:Acc T (a4h (x::xs)) a i j↔Acc T x a i j\/Acc T (a4h xs) (a+x.w) i j:=by
 have oy:=ais os
 constructor
 ·rintro(⟨rfl,h⟩|⟨p,r,b,t,h,e⟩)
  ·simp only[a4h,oE,br]at h;exact h.imp (λh=>.inl ⟨rfl,h⟩) λh=>.inl ⟨rfl,h⟩
  ·simp only[a4h,oB,oEn,br]at b e;obtain⟨w1,w2⟩:=ame ox os h
   rcases b with b|b
   ·obtain⟨h1,h2⟩:=w1 (ox.b _ _ b).2
    rcases e with e|e
    ·exact .inl (.inr ⟨p,r,b,t,h1,e⟩)
    ·have:=oy.e _ _ e;omega
   ·obtain⟨h1,h2⟩:=w2 (oy.b _ _ b).1
    rcases e with e|e
    ·have:=ox.e _ _ e;omega
    ·exact .inr (.inr ⟨p,r,b,t,h1,e⟩)
 ·rintro((⟨rfl,h⟩|⟨p,r,b,t,h,e⟩)|⟨rfl,h⟩|⟨p,r,b,t,h,e⟩)
  ·exact .inl ⟨rfl,by simp[a4h,oE,h]⟩
  ·exact .inr ⟨p,r,by simp[a4h,oB,b],t,h.mono λp q h=>by simp[a4h,oF,h],by simp[a4h,oEn,e]⟩
  ·exact .inl ⟨rfl,by simp only[a4h,oE,br];exact .inr h⟩
  ·exact .inr ⟨p,r,by simp only[a4h,oB,br];exact .inr b,t,h.mono λp q h=>by simp only[a4h,oF,br];exact .inr h,by simp only[a4h,oEn,br];exact .inr e⟩
theorem ar3{a i j:Nat}:Acc T aiq a i j↔T i (a+1)/\j=i+1:=by
 constructor
 ·rintro(⟨_,h⟩|⟨p,r,b,t,h,e⟩)
  ·cases h
  ·obtain rfl:p=a+1:=by simpa[aiq] using b
   cases h with
   |refl=>exact⟨t,rfl⟩
   |step f=>cases f
 ·rintro⟨t,rfl⟩
  exact .inr ⟨a+1,a+1,by simp[aiq],t,.refl ..,by simp[aiq]⟩
inductive St (R:Nat->Nat->Prop):Nat->Nat->Prop
 |refl (i:Nat):St R i i
 |step {i m j:Nat} (h:R i m) (t:St R m j):St R i j
theorem amf{x:Pt}{a p i r j:Nat}(h:Wk T ((ajv x).F a) p i r j)(e:x.E a r=true):∃p' m,Wk T (x.F a) p i p' m/\x.E a p'=true/\St (Acc T x a) m j:=by
 induction h with
 |refl=>exact⟨_,_,.refl ..,e,.refl _⟩
 |@step p q r i j f t h ih =>
  obtain⟨p',m,h1,h2,h3⟩:=ih e;simp only[ajv,br,bF]at f
  rcases f with f|⟨f,b⟩
  ·exact⟨p',m,.step f t h1,h2,h3⟩
  ·exact⟨p,i,.refl ..,f,.step (.inr ⟨q,p',b,t,h1,h2⟩) h3⟩
theorem ar4{x:Pt}{a i j:Nat}:Acc T (ajv x) a i j↔St (Acc T x a) i j:=by
 constructor
 ·rintro(⟨rfl,_⟩|⟨p,r,b,t,h,e⟩)
  ·exact .refl _
  ·obtain⟨p',m,h1,h2,h3⟩:=amf h e;exact .step (.inr ⟨p,p',b,t,h1,h2⟩) h3
 ·intro h
  induction h with
  |refl=>exact .inl ⟨rfl,rfl⟩
  |step h _ ih =>
   have mx:∀p q,x.F a p q=true->(ajv x).F a p q=true:=λp q h=>by simp[ajv,h]
   rcases h with⟨rfl,_⟩|⟨p,r,b,t,h,e⟩
   ·exact ih
   ·rcases ih with⟨rfl,_⟩|⟨p',r',b',t',h',e'⟩
    ·exact .inr ⟨p,r,b,t,h.mono mx,e⟩
    ·have b':x.B a p'=true:=b';exact .inr ⟨p,r',b,t,(h.mono mx).tr (.step (by simp[ajv,e,b']) t' h'),e'⟩
def tP(lo k:Nat)(xs:List Pt):Pt:=⟨sw xs,eT lo k xs,sB xs,tE lo k xs,sF xs⟩
theorem ayl{lo k:Nat}{xs:List Pt}(os:∀y∈xs,y.Ok):(tP lo k xs).Ok:=⟨λ_ _ h=>air os h,λ_ _ h=>aqh os h,λ_ _ _ h=>alu os h⟩
theorem aw2{x:Pt}(ox:x.Ok){lo k n a i j:Nat}:Acc T (tP lo k (List.replicate (n+1) x)) a i j↔(lo<=k/\i=j)\/∃m,Acc T x a i m/\Acc T (tP lo (k+1) (List.replicate n x)) (a+x.w) m j:=by
 have os:∀y∈List.replicate n x,y.Ok:=λy hy=>by rw[(gF.mp hy).2];exact ox
 have E:∀p,(tP lo k (List.replicate (n+1) x)).E a p=(a8g x (tP lo (k+1) (List.replicate n x))).E a p:=λp=>by
  show tE lo k (List.replicate (n+1) x) a p=((x.E a p && eT lo (k+1) (List.replicate n x)) || tE lo (k+1) (List.replicate n x) (a+x.w) p)
  rw[aV,tE,aqi]
 rw[<-ajh ox (ayl os)]
 constructor
 ·rintro(⟨rfl,h⟩|⟨p,r,b,t,h,e⟩)
  ·have h:eT lo k (List.replicate (n+1) x)=true:=h;rw[aV,eT]at h;simp only[br,dD]at h;exact h.imp (λh=>⟨h,rfl⟩) λh=>.inl ⟨rfl,h⟩
  ·exact .inr (.inr ⟨p,r,b,t,h,by rw[<-E];exact e⟩)
 ·rintro(⟨h,rfl⟩|⟨rfl,h⟩|⟨p,r,b,t,h,e⟩)
  ·exact .inl ⟨rfl,by show eT lo k (List.replicate (n+1) x)=true;rw[aV,eT];simp[h]⟩
  ·refine .inl ⟨rfl,?_⟩;show eT lo k (List.replicate (n+1) x)=true;have h:(x.e && eT lo (k+1) (List.replicate n x))=true:=h;rw[aV,eT,h];simp
  ·exact .inr ⟨p,r,b,t,h,by rw[E];exact e⟩
theorem ao0{lo k a i j:Nat}:Acc T (tP lo k []) a i j↔i=j:=by
 constructor
 ·rintro(⟨h,_⟩|⟨p,r,b,_⟩)
  ·exact h
  ·cases b
 ·exact λh=>.inl ⟨h,rfl⟩
theorem ar5{x:Pt}{lo hi a i j:Nat}(h:lo<=hi):Acc T (aqg x lo hi) a i j↔Acc T (tP lo 0 (List.replicate hi x)) a i j:=by
 have:(lo == 0 || x.e)=eT lo 0 (List.replicate hi x):=by
  cases hi with
  |zero =>
   obtain rfl:lo=0:=by omega
   rfl
  |succ n =>
   cases hx:x.e with
   |true=>rw[aix hx];simp
   |false=>rw[aV,eT,hx];cases lo<;>simp
 unfold Acc;show(_/\(lo == 0 || x.e)=true\/_)↔(_/\eT lo 0 (List.replicate hi x)=true\/_)
 rw[this];exact Iff.rfl
end
end SPR
namespace K15
open L2 MI AT HND EVX SPR
open SHD
open PAP hiding u5 a1f a2f ju yc aof
open DRW (wt wts)
open ENG (fl m5 a3d a03)
open K11 (pt a2i a4v mk a8a rwB rwF rwE tpN spD sgD a2j dq a8f a2k awu)
open DRW (wt wts dw)
open SRC (Src)
noncomputable def nx(s:Sh)(p:Nat):List Nat:=if p=0 then rwB s else rwF s p
noncomputable abbrev rws(s:Sh):List D:=tpN (rwB s)::(List.range (wt s)).map λi=>tpN (rwF s (1+i))
theorem aa3{s:Sh}{p q:Nat}(h:q∈nx s p):1<=q/\q<=wt s:=by
 have o:=a2i s;unfold nx at h
 split at h
 ·have:=o.b 0 q (m5.mp h).2
  rw[a4v]at this;omega
 ·have:=(o.f 0 p q (m5.mp h).2).2
  rw[a4v]at this;omega
theorem aw3(s:Sh)(p:Nat):(nx s p).length<=wt s+1:=by
 unfold nx
 split<;>exact a03
theorem aji{s:Sh}{p:Nat}(hp:p<=wt s)(h:Hd):gIx (.tup (rws s)) (bf p) h=.ok (tpN (nx s p)) h:=by
 refine a9s ?_
 cases p with
 |zero=>rfl
 |succ p =>
  show((List.range (wt s)).map λi=>tpN (rwF s (1+i)))[p]? = _;rw[bJ,List.getElem?_range (by omega)]
  show some (tpN (rwF s (1+p)))=_;rw[gz 1 p];unfold nx;rw[bp (by omega)]
abbrev lsN(l:List Nat):D:=.rol (l.map bf)
theorem ar6(l:List Nat):∀o∈[O.lst (l.map bf)],vg 0 o:=λo ho=>by obtain rfl:=aI.mp ho;exact dq l
theorem ao1(neg:Bool)(i:Int)(l:List Nat)(h:Hd):gIn neg (.int i) (.tup (l.map bf)) h=.ok (.bl (if neg then !decide (∃n∈l,i=(n:Int)) else decide (∃n∈l,i=(n:Int)))) h:=by
 have e:inD (.int i) (l.map bf)=decide (∃n∈l,i=(n:Int)):=by
  unfold inD;rw[List.any_map]
  induction l with
  |nil=>simp
  |cons a l ih =>
   rw[fQ,ih];show((a:Int) == i || _)=_
   rw[Bool.eq_iff_iff];simp only[br,eM,dD,aO]
   constructor
   ·rintro(h|⟨n,h1,h2⟩)
    ·exact⟨a,.inl rfl,h.symm⟩
    ·exact⟨n,.inr h1,h2⟩
   ·rintro⟨n,rfl|h1,h2⟩
    ·exact .inl h2.symm
    ·exact .inr ⟨n,h1,h2⟩
 show(if xf (.int i)=true/\(l.map bf).all xf=true then R.ok (D.bl (if neg then !inD (.int i) (l.map bf) else inD (.int i) (l.map bf))) h else .no)=_
 rw[aN ⟨rfl,by rw[bU];intro x hx;obtain⟨y,_,rfl⟩:=da.mp hx;rfl⟩,e]
theorem ao2(l:List Nat)(h:Hd):hNe (tpN l) (.tup []) h=.ok (.bl (!l.isEmpty)) h:=by
 have p1:pur 60 (tpN l)=true:=by
  show(l.map bf).all (pur 59)=true;rw[bU];intro x hx;obtain⟨y,_,rfl⟩:=da.mp hx;rfl
 have p2:pur 60 (.tup [])=true:=rfl;unfold hNe;rw[aN ⟨p1,p2⟩]
 cases l<;>rfl
theorem aen{F:SF}{ds:List D}{n:Nat}{o o':O}{zs:List D}(hn:ds.length+1=n)(cd:∀x∈ds,MI.clo 0 x)(co:vg 0 o)(e:F (.ref 0::ds) [o]=.ok (.ref 1) [o',.lst zs])(c:clos 0 zs)(co':vg 0 o'):Dr F n ds o (.rol zs) o' :=
 Dr.of hn cd co e (zc (ay _) rfl (vy (ba _) c) (λu hu=>by
  obtain rfl:u=o':=by simpa using hu
  exact a1y (ba _) co')) (ik c) co'
section
variable{τ:Sd}{u o':O}{f g:SE}{n k:Nat}
theorem co1(c:vg 0 u):∀v∈[u],vg 0 v:=λv hv=>by obtain rfl:=aI.mp hv;exact c
end
end K15
namespace K15
open L2 MI AT HND EVX SPR
open SHD
open PAP hiding u5 a1f a2f ju yc aof
open DRW (wt wts dw)
open SRC (Src)
open ENG (fl m5 a3d a03)
open K11 (pt a2i a4v mk a8a rwB rwF rwE tpN spD sgD a2j dq a8f a2k awu)
noncomputable def n6:SF:=nq (a5t (K11.iy 10) K11.u6 (K11.oh 5)) 1
theorem ajj{tg:List Nat}{d:Nat}{s:Sh}(k:a4u tg d s)(h5:d<=5)(hw:wt s<=10):Pu n6 1 [sd s] (spD s):=by
 refine Pu.of rfl (awu (ww s)) (r:=.ok (spD s) []) ?_ (jr (a8f s) nlc) (a8f s);unfold n6;rw[iw];show toR (a5t (K11.iy 10) K11.u6 (K11.oh 5) [some (sd s)] [])=_;unfold a5t;have c:sT (s2 gGt (sA (jh false 1 (K11.oh 5)) (aj (sV 0) cu)) (sI 10)) [some (sd s)] []=.ok (decide (10<wt s)) []:=t2s (qd (bz rfl) (K11.a8e d 5 h5 s k [])) ckk (K11.b1l (b:=10));rw[bA (by omega)]at c
 obtain⟨u,pu,w,g⟩:=K11.aa2 d 10 (by omega) (by omega) s k (by omega) 0
 refine etr (ifN c) ?_;exact aK toR (m9 (qd (a0e (bz rfl) ckk (pu [])) (K11.aqy (by omega) hw w g [])))
end K15
namespace K12
open L2 MI AT HND EVX SPR
open SHD
open PAP hiding u5 a1f a2f ju yc aof
open DRW (wt wts)
open ENG (fl m5 a3d a03 Rl)
open K11 (pt pts a2i a89 a4v ad2 laid dq awu)
open K15 (lsN)
open ENG (fl m5 a3d a03 aj7 Rl)
open ENG (fl m5 a3d a03 aj7 acw Rl)
open K15 (lsN nx aa3 aji rws ar6)
open K11 (spD rwB rwF rwE tpN)
open DRW (wt wts dw)
open SRC (Src)
open K15 (aen ao2 lsN nx aa3 aji rws ar6)
abbrev Tw(row:List Nat):Nat->Nat->Prop:=λi q=>row[i]? = some q
abbrev Ac(row:List Nat)(s:Sh)(a:Nat):Rl:=Acc (Tw row) (pt s) a
theorem aym{row:List Nat}{F:Nat->Nat->Bool}{p i r j:Nat}(h:Wk (Tw row) F p i r j)(hi:i<=row.length):i<=j/\j<=row.length:=by
 induction h with
 |refl=>exact⟨ay _,hi⟩
 |step _ t _ ih =>
  have:=(av.mp t).1
  have:=ih (by omega)
  omega
theorem ajk{row:List Nat}{x:Pt}{a i j:Nat}(h:Acc (Tw row) x a i j)(hi:i<=row.length):i<=j/\j<=row.length:=by
 rcases h with⟨rfl,_⟩|⟨p,r,_,t,h,_⟩
 ·exact⟨ay _,hi⟩
 ·have:=(av.mp t).1
  have:=aym h (by omega)
  omega
mutual
theorem aeo{tg:List Nat}:∀(d:Nat) (s:Sh),a4u tg d s->wt s=0->(pt s).e=true
 |0,_,k,_=>k.elim
 |d+1,.one sg,k,h=>by rw[wt]at h;cases h
 |d+1,.row ps,k,h=>by
  rw[wt]at h;rw[pt];exact aw4 d ps k.2 h
 |d+1,.eit ps,k,h=>by
  rw[wt]at h;rw[pt];exact ayn d ps k.1 k.2.2 h
 |d+1,.many p,k,h=>by rw[pt];rfl
 |d+1,.tim p lo hi,k,h=>by
  rw[wt]at h;rw[pt];show(lo == 0 || (pt p).e)=true
  have:=k.1
  rcases Nat.mul_eq_zero.mp h with z|z
  ·obtain rfl:lo=0:=by omega
   rfl
  ·rw[aeo d p k.2.2 z];simp
theorem aw4{tg:List Nat}:∀(d:Nat) (ps:List Sh),(∀p∈ps,a4u tg d p)->wts ps=0->aE (pts ps)=true
 |_,[],_,_=>by rw[pts];rfl
 |d,p::ps,k,h=>by
  rw[wts]at h;rw[pts,aE,aeo d p (k p (by simp)) (by omega),aw4 d ps (λq hq=>k q (by simp[hq])) (by omega)];rfl
theorem ayn{tg:List Nat}:∀(d:Nat) (ps:List Sh),1<=ps.length->(∀p∈ps,a4u tg d p)->wts ps=0->oE (pts ps)=true
 |_,[],z,_,_=>by cases z
 |d,p::ps,_,k,h=>by
  rw[wts]at h;rw[pts,oE,aeo d p (k p (by simp)) (by omega)];rfl
end
theorem ar7{tg:List Nat}{d:Nat}{s:Sh}{row:List Nat}(k:a4u tg d s)(h:wt s=0){a i j:Nat}:Ac row s a i j↔i=j:=by
 constructor
 ·rintro(⟨e,_⟩|⟨p,r,b,_⟩)
  ·exact e
  ·have:=(a2i s).b _ _ b
   rw[a4v,h]at this;omega
 ·exact λe=>.inl ⟨e,aeo d s k h⟩
theorem amg{h:Hd}{i:Nat}{l:List Nat}(e:h[i]? = some (.lst (l.map bf))):afx (.ref i) h=some (SRC.cst l):=by
 show a5b (.ref i) h=_;unfold a5b;simp only[e];exact a77 l
theorem ajl{f:Nat->List Nat}{b:Nat}:∀{xs:List Nat},(∀x∈xs,(f x).length<=b)->(xs.flatMap f).length<=xs.length*b
 |[],_=>by simp
 |x::xs,h=>by
  have:=ajl (f:=f) (xs:=xs) λy hy=>h y (by simp[hy])
  have:=h x (by simp)
  rw[fG,ae,aJ,bX];omega
theorem c4{p d:D}{a:Nat}{row:List Nat}(cp:MI.clo 0 p)(cd:MI.clo 0 d):∀y∈[p,bf a,lsN row,d],MI.clo 0 y:=λy hy=>by
 simp only[aO,bD,dA]at hy
 rcases hy with rfl|rfl|rfl|rfl
 ·exact cp
 ·exact c7 _
 ·exact ik (dq _)
 ·exact cd
theorem ao3{l:List Nat}{n:Nat}{P:Nat->Prop}{h:Hd}{i:Nat}(hn:n+1<=60)(lt:∀y∈l,y<=n)(ll:l.length<=4000)(e:h[i]? = some (.lst (l.map bf)))(m:∀y,y∈l↔P y):a9g (.ref i) h=.ok (.ref h.length) (h++[.lst ((fl n (λ_ y=>P y) 0).map bf)]):=by
 obtain⟨ts,fw,srt,mm,es⟩:=aef (l:=l) (d:=.ref i) (h:=h) hn (λy hy=>by have:=lt y hy;omega) ll (amg e)
 rw[es];have:ts=fl n (λ_ y=>P y) 0:=a3d fw.nd srt λy=>by
  rw[mm,m];exact⟨λh=>⟨lt y ((m y).mpr h),h⟩,λh=>h.2⟩
 rw[this]
noncomputable def aep(F:SF):SF:=nq (mq F) 6
section
variable{F:SF}{R:Rl}{p:D}{a:Nat}{row:List Nat}
theorem ajm{hs:List Nat}(cp:MI.clo 0 p)(L20:row.length<=20)(hb:∀m∈hs,m<=row.length)(hl:hs.length<=60)(ih:∀k,k<=row.length->Pu F 4 [p,bf a,lsN row,bf k] (lsN (fl row.length R k))):Pu (aep F) 4 [p,bf a,lsN row,lsN hs] (lsN (fl row.length (λ_ j=>∃m∈hs,j<=row.length/\R m j) 0)):=by
 have fb:∀(l:List Nat),(∀x∈l,(fl row.length R x).length<=21):=λl x _=>by have:=a03 (n:=row.length) (R:=R) (a:=x);omega
 have fbl:=ajl (fb hs);obtain⟨τ',h',e,⟨t5,rfl⟩,rfl⟩:=a0w (g:=kN 5) (b:=xx F) bf (λpre τ h=>(∃t5:Option D,τ=[some p,some (bf a),some (lsN row),some (lsN hs),some (.ref 0),t5])/\h=[.lst ((pre.flatMap (fl row.length R)).map bf)]) hs [some p,some (bf a),some (lsN row),some (lsN hs),some (.ref 0),none] [.lst []]
  (by
   rintro pre m post τ h al ⟨⟨t5,rfl⟩,rfl⟩
   have hm:m∈hs:=by rw[al];simp
   have pl:pre.length<=60:=by
    have:=aK List.length al
    rw[ae]at this;omega
   have b1:=ajl (fb pre);have b2:=fb [m] m (by simp)
   refine⟨[some p,some (bf a),some (lsN row),some (lsN hs),some (.ref 0),some (bf m)],_,rfl,_,_,a2d rfl (aoo (cns (bz rfl) (cns (bz rfl) (cns (bz rfl) (cns (bz rfl) nlo)))) (ih m (hb m hm) _)) (a0a rfl rfl (j5 (by rw[ah,ah];omega))),⟨_,rfl⟩,?_⟩
   rw[List.flatMap_append,bg,fG,List.flatMap_nil,bP]
   rfl)
  ⟨⟨_,rfl⟩,rfl⟩
 have S':=ao3 (n:=row.length) (P:=λj=>∃m∈hs,j<=row.length/\R m j) (l:=hs.flatMap (fl row.length R)) (h:=[.lst ((hs.flatMap (fl row.length R)).map bf)]) (i:=0) (by omega) (λy hy=>by
  obtain⟨m,_,h⟩:=hU.mp hy;exact(m5.mp h).1) (by omega) rfl (λy=>by
  rw[hU]
  constructor
  ·rintro⟨m,hm,h⟩;exact⟨m,hm,(m5.mp h).1,(m5.mp h).2⟩
  ·rintro⟨m,hm,h1,h2⟩;exact⟨m,hm,m5.mpr ⟨h1,h2⟩⟩)
 refine Pu.of rfl (c4 cp (ik (dq _))) (r:=.ok (.ref 1) [.lst ((hs.flatMap (fl row.length R)).map bf),.lst ((fl row.length (λ_ j=>∃m∈hs,j<=row.length/\R m j) 0).map bf)]) ?_ (zc (ba _) rfl (dq _) (by simp)) (ik (dq _))
 unfold aep;rw[iw];show toR (mq F [some p,some (bf a),some (lsN row),some (lsN hs),none,none] [])=_;unfold mq;refine etr (jk (d:=.ref 0) (h1:=[.lst []]) (aiz rfl)) ?_;refine etr (a2e (acu (bz rfl) rfl)) ?_;refine aR (aK (λz=>toR (MI.thn z _)) e) ?_;exact aK toR (m9 (uv (bz rfl) S'))
noncomputable def ajn(F:SF):SF:=nq (ou F) 7
theorem ar8{R:Rl}{i m j:Nat}(h:St R i m)(h':R m j):St R i j:=by
 induction h with
 |refl=>exact .step h' (.refl _)
 |step h _ ih=>exact .step h (ih h')
theorem ao4{l:List Nat}{n:Nat}(nd:l.Nodup)(h:∀x∈l,x<=n):l.length<=n+1:=BF.a9v (n+1) l nd λx hx=>by have:=h x hx;omega
theorem amh{k:Nat}(cp:MI.clo 0 p)(L20:row.length<=20)(hk:k<=row.length)(rb:∀i j,R i j->i<=row.length->j<=row.length)(ih:∀k,k<=row.length->Pu F 4 [p,bf a,lsN row,bf k] (lsN (fl row.length R k))):Pu (ajn F) 4 [p,bf a,lsN row,bf k] (lsN (fl row.length (St R) k)):=by
 let B (fd:Nat) (t:Option D):Sd:=[some p,some (bf a),some (lsN row),some (bf k),some (.ref 0),some (bf fd),t]
 rcases au3 (c:=yr F) (f:=yt F)
  (λm τ h=>∃(fd:List Nat) (at_:Nat) (t:Option D),τ=B at_ t/\h=[.lst (fd.map bf)]/\m=21-at_/\at_<=fd.length/\fd.Nodup/\k∈fd/\(∀e∈fd,e<=row.length/\St R k e)/\∀j b e,j<at_->fd[j]? = some b->R b e->e∈fd)
  (λτ h=>∃(fd:List Nat) (at_:Nat) (t:Option D),τ=B at_ t/\h=[.lst (fd.map bf)]/\fd.Nodup/\∀e,e∈fd↔e<=row.length/\St R k e) (λ_ _=>False)
  (by
   rintro m τ h ⟨fd,at_,t,rfl,rfl,rfl,hat,nd,kin,all,clo⟩
   have lf:fd.length<=row.length+1:=ao4 nd λx hx=>(all x hx).1;have ln:xq [.ref 0] [.lst (fd.map bf)]=.ok (bf fd.length) [.lst (fd.map bf)]:=by rw[aj0 rfl,ah]
   by_cases q:at_<fd.length
   ·right
    refine⟨_,t2s (bz rfl) (qd (bz rfl) ln) (a7c (by omega)),.inl ?_⟩
    have gb:fd[at_]? = some fd[at_]:=ai q;obtain⟨bn,bs⟩:=all _ (dN q);have gx:gIx (.ref 0) (bf at_) [.lst (fd.map bf)]=.ok (bf fd[at_]) [.lst (fd.map bf)]:=a85 (xs:=fd.map bf) rfl (by rw[bJ,gb];rfl)
    have fn:(fl row.length R fd[at_]).Nodup:=aj7;obtain⟨τ',h',e7,⟨t6,rfl⟩,rfl,_⟩:=a0w (g:=kN 6) (b:=uh F) bf (λpre τ h=>(∃t6:Option D,τ=B at_ t6)/\h=[.lst ((fd++pre.filter λy => !decide (y∈fd)).map bf)]/\(fd++pre.filter λy => !decide (y∈fd)).length<=200) (fl row.length R fd[at_]) (B at_ t) [.lst (fd.map bf)]
     (by
      rintro pre y post τ h al ⟨⟨t6,rfl⟩,rfl,z⟩
      have yp:y∉pre:=λhy=>by
       rw[al]at fn;exact(bS.mp fn).2.2 y hy y (by simp) rfl
      have ix:=SRC.aed (x:=y) (l:=fd++pre.filter λy => !decide (y∈fd)) (h:=[.lst ((fd++pre.filter λy => !decide (y∈fd)).map bf)]) (i:=0) rfl;have auk:(fd++(pre++[y]).filter λy => !decide (y∈fd)).length<=200:=by
       have l1:=fL (λy => !decide (y∈fd)) (pre++[y]);have l3:=aK List.length al;have l2:=a03 (n:=row.length) (R:=R) (a:=fd[at_]);rw[ae,aJ]at l3;rw[ae,aM]at l1;rw[ae];omega
      refine⟨B at_ (some (bf y)),_,rfl,?_⟩;unfold uh
      by_cases yf:y∈fd
      ·have ef:((pre++[y]).filter λy => !decide (y∈fd))=pre.filter λy => !decide (y∈fd):=by rw[List.filter_append];simp[yf]
       rw[cV (aX.mpr (.inl yf))]at ix;refine⟨_,_,ifF (t2s (bz rfl) (bz rfl) ix),⟨_,rfl⟩,by rw[ef],auk⟩
      ·have ef:((pre++[y]).filter λy => !decide (y∈fd))=(pre.filter λy => !decide (y∈fd))++[y]:=by rw[List.filter_append];simp[yf]
       rw[bA (λhy=>(aX.mp hy).elim yf λhy=>yp (dF.mp hy).1)]at ix;refine⟨_,_,aR (ifT (t2s (bz rfl) (bz rfl) ix)) (a4d (bz rfl) rfl (cns (bz rfl) nlo) (abd rfl (by rw[ah];exact aj1 (by omega)))),⟨_,rfl⟩,?_,auk⟩
       rw[ef,<-cJ,bg (l₂:=[y])]
       rfl)
     ⟨⟨_,rfl⟩,by simp,by simp;omega⟩
    refine⟨_,_,21-(at_+1),aR (a2e (acu (aoo (cns (bz rfl) (cns (bz rfl) (cns (bz rfl) (cns (nu (bz rfl) (bz rfl) gx) nlo)))) (ih _ bn _)) rfl)) (aR (aK (λz=>MI.thn z (a4g 5 yz (sI 1))) e7) ((rfl:MI.thn (.nx (B at_ t6) _) _=a4g 5 yz (sI 1) (B at_ t6) _).trans (a2d (a:=bf at_) (d:=bf (at_+1)) rfl ckk rfl))),by omega,fd++(fl row.length R fd[at_]).filter λy => !decide (y∈fd),at_+1,t6,rfl,rfl,rfl,by rw[ae];omega,?_,aX.mpr (.inl kin),λe he=>?_,λj b e hj gj re=>?_⟩
    ·refine bS.mpr ⟨nd,fn.filter _,λx hx y hy e=>?_⟩;subst e;have:=(dF.mp hy).2;simp[hx]at this
    ·rcases aX.mp he with he|he
     ·exact all e he
     ·have:=m5.mp (dF.mp he).1
      exact⟨this.1,ar8 bs this.2⟩
    ·have key:∀e,e<=row.length->R fd[at_] e->e∈fd++(fl row.length R fd[at_]).filter λy => !decide (y∈fd):=λe h1 h2=>by
      by_cases z:e∈fd
      ·exact aX.mpr (.inl z)
      ·exact aX.mpr (.inr (dF.mpr ⟨m5.mpr ⟨h1,h2⟩,by simp[z]⟩))
     have jl:j<fd.length:=by omega
     rw[aZ jl]at gj
     by_cases z:j<at_
     ·exact aX.mpr (.inl (clo j b e z gj re))
     ·have:j=at_:=by omega
      subst this;rw[gb]at gj;cases gj
      exact key e (rb _ _ re bn) re
   ·left
    have:at_=fd.length:=by omega
    subst this;refine⟨_,t2s (bz rfl) (qd (bz rfl) ln) (a7d (by omega)),fd,_,_,rfl,rfl,nd,λe=>⟨all e,λ⟨_,hs⟩=>?_⟩⟩
    have go:∀{i e},St R i e->i∈fd->e∈fd:=λhs=>by
     induction hs with
     |refl=>exact id
     |step h1 _ ih2 =>
      intro hi
      obtain⟨x,hx⟩:=bY hi;exact ih2 (clo x _ _ (av.mp hx).1 hx h1)
    exact go hs kin)
  21 100000 (B 0 none) [.lst [bf k]] (by omega) ⟨[k],0,none,rfl,rfl,rfl,by simp,by simp,by simp,λe he=>by rw[aI.mp he];exact⟨hk,.refl _⟩,λj b e hj=>absurd hj (by omega)⟩ with⟨τ',h',e,fd,at_,t,rfl,rfl,nd,mem⟩|⟨_,_,_,z⟩
 ·obtain⟨m,em,pm,sm⟩:=SRC.a4t fd;have et:m=fl row.length (St R) k:=a3d (pm.nodup_iff.mpr nd) sm λy=>by rw[pm.mem_iff,mem]
  subst et;have lf:fd.length<=row.length+1:=ao4 nd λx hx=>((mem x).mp hx).1;refine Pu.of rfl (c4 cp (c7 _)) (r:=.ok (.ref 1) [.lst (fd.map bf),.lst ((fl row.length (St R) k).map bf)]) ?_ (zc (ba _) rfl (dq _) (by simp)) (ik (dq _))
  unfold ajn;rw[iw];show toR (ou F [some p,some (bf a),some (lsN row),some (bf k),none,none,none] [])=_;unfold ou;refine etr (jk (d:=.ref 0) (h1:=[.lst [bf k]]) (qd (bz rfl) rfl)) ?_;refine etr (jk ckk) ?_;refine etr (um e) ?_;exact aK toR (m9 (qd (bz rfl) (SRC.abf rfl (by omega) em)))
 ·exact z.elim
end
mutual
noncomputable def bw:Nat->SF
 |0=>λ_ _=>.no
 |n+1=>nq (n8 (bw n) (g8 n) (iz n) K11.ie (DRW.au 5)) 9
noncomputable def g8:Nat->SF
 |0=>λ_ _=>.no
 |n+1=>nq (mq (bw n)) 6
noncomputable def iz:Nat->SF
 |0=>λ_ _=>.no
 |n+1=>nq (ou (bw n)) 7
end
noncomputable abbrev bL(n:Nat):SS:=qm (bw n) (g8 n) (iz n) K11.ie (DRW.au 5)
abbrev kp:SG:=ah8 2 (a1t (kN 7) (a1t (kN 8) ajr))
section
variable{n k:Nat}{row:List Nat}{x low:D}
abbrev Bs(x low:D)(row:List Nat)(k a:Nat)(hs:List Nat)(t7 t8:Option D):Sd:=[some x,some (bf a),some (lsN row),some (bf k),some (.ref 0),some (lsN hs),some low,t7,t8]
structure Pr (n:Nat) (row:List Nat) (q:Sh):Prop where
 c:∀a k,k<=row.length->Pu (bw n) 4 [sd q,bf a,lsN row,bf k] (lsN (fl row.length (Ac row q a) k))
 b:∀a hs,(∀m∈hs,m<=row.length)->hs.length<=60->Pu (g8 n) 4 [sd q,bf a,lsN row,lsN hs] (lsN (fl row.length (λ_ j=>∃m∈hs,j<=row.length/\Ac row q a m j) 0))
 w:Pu (DRW.au 5) 1 [sd q] (bf (wt q))
abbrev tE'(x:D)(b:Bool):Prop:=∀(τ:Sd) (h:Hd),τ[0]? = some (some x)->sT (s2 hEq (s2 gIx (sV 0) (sI 0)) (sC (.str "either"))) τ h=.ok b h
abbrev tT'(x:D)(b:Bool):Prop:=∀(τ:Sd) (h:Hd),τ[0]? = some (some x)->sT (s2 hEq (s2 gIx (sV 0) (sI 0)) (sC (.str "times"))) τ h=.ok b h
theorem aeq(hE:tE' x false)(hT:tT' x false)(L20:row.length<=20):∀(qs:List Sh) (i a:Nat) (hs:List Nat) (t7 t8:Option D),(∀q∈qs,Pr n row q)->(∀m∈hs,m<=row.length)->hs.length<=60->
  ∃hs' t7' t8',forL (λ_=>True) kp (bL n) (K11.enl i qs) (Bs x low row k a hs t7 t8) [.lst []]=.nx (Bs x low row k (a+wts qs) hs' t7' t8') [.lst []]/\(∀j,j∈hs'↔∃m∈hs,Acc (Tw row) (abn (pts qs)) a m j)/\hs'.length<=60
 |[],i,a,hs,t7,t8,_,_,hl=>⟨hs,t7,t8,by rw[K11.enl,wts];exact xj ..,λj=>by
   rw[pts]
   constructor
   ·exact λh=>⟨j,h,aem.mpr rfl⟩
   ·rintro⟨m,h,e⟩;rw[<-aem.mp e];exact h,hl⟩
 |q::qs,i,a,hs,t7,t8,pr,hb,hl=>by
  have P:=pr q (by simp)
  obtain⟨hs',t7',t8',e,mem,hl'⟩:=aeq hE hT L20 qs (i+1) (a+wt q) (fl row.length (λ_ j=>∃m∈hs,j<=row.length/\Ac row q a m j) 0) (some (bf i)) (some (sd q)) (λy hy=>pr y (by simp[hy])) (λm hm=>(m5.mp hm).1) (bO a03 (by omega))
  refine⟨hs',t7',t8',?_,λj=>?_,hl'⟩
  ·rw[K11.enl,uw _ _ _ _ _ (Bs x low row k a hs (some (bf i)) (some (sd q))) _ [.lst []] rfl];have st:bL n (Bs x low row k a hs (some (bf i)) (some (sd q))) [.lst []]=.nx (Bs x low row k (a+wt q) (fl row.length (λ_ j=>∃m∈hs,j<=row.length/\Ac row q a m j) 0) (some (bf i)) (some (sd q))) [.lst []]:=by
    unfold bL qm;refine aR (um (aR (ifF (hE _ _ rfl)) (aR (ifN (a7b (hT _ _ rfl))) (ant (aoo (cns (bz rfl) (cns (bz rfl) (cns (bz rfl) (cns (bz rfl) nlo)))) (P.b a hs hb hl _)))))) ?_;exact a2d (a:=bf a) (d:=bf (a+wt q)) rfl (qd (bz rfl) (P.w _)) rfl
   rw[st,a7z,e,wts,c9]
  ·rw[mem,pts];have ac:=λm=>aqz (T:=Tw row) (a:=a) (i:=m) (j:=j) (a2i q) (a89 qs)
   constructor
   ·rintro⟨m',hm',h2⟩
    obtain⟨_,m,hm,_,h1⟩:=m5.mp hm';exact⟨m,hm,(ac m).mpr ⟨m',h1,by rw[a4v];exact h2⟩⟩
   ·rintro⟨m,hm,h⟩
    obtain⟨m',h1,h2⟩:=(ac m).mp h;rw[a4v]at h2;have:=(ajk h1 (hb m hm)).2;exact⟨m',m5.mpr ⟨this,m,hm,this,h1⟩,h2⟩
theorem aer{p:Sh}{lo:Nat}(hE:tE' x false)(hT:tT' x true)(L20:row.length<=20)(P:Pr n row p):∀(r i a:Nat) (fd hs:List Nat) (t7 t8:Option D),lo<=i+r->(∀m∈hs,m<=row.length)->hs.length<=60->fd.length<=60*i->i+r<=10->(∀m∈fd,m<=row.length)->
  ∃(fd' hs':List Nat) (t7' t8':Option D),forL (λ_=>True) kp (bL n) (K11.enl i (List.replicate r p)) (Bs x (bf lo) row k a hs t7 t8) [.lst (fd.map bf)]=.nx (Bs x (bf lo) row k (a+r*wt p) hs' t7' t8') [.lst (fd'.map bf)]/\(∀j,(j∈fd'\/j∈hs')↔(j∈fd\/∃m∈hs,Acc (Tw row) (tP lo i (List.replicate r (pt p))) a m j))/\hs'.length<=60/\fd'.length<=600/\(∀m∈fd',m<=row.length)/\∀m∈hs',m<=row.length
 |0,i,a,fd,hs,t7,t8,hlo,hb,hl,hf,hi,hfb=>⟨fd,hs,t7,t8,by rw[fZ,K11.enl,Nat.zero_mul];exact xj ..,λj=>by
   rw[fZ]
   constructor
   ·exact λh=>h.imp id λh=>⟨j,h,ao0.mpr rfl⟩
   ·exact λh=>h.imp id λ⟨m,h,e⟩=>by rw[<-ao0.mp e];exact h,hl,by omega,hfb,hb⟩
 |r+1,i,a,fd,hs,t7,t8,hlo,hb,hl,hf,hi,hfb=>by
  have key:∃fd1:List Nat,(∀m∈fd1,m<=row.length)/\fd1.length<=60*(i+1)/\(∀j,j∈fd1↔j∈fd\/(lo<=i/\j∈hs))/\bL n (Bs x (bf lo) row k a hs (some (bf i)) (some (sd p))) [.lst (fd.map bf)]=.nx (Bs x (bf lo) row k (a+wt p) (fl row.length (λ_ j=>∃m∈hs,j<=row.length/\Ac row p a m j) 0) (some (bf i)) (some (sd p))) [.lst (fd1.map bf)]:=by
   have aG:∀g:List Nat,iu (m7 5 (sA (jh false 4 (g8 n)) (aj (sV 8) (aj (sV 1) (aj (sV 2) (aj (sV 5) cu)))))) sNx (Bs x (bf lo) row k a hs (some (bf i)) (some (sd p))) [.lst (g.map bf)]=.nx (Bs x (bf lo) row k a (fl row.length (λ_ j=>∃m∈hs,j<=row.length/\Ac row p a m j) 0) (some (bf i)) (some (sd p))) [.lst (g.map bf)]:=λg=>aR (jk (aoo (cns (bz rfl) (cns (bz rfl) (cns (bz rfl) (cns (bz rfl) nlo)))) (P.b a hs hb hl _))) rfl;have sl:∀g:List Nat,m7 5 (sA (jh false 4 (g8 n)) (aj (sV 8) (aj (sV 1) (aj (sV 2) (aj (sV 5) cu))))) (Bs x (bf lo) row k a hs (some (bf i)) (some (sd p))) [.lst (g.map bf)]=.nx (Bs x (bf lo) row k a (fl row.length (λ_ j=>∃m∈hs,j<=row.length/\Ac row p a m j) 0) (some (bf i)) (some (sd p))) [.lst (g.map bf)]:=λg=>ant (aoo (cns (bz rfl) (cns (bz rfl) (cns (bz rfl) (cns (bz rfl) nlo)))) (P.b a hs hb hl _))
   have ag:∀(g hs2:List Nat),a4g 1 yz (sA (jh false 1 (DRW.au 5)) (aj (sV 8) cu)) (Bs x (bf lo) row k a hs2 (some (bf i)) (some (sd p))) [.lst (g.map bf)]=.nx (Bs x (bf lo) row k (a+wt p) hs2 (some (bf i)) (some (sd p))) [.lst (g.map bf)]:=λg hs2=>a2d (a:=bf a) (d:=bf (a+wt p)) rfl (qd (bz rfl) (P.w _)) rfl;have ge:∀(h:Hd),sT (s2 gGe (sV 7) (sV 6)) (Bs x (bf lo) row k a hs (some (bf i)) (some (sd p))) h=.ok (decide (lo<=i)) h:=λh=>t2s (bz rfl) (bz rfl) (by
    show R.ok (D.bl (decide ((lo:Int)<=(i:Int)))) h=_
    congr 2
    exact eD.mpr Int.ofNat_le)
   by_cases c:lo<=i
   ·refine⟨fd++hs,λm hm=>(aX.mp hm).elim (hfb m) (hb m),by rw[ae];omega,λj=>by rw[aX];simp[c],?_⟩
    unfold bL qm;have g1:=ge [.lst (fd.map bf)];rw[cV c]at g1;refine aR (um (aR (ifF (hE _ _ rfl)) (aR (um (aR (ifT (a4c (hT _ _ rfl) g1)) (a2d rfl (bz rfl) (a0a rfl rfl (j5 (by rw[ah,ah];omega)))))) ?_))) (ag (fd++hs) _)
    rw[bg];exact bg (f:=bf) ▸ sl (fd++hs)
   ·refine⟨fd,hfb,by omega,λj=>by simp[c],?_⟩
    unfold bL qm;have g1:=ge [.lst (fd.map bf)];rw[bA c]at g1;exact aR (um (aR (ifF (hE _ _ rfl)) (aR (ifN (a4c (hT _ _ rfl) g1)) (sl fd)))) (ag fd _)
  obtain⟨fd1,b1,l1,m1,st⟩:=key;obtain⟨fd',hs',t7',t8',e,mem,h1,h2,h3,h4⟩:=aer (lo:=lo) hE hT L20 P r (i+1) (a+wt p) fd1 (fl row.length (λ_ j=>∃m∈hs,j<=row.length/\Ac row p a m j) 0) (some (bf i)) (some (sd p)) (by omega) (λm hm=>(m5.mp hm).1) (bO a03 (by omega)) l1 (by omega) b1
  refine⟨fd',hs',t7',t8',?_,λj=>?_,h1,h2,h3,h4⟩
  ·rw[aV,K11.enl,uw _ _ _ _ _ (Bs x (bf lo) row k a hs (some (bf i)) (some (sd p))) _ [.lst (fd.map bf)] rfl,st,a7z,e,bX,c9,gz (wt p)]
  ·rw[mem,m1];have ac:=λm=>aw2 (T:=Tw row) (lo:=lo) (k:=i) (n:=r) (a:=a) (i:=m) (j:=j) (a2i p)
   constructor
   ·rintro((h|⟨c,h⟩)|⟨m',hm',h2⟩)
    ·exact .inl h
    ·exact .inr ⟨j,h,(ac j).mpr (.inl ⟨c,rfl⟩)⟩
    ·obtain⟨_,m,hm,_,h1⟩:=m5.mp hm';exact .inr ⟨m,hm,(ac m).mpr (.inr ⟨m',h1,by rw[a4v];exact h2⟩)⟩
   ·rintro(h|⟨m,hm,h⟩)
    ·exact .inl (.inl h)
    ·rcases(ac m).mp h with⟨c,rfl⟩|⟨m',h1,h2⟩
     ·exact .inl (.inr ⟨c,hm⟩)
     ·rw[a4v]at h2;have:=(ajk h1 (hb m hm)).2;exact .inr ⟨m',m5.mpr ⟨this,m,hm,this,h1⟩,h2⟩
theorem aes(hE:tE' x true)(L20:row.length<=20)(hk:k<=row.length){hs:List Nat}:∀(qs:List Sh) (i a:Nat) (fd:List Nat) (t7 t8:Option D),(∀q∈qs,Pr n row q)->fd.length<=60*i->i+qs.length<=10->(∀m∈fd,m<=row.length)->
  ∃(fd':List Nat) (t7' t8':Option D),forL (λ_=>True) kp (bL n) (K11.enl i qs) (Bs x low row k a hs t7 t8) [.lst (fd.map bf)]=.nx (Bs x low row k (a+wts qs) hs t7' t8') [.lst (fd'.map bf)]/\(∀j,j∈fd'↔j∈fd\/Acc (Tw row) (a4h (pts qs)) a k j)/\fd'.length<=600/\∀m∈fd',m<=row.length
 |[],i,a,fd,t7,t8,_,hf,hi,hfb=>⟨fd,t7,t8,by rw[K11.enl,wts];exact xj ..,λj=>by
   rw[pts];exact⟨.inl,λh=>h.elim id λh=>absurd h amd⟩,by rw[bC]at hi;omega,hfb⟩
 |q::qs,i,a,fd,t7,t8,pr,hf,hi,hfb=>by
  have P:=pr q (by simp)
  rw[aJ]at hi;have fll:=a03 (n:=row.length) (R:=Ac row q a) (a:=k);obtain⟨fd',t7',t8',e,mem,h2,h3⟩:=aes hE L20 hk (hs:=hs) qs (i+1) (a+wt q) (fd++fl row.length (Ac row q a) k) (some (bf i)) (some (sd q)) (λy hy=>pr y (by simp[hy])) (by rw[ae];omega) (by omega) (λm hm=>(aX.mp hm).elim (hfb m) λh=>(m5.mp h).1)
  refine⟨fd',t7',t8',?_,λj=>?_,h2,h3⟩
  ·rw[K11.enl,uw _ _ _ _ _ (Bs x low row k a hs (some (bf i)) (some (sd q))) _ [.lst (fd.map bf)] rfl];have st:bL n (Bs x low row k a hs (some (bf i)) (some (sd q))) [.lst (fd.map bf)]=.nx (Bs x low row k (a+wt q) hs (some (bf i)) (some (sd q))) [.lst ((fd++fl row.length (Ac row q a) k).map bf)]:=by
    unfold bL qm;rw[bg];refine aR (um (aR (ifT (hE _ _ rfl)) (a2d rfl (aoo (cns (bz rfl) (cns (bz rfl) (cns (bz rfl) (cns (bz rfl) nlo)))) (P.c a k hk _)) (a0a rfl rfl (j5 (by rw[ah,ah];omega)))))) ?_
    exact a2d (a:=bf a) (d:=bf (a+wt q)) rfl (qd (bz rfl) (P.w _)) rfl
   rw[st,a7z,e,wts,c9]
  ·rw[mem,pts,aX,m5,ar0 (a2i q) (a89 qs),<-a4v,or_assoc]
   constructor
   ·exact λh=>h.imp id λh=>h.imp (λh=>h.2) id
   ·exact λh=>h.imp id λh=>h.imp (λh=>⟨(ajk h hk).2,h⟩) id
end
theorem a1g{n:Nat}{x y z u:D}:bw (n+1) [x,y,z,u] []=toR (n8 (bw n) (g8 n) (iz n) K11.ie (DRW.au 5) [some x,some y,some z,some u,none,none,none,none,none] []):=by
 rw[bw,iw];rfl
theorem a3l{s:Sh}{w:Str}{r:List D}(e:sd s=.tup (.str w::r)){v:Str}{b:Bool}(q:∀h,hEq (.str w) (.str v) h=.ok (.bl b) h)(τ:Sd)(h:Hd)(hv:τ[0]? = some (some (sd s))):s2 hEq (s2 gIx (sV 0) (sI 0)) (sC (.str v)) τ h=.ok (.bl b) h:=by
 rw[e]at hv;exact nu (nu (bz hv) ckk (a9s (j:=0) rfl)) ckk (q h)
theorem ar9{s:Sh}{w:Str}{r:List D}(e:sd s=.tup (.str w::r)){v:Str}{b:Bool}(q:∀h,hNe (.str w) (.str v) h=.ok (.bl b) h)(τ:Sd)(h:Hd)(hv:τ[0]? = some (some (sd s))):s2 hNe (s2 gIx (sV 0) (sI 0)) (sC (.str v)) τ h=.ok (.bl b) h:=by
 rw[e]at hv;exact nu (nu (bz hv) ckk (a9s (j:=0) rfl)) ckk (q h)
theorem aw5{n k:Nat}{R:Rl}(hk:k<=n)(h:∀j,j<=n->(R k j↔j=k)):fl n R k=[k]:=(a3d (by simp) (by simp) λe=>by
 rw[aI];exact⟨λz=>by subst z;exact⟨hk,(h e hk).mpr rfl⟩,λz=>(h e z.1).mp z.2⟩).symm
section
variable{tg:List Nat}{row:List Nat}
def Cm(tg row:List Nat)(d n:Nat):Prop:=∀s,a4u tg d s->∀a k,k<=row.length->Pu (bw n) 4 [sd s,bf a,lsN row,bf k] (lsN (fl row.length (Ac row s a) k))
theorem ara{d n:Nat}(L20:row.length<=20)(h5:d<=5)(ih:∀m,2*d<=m->Cm tg row d m)(hn:2*d+1<=n){q:Sh}(kq:a4u tg d q):Pr n row q:=by
 obtain⟨m,rfl⟩:∃m,n=m+1:=⟨n-1,by omega⟩
 refine⟨λa k hk=>ih (m+1) (by omega) q kq a k hk,λa hs hb hl=>?_,DRW.a0q d 5 h5 q kq⟩
 rw[g8];exact ajm (ww q) L20 hb hl λk hk=>ih m (by omega) q kq a k hk
theorem ag8{d n:Nat}(L20:row.length<=20)(h5:d+1<=5)(ih:∀m,2*d<=m->Cm tg row d m)(hn:2*d+1<=n):Cm tg row (d+1) (n+1):=by
 intro s ks a k hk
 have W:=DRW.a0q (d+1) 5 h5 s ks;have kid:=(ENG.acy ks).2;have cl:=c4 (p:=sd s) (a:=a) (row:=row) (d:=bf k) (ww s) (c7 _)
 let τ0:Sd:=[some (sd s),some (bf a),some (lsN row),some (bf k),none,none,none,none,none]
 have w0:sT (s2 hEq (sA (jh false 1 (DRW.au 5)) (aj (sV 0) cu)) (sI 0)) τ0 []=.ok (decide (wt s=0)) []:=by
  refine t2s (qd (bz rfl) (W [])) ckk ?_
  by_cases z:wt s=0
  ·rw[z];rfl
  ·rw[bA z];exact zj (by omega)
 by_cases z:wt s=0
 ·rw[cV z]at w0;rw[aw5 hk λj _=>(ar7 ks z).trans eq_comm];refine Pu.of rfl cl (r:=.ok (.ref 0) [.lst [bf k]]) ?_ (zc (ba _) rfl (dq [k]) (by simp)) (ik (dq [k]))
  rw[a1g];unfold n8;exact aK toR (v6 (aR (ifT w0) (m9 (qd (bz rfl) rfl))))
 rw[bA z]at w0;have fin:∀{fd:List Nat} {τ:Sd},τ[4]? = some (some (.ref 0))->(∀m∈fd,m<=row.length)->fd.length<=4000->(∀j,j∈fd↔Ac row s a k j)->toR (qg (s1 a9g (sV 4)) τ [.lst (fd.map bf)])=.ok (.ref 1) [.lst (fd.map bf),.lst ((fl row.length (Ac row s a) k).map bf)]:=λ{fd τ} hv hb hl mem=>by
  have e:=ao3 (n:=row.length) (P:=λj=>Ac row s a k j) (l:=fd) (h:=[.lst (fd.map bf)]) (i:=0) (by omega) hb hl rfl mem
  have fc:fl row.length (λ_ y=>Ac row s a k y) 0=fl row.length (Ac row s a) k:=acw λ_ _=>Iff.rfl;rw[fc]at e;exact aK toR (m9 (uv (bz hv) e))
 have fz:∀{r:R D} {fd:List Nat},bw (n+1) [sd s,bf a,lsN row,bf k] []=.ok (.ref 1) [.lst (fd.map bf),.lst ((fl row.length (Ac row s a) k).map bf)]->Pu (bw (n+1)) 4 [sd s,bf a,lsN row,bf k] (lsN (fl row.length (Ac row s a) k)):=λe=>Pu.of rfl cl e (zc (ba _) rfl (dq _) (by simp)) (ik (dq _))
 have lz:∀{τ:Sd},τ[3]? = some (some (bf k))->sZ (sA MI.u9 (aj (sV 3) cu)) τ [.lst []]=.ok (lsN [k]) [.lst []]:=λhv=>zds (cns (bz hv) nlo) rfl (dq [k]) (K15.ar6 []) (by simp)
 cases s with
 |one sg =>
  have o1:=a3l (s:=.one sg) (v := "one") (b:=true) (by rw[sd]) (λh=>rfl)
  have lr:xq [lsN row] []=.ok (bf row.length) []:=by rw[EVT.uz,ah]
  have ac:∀j,Ac row (.one sg) a k j↔row[k]? = some (a+1)/\j=k+1:=λj=>by
   show Acc (Tw row) (pt (.one sg)) a k j↔_;rw[pt,ar3]
  have run:∀{l:List Nat},fl row.length (Ac row (.one sg) a) k=l->bw (n+1) [sd (.one sg),bf a,lsN row,bf k] []=.ok (.ref 0) [.lst (l.map bf)]->Pu (bw (n+1)) 4 [sd (.one sg),bf a,lsN row,bf k] (lsN (fl row.length (Ac row (.one sg) a) k)):=λ{l} e1 e2=>by
   rw[e1];exact Pu.of rfl cl e2 (zc (ba _) rfl (dq _) (by simp)) (ik (dq _))
  by_cases c:row[k]? = some (a+1)
  ·have kl:=(av.mp c).1;refine run (l:=[k+1]) (a3d (by simp) (by simp) λe=>?_).symm ?_
   ·rw[aI,ac];exact⟨λh=>⟨by omega,c,h⟩,λh=>h.2.2⟩
   ·rw[a1g];unfold n8;refine etr (ifN w0) ?_;exact aK toR (v6 (ifr (tof (o1 _ _ rfl)) (EVT.aws (a4c (t2s (bz rfl) (qd (bz rfl) lr) (a7c (by omega))) (t2s (nu (bz rfl) (bz rfl) (avk (y:=bf (a+1)) (by rw[bJ,c];rfl))) (qu rfl (DRW.ag6 (b:=1))) (zg rfl))) (qd (qu rfl (DRW.ag6 (b:=1))) rfl))))
  ·refine run (l:=[]) (a3d (by simp) (by simp) λe=>?_).symm ?_
   ·rw[ac];exact⟨(λh=>by cases h),λh=>absurd h.2.1 c⟩
   ·rw[a1g];unfold n8;refine etr (ifN w0) ?_;refine aK toR (v6 (ifr (tof (o1 _ _ rfl)) (EVT.aqp (h1:=[]) ?_ (aiz (h:=[]) rfl))))
    by_cases kl:k<row.length
    ·exact a4c (t2s (bz rfl) (qd (bz rfl) lr) (a7c (by omega))) (t2s (nu (bz rfl) (bz rfl) (avk (y:=bf row[k]) (by rw[bJ,ai kl];rfl))) (qu rfl (DRW.ag6 (b:=1))) (zj λh=>c (by rw[ai kl,ic.mp h])))
    ·exact a7b (t2s (bz rfl) (qd (bz rfl) lr) (a7d (by omega)))
 |many p =>
  have o1:=a3l (s:=.many p) (v := "one") (b:=false) (by rw[sd]) (λh=>rfl)
  have o2:=a3l (s:=.many p) (v := "many") (b:=true) (by rw[sd]) (λh=>rfl)
  obtain⟨m,rfl⟩:∃m,n=m+1:=⟨n-1,by omega⟩
  have kp:=kid p (by rw[ENG.kids];simp)
  have O:=amh (F:=bw m) (R:=Ac row p a) (ww p) L20 hk (λi j h hi=>(ajk h hi).2) λk hk=>ih m (by omega) p kp a k hk
  have ef:fl row.length (St (Ac row p a)) k=fl row.length (Ac row (.many p) a) k:=acw λj _=>by
   show _↔Acc (Tw row) (pt (.many p)) a k j;rw[pt,ar4]
  rw[ef]at O;refine Pu.of rfl cl (r:=.ok (lsN (fl row.length (Ac row (.many p) a) k)) []) ?_ (jr (ik (dq _)) nlc) (ik (dq _));rw[a1g];unfold n8;refine etr (ifN w0) ?_;refine eti (tof (o1 _ _ rfl)) ?_;have g1:gIx (sd (.many p)) (.int 1) []=.ok (sd p) []:=by rw[sd];exact a9s (j:=1) rfl
  have O':Pu (iz (m+1)) 4 [sd p,bf a,lsN row,bf k] (lsN (fl row.length (Ac row (.many p) a) k)):=by rw[iz];exact O
  exact aK toR (v6 (ifr (tof (o2 _ _ rfl)) (aoo (cns (qu rfl g1) (cns (bz rfl) (cns (bz rfl) (cns (bz rfl) nlo)))) (O' []))))
 |row ps =>
  have o1:=a3l (s:=.row ps) (v := "one") (b:=false) (by rw[sd]) (λh=>rfl)
  have o2:=a3l (s:=.row ps) (v := "many") (b:=false) (by rw[sd]) (λh=>rfl)
  have o3:=a3l (s:=.row ps) (v := "times") (b:=false) (by rw[sd]) (λh=>rfl)
  have o4:=a3l (s:=.row ps) (v := "either") (b:=false) (by rw[sd]) (λh=>rfl)
  have o5:=ar9 (s:=.row ps) (v := "either") (b:=true) (by rw[sd]) (λh=>rfl)
  obtain⟨hs',t7,t8,e,mem,hl'⟩:=aeq (n:=n) (k:=k) (row:=row) (x:=sd (.row ps)) (low:=.int 0) (λτ h hv=>tof (o4 τ h hv)) (λτ h hv=>tof (o3 τ h hv)) L20 ps 0 a [k] none none (λq hq=>ara L20 (by omega) ih hn (kid q (by rw[ENG.kids];exact hq))) (λm hm=>by rw[aI.mp hm];exact hk) (by simp)
  have mem':∀j,j∈hs'↔Ac row (.row ps) a k j:=λj=>by
   rw[mem];show _↔Acc (Tw row) (pt (.row ps)) a k j;rw[pt];exact⟨λ⟨m,hm,h⟩=>by rw[<-aI.mp hm];exact h,λh=>⟨k,by simp,h⟩⟩
  refine fz (fd:=hs') (r:=.no) ?_;rw[a1g];unfold n8;refine etr (ifN w0) ?_;refine eti (tof (o1 _ _ rfl)) ?_;refine eti (tof (o2 _ _ rfl)) ?_;refine etr (jk (d:=.ref 0) (h1:=[.lst []]) (aiz rfl)) ?_;refine ets (lz rfl) ?_;refine ets (EVT.aqp (tof (o3 _ _ rfl)) ckk) ?_;refine etr (a2e (K11.aei (qd (bz rfl) (K11.a3k ks (by simp) _)))) ?_
  refine aR (aK (λz=>toR (MI.thn z _)) e) ?_;refine etr (um (aR (ifT (tof (o5 _ _ rfl))) (a2d rfl (bz rfl) (a0a rfl rfl (j5 (by rw[ah];show 0+_<=_;omega)))))) ?_
  exact fin rfl (λm hm=>(ajk ((mem' m).mp hm) hk).2) (by omega) mem'
 |eit ps =>
  have o1:=a3l (s:=.eit ps) (v := "one") (b:=false) (by rw[sd]) (λh=>rfl)
  have o2:=a3l (s:=.eit ps) (v := "many") (b:=false) (by rw[sd]) (λh=>rfl)
  have o3:=a3l (s:=.eit ps) (v := "times") (b:=false) (by rw[sd]) (λh=>rfl)
  have o4:=a3l (s:=.eit ps) (v := "either") (b:=true) (by rw[sd]) (λh=>rfl)
  have o5:=ar9 (s:=.eit ps) (v := "either") (b:=false) (by rw[sd]) (λh=>rfl)
  have p6:=ks.2.1;obtain⟨fd,t7,t8,e,mem,hl',hb'⟩:=aes (n:=n) (k:=k) (row:=row) (x:=sd (.eit ps)) (low:=.int 0) (λτ h hv=>tof (o4 τ h hv)) L20 hk (hs:=[k]) ps 0 a [] none none (λq hq=>ara L20 (by omega) ih hn (kid q (by rw[ENG.kids];exact hq))) (by simp) (by omega) (by simp)
  have mem':∀j,j∈fd↔Ac row (.eit ps) a k j:=λj=>by
   rw[mem];show _↔Acc (Tw row) (pt (.eit ps)) a k j;rw[pt];simp
  refine fz (fd:=fd) (r:=.no) ?_;rw[a1g];unfold n8;refine etr (ifN w0) ?_;refine eti (tof (o1 _ _ rfl)) ?_;refine eti (tof (o2 _ _ rfl)) ?_;refine etr (jk (d:=.ref 0) (h1:=[.lst []]) (aiz rfl)) ?_;refine ets (lz rfl) ?_;refine ets (EVT.aqp (tof (o3 _ _ rfl)) ckk) ?_;refine etr (a2e (K11.aei (qd (bz rfl) (K11.a3k ks (by simp) _)))) ?_
  refine aR (aK (λz=>toR (MI.thn z _)) e) ?_;rw[a5d];refine eti (tof (o5 _ _ rfl)) ?_;exact fin rfl hb' (by omega) mem'
 |tim p lo hi =>
  have o1:=a3l (s:=.tim p lo hi) (v := "one") (b:=false) (by rw[sd]) (λh=>rfl)
  have o2:=a3l (s:=.tim p lo hi) (v := "many") (b:=false) (by rw[sd]) (λh=>rfl)
  have o3:=a3l (s:=.tim p lo hi) (v := "times") (b:=true) (by rw[sd]) (λh=>rfl)
  have o4:=a3l (s:=.tim p lo hi) (v := "either") (b:=false) (by rw[sd]) (λh=>rfl)
  have o5:=ar9 (s:=.tim p lo hi) (v := "either") (b:=true) (by rw[sd]) (λh=>rfl)
  have lh:=ks.1;have h4:=ks.2.1;have g2:∀h,gIx (sd (.tim p lo hi)) (.int 2) h=.ok (bf lo) h:=λh=>by rw[sd];exact a9s (j:=2) rfl
  obtain⟨fd,hs',t7,t8,e,mem,hl',hf',hb',hb2⟩:=aer (n:=n) (k:=k) (row:=row) (x:=sd (.tim p lo hi)) (lo:=lo) (λτ h hv=>tof (o4 τ h hv)) (λτ h hv=>tof (o3 τ h hv)) L20 (ara L20 (by omega) ih hn (kid p (by rw[ENG.kids];simp))) hi 0 a [] [k] none none (by omega) (λm hm=>by rw[aI.mp hm];exact hk) (by simp) (by simp) (by omega) (by simp)
  have mem':∀j,j∈fd++hs'↔Ac row (.tim p lo hi) a k j:=λj=>by
   rw[aX,mem];show _↔Acc (Tw row) (pt (.tim p lo hi)) a k j;rw[pt,ar5 lh];simp
  refine fz (fd:=fd++hs') (r:=.no) ?_;rw[a1g];unfold n8;refine etr (ifN w0) ?_;refine eti (tof (o1 _ _ rfl)) ?_;refine eti (tof (o2 _ _ rfl)) ?_;refine etr (jk (d:=.ref 0) (h1:=[.lst []]) (aiz rfl)) ?_;refine ets (lz rfl) ?_;refine ets (EVT.aws (tof (o3 _ _ rfl)) (qu rfl (g2 _))) ?_;refine etr (a2e (K11.aei (qd (bz rfl) (K11.a3k ks (by simp) _)))) ?_
  refine aR (aK (λz=>toR (MI.thn z _)) e) ?_;refine etr (um (aR (ifT (tof (o5 _ _ rfl))) (a2d rfl (bz rfl) (a0a rfl rfl (j5 (by rw[ah,ah];omega)))))) ?_
  have:=fin (fd:=fd++hs') (τ:=Bs (sd (.tim p lo hi)) (bf lo) row k (a+hi*wt p) hs' t7 t8) rfl (λm hm=>(aX.mp hm).elim (hb' m) (hb2 m)) (by rw[ae];omega) mem'
  rw[bg]at this ⊢;exact this
theorem aet(L20:row.length<=20):∀d,d<=5->∀n,2*d<=n->Cm tg row d n
 |0,_,_,_=>λs k=>k.elim
 |d+1,h,0,hn=>absurd hn (by omega)
 |d+1,h,n+1,hn=>ag8 L20 h (λm hm=>aet L20 d (by omega) m hm) (by omega)
end
def Pth(s:Sh):Nat->List Nat->Nat->Prop
 |p,[],r=>r=p
 |p,q::l,r=>q∈nx s p/\Pth s q l r
theorem azr{s:Sh}{p q:Nat}(hp:1<=p):q∈nx s p↔(pt s).F 0 p q=true:=by
 unfold K15.nx;rw[bp (by omega),m5]
 exact⟨λh=>h.2,λh=>⟨by have:=((a2i s).f _ _ _ h).2.2;rw[a4v]at this;omega,h⟩⟩
theorem azs{s:Sh}{q:Nat}:q∈nx s 0↔(pt s).B 0 q=true:=by
 unfold K15.nx;rw[aN rfl,m5];exact⟨λh=>h.2,λh=>⟨by have:=((a2i s).b _ _ h).2;rw[a4v]at this;omega,h⟩⟩
theorem aeu{s:Sh}{row:List Nat}:∀(l:List Nat) (i p r:Nat),row.drop i=l->i<=row.length->1<=p->(Pth s p l r↔Wk (Tw row) ((pt s).F 0) p i r row.length)
 |[],i,p,r,e,hi,hp=>by
  have il:i=row.length:=by
   have:=aK List.length e
   rw[bq]at this;simp at this;omega
  subst il
  constructor
  ·intro h
   have h:r=p:=h;subst h;exact .refl _ _
  ·intro h
   cases h with
   |refl=>rfl
   |step _ t _=>have:=(av.mp t).1;omega
 |q::l,i,p,r,e,hi,hp=>by
  have gi:row[i]? = some q:=by
   have:(row.drop i)[0]? = some q:=by rw[e];rfl
   rw[gA]at this;exact this
  have il:=(av.mp gi).1;have e':row.drop (i+1)=l:=by rw[<-List.drop_drop,e];rfl
  constructor
  ·rintro⟨h1,h2⟩
   exact .step ((azr hp).mp h1) gi ((aeu l (i+1) q r e' (by omega) (aa3 h1).1).mp h2)
  ·intro h
   cases h with
   |refl=>omega
   |@step _ q' _ _ _ f t h =>
    have t:row[i]? = some q':=t;rw[gi]at t;cases t
    have h1:=(azr (s:=s) hp).mpr f;exact⟨h1,(aeu l (i+1) q r e' (by omega) (aa3 h1).1).mpr h⟩
theorem aw6{s:Sh}{row:List Nat}:(∃r,Pth s 0 row r/\r∈rwE s)↔Ac row s 0 0 row.length:=by
 have eE:∀r,r∈rwE s↔(r=0/\(pt s).e=true)\/(pt s).E 0 r=true:=λr=>by
  rw[m5];exact⟨λh=>h.2,λh=>⟨h.elim (λh=>by omega) λh=>by have:=((a2i s).e _ _ h).2;rw[a4v]at this;omega,h⟩⟩
 cases row with
 |nil =>
  constructor
  ·rintro⟨r,h,h2⟩
   have h:r=0:=h;subst h
   rcases(eE 0).mp h2 with⟨_,h⟩|h
   ·exact .inl ⟨rfl,h⟩
   ·have:=((a2i s).e _ _ h).1;omega
  ·rintro(⟨_,h⟩|⟨p,r,_,t,_⟩)
   ·exact⟨0,rfl,(eE 0).mpr (.inl ⟨rfl,h⟩)⟩
   ·cases t
 |cons q l =>
  constructor
  ·rintro⟨r,⟨h1,h2⟩,h3⟩
   have w:=(aeu (row:=q::l) l 1 q r rfl (by simp) (aa3 h1).1).mp h2
   refine .inr ⟨q,r,azs.mp h1,rfl,w,?_⟩
   rcases(eE r).mp h3 with⟨z,_⟩|h
   ·have:∀{p i r j},Wk (Tw (q::l)) ((pt s).F 0) p i r j->1<=p->1<=r:=λh=>by
     induction h with
     |refl=>exact id
     |step f _ _ ih=>intro _;exact ih (by have:=((a2i s).f _ _ _ f).2.1;omega)
    have:=this w (aa3 h1).1
    omega
   ·exact h
  ·rintro(⟨h,_⟩|⟨p,r,b,t,h,e⟩)
   ·cases h
   ·have t:some q=some p:=t;cases t
    have h1:=(azs (s:=s)).mpr b;exact⟨r,⟨h1,(aeu (row:=q::l) l 1 q r rfl (by simp) (aa3 h1).1).mpr h⟩,(eE r).mpr (.inr e)⟩
noncomputable def j6:SF:=nq a1c 4
open Classical in
theorem ami{s:Sh}{row:List Nat}:Pu j6 2 [spD s,lsN row] (.bl (decide (Ac row s 0 0 row.length))):=by
 have loop:∀(l:List Nat) (e:Nat) (t3:Option D),e<=wt s->(∃r t3',forL (λ_=>True) (kN 3) ux (l.map bf) [some (spD s),some (lsN row),some (bf e),t3] []=.nx [some (spD s),some (lsN row),some (bf r),t3'] []/\∀r',Pth s e l r'↔r'=r)\/(forL (λ_=>True) (kN 3) ux (l.map bf) [some (spD s),some (lsN row),some (bf e),t3] []=.rt (.bl false) []/\¬ ∃r,Pth s e l r):=λl=>by
  induction l with
  |nil=>exact λe t3 _=>.inl ⟨e,t3,xj ..,λr'=>Iff.rfl⟩
  |cons q l ih =>
   intro e t3 he
   rw[bH,uw _ _ _ _ _ [some (spD s),some (lsN row),some (bf e),some (bf q)] _ [] rfl];have ix:=K15.ao1 true q (nx s e) [];simp only[dI]at ix;unfold ux
   by_cases m:q∈nx s e
   ·rw[cV ⟨q,m,rfl⟩]at ix;have st:iu (sIf (sT (s2 (gIn true) (sV 3) (s2 gIx (s2 gIx (sV 0) (sI 1)) (sV 2)))) (qg (sC (.bl false))) sNx) (m7 2 (sV 3)) [some (spD s),some (lsN row),some (bf e),some (bf q)] []=.nx [some (spD s),some (lsN row),some (bf q),some (bf q)] []:=aR (ifN (t2s (bz rfl) (nu (qu rfl SHD.ix1) (bz rfl) (aji he [])) ix)) (ant (bz rfl));rw[st,a7z];have:=ih q (some (bf q)) (aa3 m).2;unfold ux at this
    rcases this with⟨r,t3',h1,h2⟩|⟨h1,h2⟩
    ·exact .inl ⟨r,t3',h1,λr'=>⟨λh=>(h2 r').mp h.2,λh=>⟨m,(h2 r').mpr h⟩⟩⟩
    ·exact .inr ⟨h1,λ⟨r,h⟩=>h2 ⟨r,h.2⟩⟩
   ·rw[bA λ⟨n,h1,h2⟩=>m (by rw[ic.mp h2];exact h1)]at ix
    have st:iu (sIf (sT (s2 (gIn true) (sV 3) (s2 gIx (s2 gIx (sV 0) (sI 1)) (sV 2)))) (qg (sC (.bl false))) sNx) (m7 2 (sV 3)) [some (spD s),some (lsN row),some (bf e),some (bf q)] []=.rt (.bl false) []:=v6 (aR (ifT (t2s (bz rfl) (nu (qu rfl SHD.ix1) (bz rfl) (aji he [])) ix)) (m9 ckk));rw[st,anb];exact .inr ⟨rfl,λ⟨r,h⟩=>m h.1⟩
 refine Pu.of rfl (λy hy=>by
  simp only[aO,bD,dA]at hy
  rcases hy with rfl|rfl
  ·exact K11.a8f s
  ·exact ik (dq _)) (r:=.ok (.bl (decide (Ac row s 0 0 row.length))) []) ?_ (jr (uf _) nlc) (uf _)
 unfold j6;rw[iw];show toR (a1c [some (spD s),some (lsN row),none,none] [])=_;unfold a1c;refine etr (jk ckk) ?_;refine etr (a2e (acu (bz rfl) rfl)) ?_;have al:=aw6 (s:=s) (row:=row)
 rcases loop row 0 none (ba _) with⟨r,t3',h1,h2⟩|⟨h1,h2⟩
 ·refine aR (aK (λz=>toR (MI.thn z _)) h1) ?_;have ee:decide (Ac row s 0 0 row.length)=decide (r∈rwE s):=eD.mpr (by
   rw[<-al];exact⟨λ⟨r',a,b⟩=>by rw[<-(h2 r').mp a];exact b,λh=>⟨r,(h2 r).mpr rfl,h⟩⟩)
  rw[ee];refine aK toR (m9 (nu (bz rfl) (qu rfl SHD.ix2) ?_));rw[DRW.avp r (rwE s) []]
 ·refine aR (aK (λz=>toR (MI.thn z _)) h1) ?_;rw[bA λh=>h2 (by obtain⟨r,a,_⟩:=al.mpr h;exact⟨r,a⟩)]
  rfl
noncomputable def j7:SF:=nq (a2t SRC.ak) 4
theorem arb{s:Sh}{N:Nat}{o:O}(hw:wt s<=10)(P:Src o N)(hN:N<=900000000):∃row o',Dr j7 2 [spD s] o (lsN row) o'/\row.length<=10/\Src o' (N+30):=by
 rcases au3 (c:=a1a SRC.ak) (f:=a1b SRC.ak)
  (λm τ h=>∃(row:List Nat) (e:Nat) (o1:O),τ=[some (.ref 0),some (spD s),some (.ref 1),some (bf e)]/\h=[o1,.lst (row.map bf)]/\m=10-row.length/\row.length<=10/\e<=wt s/\Src o1 (N+2*row.length))
  (λτ h=>∃(row:List Nat) (e:Nat) (o1:O),τ=[some (.ref 0),some (spD s),some (.ref 1),some (bf e)]/\h=[o1,.lst (row.map bf)]/\row.length<=10/\Src o1 (N+30)) (λ_ _=>False)
  (by
   rintro m τ h ⟨row,e,o1,rfl,rfl,rfl,rn,he,P1⟩
   have g1:∀{τ:Sd} {h:Hd},τ[1]? = some (some (spD s))->τ[3]? = some (some (bf e))->s2 gIx (s2 gIx (sV 1) (sI 1)) (sV 3) τ h=.ok (tpN (nx s e)) h:=λh1 h2=>nu (nu (bz h1) ckk SHD.ix1) (bz h2) (aji he _);have ll:xq [.ref 1] [o1,.lst (row.map bf)]=.ok (bf row.length) [o1,.lst (row.map bf)]:=by rw[aj0 rfl,ah]
   unfold a1a
   by_cases c1:row.length<10
   ·have t1:sT (s2 gLt (sA xq (aj (sV 2) cu)) (sI 10)) [some (.ref 0),some (spD s),some (.ref 1),some (bf e)] [o1,.lst (row.map bf)]=.ok true [o1,.lst (row.map bf)]:=t2s (qd (bz rfl) ll) ckk (a7c (by omega))
    have t2:sT (s2 hNe (s2 gIx (s2 gIx (sV 1) (sI 1)) (sV 3)) (sA MI.yg cu)) [some (.ref 0),some (spD s),some (.ref 1),some (bf e)] [o1,.lst (row.map bf)]=.ok (!(nx s e).isEmpty) [o1,.lst (row.map bf)]:=t2s (g1 rfl rfl) (aiz PAP.a2f) (ao2 _ _)
    by_cases em:nx s e=[]
    ·rw[em]at t2;exact .inl ⟨_,a4c t1 (a7b t2),row,e,o1,rfl,rfl,rn,P1.up (by omega)⟩
    ·rw[show(nx s e).isEmpty=false by simpa using em]at t2
     have ix:=K15.ao1 true e (rwE s) [o1,.lst (row.map bf)];simp only[dI]at ix;obtain⟨b,o2,P2,tt⟩:∃(b:Bool) (o2:O),Src o2 (N+2*row.length+1)/\sOr (sT (s2 (gIn true) (sV 3) (s2 gIx (sV 1) (sI 2)))) (sT (s2 gGt (sA (jh false 2 SRC.ak) (aj (sV 0) (aj (sI 3) cu))) (sI 0))) [some (.ref 0),some (spD s),some (.ref 1),some (bf e)] [o1,.lst (row.map bf)]=.ok b [o2,.lst (row.map bf)]:=by
      by_cases m:∃n∈rwE s,(e:Int)=(n:Int)
      ·rw[cV m]at ix;obtain⟨r,o2,e2,rb,P2⟩:=dw (m:=3) P1 (by omega) (by decide) (by decide)
       exact⟨_,o2,P2,orF (t2s (bz rfl) (qu rfl SHD.ix2) ix) (t2s (a0e (bz rfl) ckk (drz e2)) ckk rfl)⟩
      ·rw[bA m]at ix;exact⟨true,o1,P1.up (by omega),orT (t2s (bz rfl) (qu rfl SHD.ix2) ix)⟩
     cases b with
     |false=>exact .inl ⟨_,a4c t1 (a4c t2 tt),row,e,o2,rfl,rfl,rn,P2.up (by omega)⟩
     |true =>
      refine .inr ⟨_,a4c t1 (a4c t2 tt),.inl ?_⟩;have pos:0<(nx s e).length:=List.length_pos_iff.mpr em;obtain⟨r,o3,e3,rb3,P3⟩:=dw (m:=((nx s e).length:Int)) P2 (by omega) (by omega) (by have:=K15.aw3 s e;omega)
      have hr:r<(nx s e).length:=by omega
      have qi:=aa3 (dN hr);have lx:∀h,xq [tpN (nx s e)] h=.ok (.int ((nx s e).length:Int)) h:=λh=>by rw[ltn,ah]
      refine⟨_,[o3,.lst (row.map bf++[bf (nx s e)[r]])],10-(row++[(nx s e)[r]]).length,?_,by rw[ae];simp;omega,row++[(nx s e)[r]],(nx s e)[r],o3,rfl,?_,rfl,by rw[ae];simp;omega,qi.2,by rw[ae];exact P3.up (by simp;omega)⟩
      ·unfold a1b;refine aR (jk (nu (g1 rfl rfl) (a0e (bz rfl) (qd (g1 rfl rfl) (lx _)) (drz e3)) (a9s (by rw[bJ,ai hr];rfl)))) ?_
       exact a4d (bz rfl) rfl (cns (bz rfl) nlo) (abd (i:=1) rfl (by have:=aj1 (n:=row.length) (by omega);rw[ah];exact this))
      ·rw[bg];rfl
   ·exact .inl ⟨_,a7b (t2s (qd (bz rfl) ll) ckk (a7d (by omega))),row,e,o1,rfl,rfl,rn,P1.up (by omega)⟩)
  10 100000 [some (.ref 0),some (spD s),some (.ref 1),some (bf 0)] [o,.lst []] (by omega) ⟨[],0,o,rfl,rfl,rfl,ba _,ba _,P⟩ with⟨τ',h',e,row,e',o',rfl,rfl,rn,P'⟩|⟨_,_,_,z⟩
 ·refine⟨row,o',aen rfl (λy hy=>?_) P.clo ?_ (dq _) P'.clo,rn,P'⟩
  ·obtain rfl:=aI.mp hy;exact K11.a8f s
  ·unfold j7;rw[iw];show toR (a2t SRC.ak [some (.ref 0),some (spD s),none,none] [o])=_;unfold a2t;refine etr (jk (d:=.ref 1) (h1:=[o,.lst []]) (aiz rfl)) ?_;refine etr (jk ckk) ?_;refine etr (um e) ?_;exact aK toR (m9 (bz rfl))
 ·exact z.elim
def Ln(n:Nat)(f:SE)(τ:Sd)(h h1:Hd):Prop:=∃l:List Nat,f τ h=.ok (lsN l) h1/\l.length<=n
section
variable{τ:Sd}{u o':O}{f g:SE}{n k:Nat}
theorem aw7(h:Ln n f τ [u] [u])(h':Ln k g τ [u] [o'])(c:vg 0 o')(z:n+k<=900):Ln (n+k) (sZ (s2 gk f g)) τ [u] [o']:=by
 obtain⟨l,e,s⟩:=h;obtain⟨m,e',s'⟩:=h';exact⟨l++m,by rw[show lsN (l++m)=.rol (l.map bf++m.map bf) by rw[<-bg]];exact EVT.ug e e' rfl (dq _) (dq _) (K15.co1 c) (by rw[ah,ah];omega),by rw[ae];omega⟩
theorem ajo(h:Ln n f τ [u] [o'])(h':Ln k g τ [o'] [o'])(z:n+k<=900):∃l:List Nat,s2 gk f g τ [u]=.ok (.ref 1) [o',.lst (l.map bf)]/\l.length<=n+k:=by
 obtain⟨l,e,s⟩:=h;obtain⟨m,e',s'⟩:=h';exact⟨l++m,nu e e' (by rw[acf (xs:=l.map bf) (ys:=m.map bf) rfl rfl,aN (j5 (by rw[ah,ah];omega)),bg];rfl),by rw[ae];omega⟩
end
noncomputable def j4:SF:=nq (a2u SRC.ak) 5
def NR(N:Nat)(r:R D):Prop:=∃(l:List Nat) (o':O),r=.ok (.ref 1) [o',.lst (l.map bf)]/\l.length<=20/\Src o' (N+3)
theorem NR.tr{N:Nat}{x y:Fl}(e:x=y)(h:NR N (toR y)):NR N (toR x):=e ▸ h
theorem ayo{τ:Sd}{u:O}{hi:SO}{a i:Nat}{xs:List Nat}(e:τ[i]? = some (some (lsN xs)))(e2:hi τ [u]=.ok (some (a:Int)) [u])(c:vg 0 u):Ln a (sZ (a5a (sV i) oN hi)) τ [u] [u]:=by
 refine⟨xs.take a,?_,by rw[bb];omega⟩
 exact zrl (h1:=[u]) (a9u (bz e) onn e2 (by rw[ib,<-a6b];rfl)) rfl (dq _) (K15.co1 c)
theorem ad4{τ:Sd}{u:O}{lo:SO}{a i:Nat}{xs:List Nat}(e:τ[i]? = some (some (lsN xs)))(e2:lo τ [u]=.ok (some (a:Int)) [u])(c:vg 0 u):Ln (xs.length-a) (sZ (a5a (sV i) lo oN)) τ [u] [u]:=by
 refine⟨xs.drop a,?_,by rw[bq];omega⟩
 exact zrl (h1:=[u]) (a9u (bz e) e2 onn (by rw[List.map_drop,<-a6c];rfl)) rfl (dq _) (K15.co1 c)
theorem arc{row:List Nat}{m N:Nat}{o:O}(rl:row.length<=10)(m1:1<=m)(m10:m<=10)(P:Src o N)(hN:N<=900000000):∃l o',Dr j4 3 [lsN row,bf m] o (lsN l) o'/\l.length<=20/\Src o' (N+3):=by
 have key:NR N (j4 [.ref 0,lsN row,bf m] [o]):=by
  obtain⟨a,o1,e1,b1,P1⟩:=dw (m:=((row.length+1:Nat):Int)) P (by omega) (by omega) (by omega)
  obtain⟨r,o2,e2,b2,P2⟩:=dw (m:=4) P1 (by omega) (by decide) (by decide)
  have c2:=P2.clo;have ll:∀h,xq [lsN row] h=.ok (bf row.length) h:=λh=>by rw[EVT.uz,ah]
  have a1:gk (bf row.length) (.int 1) [o]=.ok (.int ((row.length+1:Nat):Int)) [o]:=rfl;have go:j4 [.ref 0,lsN row,bf m] [o]=toR (a2u SRC.ak [some (.ref 0),some (lsN row),some (bf m),none,none] [o]):=by
   unfold j4;rw[iw];rfl
  rw[go];unfold a2u;refine .tr (jk (a0e (bz rfl) (nu (qd (bz rfl) (ll _)) ckk a1) (drz e1))) ?_;refine .tr (jk (a0e (bz rfl) ckk (drz e2))) ?_
  let τ:Sd:=[some (.ref 0),some (lsN row),some (bf m),some (bf a),some (bf r)]
  have T0:=ayo (τ:=τ) (u:=o2) (hi:=oS (sV 3)) (a:=a) (i:=1) (xs:=row) rfl (a7i (bz rfl)) c2;have fin:∀{l:List Nat} {o':O} {c:ST} {f:SE} {p q:SS} {τ:Sd},c τ [o2]=.ok true [o2]->f τ [o2]=.ok (.ref 1) [o',.lst (l.map bf)]->l.length<=20->Src o' (N+3)->NR N (toR (iu (sIf c (qg f) p) q τ [o2])):=λt e z P=>⟨_,_,aK toR (v6 (aR (ifT t) (m9 e))),z,P⟩
  by_cases s0:r=0
  ·obtain⟨l,e,z⟩:=ajo T0 (ad4 (τ:=τ) (lo:=oS (s2 gk (sV 3) (sI 1))) (a:=a+1) (i:=1) (xs:=row) rfl (a7i (qu rfl (DRW.ag6 (b:=1)))) c2) (by omega)
   exact fin (tvc rfl (zg (by omega))) e (by omega) (P2.up (by omega))
  refine .tr (ifN (tvc rfl (zj (by omega)))) ?_
  by_cases s1:r=1
  ·have mx:a6k [.int 0,.int ((a:Int)-1)] [o2]=.ok (bf (a-1)) [o2]:=by
    show R.ok (D.int (if (0:Int)<(a:Int)-1 then (a:Int)-1 else 0)) [o2]=_
    congr 2
    split<;>omega
   obtain⟨l,e,z⟩:=ajo T0 (ad4 (τ:=τ) (lo:=oS (sA a6k (aj (sI 0) (aj (s2 MI.a8k (sV 3) (sI 1)) cu)))) (a:=a-1) (i:=1) (xs:=row) rfl (a7i (a0e ckk (qu rfl (uy _ _)) mx)) c2) (by omega)
   exact fin (tvc rfl (zg (by omega))) e (by omega) (P2.up (by omega))
  refine .tr (ifN (tvc rfl (zj (by omega)))) ?_
  obtain⟨x,o3,e3,b3,P3⟩:=dw (m:=(m:Int)) P2 (by omega) (by omega) (by omega)
  have c3:=P3.clo;have l1:Ln 1 (sZ (sA MI.u9 (aj (s2 gk (sI 1) (sA (jh false 2 SRC.ak) (aj (sV 0) (aj (sV 2) cu)))) cu))) τ [o2] [o3]:=⟨[1+x],zds (cns (nu ckk (a0e (bz rfl) (bz rfl) (drz e3)) (DRW.ag6 (a:=1))) nlo) rfl (dq [1+x]) (K15.co1 c3) (by simp),by simp⟩
  have dv:∀h,a5m (bf r) (.int 3) h=.ok (bf (r / 3)) h:=λh=>(div_ii (by omega)).trans (by congr 2)
  obtain⟨l,e,z⟩:=ajo (aw7 T0 l1 c3 (by omega)) (ad4 (τ:=τ) (u:=o3) (lo:=oS (s2 gk (sV 3) (s2 a5m (sV 4) (sI 3)))) (a:=a+r / 3) (i:=1) (xs:=row) rfl (a7i (nu (bz rfl) (qu rfl (dv _)) DRW.ag6)) c3) (by omega)
  exact⟨_,_,aK toR (m9 e),by omega,P3.up (by omega)⟩
 obtain⟨l,o',e,z,P'⟩:=key;exact⟨l,o',aen rfl (λy hy=>by
  simp only[aO,bD,dA]at hy
  rcases hy with rfl|rfl
  ·exact ik (dq _)
  ·exact c7 _) P.clo e (dq _) P'.clo,z,P'⟩
noncomputable def cj:Nat->SF
 |0=>λ_ _=>.no
 |n+1=>nq (a0d (cj n) SRC.ak K11.ie (DRW.au 5)) 8
theorem ajp{n:Nat}{x y:D}{o:O}:cj (n+1) [.ref 0,x,y] [o]=toR (a0d (cj n) SRC.ak K11.ie (DRW.au 5) [some (.ref 0),some x,some y,none,none,none,none,none] [o]):=by
 rw[cj,iw];rfl
def Crs(tg:List Nat)(n d:Nat):Prop:=∀s,a4u tg d s->∀(a:Nat) (o:O) (N:Nat),Src o N->N+bnd d<=900000000->∃row o',Dr (cj n) 3 [sd s,bf a] o (lsN row) o'/\row.length<=6^d/\Src o' (N+bnd d)
theorem a7a{tg:List Nat}{n d:Nat}(hd:d<=4)(ih:Crs tg n d){x pr:D}{c:Int}{bm:Bool}(hM:∀(τ:Sd) (h:Hd),τ[1]? = some (some x)->sT (s2 hNe (s2 gIx (sV 1) (sI 0)) (sC (.str "many"))) τ h=.ok bm h):∀(qs:List Sh) (i a:Nat) (rw:List Nat) (u:O) (M:Nat) (t6 t7:Option D),Src u M->M+qs.length*bnd d<=900000000->(∀q∈qs,a4u tg d q)->rw.length+qs.length*6^d<=100000->
  ∃(rw':List Nat) (u':O) (a':Nat) (t6' t7':Option D),forL (λ_=>True) (ah8 2 (a1t (kN 6) (a1t (kN 7) ajr))) (sr (cj n) SRC.ak K11.ie (DRW.au 5)) (K11.enl i qs) [some (.ref 0),some x,some (bf a),some pr,some (.int c),some (.ref 1),t6,t7] [u,.lst (rw.map bf)]=.nx [some (.ref 0),some x,some (bf a'),some pr,some (.int c),some (.ref 1),t6',t7'] [u',.lst (rw'.map bf)]/\rw'.length<=rw.length+qs.length*6^d/\Src u' (M+qs.length*bnd d)
 |[],i,a,rw,u,M,t6,t7,P,_,_,_=>⟨rw,u,a,t6,t7,by rw[K11.enl];exact xj ..,by simp,by simpa using P⟩
 |q::qs,i,a,rw,u,M,t6,t7,P,hM',kq,hl=>by
  rw[aJ,bX]at hM' hl;have W:=DRW.a0q d 5 (by omega) q (kq q (by simp))
  obtain⟨rw1,u1,P1,l1,e1⟩:∃(rw1:List Nat) (u1:O),Src u1 (M+bnd d)/\rw1.length<=rw.length+6^d/\sIf (a7o (sT (s2 gGt (sA (jh false 1 (DRW.au 5)) (aj (sV 7) cu)) (sI 0))) (sOr (sT (s2 gLt (sV 4) (sI 0))) (sT (s2 hEq (sV 4) (sV 6))))) (a4g 5 a0o (sA (jh false 3 (cj n)) (aj (sV 0) (aj (sV 7) (aj (sV 2) cu))))) sNx [some (.ref 0),some x,some (bf a),some pr,some (.int c),some (.ref 1),some (bf i),some (sd q)] [u,.lst (rw.map bf)]=.nx [some (.ref 0),some x,some (bf a),some pr,some (.int c),some (.ref 1),some (bf i),some (sd q)] [u1,.lst (rw1.map bf)]:=by
   by_cases cc:0<wt q/\(c<0\/c=(i:Int))
   ·obtain⟨row,u1,e,rl,P1⟩:=ih q (kq q (by simp)) a u M P (by omega)
    refine⟨rw++row,u1,P1,by rw[ae];omega,?_⟩
    have t:a7o (sT (s2 gGt (sA (jh false 1 (DRW.au 5)) (aj (sV 7) cu)) (sI 0))) (sOr (sT (s2 gLt (sV 4) (sI 0))) (sT (s2 hEq (sV 4) (sV 6)))) [some (.ref 0),some x,some (bf a),some pr,some (.int c),some (.ref 1),some (bf i),some (sd q)] [u,.lst (rw.map bf)]=.ok true [u,.lst (rw.map bf)]:=a4c (t2s (qd (bz rfl) (W _)) ckk (a87 (by omega))) (by
     by_cases z:c<0
     ·exact orT (tvc rfl (a7c z))
     ·exact orF (tvc rfl (a7d z)) (t2s (bz rfl) (bz rfl) (zg (cc.2.resolve_left z))))
    rw[bg];exact aR (ifT t) (a2d rfl (ay9 (bz rfl) (bz rfl) (bz rfl) (drz e)) (a0a (i:=1) rfl rfl (j5 (by rw[ah,ah];omega))))
   ·refine⟨rw,u,P.up (by omega),Nat.le_add_right _ _,ifF (h1:=[u,.lst (rw.map bf)]) ?_⟩
    by_cases z:0<wt q
    ·have nc:=λh=>cc ⟨z,h⟩;exact a4c (t2s (qd (bz rfl) (W _)) ckk (a87 (by omega))) (orF (tvc rfl (a7d λh=>nc (.inl h))) (t2s (bz rfl) (bz rfl) (zj λh=>nc (.inr h))))
    ·exact a7b (t2s (qd (bz rfl) (W _)) ckk (a9t (by omega)))
  obtain⟨a1,e2⟩:∃a1:Nat,sIf (sT (s2 hNe (s2 gIx (sV 1) (sI 0)) (sC (.str "many")))) (a4g 2 yz (sA (jh false 1 (DRW.au 5)) (aj (sV 7) cu))) sNx [some (.ref 0),some x,some (bf a),some pr,some (.int c),some (.ref 1),some (bf i),some (sd q)] [u1,.lst (rw1.map bf)]=.nx [some (.ref 0),some x,some (bf a1),some pr,some (.int c),some (.ref 1),some (bf i),some (sd q)] [u1,.lst (rw1.map bf)]:=by
   cases bm with
   |true=>exact⟨a+wt q,aR (ifT (hM _ _ rfl)) (a2d (a:=bf a) (d:=bf (a+wt q)) rfl (qd (bz rfl) (W _)) rfl)⟩
   |false=>exact⟨a,ifF (hM _ _ rfl)⟩
  obtain⟨rw',u',a',t6',t7',e,l2,P2⟩:=a7a hd ih (pr:=pr) (c:=c) hM qs (i+1) a1 rw1 u1 (M+bnd d) (some (bf i)) (some (sd q)) P1 (by omega) (λy hy=>kq y (by simp[hy])) (by omega)
  refine⟨rw',u',a',t6',t7',?_,by rw[aJ,bX];omega,by rw[aJ,bX];exact P2.up (by omega)⟩
  rw[K11.enl,uw _ _ _ _ _ [some (.ref 0),some x,some (bf a),some pr,some (.int c),some (.ref 1),some (bf i),some (sd q)] _ [u,.lst (rw.map bf)] rfl];have st:sr (cj n) SRC.ak K11.ie (DRW.au 5) [some (.ref 0),some x,some (bf a),some pr,some (.int c),some (.ref 1),some (bf i),some (sd q)] [u,.lst (rw.map bf)]=.nx [some (.ref 0),some x,some (bf a1),some pr,some (.int c),some (.ref 1),some (bf i),some (sd q)] [u1,.lst (rw1.map bf)]:=by
   unfold sr;exact aR (um e1) e2
  rw[st,a7z,e]
theorem abk{x:D}{w:Str}{r:List D}(e:x=.tup (.str w::r)){v:Str}{b:Bool}(q:∀h,hEq (.str w) (.str v) h=.ok (.bl b) h)(τ:Sd)(h:Hd)(hv:τ[1]? = some (some x)):sT (s2 hEq (s2 gIx (sV 1) (sI 0)) (sC (.str v))) τ h=.ok b h:=by
 rw[e]at hv;exact t2s (nu (bz hv) ckk (a9s (j:=0) rfl)) ckk (q h)
theorem aww{x:D}{w:Str}{r:List D}(e:x=.tup (.str w::r)){v:Str}{b:Bool}(q:∀h,hNe (.str w) (.str v) h=.ok (.bl b) h)(τ:Sd)(h:Hd)(hv:τ[1]? = some (some x)):sT (s2 hNe (s2 gIx (sV 1) (sI 0)) (sC (.str v))) τ h=.ok b h:=by
 rw[e]at hv;exact t2s (nu (bz hv) ckk (a9s (j:=0) rfl)) ckk (q h)
section
variable{tg:List Nat}{n d:Nat}
def CR(d N:Nat)(r:R D):Prop:=∃(row:List Nat) (o':O),r=.ok (.ref 1) [o',.lst (row.map bf)]/\row.length<=6^(d+1)/\Src o' (N+7*bnd d)
theorem CR.tr{N:Nat}{x y:Fl}(e:x=y)(h:CR d N (toR y)):CR d N (toR x):=e ▸ h
theorem ad5(hd:d<=4)(ih:Crs tg n d):Crs tg (n+1) (d+1):=by
 intro s ks a o N P hN
 rw[bnd]at hN ⊢;have b0:=aja d;have p6:6^d<=6^4:=Nat.pow_le_pow_right (by decide) hd
 have p7:6^4=1296:=by decide
 have ps6:6^(d+1)=6*6^d:=by rw[i6,eH]
 have p1:1<=6^d:=Nat.pow_pos (by decide)
 have kid:=(ENG.acy ks).2
 suffices key:CR d N (cj (n+1) [.ref 0,sd s,bf a] [o]) by
  obtain⟨row,o',e,l,P'⟩:=key;exact⟨row,o',aen rfl (λy hy=>by
   simp only[aO,bD,dA]at hy
   rcases hy with rfl|rfl
   ·exact ww s
   ·exact c7 _) P.clo e (dq _) P'.clo,l,P'⟩
 have tail:∀{bm:Bool},(∀(τ:Sd) (h:Hd),τ[1]? = some (some (sd s))->sT (s2 hNe (s2 gIx (sV 1) (sI 0)) (sC (.str "many"))) τ h=.ok bm h)->∀(ps:List Sh) (u:O) (c:Int),Src u (N+1)->ps.length<=6->(∀p∈ps,a4u tg d p)->CR d N (toR (iu (m7 5 (sA MI.u9 cu)) (iu (a7f (aaw (sV 3)) (ah8 2 (a1t (kN 6) (a1t (kN 7) ajr))) (sr (cj n) SRC.ak K11.ie (DRW.au 5))) (qg (sV 5))) [some (.ref 0),some (sd s),some (bf a),some (.tup (sds ps)),some (.int c),none,none,none] [u])):=λ{bm} hM ps u c Pu hl kp=>by
  have kb:ps.length*bnd d<=6*bnd d:=cC _ hl;have kc:ps.length*6^d<=6*6^d:=cC _ hl;obtain⟨rw',u',a',t6,t7,e,l,P'⟩:=a7a hd ih (pr:=.tup (sds ps)) (c:=c) hM ps 0 a [] u (N+1) none none Pu (by omega) kp (by rw[bC];omega)
  refine .tr (jk (d:=.ref 1) (h1:=[u,.lst []]) (aiz rfl)) ?_;refine .tr (a2e (K11.aei (bz rfl))) ?_;refine .tr (aK (λz=>MI.thn z _) e) ?_;rw[bC]at l;exact⟨rw',u',aK toR (m9 (bz rfl)),by omega,P'.up (by omega)⟩
 rw[ajp];unfold a0d
 cases s with
 |one sg =>
  have o1:=abk (x:=sd (.one sg)) (v := "one") (b:=true) (by rw[sd]) (λh=>rfl)
  exact⟨[a+1],o,aK toR (v6 (aR (ifT (h1:=[o]) (o1 _ _ rfl)) (m9 (qd (qu rfl (DRW.ag6 (b:=1))) rfl)))),by simp;omega,P.up (by omega)⟩
 |row ps =>
  have o1:=abk (x:=sd (.row ps)) (v := "one") (b:=false) (by rw[sd]) (λh=>rfl)
  have o2:=abk (x:=sd (.row ps)) (v := "many") (b:=false) (by rw[sd]) (λh=>rfl)
  have o3:=abk (x:=sd (.row ps)) (v := "times") (b:=false) (by rw[sd]) (λh=>rfl)
  have o4:=abk (x:=sd (.row ps)) (v := "either") (b:=false) (by rw[sd]) (λh=>rfl)
  refine .tr (ifN (o1 _ _ rfl)) ?_;refine .tr (jk (qd (bz rfl) (K11.a3k ks (by simp) _))) ?_
  refine .tr (ifN (o2 _ _ rfl)) ?_;refine .tr (ifN (o3 _ _ rfl)) ?_;refine .tr (jk (EVT.aqp (o4 _ _ rfl) (uv ckk (a1e 1)))) ?_;exact tail (aww (x:=sd (.row ps)) (v := "many") (b:=true) (by rw[sd]) (λh=>rfl)) ps o (-1) (P.up (by omega)) ks.1 λp hp=>kid p (by rw[ENG.kids];exact hp)
 |eit ps =>
  have o1:=abk (x:=sd (.eit ps)) (v := "one") (b:=false) (by rw[sd]) (λh=>rfl)
  have o2:=abk (x:=sd (.eit ps)) (v := "many") (b:=false) (by rw[sd]) (λh=>rfl)
  have o3:=abk (x:=sd (.eit ps)) (v := "times") (b:=false) (by rw[sd]) (λh=>rfl)
  have o4:=abk (x:=sd (.eit ps)) (v := "either") (b:=true) (by rw[sd]) (λh=>rfl)
  have l1:1<=ps.length:=ks.1;have l6:ps.length<=6:=ks.2.1;obtain⟨r,u,e,rb,Pu⟩:=dw (m:=(ps.length:Int)) P (by omega) (by omega) (by omega)
  have ln:∀h,xq [.tup (sds ps)] h=.ok (.int (ps.length:Int)) h:=λh=>by rw[ltn,a3j,ah]
  refine .tr (ifN (o1 _ _ rfl)) ?_;refine .tr (jk (qd (bz rfl) (K11.a3k ks (by simp) _))) ?_
  refine .tr (ifN (o2 _ _ rfl)) ?_;refine .tr (ifN (o3 _ _ rfl)) ?_;refine .tr (jk (EVT.aws (o4 _ _ rfl) (a0e (bz rfl) (qd (bz rfl) (ln _)) (drz e)))) ?_;exact tail (aww (x:=sd (.eit ps)) (v := "many") (b:=true) (by rw[sd]) (λh=>rfl)) ps u r Pu l6 λp hp=>kid p (by rw[ENG.kids];exact hp)
 |many p =>
  have o1:=abk (x:=sd (.many p)) (v := "one") (b:=false) (by rw[sd]) (λh=>rfl)
  have o2:=abk (x:=sd (.many p)) (v := "many") (b:=true) (by rw[sd]) (λh=>rfl)
  have o3:=abk (x:=sd (.many p)) (v := "times") (b:=false) (by rw[sd]) (λh=>rfl)
  have o4:=abk (x:=sd (.many p)) (v := "either") (b:=false) (by rw[sd]) (λh=>rfl)
  obtain⟨r,u,e,rb,Pu⟩:=dw (m:=3) P (by omega) (by decide) (by decide)
  have g1:∀h,gIx (sd (.many p)) (.int 1) h=.ok (sd p) h:=λh=>by rw[sd];exact a9s (j:=1) rfl
  have mz:∀h,a7g (.tup [sd p]) (bf r) h=.ok (.tup (sds (List.replicate r p))) h:=λh=>by rw[K11.a78];exact ay0 (by omega)
  refine .tr (ifN (o1 _ _ rfl)) ?_;refine .tr (jk (qd (bz rfl) (K11.a3k ks (by simp) _))) ?_
  refine .tr (um (aR (ifT (h1:=[o]) (o2 _ _ rfl)) (ant (nu (qd (qu rfl (g1 _)) a1f) (a0e (bz rfl) ckk (drz e)) (mz _))))) ?_;refine .tr (ifN (o3 _ _ rfl)) ?_;refine .tr (jk (EVT.aqp (o4 _ _ rfl) (uv ckk (a1e 1)))) ?_;exact tail (aww (x:=sd (.many p)) (v := "many") (b:=false) (by rw[sd]) (λh=>rfl)) (List.replicate r p) u (-1) Pu (by rw[cI];omega) λq hq=>by rw[eh hq];exact kid p (by rw[ENG.kids];simp)
 |tim p lo hi =>
  have o1:=abk (x:=sd (.tim p lo hi)) (v := "one") (b:=false) (by rw[sd]) (λh=>rfl)
  have o2:=abk (x:=sd (.tim p lo hi)) (v := "many") (b:=false) (by rw[sd]) (λh=>rfl)
  have o3:=abk (x:=sd (.tim p lo hi)) (v := "times") (b:=true) (by rw[sd]) (λh=>rfl)
  have o4:=abk (x:=sd (.tim p lo hi)) (v := "either") (b:=false) (by rw[sd]) (λh=>rfl)
  have k1:lo<=hi:=ks.1;have k2:hi<=4:=ks.2.1;obtain⟨r,u,e,rb,Pu⟩:=dw (m:=(hi:Int)-lo+1) P (by omega) (by omega) (by omega)
  have g1:∀h,gIx (sd (.tim p lo hi)) (.int 1) h=.ok (sd p) h:=λh=>by rw[sd];exact a9s (j:=1) rfl
  have g2:∀h,gIx (sd (.tim p lo hi)) (.int 2) h=.ok (bf lo) h:=λh=>by rw[sd];exact a9s (j:=2) rfl
  have g3:∀h,gIx (sd (.tim p lo hi)) (.int 3) h=.ok (bf hi) h:=λh=>by rw[sd];exact a9s (j:=3) rfl
  have mz:∀h,a7g (.tup [sd p]) (bf (lo+r)) h=.ok (.tup (sds (List.replicate (lo+r) p))) h:=λh=>by rw[K11.a78];exact ay0 (by omega)
  refine .tr (ifN (o1 _ _ rfl)) ?_;refine .tr (jk (qd (bz rfl) (K11.a3k ks (by simp) _))) ?_
  refine .tr (ifN (o2 _ _ rfl)) ?_;refine .tr (um (aR (ifT (h1:=[o]) (o3 _ _ rfl)) (ant (nu (qd (qu rfl (g1 _)) a1f) (nu (qu rfl (g2 _)) (a0e (bz rfl) (nu (nu (qu rfl (g3 _)) (qu rfl (g2 _)) (uy _ _)) ckk rfl) (drz e)) DRW.ag6) (mz _))))) ?_;refine .tr (jk (EVT.aqp (o4 _ _ rfl) (uv ckk (a1e 1)))) ?_;exact tail (aww (x:=sd (.tim p lo hi)) (v := "many") (b:=true) (by rw[sd]) (λh=>rfl)) (List.replicate (lo+r) p) u (-1) Pu (by rw[cI];omega) λq hq=>by rw[eh hq];exact kid p (by rw[ENG.kids];simp)
theorem abl:∀(d n:Nat),d<=5->d<=n->Crs tg n d
 |0,_,_,_=>λs k=>k.elim
 |d+1,0,_,h=>absurd h (by omega)
 |d+1,n+1,h5,h=>ad5 (by omega) (abl d n (by omega) (by omega))
end
theorem ard(b:Bool)(h:Hd):hNe (.bl b) (.bl b) h=.ok (.bl false) h:=by
 show R.ok (D.bl (!(b == b))) h=_;simp
theorem ad6(l:List (List Nat)):clos 0 (l.map lsN):=dg λ_ _=>ik (dq _)
open Classical in
theorem arf{tg:List Nat}{s:Sh}{row:List Nat}(ks:a4u tg 5 s)(L20:row.length<=20){f1 f2 f3:SE}{τ:Sd}{h:Hd}(e1:f1 τ h=.ok (.bl (decide (Ac row s 0 0 row.length))) h)(e2:f2 τ h=.ok (bf row.length) h)(e3:f3 τ h=.ok (lsN (fl row.length (Ac row s 0) 0)) h):sT (s2 hNe f1 (s2 (gIn false) f2 f3)) τ h=.ok false h:=by
 have i:=DRW.avq row.length (fl row.length (Ac row s 0) 0) h;have ee:decide (row.length∈fl row.length (Ac row s 0) 0)=decide (Ac row s 0 0 row.length):=eD.mpr (by
  rw[m5];exact⟨λh=>h.2,λh=>⟨ay _,h⟩⟩)
 rw[ee]at i;exact t2s e1 (nu e2 e3 i) (ard _ _)
noncomputable def amj:SF:=nq (alr j6 j4 (bw 11) (cj 5) SRC.ak j7 (DRW.dh 5) SRC.gh SRC.gw (DRW.au 5) K15.n6) 9
theorem aw8(ns:List Int):∃h',amj [.scr (ns.map D.int)] []=.ok (.bl true) h':=by
 obtain⟨o,P,es⟩:=SRC.aj3 ns [];obtain⟨tg,o1,T,e1,P1⟩:=SRC.aj4 P (by omega)
 obtain⟨t1,t6,nd⟩:1<=tg.length/\tg.length<=6/\tg.Nodup:=⟨T.lo,T.hi,T.nd⟩;have b5:bnd 5=3361400:=by decide
 obtain⟨s,o2,ks,hw,_,d2,P2⟩:=DRW.aeg t1 t6 nd 4 4 (by omega) (by omega) o1 _ 10 24 P1 (by rw[b5];omega) (by omega)
 have nl:∀H:Hd,MI.u9 [.int 24] H=.ok (.ref H.length) (H++[.lst [.int 24]]):=λH=>aN (j5 (by simp))
 have e2:=d2 0 1 [o1,.lst [.int 24]] (by omega) rfl rfl
 obtain⟨Z,eZ⟩:∃Z:O,Z=.lst [.int (24-DRW.pn s)]:=⟨_,rfl⟩;have cZ:vg 0 Z:=by rw[eZ];exact bu (c7 _) fu
 rw[b5]at P2
 let B (k c r:Option D):Sd:=[some (.scr (ns.map D.int)),some (.ref 0),some (sd s),some (bf (wt s)),some (spD s),some (.ref 2),k,c,r]
 have cH:∀{u:O} {N:Nat} {rs:List (List Nat)},Src u N->∀v∈[u,Z,.lst (rs.map lsN)],vg 0 v:=λ{u N rs} P v hv=>by
  simp only[aO,bD,dA]at hv
  rcases hv with rfl|rfl|rfl
  ·exact P.clo
  ·exact cZ
  ·exact ad6 rs
 obtain⟨τ',h',ef,rs,u,k',c',rfl,rfl,rl,rn,_⟩:=a0w (g:=kN 6) (b:=a9j j6 j4 (bw 11) (cj 5) SRC.ak j7 (DRW.dh 5) SRC.gh SRC.gw (DRW.au 5) K15.n6) (λi:Nat=>bf i) (λpre τ h=>∃(rs:List (List Nat)) (u:O) (k c:Option D),τ=B k c none/\h=[u,Z,.lst (rs.map lsN)]/\(∀r∈rs,r.length<=20)/\rs.length<=1+4*pre.length/\Src u (10000000+pre.length*10000000)) (List.range 2) (B none none none) [o2,Z,.lst [lsN []]]
  (by
   rintro pre k post τ h al ⟨rs,u,k0,c0,rfl,rfl,rl,rn,Pu⟩
   have pl:pre.length<2/\k<2:=by
    have:=aK List.length al
    rw[ae,bK,aJ]at this;have hk:k∈List.range 2:=by rw[al];simp
    exact⟨by omega,dR.mp hk⟩
   obtain⟨c,u1,ec,cl,Q1⟩:=abl (tg:=tg) 5 5 (by omega) (by omega) s ks 0 u _ Pu (by rw[b5];omega)
   rw[b5]at Q1;obtain⟨gn,u2,eg,gl,Q2⟩:=arb (s:=s) hw Q1 (by omega)
   have c10:(c.take 10).length<=10:=by rw[bb];omega
   refine⟨B (some (bf k)) c0 none,_,rfl,?_⟩;unfold a9j;have s1:sZ (a5a (sA (jh false 3 (cj 5)) (aj (sV 1) (aj (sV 2) (aj (sI 0) cu)))) oN (oS (sI 10))) (B (some (bf k)) c0 none) [u,Z,.lst (rs.map lsN)]=.ok (lsN (c.take 10)) [u1,Z,.lst (rs.map lsN)]:=zrl (a9u (ay9 (bz rfl) (bz rfl) ckk (drz ec)) onn (a7i ckk) (by rw[ib,<-a6b];rfl)) rfl (dq _) (cH Q1)
   have s2':sZ (sA MI.u9 (aj (sV 7) (aj (sA (jh false 2 j7) (aj (sV 1) (aj (sV 4) cu))) cu))) (B (some (bf k)) (some (lsN (c.take 10))) none) [u1,Z,.lst (rs.map lsN)]=.ok (.rol ([c.take 10,gn].map lsN)) [u2,Z,.lst (rs.map lsN)]:=zds (cns (bz rfl) (cns (a0e (bz rfl) (bz rfl) (drz eg)) nlo)) rfl (ad6 _) (cH Q2) (by simp)
   have st2:∀g:SS,iu (a4g 5 a0o (sZ (sA MI.u9 (aj (sV 7) (aj (sA (jh false 2 j7) (aj (sV 1) (aj (sV 4) cu))) cu))))) g (B (some (bf k)) (some (lsN (c.take 10))) none) [u1,Z,.lst (rs.map lsN)]=g (B (some (bf k)) (some (lsN (c.take 10))) none) [u2,Z,.lst ((rs++[c.take 10,gn]).map lsN)]:=λg=>by
    rw[bg];exact um (a2d (a:=.ref 2) rfl s2' (a0a (i:=2) rfl rfl (j5 (by rw[ah,ah];show rs.length+2<=_;omega))))
   by_cases wz:0<wt s
   ·obtain⟨bn,u3,eb,bl,Q3⟩:=arc (row:=c.take 10) (m:=wt s) c10 wz hw Q2 (by omega)
    obtain⟨ys,u4,ey,q,Q4,_⟩:=DRW.am5 (fi:=sRg a2w (aj (s2 gk (sV 6) (sI 2)) cu)) (t:=MI.t1) (fe:=a9i j6 j4 (bw 11) (cj 5) SRC.ak j7 (DRW.dh 5) SRC.gh SRC.gw (DRW.au 5) K15.n6) (ix:=[1,3]) (τ:=B (some (bf k)) (some (lsN (c.take 10))) none) (o0:=u3) (hs:=[Z,.lst ((rs++[c.take 10,gn]).map lsN)]) (List.range (k+2)) bf bf (λ_ _=>True) (B:=1) (M:=100000000) Q3 (by rw[bK];omega) (by rw[bK];omega) (λv hv=>cH Q3 v (aY _ hv)) (by
      unfold sRg;have ar:aj (s2 gk (sV 6) (sI 2)) cu (B (some (bf k)) (some (lsN (c.take 10))) none) [u3,Z,.lst ((rs++[c.take 10,gn]).map lsN)]=.ok [bf (k+2)] [u3,Z,.lst ((rs++[c.take 10,gn]).map lsN)]:=arg1 (qu rfl rfl);rw[ar,dj];exact aea _ (j5 (by omega))) (λi _ v M Pv hM=>by
      obtain⟨r,v',e,rb,Pv'⟩:=dw (m:=(wt s:Int)) Pv (by omega) (by omega) (by omega)
      refine⟨1+r,v',?_,c7 _,True.intro,Pv'⟩;rw[a9r];exact nu ckk (a0e (bz rfl) (bz rfl) (drz e)) (DRW.ag6 (a:=1)))
    have ql:=q.len;rw[bK]at ql Q4;have s3:sZ (sA MI.u9 (aj (sA (jh false 3 j4) (aj (sV 1) (aj (sV 7) (aj (sV 3) cu)))) (aj (sZ (a1v (sRg a2w (aj (s2 gk (sV 6) (sI 2)) cu)) MI.t1 (a9i j6 j4 (bw 11) (cj 5) SRC.ak j7 (DRW.dh 5) SRC.gh SRC.gw (DRW.au 5) K15.n6) [1,3])) cu))) (B (some (bf k)) (some (lsN (c.take 10))) none) [u2,Z,.lst ((rs++[c.take 10,gn]).map lsN)]=.ok (.rol ([bn,ys].map lsN)) [u4,Z,.lst ((rs++[c.take 10,gn]).map lsN)]:=zds (cns (ay9 (bz rfl) (bz rfl) (bz rfl) (drz eb)) (cns ey nlo)) rfl (ad6 _) (cH Q4) (by simp)
    refine⟨_,_,aR (jk s1) (aR (st2 _) (aR (ifT (h1:=[u2,Z,.lst ((rs++[c.take 10,gn]).map lsN)]) (tvc rfl (a87 (by omega)))) (a2d (a:=.ref 2) rfl s3 (a0a (i:=2) rfl rfl (j5 (by rw[ah,ah,ae];show rs.length+2+2<=_;omega)))))),(rs++[c.take 10,gn])++[bn,ys],u4,_,_,rfl,?_,λr hr=>?_,by rw[ae,ae,ae];show rs.length+2+2<=1+4*(pre.length+1);omega,Q4.up (by rw[ae];show _<=10000000+(pre.length+1)*10000000;omega)⟩
    ·rw[bg (l₂:=[bn,ys])];rfl
    ·simp only[aX,aO,bD,dA]at hr
     rcases hr with(hr|rfl|rfl)|rfl|rfl
     ·exact rl r hr
     ·omega
     ·omega
     ·exact bl
     ·omega
   ·refine⟨_,_,aR (jk s1) (aR (st2 _) (ifF (h1:=[u2,Z,.lst ((rs++[c.take 10,gn]).map lsN)]) (tvc rfl (a9t (by omega))))),rs++[c.take 10,gn],u2,_,_,rfl,rfl,λr hr=>?_,by rw[ae,ae];show rs.length+2<=1+4*(pre.length+1);omega,Q2.up (by rw[ae];show _<=10000000+(pre.length+1)*10000000;omega)⟩
    simp only[aX,aO,bD,dA]at hr
    rcases hr with hr|rfl|rfl
    ·exact rl r hr
    ·omega
    ·omega)
  ⟨[[]],o2,none,none,rfl,rfl,by simp,by simp,P2.up (by simp)⟩
 obtain⟨τ2,h2,e3,⟨r',rfl⟩,rfl⟩:=aec (ck:=λh=>h[2]? = some (.lst (rs.map lsN))) (g:=kN 8) (b:=a9k j6 j4 (bw 11) (cj 5) SRC.ak j7 (DRW.dh 5) SRC.gh SRC.gw (DRW.au 5) K15.n6) lsN (λ_ τ h=>(∃r:Option D,τ=B k' c' r)/\h=[u,Z,.lst (rs.map lsN)]) (by rintro pre τ h ⟨_,rfl⟩;rfl) rs [] (B k' c' none) [u,Z,.lst (rs.map lsN)]
  (by
   rintro pre r post τ h al ⟨⟨r0,rfl⟩,rfl⟩
   have L:=rl r (by
    have:r∈[]++rs:=by rw[al];simp
    simpa using this)
   refine⟨B k' c' (some (lsN r)),_,rfl,_,_,?_,⟨some (lsN r),rfl⟩,rfl⟩;unfold a9k;have lr:∀h,xq [lsN r] h=.ok (bf r.length) h:=λh=>by rw[EVT.uz,ah]
   exact ifF (h1:=[u,Z,.lst (rs.map lsN)]) (arf ks L (a0e (bz rfl) (bz rfl) (ami _)) (qd (bz rfl) (lr _)) (aoo (cns (bz rfl) (cns ckk (cns (bz rfl) (cns ckk nlo)))) (aet (tg:=tg) L 5 (by omega) 11 (by omega) s ks 0 0 (ba _) _))))
  ⟨⟨_,rfl⟩,rfl⟩
 refine⟨[u,Z,.lst (rs.map lsN)],?_⟩;unfold amj;rw[iw];show toR (alr j6 j4 (bw 11) (cj 5) SRC.ak j7 (DRW.dh 5) SRC.gh SRC.gw (DRW.au 5) K15.n6 [some (.scr (ns.map D.int)),none,none,none,none,none,none,none,none] [])=_;unfold alr;refine ets (qd (bz rfl) es) ?_;refine etr (jk (d:=sd s) (h1:=[o2,Z]) (aoo (cns (bz rfl) (cns (qd (bz rfl) (drz e1)) (cns ckk (cns ckk (cns (aoo (cns ckk nlo) (nl _)) nlo))))) (by rw[eZ];exact e2))) ?_
 refine ets (qd (bz rfl) (DRW.a0q 5 5 (by omega) s ks _)) ?_
 refine ets (qd (bz rfl) (K15.ajj ks (by omega) hw _)) ?_
 have l1:∀h,xq [.tup (rws s)] h=.ok (bf (1+wt s)) h:=λh=>by rw[ltn,aJ,ah,bK,gz]
 have l0:∀h,xq [.tup (.str ""::K11.sgD (K11.mk s))] h=.ok (bf (1+wt s)) h:=λh=>by rw[ltn,aJ,ah,K11.a8a,gz]
 refine etr (ifN (h1:=[o2,Z]) (orF (t2s (qd (qu rfl SHD.ix1) (l1 _)) (nu ckk (bz rfl) (DRW.ag6 (a:=1))) (a1m rfl)) (t2s (qd (qu rfl SHD.ix0) (l0 _)) (nu ckk (bz rfl) (DRW.ag6 (a:=1))) (a1m rfl)))) ?_;have z0:∀{τ:Sd},sZ (sA MI.u9 cu) τ [o2,Z]=.ok (lsN []) [o2,Z]:=zds nlo rfl fu (λv hv=>by
  simp only[aO,bD,dA]at hv
  rcases hv with rfl|rfl
  ·exact P2.clo
  ·exact cZ) (by simp)
 refine etr (jk (d:=.ref 2) (h1:=[o2,Z,.lst [lsN []]]) (qd z0 rfl)) ?_;refine etr (a2e (h1:=[o2,Z,.lst [lsN []]]) (xs:=(List.range 2).map λi:Nat=>bf i) (ck:=λ_=>True) (by
  unfold sRg;rw[arg1 ckk,dj];exact aea (n:=2) _ (j5 (by omega)))) ?_
 refine aR (aK (λz=>toR (MI.thn z _)) ef) ?_;rw[a5d];refine etr (a2e (acu (bz rfl) rfl)) ?_;refine aR (aK (λz=>toR (MI.thn z _)) e3) ?_;exact aK toR (m9 ckk)
end K12
namespace K12
open L2 MI
section
variable{P:Program}{w:World}{K:Fg}{mg:Str->Option Value}{base:Heap}{f:Addr}{fd:FuncData}
theorem d_2{f_2:Addr}{e_2:FuncData}(Fu_2:Fun K "weight" "weight" (top 8) f_2 e_2)(mk_2:mg "weight" = some (.ref f_2))(kp_2:PySem.W.keepIn K (.ref f_2)=true)(bd_2:Binds K e_2 ["shape"] [])(M:Nm mg){a_1:Addr}{d_1:FuncData}(D_1:Dn P w K mg base 1 "inner" ["shape"] (ph K 1 (ENG.v7)) a_1 d_1):∀n:Nat,Dn P w K mg base (n+1) "weight" ["shape"] (ph K 1 (K11.oh n)) f_2 e_2:=by
 intro n
 induction n with
 |zero=>exact⟨a95 (ps:=["shape"]),mk_2,kp_2,bd_2⟩
 |succ n ih =>
  have e:n+1+1=n+1+1:=by omega
  rw[e];have s_weight:=ih;exact⟨a1j Fu_2 aze (m_2 M D_1 (by omega) s_weight (by omega)),mk_2,kp_2,bd_2⟩
theorem d_6{f_6:Addr}{e_6:FuncData}(Fu_6:Fun K "patch_of" "patch_of" (top 13) f_6 e_6)(mk_6:mg "patch_of" = some (.ref f_6))(kp_6:PySem.W.keepIn K (.ref f_6)=true)(bd_6:Binds K e_6 ["shape","at"] []){f_7:Addr}{e_7:FuncData}(Fu_7:Fun K "patches_of" "patches_of" (top 14) f_7 e_7)(mk_7:mg "patches_of" = some (.ref f_7))(kp_7:PySem.W.keepIn K (.ref f_7)=true)(bd_7:Binds K e_7 ["shapes","at"] [])(M:Nm mg){C_Patch:Addr}(Q_Patch:CK K mg "Patch" C_Patch ["signs","firsts","pairs","lasts","empty"]){f_3:Addr}{e_3:FuncData}(D_3:Di P w K mg base 1 "Patch" C_Patch ["signs","firsts","pairs","lasts","empty"] ["self","signs","firsts","pairs","lasts","empty"] 5 K11.bh f_3 e_3){a_11:Addr}{d_11:FuncData}(D_11:Dn P w K mg base 3 "patch_again" ["patch"] (ph K 1 (K11.kj)) a_11 d_11){a_9:Addr}{d_9:FuncData}(D_9:Dn P w K mg base 4 "patch_in_turn" ["patches"] (ph K 1 (K11.je)) a_9 d_9){a_10:Addr}{d_10:FuncData}(D_10:Dn P w K mg base 3 "patch_of_one" ["patches"] (ph K 1 (K11.ji)) a_10 d_10){a_12:Addr}{d_12:FuncData}(D_12:Dn P w K mg base 4 "patch_of_times" ["copies","low"] (ph K 2 (K11.jb)) a_12 d_12):∀n:Nat,Dn P w K mg base (n+4) "patch_of" ["shape","at"] (ph K 2 (K11.iy n)) f_6 e_6/\Dn P w K mg base (n+4) "patches_of" ["shapes","at"] (ph K 2 (K11.km n)) f_7 e_7:=by
 intro n
 induction n with
 |zero=>exact⟨⟨a95 (ps:=["shape","at"]),mk_6,kp_6,bd_6⟩,⟨a95 (ps:=["shapes","at"]),mk_7,kp_7,bd_7⟩⟩
 |succ n ih =>
  have e:n+1+4=n+4+1:=by omega
  rw[e];obtain⟨s_patch_of,s_patches_of⟩:=ih;exact⟨⟨a1j Fu_6 azi (m_6 Q_Patch D_3 (by omega) D_11 (by omega) D_9 (by omega) s_patch_of (by omega) D_10 (by omega) D_12 (by omega) s_patches_of (by omega)),mk_6,kp_6,bd_6⟩,⟨a1j Fu_7 azj (m_7 M Q_Patch s_patch_of (by omega)),mk_7,kp_7,bd_7⟩⟩
theorem agb{f_18:Addr}{e_18:FuncData}(Fu_18:Fun K "_law_weight" "_law_weight" (top 26) f_18 e_18)(mk_18:mg "_law_weight" = some (.ref f_18))(kp_18:PySem.W.keepIn K (.ref f_18)=true)(bd_18:Binds K e_18 ["_law_shape_here"] [])(M:Nm mg):∀n:Nat,Dn P w K mg base (n+0) "_law_weight" ["_law_shape_here"] (ph K 1 (DRW.au n)) f_18 e_18:=by
 intro n
 induction n with
 |zero=>exact⟨a95 (ps:=["_law_shape_here"]),mk_18,kp_18,bd_18⟩
 |succ n ih =>
  have e:n+1+0=n+0+1:=by omega
  rw[e];have s_law_weight:=ih;exact⟨a1j Fu_18 aut (b0t M s_law_weight (by omega)),mk_18,kp_18,bd_18⟩
theorem ayp{f_19:Addr}{e_19:FuncData}(Fu_19:Fun K "_law_shape" "_law_shape" (top 27) f_19 e_19)(mk_19:mg "_law_shape" = some (.ref f_19))(kp_19:PySem.W.keepIn K (.ref f_19)=true)(bd_19:Binds K e_19 ["_law_left","_law_tongue_here","_law_deep","_law_purse","_law_room"] [])(M:Nm mg){a_14:Addr}{d_14:FuncData}(D_14:Dn P w K mg base 1 "_law_draw" ["_law_left","_law_many"] (ph K 2 (SRC.ak)) a_14 d_14){a_17:Addr}{d_17:FuncData}(D_17:Dn P w K mg base 2 "_law_ones" ["_law_left","_law_tongue_here"] (ph K 2 (DRW.lq)) a_17 d_17){a_18:Addr}{agb:FuncData}(D_18:Dn P w K mg base 5 "_law_weight" ["_law_shape_here"] (ph K 1 (DRW.au 5)) a_18 agb):∀n:Nat,Dn P w K mg base (n+5) "_law_shape" ["_law_left","_law_tongue_here","_law_deep","_law_purse","_law_room"] (ph K 5 (DRW.dh n)) f_19 e_19:=by
 intro n
 induction n with
 |zero=>exact⟨a95 (ps:=["_law_left","_law_tongue_here","_law_deep","_law_purse","_law_room"]),mk_19,kp_19,bd_19⟩
 |succ n ih =>
  have e:n+1+5=n+5+1:=by omega
  rw[e];have s_law_shape:=ih;exact⟨a1j Fu_19 auu (b0u M D_14 (by omega) D_17 (by omega) s_law_shape (by omega) D_18 (by omega)),mk_19,kp_19,bd_19⟩
theorem aw9{f_21:Addr}{e_21:FuncData}(Fu_21:Fun K "_law_comes" "_law_comes" (top 29) f_21 e_21)(mk_21:mg "_law_comes" = some (.ref f_21))(kp_21:PySem.W.keepIn K (.ref f_21)=true)(bd_21:Binds K e_21 ["_law_shape_here","_law_at","_law_row","_law_k"] []){f_22:Addr}{e_22:FuncData}(Fu_22:Fun K "_law_comes_behind" "_law_comes_behind" (top 30) f_22 e_22)(mk_22:mg "_law_comes_behind" = some (.ref f_22))(kp_22:PySem.W.keepIn K (.ref f_22)=true)(bd_22:Binds K e_22 ["_law_part","_law_at","_law_row","_law_here"] []){f_23:Addr}{e_23:FuncData}(Fu_23:Fun K "_law_comes_often" "_law_comes_often" (top 31) f_23 e_23)(mk_23:mg "_law_comes_often" = some (.ref f_23))(kp_23:PySem.W.keepIn K (.ref f_23)=true)(bd_23:Binds K e_23 ["_law_part","_law_at","_law_row","_law_k"] [])(M:Nm mg){a_20:Addr}{d_20:FuncData}(D_20:Dn P w K mg base 1 "_law_laid" ["_law_shape_here"] (ph K 1 (K11.ie)) a_20 d_20){a_18:Addr}{agb:FuncData}(D_18:Dn P w K mg base 5 "_law_weight" ["_law_shape_here"] (ph K 1 (DRW.au 5)) a_18 agb):∀n:Nat,Dn P w K mg base (n+5) "_law_comes" ["_law_shape_here","_law_at","_law_row","_law_k"] (ph K 4 (K12.bw n)) f_21 e_21/\Dn P w K mg base (n+5) "_law_comes_behind" ["_law_part","_law_at","_law_row","_law_here"] (ph K 4 (K12.g8 n)) f_22 e_22/\Dn P w K mg base (n+5) "_law_comes_often" ["_law_part","_law_at","_law_row","_law_k"] (ph K 4 (K12.iz n)) f_23 e_23:=by
 intro n
 induction n with
 |zero=>exact⟨⟨a95 (ps:=["_law_shape_here","_law_at","_law_row","_law_k"]),mk_21,kp_21,bd_21⟩,⟨a95 (ps:=["_law_part","_law_at","_law_row","_law_here"]),mk_22,kp_22,bd_22⟩,⟨a95 (ps:=["_law_part","_law_at","_law_row","_law_k"]),mk_23,kp_23,bd_23⟩⟩
 |succ n ih =>
  have e:n+1+5=n+5+1:=by omega
  rw[e];obtain⟨s_law_comes,s_law_comes_behind,s_law_comes_often⟩:=ih;exact⟨⟨a1j Fu_21 auw (b0w M s_law_comes (by omega) s_law_comes_behind (by omega) s_law_comes_often (by omega) D_20 (by omega) D_18 (by omega)),mk_21,kp_21,bd_21⟩,⟨a1j Fu_22 auy (b0x M s_law_comes (by omega)),mk_22,kp_22,bd_22⟩,⟨a1j Fu_23 auz (b0y M s_law_comes (by omega)),mk_23,kp_23,bd_23⟩⟩
theorem ayq{f_24:Addr}{e_24:FuncData}(Fu_24:Fun K "_law_course" "_law_course" (top 32) f_24 e_24)(mk_24:mg "_law_course" = some (.ref f_24))(kp_24:PySem.W.keepIn K (.ref f_24)=true)(bd_24:Binds K e_24 ["_law_left","_law_shape_here","_law_at"] [])(M:Nm mg){a_14:Addr}{d_14:FuncData}(D_14:Dn P w K mg base 1 "_law_draw" ["_law_left","_law_many"] (ph K 2 (SRC.ak)) a_14 d_14){a_20:Addr}{d_20:FuncData}(D_20:Dn P w K mg base 1 "_law_laid" ["_law_shape_here"] (ph K 1 (K11.ie)) a_20 d_20){a_18:Addr}{agb:FuncData}(D_18:Dn P w K mg base 5 "_law_weight" ["_law_shape_here"] (ph K 1 (DRW.au 5)) a_18 agb):∀n:Nat,Dn P w K mg base (n+5) "_law_course" ["_law_left","_law_shape_here","_law_at"] (ph K 3 (K12.cj n)) f_24 e_24:=by
 intro n
 induction n with
 |zero=>exact⟨a95 (ps:=["_law_left","_law_shape_here","_law_at"]),mk_24,kp_24,bd_24⟩
 |succ n ih =>
  have e:n+1+5=n+5+1:=by omega
  rw[e];have s_law_course:=ih;exact⟨a1j Fu_24 av0 (b0z M s_law_course (by omega) D_14 (by omega) D_20 (by omega) D_18 (by omega)),mk_24,kp_24,bd_24⟩
end
def amk(K:Fg):Sp:=λvs H Q _=>∃(a:Addr) (ns:List Int),vs=[.ref a]/\SqF K H a (ns.map V.int)/\ns.length<=63/\∀H',Q (.bl true) H'
theorem a1z{K:Fg}{ι:List Addr}{H:Hp}:∀ns:List Int,Reps K ι H (ns.map V.int) (ns.map D.int)
 |[]=>.nil
 |n::ns=>.cons (.int n) (a1z ns)
theorem awa{K:Fg}(vs:List V)(H:Hp)(Q:VK)(E:XK)(h:amk K vs H Q E):ph K 1 K12.amj vs H Q E:=by
 obtain⟨a,ns,rfl,hS,hl,q⟩:=h;obtain⟨h',e⟩:=K12.aw8 ns;refine⟨rfl,[],[.scr (ns.map D.int)],[],.cons (.scr hS (a1z ns)) .nil,⟨gJ,rfl,λi a o z=>by simp at z⟩,?_⟩
 rw[e]
 intro ι' H' b g r hr
 cases r
 exact q H'
theorem awb{K:Fg}{H:Hp}{a:Addr}{vs:List V}(hO:Only H)(hS:SqL K H a vs):SqF K H a vs:=by
 rcases hS with r|r
 ·rcases r with r|⟨o,r⟩
  ·rcases hO a with z|⟨o,xs,z⟩<;>rw[z]at r<;>cases r
  ·exact .inl ⟨o,r⟩
 ·exact .inr (.inr r)
abbrev fo(x:Str)(t:Stmt)(kV dc pm:Value)(an:Option Addr)(cd ct:Value):=PySem.W.fnOf x x (a1r t) (vo t) (cz t) .none kV dc pm an cd ct
def Df(K:Fg)(f:Addr)(nm:Str)(i:Nat):Prop:=∃oc od kV dc pm an cd ct sl,PySem.W.nsIn K mainGlobals nm=some (some (.ref f))/\K.lookup f=some ⟨oc,od,.func (fo nm (top i) kV dc pm an cd ct),sl⟩/\PySem.W.codeIn K cd nm=true/\PySem.W.keepIn K (.ref f)=true
theorem df{K:Fg}{f:Addr}{nm:Str}{i:Nat}(d:Df K f nm i):∃e,PySem.W.nsIn K mainGlobals nm=some (some (.ref f))/\Fun K nm nm (top i) f e:=by
 obtain⟨_,_,_,_,_,_,_,_,_,a,l,c,k⟩:=d;exact⟨_,a,amr l c k⟩
theorem a1n{P:Program}{w:World}{K:Fg}{mg:Str->Option Value}{base h:Heap}{f:Addr}{nm:Str}{i k:Nat}{F:SF}{N ps:List Str}{b:SS}(S:FnScope N ps (cz (top i)))(d:Df K f nm i)(X:K.In h)(G:h.Ns mainGlobals mg)
  (hb:∀(cdv:Value) (A:Around) (outer:List Env) (s:Shared) (H:Hp) (E:XK),Room k (A.deeper (PyProof.Rows.envOfC nm (cz (top i)) s.heap.objs.size f cdv))->MSs (agq CX0 P w K mg base N nm (cz (top i)) f cdv A outer s H E).nox X0 (vo (top i)) b)
  (h:∀(kV doc pm:Value) (an:Option Addr) (cdv ct:Value) (us:List Value),us.length=ps.length->bindArgs (PySem.W.fnOf nm nm (a1r (top i)) (vo (top i)) (cz (top i)) .none kV doc pm an cdv ct) ⟨us,[]⟩=pure (ps.zip us)) (e:F=nq b N.length:=by rfl) :
  ∃fd,Dn P w K mg base (k+1) nm ps (ph K ps.length F) f fd:=by
 obtain⟨_,a,Fu⟩:=df d;rw[e];exact⟨_,a1j Fu S hb,cB X G a,Fu.kp,Fu.binds h⟩
local macro_rules|`(tactic|walk_at "b") => `(tactic|(intro _ _ _ _ _ _ us hl;first|(apply az8 hl;intro _;exact rfl)|(apply auk hl;intro _ _;exact rfl)|(apply az9 hl;intro _ _ _;exact rfl)|(apply aza hl;intro _ _ _ _;exact rfl)|(apply azb hl;intro _ _ _ _ _;exact rfl)|(apply b0k hl;intro _ _ _ _ _ _;exact rfl)|(apply len0 hl;exact rfl)))
theorem awc{l:PySem.W.OpenLaw}{w:World}{K:Fg}{h:Heap}{mg:Str->Option Value}{fa f1 f2 f3 f4 f5 f6 f7 f8 f9 f10 f11 f12 f13 f14 f15 f16 f17 f18 f19 f20 f21 f22 f23 f24 f25 f26 f27 f28:Addr}(X:K.In h)(G:h.Ns mainGlobals mg)(hfa:mg "law" = some (.ref fa))
  (d1:Df K f1 "rising" 4)
  (d2:Df K f2 "inner" 7)
  (d3:Df K f3 "weight" 8)
  (d4:Df K f4 "spread" 11)
  (d5:Df K f5 "patch_rows" 12)
  (d6:Df K f6 "patch_of" 13)
  (d7:Df K f7 "patches_of" 14)
  (d8:Df K f8 "joined" 15)
  (d9:Df K f9 "patch_in_turn" 16)
  (d10:Df K f10 "patch_of_one" 17)
  (d11:Df K f11 "patch_again" 18)
  (d12:Df K f12 "patch_of_times" 19)
  (d13:Df K f13 "_law_source" 21)
  (d14:Df K f14 "_law_draw" 22)
  (d15:Df K f15 "_law_signs" 23)
  (d16:Df K f16 "_law_tongue" 24)
  (d17:Df K f17 "_law_ones" 25)
  (d18:Df K f18 "_law_weight" 26)
  (d19:Df K f19 "_law_shape" 27)
  (d20:Df K f20 "_law_laid" 28)
  (d21:Df K f21 "_law_comes" 29)
  (d22:Df K f22 "_law_comes_behind" 30)
  (d23:Df K f23 "_law_comes_often" 31)
  (d24:Df K f24 "_law_course" 32)
  (d25:Df K f25 "_law_gone" 33)
  (d26:Df K f26 "_law_bent" 34)
  (d27:Df K f27 "_law_along" 35)
  (d28:Df K f28 "law" 36)
  {C1 j1:Addr} {jc1:Value} {jd1 jn1:Option Addr} {js1:Array (Option Value)} {jk1 jo1 jp1 jv1 jt1:Value}
  (q1:PySem.W.nsIn K mainGlobals "Patch" = some (some (.ref C1))) (qc1:Cls K C1) (qn1_0:NoAttr K C1 "signs") (qn1_1:NoAttr K C1 "firsts") (qn1_2:NoAttr K C1 "pairs") (qn1_3:NoAttr K C1 "lasts") (qn1_4:NoAttr K C1 "empty") (qm1:Mk K C1 j1) (jl1:K.lookup j1=some ⟨jc1,jd1,.func (PySem.W.fnOf "__init__" "Patch.__init__" (a1r (cst (top 10) 0)) (vo (cst (top 10) 0)) (cz (cst (top 10) 0)) .none jk1 jo1 jp1 jn1 jv1 jt1),js1⟩) (ji1:PySem.W.codeIn K jv1 "Patch.__init__" = true) (je1:PySem.W.keepIn K (.ref j1)=true)
  (z1:PySem.W.nsIn K mainGlobals "abs" = some none) (z2:PySem.W.nsIn K mainGlobals "enumerate" = some none) (z3:PySem.W.nsIn K mainGlobals "int" = some none) (z4:PySem.W.nsIn K mainGlobals "len" = some none) (z5:PySem.W.nsIn K mainGlobals "max" = some none) (z6:PySem.W.nsIn K mainGlobals "range" = some none) (z7:PySem.W.nsIn K mainGlobals "reversed" = some none) (z8:PySem.W.nsIn K mainGlobals "set" = some none) (z9:PySem.W.nsIn K mainGlobals "sorted" = some none) (z10:PySem.W.nsIn K mainGlobals "sum" = some none) (z11:PySem.W.nsIn K mainGlobals "tuple" = some none) {ty1:Tok} (y1:PySem.W.nsIn K mainGlobals "HEAVIEST" = some (some (.int 10 ty1))) :
  ∃fd:FuncData,(∀(s:Shared) (v:Value),BindsTo s fd ⟨[v],[]⟩ [("_law_script",v)])/\∀base:Heap,K.In base->base.Ns mainGlobals mg->FnOk l.prog w K mg base CX0 17 fa fd ["_law_script"] (amk K):=by
 obtain⟨_,a3,F3⟩:=df d3;have b3:=F3.binds (ps:=["shape"]) (by walk_at "b")
 obtain⟨_,a6,F6⟩:=df d6;have b6:=F6.binds (ps:=["shape","at"]) (by walk_at "b")
 obtain⟨_,a7,F7⟩:=df d7;have b7:=F7.binds (ps:=["shapes","at"]) (by walk_at "b")
 obtain⟨_,a18,F18⟩:=df d18;have b18:=F18.binds (ps:=["_law_shape_here"]) (by walk_at "b")
 obtain⟨_,a19,F19⟩:=df d19;have b19:=F19.binds (ps:=["_law_left","_law_tongue_here","_law_deep","_law_purse","_law_room"]) (by walk_at "b")
 obtain⟨_,a21,F21⟩:=df d21;have b21:=F21.binds (ps:=["_law_shape_here","_law_at","_law_row","_law_k"]) (by walk_at "b")
 obtain⟨_,a22,F22⟩:=df d22;have b22:=F22.binds (ps:=["_law_part","_law_at","_law_row","_law_here"]) (by walk_at "b")
 obtain⟨_,a23,F23⟩:=df d23;have b23:=F23.binds (ps:=["_law_part","_law_at","_law_row","_law_k"]) (by walk_at "b")
 obtain⟨_,a24,F24⟩:=df d24;have b24:=F24.binds (ps:=["_law_left","_law_shape_here","_law_at"]) (by walk_at "b")
 obtain⟨_,a28,F28⟩:=df d28;have e:=hfa.symm.trans (cB X G a28);cases e
 obtain⟨oc,od,kV28,dc28,pm28,an28,cd28,ct28,sl,rfl,lk,hc⟩:=id F28.ex;have b28:=F28.binds (ps:=["_law_script"]) (by walk_at "b")
 have M:Nm mg:=⟨bT X G z1,bT X G z2,bT X G z3,bT X G z4,bT X G z5,bT X G z6,bT X G z7,bT X G z8,bT X G z9,bT X G z10,bT X G z11⟩;have C:Cn mg:=⟨⟨_,cB X G y1⟩⟩;refine⟨PySem.W.fnOf "law" "law" (a1r (top 36)) (vo (top 36)) (cz (top 36)) .none kV28 dc28 pm28 an28 cd28 ct28,λs v=>.of_eq rfl,λbase _ _=>?_⟩;have Q_Patch:CK K mg "Patch" C1 ["signs","firsts","pairs","lasts","empty"]:=⟨cB X G q1,q1,qc1,λk hk=>by
  simp only[aO,bD,dA]at hk
  rcases hk with rfl|rfl|rfl|rfl|rfl
  ·exact qn1_0
  ·exact qn1_1
  ·exact qn1_2
  ·exact qn1_3
  ·exact qn1_4⟩
 have J1:=amr (st:=cst (top 10) 0) jl1 ji1 je1;have jb1:=J1.binds (ps:=["self","signs","firsts","pairs","lasts","empty"]) (by walk_at "b")
 have D_3:Di l.prog w K mg base 1 "Patch" C1 ["signs","firsts","pairs","lasts","empty"] ["self","signs","firsts","pairs","lasts","empty"] 5 K11.bh _ _:=⟨a1j J1 azf (m_3 Q_Patch),jb1,qm1,Q_Patch⟩;obtain⟨_,D_0⟩:=a1n (F:=K11.jj) (k:=0) azc d1 X G (m_0 M) (by walk_at "b")
 obtain⟨_,D_1⟩:=a1n (F:=ENG.v7) (k:=0) azd d2 X G (m_1 ) (by walk_at "b")
 have D_2:=d_2 (P:=l.prog) (w:=w) (base:=base) F3 (cB X G a3) F3.kp b3 M D_1 5;obtain⟨_,D_11⟩:=a1n (F:=K11.kj) (k:=2) aum d11 X G (b0m Q_Patch D_3 (by decide)) (by walk_at "b")
 obtain⟨_,D_8⟩:=a1n (F:=K11.jz) (k:=2) azk d8 X G (m_8 Q_Patch D_3 (by decide)) (by walk_at "b")
 obtain⟨_,D_9⟩:=a1n (F:=K11.je) (k:=3) azl d9 X G (m_9 Q_Patch D_3 (by decide) D_8 (by decide)) (by walk_at "b")
 obtain⟨_,D_10⟩:=a1n (F:=K11.ji) (k:=2) aul d10 X G (b0l Q_Patch D_3 (by decide)) (by walk_at "b")
 obtain⟨_,D_12⟩:=a1n (F:=K11.jb) (k:=3) aun d12 X G (b0n M Q_Patch D_3 (by decide) D_8 (by decide)) (by walk_at "b")
 obtain⟨D_6,D_7⟩:=d_6 (P:=l.prog) (w:=w) (base:=base) F6 (cB X G a6) F6.kp b6 F7 (cB X G a7) F7.kp b7 M Q_Patch D_3 D_11 D_9 D_10 D_12 10;obtain⟨_,D_5⟩:=a1n (F:=K11.u6) (k:=1) azh d5 X G (m_5 M Q_Patch D_0 (by decide)) (by walk_at "b")
 obtain⟨_,D_4⟩:=a1n (F:=K15.n6) (k:=14) azg d4 X G (m_4 C D_6 (by decide) D_5 (by decide) D_2 (by decide)) (by walk_at "b")
 obtain⟨_,D_13⟩:=a1n (F:=SRC.gh) (k:=0) auo d13 X G (b0o M) (by walk_at "b")
 obtain⟨_,D_14⟩:=a1n (F:=SRC.ak) (k:=0) aup d14 X G (b0p M) (by walk_at "b")
 obtain⟨_,D_15⟩:=a1n (F:=SRC.jw) (k:=0) auq d15 X G (b0q ) (by walk_at "b")
 obtain⟨_,D_16⟩:=a1n (F:=SRC.gw) (k:=1) aur d16 X G (b0r M D_14 (by decide) D_15 (by decide)) (by walk_at "b")
 obtain⟨_,D_17⟩:=a1n (F:=DRW.lq) (k:=1) aus d17 X G (b0s M D_14 (by decide)) (by walk_at "b")
 have D_18:=agb (P:=l.prog) (w:=w) (base:=base) F18 (cB X G a18) F18.kp b18 M 5;have D_19:=ayp (P:=l.prog) (w:=w) (base:=base) F19 (cB X G a19) F19.kp b19 M D_14 D_17 D_18 5;obtain⟨_,D_20⟩:=a1n (F:=K11.ie) (k:=0) auv d20 X G (b0v ) (by walk_at "b")
 obtain⟨D_21,D_22,D_23⟩:=aw9 (P:=l.prog) (w:=w) (base:=base) F21 (cB X G a21) F21.kp b21 F22 (cB X G a22) F22.kp b22 F23 (cB X G a23) F23.kp b23 M D_20 D_18 11;have D_24:=ayq (P:=l.prog) (w:=w) (base:=base) F24 (cB X G a24) F24.kp b24 M D_14 D_20 D_18 5;obtain⟨_,D_25⟩:=a1n (F:=K12.j7) (k:=1) av1 d25 X G (b11 M D_14 (by decide)) (by walk_at "b")
 obtain⟨_,D_26⟩:=a1n (F:=K12.j4) (k:=1) av2 d26 X G (b12 M D_14 (by decide)) (by walk_at "b")
 obtain⟨_,D_27⟩:=a1n (F:=K12.j6) (k:=0) av3 d27 X G (b13 ) (by walk_at "b")
 have D_28:Dn l.prog w K mg base 17 "law" ["_law_script"] (ph K 1 (K12.amj)) _ _:=⟨a1j F28 av4 (b14 M D_27 (by decide) D_26 (by decide) D_21 (by decide) D_24 (by decide) D_14 (by decide) D_25 (by decide) D_19 (by decide) D_13 (by decide) D_16 (by decide) D_18 (by decide) D_4 (by decide)),cB X G a28,F28.kp,b28⟩
 exact D_28.ok.imp awa
theorem walk{l:PySem.W.OpenLaw}{q:Program}{loose:List Str}{XP:(Str->Option Value)->Heap->Prop}{YP:World->Heap->Prop}{d:DefRec}{K:Params->Fg}(hn:l.most=some 63)(hdf:d.params.defaults=[])
  (hY:∀(w:World) (h:Heap),YP w h->(K w.params).In h)
  (F:∀(w:World) (mg:Str->Option Value) (fa:Addr) (h:Heap),(K w.params).In h->h.Ns mainGlobals mg->mg d.name=some (.ref fa)->
   ∃fd:FuncData,(∀(s:Shared) (u:Value),BindsTo s fd ⟨[u],[]⟩ [("_law_script",u)])/\∀base:Heap,(K w.params).In base->base.Ns mainGlobals mg->FnOk l.prog w (K w.params) mg base CX0 17 fa fd ["_law_script"] (amk (K w.params))) :
  PySem.W.WalkO q loose XP YP l.row.toRowW d [] (λf vs=>PySem.call f vs) :=
 L2.aou (n:=63) (k:=17) (x := "_law_script") (CX:=λ_=>CX0) (sp:=λw=>amk (K w.params)) hn (by decide) hdf ⟨rfl,by decide,by decide,rfl⟩ hY F (λ_ _ a ns hl hO hS=>⟨a,ns,rfl,awb hO hS,hl,λ_=>rfl⟩) λ_ _ _ _ _ z=>z
end K12
open PySem.W PyProof.Rows
local macro_rules|`(tactic|o_head $H) => `(tactic|refine PySem.W.holds_open (q:=K12.hq) (loose:=K12.hl) (Xt:=fun _=>true) (XP:=fun _ _=>True) (Yf:=Hook.obs $H) (Ya:=Hook.val $H) (YP:=Hook.says $H) (N:=20000) ?hl (Hook.of $H) (Hook.keeps $H) (fun _ _=>trivial) (fun _ _ _ _ _=>trivial) (by rfl) (by rfl) (by rfl) (fun _ _=>recFacts_nil rfl) (by rfl) (by assumption) (by decide +kernel) ⟨rfl,rfl,rfl,rfl,rfl,by decide +kernel⟩ ?hw ?hc)
set_option maxRecDepth 100000 in
set_option maxHeartbeats 0 in
theorem PySem.Challenge.cw_nearreach_k12_whole_courses_and_spreads_holds : PySem.Challenge.rw_nearreach_k12_whole_courses_and_spreads.Holds := by
 w_on;refine holds_law K12.said fun said=>?_;o_head (kHook K12.A.heap_1 [2,3,15,22,23,24,25,28,35,36,37,40,42,43,45,46,47,49,50,52,53,54,57,58,66,68,69,71,72,73,74,75,76,77,80,82,83,85,86,87,90,91,92,94,95,97,98,99,101,102,104,105,106,109,110,111,113,114,116,117,118,120,121,123,124,125,128,129,130,132,133,135,136,137,140,141,142,144,145,147,148,149,151,152,154,155,156,158,159,161,162,163,165,166,168,169,170,173,174,175,177,178,180,181,182,184,185,187,188,189,191,192,194,195,196,198,199,201,202,203,205,206,208,209,210,212,213,215,216,217,219,220,222,223,224,226,227,229,230,231,233,234,236,237,238,241,242] (fun _=>by kernel_rfl))
 (case hw=>w_witness2)
 (case hl=>exact K12.hlok)
 k_fill
 refine K12.walk (l:=PySem.Challenge.rw_nearreach_k12_whole_courses_and_spreads) rfl rfl (fun w h Y=>PySem.W.kIn_of Y) ?F
 case F =>
  intro w mg fa h KX G hmg
  refine' K12.awc KX G hmg ?_ ?_ ?_ ?_ ?_ ?_ ?_ ?_ ?_ ?_ ?_ ?_ ?_ ?_ ?_ ?_ ?_ ?_ ?_ ?_ ?_ ?_ ?_ ?_ ?_ ?_ ?_ ?_ ?q1 ?qc1 ?qn1_0 ?qn1_1 ?qn1_2 ?qn1_3 ?qn1_4 ?qm1 ?jl1 ?ji1 ?je1 ?_ ?_ ?_ ?_ ?_ ?_ ?_ ?_ ?_ ?_ ?_ ?y1
  all_goals first | k_is | exact ⟨_,_,_,_,_,_,_,_,_,by k_is,by k_is,by k_is,by k_is⟩ | skip
  try (case q1=>k_is)
  try (case qm1=>constructor<;>first | k_is | kernel_rfl)
  try (case jl1=>k_is)
  try (case ji1=>k_is)
  try (case je1=>k_is)
  try (case qc1=>constructor<;>first | k_is | kernel_rfl)
  try (case qn1_0=>unfold L2.NoAttr;kernel_rfl)
  try (case qn1_1=>unfold L2.NoAttr;kernel_rfl)
  try (case qn1_2=>unfold L2.NoAttr;kernel_rfl)
  try (case qn1_3=>unfold L2.NoAttr;kernel_rfl)
  try (case qn1_4=>unfold L2.NoAttr;kernel_rfl)
  try (case y1=>k_is)
