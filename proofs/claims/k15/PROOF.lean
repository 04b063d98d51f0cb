import PyProof.Rows.All
import Wide.All
import OpenK.AllK
import Wide.FinOn
import Lean
import PyProof.EqAt
import PyProof.EqKinds
import PyProof.TupleCall
import PyProof.ListStr
import PyProof.TupleOfStr
import PyProof.ConsumeWalk
import PyProof.SliceStr2
import PyProof.CompUse
import PyProof.Rows.SetFrom
import PyProof.SetRoads
import PyProof.StrLawsIn
import PyProof.Rows.StrIndexOr
import PyProof.Rows.StrJoin2
import PyProof.Rows.SumAny
import PyProof.WalkInts
import PyProof.SeqI3
import PyProof.Draws
import PyProof.ZipIter
import PyProof.EnumMake
import Wide.Txt2
import PyProof.Rows.SortWalk
import PyProof.ListRange
import PyProof.Rows.Range3
import KE.KStateDown
import PyProof.ReprRoads
import PyProof.CallFns
import PyProof.WalksMore
import KE.KTryDeep
import PyProof.ExcBaseAll.ValueError
import KE.KTryMore
import KE.KIsNot
import PyProof.ExcAttrAll.ValueError
import PyProof.NsDelKeeps
import PySem.SetOps
import PyProof.SetScanFacts
import PyProof.Walks
import PyProof.CollectWalk
import PyProof.SumWalk
import PyProof.SeqWrite
import KE.KRevIter
import PyProof.CollectIter
import PyProof.WalksS
import PyProof.Rows.StrOr
import PyProof.Rows.RuleB_pow
import PySem.Challenge.RW_nearreach_k15_ways_looked_at
set_option bootstrap.genMatcherCode false
set_option genSizeOf false
noncomputable section
set_option Elab.async false
set_option linter.all false
set_option maxRecDepth 100000
set_option maxHeartbeats 4000000
section
open PySem PySem.W PyProof.Rows
theorem K15.said:PySem.Challenge.rw_nearreach_k15_ways_looked_at.wellSaid=true:=by kernel_rfl
def K15.hq:Program:=view PySem.Challenge.pw_nearreach_k15_ways_looked_at [PySem.Challenge.pw_nearreach_k15_ways_looked_at.main.body.length - 1]
def K15.hl:List Str:=PySem.Challenge.pw_nearreach_k15_ways_looked_at.boundNames
local macro_rules | `(tactic| o_head $H) => `(tactic| refine PySem.W.holds_open (q:=K15.hq) (loose:=K15.hl) (Xt:=fun _=>true) (XP:=fun _ _=>True) (Yf:=Hook.obs $H) (Ya:=Hook.val $H) (YP:=Hook.says $H) (N:=20000) ?hl (Hook.of $H) (Hook.keeps $H) (fun _ _=>trivial) (fun _ _ _ _ _=>trivial) (by rfl) (by rfl) (by rfl) (fun _ _=>recFacts_nil rfl) (by rfl) (by assumption) (by decide +kernel) ⟨rfl,rfl,rfl,rfl,rfl,by decide +kernel⟩ ?hw ?hc)
set_option maxRecDepth 100000 in
set_option maxHeartbeats 0 in
theorem K15.A (hyp:∀ p:Prop,p):PySem.Challenge.rw_nearreach_k15_ways_looked_at.Holds:=by
 w_on;refine holds_law K15.said fun said=>?_;k_head
 all_goals exact hyp _
set_option maxRecDepth 100000 in
set_option maxHeartbeats 0 in
theorem K15.hlok:LeftO PySem.Challenge.rw_nearreach_k15_ways_looked_at.row.prog K15.hq K15.hl (fun _=>true) (Hook.obs (kHook K15.A.heap_1 [2,3,15,17,18,20,21,22,24,25,27,28,29,31,32,34,35,36,43,44,45,46,49,56,57,58,61,63,64,66,67,68,71,72,80,82,83,85,86,87,88,89,90,91,94,96,97,99,100,101,104,105,106,108,109,111,112,113,115,116,118,119,120,123,124,125,127,128,130,131,132,134,135,137,138,139,142,143,144,146,147,149,150,151,154,155,156,158,159,161,162,163,166,167,168,171,172,173,175,176,178,179,180,183,184,185,187,188,190,191,192,194,195,197,198,199,201,202,204,205,206,208,209,211,212,213,216,217,218,220,221,223,224,225,228,229,230,232,233,235,236,237,239,240,242,243,244,246,247,249,250,251,253,254,256,257,258,260,261,263,264,265,267,268,270,271,272,275,276,277,280,281] (fun _=>by kernel_rfl))) (Hook.val (kHook K15.A.heap_1 [2,3,15,17,18,20,21,22,24,25,27,28,29,31,32,34,35,36,43,44,45,46,49,56,57,58,61,63,64,66,67,68,71,72,80,82,83,85,86,87,88,89,90,91,94,96,97,99,100,101,104,105,106,108,109,111,112,113,115,116,118,119,120,123,124,125,127,128,130,131,132,134,135,137,138,139,142,143,144,146,147,149,150,151,154,155,156,158,159,161,162,163,166,167,168,171,172,173,175,176,178,179,180,183,184,185,187,188,190,191,192,194,195,197,198,199,201,202,204,205,206,208,209,211,212,213,216,217,218,220,221,223,224,225,228,229,230,232,233,235,236,237,239,240,242,243,244,246,247,249,250,251,253,254,256,257,258,260,261,263,264,265,267,268,270,271,272,275,276,277,280,281] (fun _=>by kernel_rfl))) 20000:=by
 intro w
 kernel_rfl
end
abbrev Fg:=PySem.W.Frag
def ae:=@PySem.wpAny_bind
def af:=@PySem.Heap.get?_push_of_some
def ag:=@List.getElem?_eq_getElem
def ah:=@List.length_append
def ai:=@List.getElem?_eq_some_iff
def ar:=@List.length_map
def av:=@PySem.wpAny_pure
def aw:=@Nat.le_refl
def ax:=@List.mem_singleton
def ay:=@List.size_toArray
def aI:=@congrArg
def aJ:=@if_pos
def aK:=@List.getElem?_append_right
def aL:=@List.mem_cons
def aM:=@List.length_singleton
def aN:=@List.length_cons
def aO:=@PySem.Heap.get?_push_size
def aP:=@PySem.Heap.lt_size
def aQ:=@List.length_take
def aR:=@Option.map_eq_some_iff
def aS:=@List.mem_append_right
def aT:=@Nat.lt_of_lt_of_le
def aU:=@Eq.trans
def aV:=@List.getElem?_append_left
def aW:=@List.mem_cons_of_mem
def aX:=@Bool.false_ne_true
def aY:=@List.length_drop
def aZ:=@List.map_cons
def ba:=@if_neg
def bb:=@Nat.zero_le
def bg:=@List.not_mem_nil
def bp:=@Array.length_toList
def bq:=@List.mem_append
def br:=@Nat.ne_of_lt
def bA:=@List.replicate_succ
def bB:=@List.mem_cons_self
def bC:=@Nat.le_trans
def bD:=@List.getElem?_map
def bE:=@List.append_nil
def bF:=@List.map_append
def bG:=@List.mem_of_getElem?
def bH:=@PySem.W.mg_none_of
def bI:=@decide_eq_false
def bJ:=@PyProof.Rows.slot_tuple_getitem
def bK:=@List.length_nil
def bL:=@PySem.wpAny_mono
def bM:=@Bool.and_eq_true
def bN:=@List.all_eq_true
def bO:=@Array.getElem?_eq_getElem
def bP:=@Option.some.inj
def bQ:=@beq_eq_false_iff_ne
def bR:=@PySem.F.slot_list_append
def bS:=@Bool.or_eq_true
def bT:=@PySem.PassesOwn.never
def bU:=@Nat.lt_irrefl
def bV:=@PySem.wpAny_newObj_type
def bW:=@List.getElem_mem
def bX:=@List.cons_append
def bY:=@PySem.wpAny_callSpecial?_slot
def bZ:=@List.dropLast_eq_take
def cb:=@PySem.mem_of_lookup
def cf:=@List.mem_map
def cm:=@PySem.wpAny_call_entry
def cv:=@List.flatten_cons
def cA:=@List.append_assoc
def cB:=@PySem.Heap.size_push
def cC:=@List.take_of_length_le
def cD:=@List.drop_eq_nil_of_le
def cF:=@PySem.F.type_list_append
def cG:=@List.mem_filter
def cH:=@PyProof.Rows.callWith_type1
def cI:=@PySem.W.kia_one
def cJ:=@List.length_replicate
def cK:=@List.nodup_append
def cL:=@List.getElem?_of_mem
def cM:=@List.map_nil
def cN:=@Nat.succ_mul
def cP:=@Bool.false_eq_true
def cQ:=@List.getElem?_set_self
def cR:=@List.pairwise_iff_getElem
def cT:=@Nat.add_assoc
def cU:=@PySem.wpAny_truthy_bool
def cV:=@List.length_range
def cW:=@or_false
def cX:=@PySem.wpAny_holding
def cY:=@PySem.F.slot_int_rmul
def da:=@List.length_eq_zero_iff
def de:=@List.mem_append_left
def dk:=@Nat.mul_le_mul_right
def dA:=@List.getD_eq_getElem?_getD
def dB:=@PySem.Heap.get?_update_other
def dC:=@List.filterMap_cons
def dD:=@PySem.wpAny_field
def dE:=@PySem.Heap.SameBut.update
def dF:=@PySem.wpAny_setState_of
def dG:=@List.map_congr_left
def dH:=@List.mem_range
def dI:=@PySem.wpAny_binaryOp_repeat_ref
def dJ:=@List.drop_eq_getElem_cons
def dM:=@Nat.mul_le_mul
def dN:=@PySem.W.mg_of
def dO:=@if_true
def dP:=@PySem.Heap.get?_update_self
def dQ:=@Nat.succ_pos
def dR:=@List.getElem?_eq_none
def dS:=@List.map_map
def dU:=@List.length_filter_le
def dW:=@PySem.call_meets
def dX:=@PySem.Around.under_plainId
def dY:=@PySem.wpAny_standAt
def dZ:=@List.getElem?_replicate
def e8:=@decide_eq_true
def ee:=@Int.toNat_natCast
def eh:=@decide_eq_true_eq
def ei:=@Nat.le_of_lt_succ
def eA:=@List.nil_append
def eB:=@List.length_reverse
def eC:=@PySem.F.slot_tuple_iterator_next
def eD:=@beq_iff_eq
def eE:=@PySem.wpAny_Call_Name_kw
def eF:=@Int.emod_lt_of_pos
def eG:=@List.map_replicate
def eH:=@List.eq_nil_or_concat
def eI:=@List.concat_eq_append
def eJ:=@Classical.byContradiction
def eK:=@List.getLastD_eq_getLast?
def eL:=@List.getElem?_set_ne
def eM:=@List.mem_of_mem_take
def eN:=@PySem.wpAny_passesOwn
def eO:=@List.reverse_cons
def eP:=@not_true_eq_false
def eQ:=@PySem.codeAny_builtin
def eR:=@PySem.F.slot_list_extend
def eS:=@PySem.F.type_list_extend
def eU:=@List.eq_of_mem_replicate
def eV:=@Int.ofNat_inj
def eW:=@Nat.lt_succ_self
def eX:=@beq_self_eq_true
def eY:=@PySem.typeIs_int
def fg:=@PySem.wpAny_setField_rec
def fh:=@List.nodup_cons
def fk:=@PySem.F.called_set
def fm:=@Int.emod_nonneg
def fq:=@PySem.F.args_int_rmul_2
def fv:=@List.foldl_append
def fz:=@Ne.symm
def fA:=@List.mem_iff_getElem
def fB:=@List.length_dropLast
def fD:=@List.mem_of_mem_drop
def fE:=@List.getElem?_zip_eq_some
def fF:=@PySem.wpAny_seqItems
def fG:=@PySem.F.slot_int_index
def fH:=@PySem.F.entry_int_rmul
def fI:=@PySem.F.slot_tuple_mul
def fJ:=@PySem.wpAny_askSetting
def fK:=@PySem.wpAny_of_eq
def fL:=@PySem.codeAny_mono
def fM:=@Option.isSome_iff_exists
def fN:=@List.getElem?_take_of_lt
def fO:=@Nat.mul_comm
def fP:=@PySem.wpAny_comprehension_free
def fQ:=@PySem.wpAny_rule
def fR:=@if_false
def fS:=@List.all_cons
def fT:=@PySem.F.fills_int_mul
def fU:=@PySem.AutoListH.list___mul___list_int_3
def fV:=@Nat.lt_of_le_of_lt
def fW:=@List.getElem?_take
def fX:=@PyProof.Rows.F.plain_set_update_loop
def fY:=@PySem.codeAny_of_tree
def fZ:=@Int.eq_ofNat_of_zero_le
def g9:=@PyProof.Rows.entry_tuple_getitem
def gc:=@PySem.wpAny_pyIter_rangeiter
def gi:=@PyProof.Rows.IsTup.new
def gu:=@PySem.wpAny_pyIter_list
def gy:=@PySem.sizeLine_eq
def gz:=@PyProof.Rows.args_tuple_getitem
def gA:=@Option.some.injEq
def gB:=@Nat.mod_lt
def gD:=@List.flatMap_cons
def gE:=@PySem.isSubtype_type
def gF:=@PySem.wpAny_typeOf
def gG:=@PySem.exec_Assign_Name_used
def gH:=@Array.mem_iff_getElem
def gI:=@PySem.F.slot_range_reversed
def gJ:=@List.lookup_cons
def gK:=@decide_eq_decide
def gL:=@List.getLast?_eq_some_getLast
def gM:=@PySem.F.args_list_append_2
def gN:=@Array.getElem_toList
def gO:=@List.any_cons
def gP:=@PySem.F.args_tuple_iterator_next_1
def gQ:=@PySem.plainId_quiet
def gR:=@PySem.wpAny_execs_nil
def gS:=@List.foldl_cons
def gT:=@PySem.F.entry_list_append
def gU:=@Nat.min_eq_left
def gV:=@PySem.F.entry_tuple_iterator_next
def gW:=@PySem.F.slot_zip_next
def gX:=@Nat.not_lt_zero
def gY:=@List.getElem?_range
def gZ:=@Int.fdiv_eq_ediv_of_nonneg
def hG:=@PyProof.Rows.tupleItemsOf_
def hJ:=@Array.getElem?_eq_some_iff
def hR:=@Nat.le_of_lt
def hU:=@PySem.wpAny_pyIter_tuple
def hV:=@List.mem_filterMap
def hW:=@List.filterMap_map
def hX:=@PySem.Heap.IsSliceOf.new
def hZ:=@List.getElem?_drop
def i3:=@Nat.lt_or_gt_of_ne
def i4:=@PySem.F.args_tuple_mul_2
def i5:=@Nat.zero_add
def i6:=@List.drop_zero
def i7:=@Bool.and_false
def i8:=@List.take_zero
def i9:=@List.nodup_nil
def ia:=@Option.isNone_iff_eq_none
def ib:=@PySem.W.kitx_dict
def ic:=@List.take_sublist
def ij:=@PySem.F.args_tuple_add_2
def ip:=@PySem.wpAny_sequenceKey
def iq:=@PySem.slot_list_getitem
def iA:=@PySem.list_append
def iB:=@PySem.F.entry_tuple_mul
def iC:=@Array.getElem_mem
def iD:=@List.ext_getElem?
def iE:=@PySem.F.entry_tuple_add
def iF:=@PySem.evalPart_none
def iG:=@PySem.evalPart_some
def iH:=@List.getElem?_cons_zero
def iI:=@PySem.eval_ListComp
def iJ:=@PySem.wpAny_onRaise
def iK:=@PySem.wpAny_attempt
def iL:=@Bool.or_assoc
def iM:=@Nat.mul_add
def iN:=@PySem.noFill_tuple_add
def iO:=@Option.getD_none
def iP:=@PySem.IsL.update
def iQ:=@Nat.min_eq_right
def iR:=@PySem.Around.in1_units
def iS:=@List.ext_getElem
def iT:=@Option.bind_some
def iU:=@List.mem_flatten
def iV:=@Nat.ne_of_gt
def iW:=@List.of_mem_zip
def iX:=@PySem.seqIndex_neg
def iY:=@List.length_set
def iZ:=@PySem.wpAny_updateSeq
def j3:=@Nat.succ.inj
def ja:=@Int.natCast_mul
def jv:=@Nat.pow_succ
def jA:=@decide_false
def jB:=@Nat.sub_self
def jC:=@List.take_succ
def jD:=@PySem.seqIndex_of
def jE:=@Nat.mod_mul
def jF:=@decide_true
def jG:=@Bool.false_or
def jH:=@Prod.mk.injEq
def jI:=@Bool.not_true
def jJ:=@List.sum_cons
def jK:=@List.cons.inj
open PySem PySem.Spec
namespace L2
open PyProof.Rows
abbrev Key:=Sum Int Str
def aw1:Key->Value->Bool
 |.inl k,v=>Value.isInt k v
 |.inr x,v=>Value.isStrOf x v
def b4s(w:World):Key->Int
 |.inl k=>hashInt k
 |.inr x=>hashStr w x
theorem qu:∀{k:Key} {v:Value},aw1 k v=true->(∃i t,k=Sum.inl i/\v=Value.int i t)\/(∃x t,k=Sum.inr x/\v=Value.str x t)
 |.inl i,v,h=>by
  obtain⟨t,e⟩:=Value.isInt_shape (k:=i) (v:=v) h;exact .inl ⟨i,t,rfl,e⟩
 |.inr x,v,h=>by
  obtain⟨t,e⟩:=Value.isStrOf_shape (x:=x) (v:=v) h;exact .inr ⟨x,t,rfl,e⟩
theorem aw2(a b:Int):decide ((Sum.inl a:Key)=Sum.inl b)=(a == b):=by
 by_cases e:a=b
 .subst e;simp
 .have h:¬ (Sum.inl a:Key)=Sum.inl b:=λq=>e (Sum.inl.inj q);rw[bI h];exact(bQ.mpr e).symm
theorem aw3(a b:Str):decide ((Sum.inr a:Key)=Sum.inr b)=decide (a=b):=by
 by_cases e:a=b
 .subst e;simp
 .have h:¬ (Sum.inr a:Key)=Sum.inr b:=λq=>e (Sum.inr.inj q);rw[bI h,bI e]
theorem aw4(a:Int)(b:Str):decide ((Sum.inl a:Key)=Sum.inr b)=false:=bI (λq=>nomatch q)
theorem aw5(a:Str)(b:Int):decide ((Sum.inr a:Key)=Sum.inl b)=false:=bI (λq=>nomatch q)
noncomputable def a76(prog:Program)(w:World):PySem.KeyKind prog w Key where
 is:=aw1
 hash:=b4s w
 inj:=λv a b ha hb=>by
  rcases qu ha with⟨i,t,rfl,rfl⟩|⟨x,t,rfl,rfl⟩
  .rcases qu hb with⟨j,u,rfl,e⟩|⟨y,u,rfl,e⟩
   .injection e with e1 _;rw[e1]
   .exact nomatch e
  .rcases qu hb with⟨j,u,rfl,e⟩|⟨y,u,rfl,e⟩
   .exact nomatch e
   .injection e with e1 _;rw[e1]
 byValue:=λk v h=>by
  rcases qu h with⟨i,t,rfl,rfl⟩|⟨x,t,rfl,rfl⟩<;>rfl
 pyHash:=λhv h=>by
  rcases qu hv with⟨i,t,rfl,rfl⟩|⟨x,t,rfl,rfl⟩
  .exact wpAny_pyHash_int h
  .exact wpAny_pyHash_str h
 eqBool:=λhu hv h=>by
  rcases qu hu with⟨i,t,rfl,rfl⟩|⟨x,t,rfl,rfl⟩
  .rcases qu hv with⟨j,u,rfl,rfl⟩|⟨y,u,rfl,rfl⟩
   .rw[aw2]at h;exact wpAny_eqBool_int h
   .rw[aw4]at h;exact SeqAt.EqAt.int_str i t y u _ _ _ _ h
  .rcases qu hv with⟨j,u,rfl,rfl⟩|⟨y,u,rfl,rfl⟩
   .rw[aw5]at h;exact SeqAt.EqAt.str_int x t j u _ _ _ _ h
   .rw[aw3]at h;exact wpAny_eqBool_str h
 «strs»:=λk x t v h=>by
  rcases qu h with⟨i,u,rfl,e⟩|⟨y,u,rfl,e⟩
  .exact nomatch e
  .injection e with e1 _
   subst e1
   cases v<;>rfl
inductive V where
 |non|bl (b:Bool)|int (i:Int)|str (x:Str)|byt (b:Array UInt8)|flt (b:UInt64)|ref (a:Addr)|ty (n:String)
 deriving DecidableEq
def RelV:V->Value->Prop
 |.non,u=>u=Value.none
 |.bl b,u=>u=Value.bool b
 |.int i,u=>∃t,u=Value.int i t
 |.str x,u=>∃t,u=Value.str x t
 |.byt b,u=>∃t,u=Value.bytes b t
 |.flt b,u=>∃t,u=Value.float b t
 |.ref a,u=>u=Value.ref a
 |.ty n,u=>u=Value.type n
abbrev Vals:List V->List Value->Prop:=Paired RelV
theorem Vals.length(r:Vals xs us):xs.length=us.length:=Paired.length r
theorem Vals.get:∀{xs:List V} {us:List Value} {i:Nat} {x:V},Vals xs us->xs[i]? = some x->∃u,us[i]? = some u/\RelV x u
 |_,_,_,_,.nil,e=>by simp at e
 |_,_,0,_,.cons r _,e=>by simp at e;subst e;exact⟨_,rfl,r⟩
 |_,_,i+1,x,.cons _ t,e=>by
  obtain⟨u,h1,h2⟩:=Vals.get (i:=i) (x:=x) t (by simpa using e)
  exact⟨u,by simpa using h1,h2⟩
theorem Vals.set(r:RelV x u):∀{xs:List V} {us:List Value} (i:Nat),Vals xs us->Vals (xs.set i x) (us.set i u)
 |_,_,_,.nil=>.nil
 |_,_,0,.cons _ t=>.cons r t
 |_,_,i+1,.cons q t=>.cons q (Vals.set r i t)
theorem Vals.append:∀{xs ys:List V} {us ws:List Value},Vals xs us->Vals ys ws->Vals (xs++ys) (us++ws)
 |_,_,_,_,.nil,s=>s
 |_,_,_,_,.cons r t,s=>.cons r (Vals.append t s)
theorem Vals.take:∀{xs:List V} {us:List Value} (n:Nat),Vals xs us->Vals (xs.take n) (us.take n)
 |_,_,0,_=>.nil
 |_,_,_+1,.nil=>.nil
 |_,_,n+1,.cons r t=>.cons r (Vals.take n t)
theorem Vals.drop:∀{xs:List V} {us:List Value} (n:Nat),Vals xs us->Vals (xs.drop n) (us.drop n)
 |_,_,0,r=>r
 |_,_,_+1,.nil=>.nil
 |_,_,n+1,.cons _ t=>Vals.drop n t
def RelO:Option V->Option Value->Prop
 |some v,some u=>RelV v u
 |none,none=>True
 |_,_=>False
def KV{κ:Type}:List (κ×V)->List (κ×Value)->Prop:=Paired λ(p:κ×V) (q:κ×Value)=>p.1=q.1/\RelV p.2 q.2
def kV:Key->V
 |.inl i=>.int i
 |.inr x=>.str x
inductive HO where
 |lst (xs:List V)
 |tup (xs:List V)
 |dK (kvs:List (Key×V))|dT (kvs:List (List Key×V))
 |set (S:Int->Bool) (n:Nat)
 |ins (C dx:Addr) (fs:List (Str×V))
 |own (x:Addr)
 |xd (fs:List (Str×V))
 |met (f x:Addr)
 |rng (lo hi:Int)
 |frz (o:Obj) (u:HO)
 |tbl (ps:Array Value)
 |ext (φ:Heap->Prop)
abbrev Hp:=Addr->Option HO
def upd(H:Hp)(a:Addr)(o:HO):Hp:=λb=>if b=a then some o else H b
theorem qw:upd H a o a=some o:=by unfold upd;rw[aJ rfl]
theorem je(h:b≠a):upd H a o b=H b:=by unfold upd;rw[ba h]
theorem iu{H:Hp}{a b:Addr}{o:HO}(h:H a=some o)(h':H b=none):a≠b:=by
 intro e;subst e;rw[h]at h';cases h'
section
variable(P:Program)(w:World)
def ObjOk(H:Hp)(h:Heap)(a:Addr):HO->Prop
 |.lst xs=>xs.length<=sizeLine/\∃(its:List Value) (n:Nat),Vals xs its/\h.get? a=some {cls:=.type "list",data:=.seq its.toArray n}
 |.tup xs=>xs.length<=sizeLine/\∃its:List Value,Vals xs its/\IsTup h a its.toArray
 |.dK kvs=>kvs.length<=sizeLine/\(a == sysModules)=false/\∃vs,KV kvs vs/\h.DictOf (a76 P w) a vs
 | .dT kvs=>kvs.length<=sizeLine/\(a == sysModules)=false/\∃xs:List (List Key×Addr×Value),
   Paired (λ(p:List Key×V) (q:List Key×Addr×Value)=>p.1=q.1/\H q.2.1=some (.tup (p.1.map kV))/\RelV p.2 q.2.2) kvs xs /\
   ∃o es ep,h.get? a=some o/\o.ExactDict/\o.data=.dict es ep/\es.toList=xs.map (entryOfKey (tupleKind (a76 P w)))/\(xs.map (·.1)).Nodup
 |.set S n=>h.SetOf (intKind P w) a S n
 | .ins C dx fs=>H dx=some (.own a)/\fs.length<=1000/\dx≠a/\h.get? a=some (PySem.W.instObj C dx) /\
   ∃mA,h.Ns1 dx mA/\(∀f,RelO (fs.lookup f) (mA f))/\PySem.Within mA (fs.map (·.1))
 |.own _=>∃o,h.get? a=some o
 |.xd fs=>∃mA,h.Ns1 a mA/\∀f,RelO (fs.lookup f) (mA f)
 |.rng lo hi=>∃t u v,h.get? a=some {cls:=.type "range",data:=.fields #[.int lo t,.int hi u,.int 1 v]}
 |.frz o u=>h.get? a=some o/\ObjOk H h a u
 |.tbl ps=>h.get? a=some {cls:=.none,data:=.fields ps}
 |.met f x=>h.get? a=some (PySem.W.methodObj (.ref f) (.ref x))
 |.ext φ=>φ h/\(∃o,h.get? a=some o)/\∀h1 h2:Heap,φ h1->(∀o,h1.get? a=some o->h2.get? a=some o)->φ h2
def HOk(H:Hp)(h:Heap):Prop:=∀a o,H a=some o->ObjOk P w H h a o
end
section
variable{P:Program}{w:World}{H H':Hp}{h h':Heap}{a:Addr}{o:HO}
theorem ObjOk.lt(x:ObjOk P w H h a o):a<h.objs.size:=by
 cases o with
 |lst xs=>obtain⟨_,_,_,_,e⟩:=x;exact aP e
 |tup xs=>obtain⟨_,_,_,p⟩:=x;exact p.lt
 |dK kvs=>obtain⟨_,_,_,_,o,_,_,e,_⟩:=x;exact aP e
 |dT kvs=>obtain⟨_,_,_,_,o,_,_,e,_⟩:=x;exact aP e
 |set S n=>obtain⟨o,_,_,_,e,_⟩:=x;exact aP e
 |ins C dx fs=>obtain⟨_,_,_,e,_⟩:=x;exact aP e
 |own y=>obtain⟨_,e⟩:=x;exact aP e
 |xd fs=>obtain⟨_,⟨_,_,_,e,_⟩,_⟩:=x;exact aP e
 |rng lo hi=>obtain⟨_,_,_,e⟩:=x;exact aP e
 |frz ob u=>obtain⟨e,_⟩:=x;exact aP e
 |tbl ps=>exact aP (show h.get? a=some _ from x)
 |met f y=>exact aP (show h.get? a=some _ from x)
 |ext φ=>obtain⟨_,⟨_,e⟩,_⟩:=x;exact aP e
theorem Paired.mapP{α β:Type}{F G:α->β->Prop}:∀{l₁:List α} {l₂:List β},Paired F l₁ l₂->(∀a b,F a b->G a b)->Paired G l₁ l₂
 |_,_,.nil,_=>.nil
 |_,_,.cons r t,f=>.cons (f _ _ r) (Paired.mapP t f)
theorem ObjOk.stay(x:ObjOk P w H h a o)(k:∀b u,(b=a\/H b=some (.own a))->h.get? b=some u->h'.get? b=some u)
  (ho:∀b,H b=some (.own a)->H' b=some (.own a)) (ht:∀b xs,H b=some (.tup xs)->H' b=some (.tup xs)):ObjOk P w H' h' a o:=by
 induction o with
 |lst xs=>obtain⟨z,its,n,r,e⟩:=x;exact⟨z,its,n,r,k _ _ (.inl rfl) e⟩
 |tup xs=>obtain⟨z,its,r,ob,e,c⟩:=x;exact⟨z,its,r,ob,k _ _ (.inl rfl) e,c⟩
 |dK kvs=>obtain⟨z,y,vs,r,ob,es,ep,e,c⟩:=x;exact⟨z,y,vs,r,ob,es,ep,k _ _ (.inl rfl) e,c⟩
 |dT kvs =>
  obtain⟨z,y,xs,r,ob,es,ep,e,c⟩:=x;exact⟨z,y,xs,Paired.mapP r λp q z=>⟨z.1,ht _ _ z.2.1,z.2.2⟩,ob,es,ep,k _ _ (.inl rfl) e,c⟩
 |set S n=>obtain⟨ob,es,ep,t,e,c⟩:=x;exact⟨ob,es,ep,t,k _ _ (.inl rfl) e,c⟩
 |ins C dx fs =>
  obtain⟨d,z,ne,e,mA,⟨od,es,ep,e2,c⟩,r⟩:=x;exact⟨ho _ d,z,ne,k _ _ (.inl rfl) e,mA,⟨od,es,ep,k _ _ (.inr d) e2,c⟩,r⟩
 |own y=>obtain⟨ob,e⟩:=x;exact⟨ob,k _ _ (.inl rfl) e⟩
 |xd fs=>obtain⟨mA,⟨od,es,ep,e,c⟩,r⟩:=x;exact⟨mA,⟨od,es,ep,k _ _ (.inl rfl) e,c⟩,r⟩
 |rng lo hi=>obtain⟨t,u,v,e⟩:=x;exact⟨t,u,v,k _ _ (.inl rfl) e⟩
 |frz ob u ih=>obtain⟨e,q⟩:=x;exact⟨k _ _ (.inl rfl) e,ih q⟩
 |tbl ps =>
  have e:h.get? a=some {cls:=.none,data:=.fields ps}:=x;show h'.get? a=some {cls:=.none,data:=.fields ps};exact k a _ (.inl rfl) e
 |met f y =>
  have e:h.get? a=some (PySem.W.methodObj (.ref f) (.ref y)):=x;show h'.get? a=some (PySem.W.methodObj (.ref f) (.ref y));exact k a _ (.inl rfl) e
 |ext φ=>obtain⟨p,⟨o,e⟩,st⟩:=x;exact⟨st _ _ p λo q=>k _ _ (.inl rfl) q,⟨o,k _ _ (.inl rfl) e⟩,st⟩
theorem HOk.lt(x:HOk P w H h)(e:H a=some o):a<h.objs.size:=(x a o e).lt
theorem HOk.fresh(x:HOk P w H h)(e:h.objs.size<=a):H a=none:=by
 cases q:H a with
 |none=>rfl
 |some u=>exact absurd (aT (x.lt q) e) (bU _)
theorem HOk.kept(x:HOk P w H h)(k:∀b u,h.get? b=some u->h'.get? b=some u):HOk P w H h':=λa o e =>
 (x a o e).stay (λb u _ q=>k b u q) (λ_ q=>q) λ_ _ q=>q
theorem HOk.laid(x:HOk P w H h)(k:∀b u,h.get? b=some u->h'.get? b=some u)(hp:h.objs.size<=a)(new:ObjOk P w (upd H a o) h' a o):HOk P w (upd H a o) h':=λb u e=>by
 have hn:=x.fresh hp
 by_cases hb:b=a
 .subst hb;rw[qw]at e;cases e;exact new
 .rw[je hb]at e;exact(x b u e).stay (λc v _ q=>k c v q) (λc q=>by rw[je (iu q hn)];exact q) λc xs q=>by rw[je (iu q hn)];exact q
end
def Rd(H:Hp)(a:Addr)(u:HO):Prop:=H a=some u\/∃o,H a=some (.frz o u)
theorem Rd.of(h:H a=some u):Rd H a u:=.inl h
theorem Rd.ok(r:Rd H a u)(x:HOk P w H h):ObjOk P w H h a u:=by
 rcases r with r|⟨o,r⟩
 .exact x a u r
 .obtain⟨_,q⟩:=x a _ r;exact q
def Mut:Option HO->Prop
 |some (.lst _)=>True
 |some (.dK _)=>True
 |some (.dT _)=>True
 |some (.set _ _)=>True
 |some (.ins _ _ _)=>True
 |some (.ext _)=>True
 |_=>False
section
variable{P:Program}{w:World}{H:Hp}{h h':Heap}{x e:Addr}{o':HO}
theorem HOk.write(ok:HOk P w H h)(mu:Mut (H x))(he:e=x\/H e=some (.own x))(k:∀b u,b≠e->h.get? b=some u->h'.get? b=some u)(heo:∃u,h'.get? e=some u)
  (new:ObjOk P w (upd H x o') h' x o'):HOk P w (upd H x o') h':=λb u q=>by
 have nown:∀c y,H c=some (.own y)->c≠x:=λc y r z=>by subst z;rw[r]at mu;exact mu
 have ntup:∀c xs,H c=some (.tup xs)->c≠x:=λc xs r z=>by subst z;rw[r]at mu;exact mu
 by_cases hb:b=x
 .subst hb;rw[qw]at q;cases q;exact new
 .rw[je hb]at q
  by_cases hbe:b=e
  .have q':H b=some (.own x):=by
    rcases he with z|z
    .exact absurd (hbe.trans z) hb
    .rw[hbe];exact z
   rw[q]at q';cases q'
   obtain⟨v,hv⟩:=heo;exact⟨v,by rw[hbe];exact hv⟩
  .refine(ok b u q).stay (λc v hc r=>k c v ?_ r) (λc r=>by rw[je (nown c b r)];exact r) λc xs r=>by rw[je (ntup c xs r)];exact r
   rcases hc with rfl|hc
   .exact hbe
   .rintro rfl
    rcases he with z|z
    .exact nown c b hc z
    .rw[hc]at z;cases z;exact hb rfl
end
structure Un (fs ex:List Addr) (H H':Hp) (h h':Heap):Prop where
 keep:∀b o,h.get? b=some o->H b=none->b∉fs->b∉ex->h'.get? b=some o
 slot:∀b o,h.get? b=some o->H b=none->b∈fs->b∉ex->∃sl,h'.get? b=some {o with slots:=sl}
 free:∀b o,h.get? b=some o->H b=none->b∉ex->H' b=none
 there:∀b o,h.get? b=some o->b∉ex->∃o',h'.get? b=some o'
 tups:∀b xs,H b=some (.tup xs)->H' b=some (.tup xs)
 frzs:∀b o u,H b=some (.frz o u)->H' b=some (.frz o u)
 tbls:∀b ps,H b=some (.tbl ps)->∃more,H' b=some (.tbl (ps++more))
section
variable{fs fs' ex ex':List Addr}{H H1 H2:Hp}{h h1 h2 h':Heap}{a x e:Addr}{o:HO}
theorem Un.any(u:Un fs ex H H1 h h1)(q:h.get? b=some ob)(n:H b=none)(hx:b∉ex):∃sl,h1.get? b=some {ob with slots:=sl}:=by
 by_cases hb:b∈fs
 .exact u.slot b ob q n hb hx
 .exact⟨ob.slots,u.keep b ob q n hb hx⟩
theorem Un.kept(k:∀b u,h.get? b=some u->h'.get? b=some u):Un fs ex H H h h' :=
 ⟨λb ob q _ _ _=>k b ob q,λb ob q _ _ _=>⟨ob.slots,k b ob q⟩,λ_ _ _ n _=>n,λb ob q _=>⟨ob,k b ob q⟩,λ_ _ q=>q,λ_ _ _ q=>q,λ_ ps q=>⟨#[],by rw[q];simp⟩⟩
theorem Un.refl:Un fs ex H H h h:=Un.kept λ_ _ q=>q
theorem Un.laid(k:∀b u,h.get? b=some u->h'.get? b=some u)(hp:h.objs.size<=a)(hn:H a=none):Un fs ex H (upd H a o) h h' where
 keep:=λb u q _ _ _=>k b u q
 slot:=λb u q _ _ _=>⟨u.slots,k b u q⟩
 free:=λb u q n _=>by rw[je (br (aT (aP q) hp))];exact n
 there:=λb u q _=>⟨u,k b u q⟩
 tups:=λb xs q=>by rw[je (iu q hn)];exact q
 frzs:=λb u xs q=>by rw[je (iu q hn)];exact q
 tbls:=λb ps q=>⟨#[],by rw[je (iu q hn),q];simp⟩
theorem Un.write(mu:Mut (H x))(he:e=x\/H e=some (.own x))(k:∀b u,b≠e->h.get? b=some u->h'.get? b=some u)(heo:∃u,h'.get? e=some u):Un fs ex H (upd H x o) h h':=by
 have hx:∀b,H b=none->b≠x:=λb n z=>by subst z;rw[n]at mu;exact mu
 have hb:∀b,H b=none->b≠e:=λb n z=>by
  subst z
  rcases he with r|r
  .exact hx b n r
  .rw[n]at r;cases r
 have hm:∀b u,H b=some u->¬ Mut (some u)->b≠x:=λb u q nm z=>by subst z;rw[q]at mu;exact nm mu
 refine⟨λb u q n _ _=>k b u (hb b n) q,λb u q n _ _=>⟨u.slots,k b u (hb b n) q⟩,λb u q n _=>by rw[je (hx b n)];exact n,λb u q _=>?_,
  λb xs q=>by rw[je (hm b _ q λz=>z)];exact q,λb u xs q=>by rw[je (hm b _ q λz=>z)];exact q,λb ps q=>⟨#[],by rw[je (hm b _ q λz=>z),q];simp⟩⟩
 by_cases hbe:b=e
 .subst hbe;exact heo
 .exact⟨u,k b u hbe q⟩
end
def trk(h:Heap)(H:Hp):List Addr:=(List.range h.objs.size).filter λa=>(H a).isSome
def amr(h:Heap)(H:Hp):Heap:=PySem.W.hideAll h (trk h H)
theorem aia(h:Heap)(H:Hp):(amr h H).objs.size=h.objs.size:=PySem.W.hideAll_size _ _
theorem ams{h:Heap}(e:h.get? b=some o)(n:H b=none):(amr h H).get? b=some o :=
 PySem.W.hideAll_get _ e λhm=>by
  have q:(H b).isSome=true:=(cG.mp hm).2;rw[n]at q;simp at q
theorem arp(e:(amr h H).get? b=some o):h.get? b=some o/\H b=none:=by
 have e':h.get? b=some o:=PySem.W.of_hideAll (trk h H) e;refine⟨e',?_⟩
 cases q:H b with
 |none=>rfl
 |some x =>
  have hm:b∈trk h H:=cG.mpr ⟨dH.mpr (aP e'),by simp[q]⟩
  have z:(amr h H).get? b=none:=PySem.W.hideAll_none (trk h H) hm;rw[z]at e;cases e
noncomputable def arq(g h:Heap)(L:Addr):List (Addr×Obj):=(List.range h.objs.size).filterMap λa=>if a=L\/(g.get? a).isSome=true then none else (h.get? a).map λo=>(a,o)
def aG(g h:Heap)(L d:Addr):List (Addr×Obj):=(arq g h L).filter λp=>decide (p.1≠d)
structure Mod (K:Fg) (mg:Str->Option Value) (base:Heap):Prop where
 kin:K.In base
 glob:base.Ns mainGlobals mg
 blt:∃mb,base.Ns builtinsNs mb/\∀x:Str,x ≠ "__name__"->mb x=bootBuiltins x
 nolimit:base.NoLimit
structure Cx where
 prog:Program
 w:World
 K:Fg
 mg:Str->Option Value
 base:Heap
 A:Around
 N:List Str
 s₀:Shared
 H₀:Hp
 env:Env
 outer:List Env
 stack:List Env
 ex:List Addr
 fn:Str->Bool
 calm:Bool
 pn:List (Addr×Obj)
 xe:Value->Shared->Prop
def frs(l:List Env):List Addr:=l.filterMap (·.frame)
abbrev Cx.fs(X:Cx):List Addr:=frs X.outer
def Vis(sc:Scope)(x:Str):Prop:=sc.names.lookup x=some .local\/sc.names.lookup x=some .cell\/sc.names.lookup x=some .free
def Loc(sc:Scope)(x:Str):Prop:=sc.names.lookup x=some .local\/sc.names.lookup x=some .cell
def Look(env:Env)(h:Heap)(m:Str->Option Value)(x:Str)(u:Value):Prop :=
 (env.kindOf x=some .local/\m x=some u)\/((env.kindOf x=some .cell\/env.kindOf x=some .free)/\∃c,env.cells.lookup x=some c/\h.IsCell c (some u))
structure Cx.Ok (X:Cx):Prop where
 mod:Mod X.K X.mg X.base
 kind:X.env.scope.kind=.function
 glob:X.env.globals=mainGlobals
 blt:X.env.builtins=builtinsNs
 above:X.s₀.heap.objs.size<=X.env.locals
 inj:∀x y c,X.env.cells.lookup x=some c->X.env.cells.lookup y=some c->x=y
 has:∀x,(X.env.kindOf x=some .cell\/X.env.kindOf x=some .free)->∃c,X.env.cells.lookup x=some c
 cab:∀x c,X.fn x=true->X.env.cells.lookup x=some c->X.s₀.heap.objs.size<=c
 hd:X.calm=true->X.A.handled=none
 frames:X.A.frames=some X.stack
 stk:X.stack=X.outer\/(X.stack=X.env::X.outer/\X.env.frame=some X.env.locals)
 exf:∀b∈X.ex,b≠X.env.locals/\∀x c,X.env.cells.lookup x=some c->c≠b
 bs:∀b o,X.base.get? b=some o->X.s₀.heap.get? b=some o/\X.H₀ b=none
 bsz:X.base.objs.size<=X.s₀.heap.objs.size
 noex:∀b o,X.base.get? b=some o->b∉X.ex
 exfs:∀b∈X.ex,b∉X.fs
 funs:X.s₀.heap.FunFrames X.base X.outer
 frf:∀b∈X.fs,X.H₀ b=none
structure Inv (X:Cx) (aA:List (Addr×Obj)) (Z:List (Option V)) (H:Hp) (s:Shared):Prop where
 ok:X.Ok
 os:s.os=X.s₀.os
 bare:AllBare s.gens
 base:Un X.fs X.ex X.H₀ H X.s₀.heap s.heap
 loc:∃m,s.heap.Ns X.env.locals m/\∀(i:Nat) (x:Str) (v:V),X.N[i]? = some x->Z[i]? = some (some v)->Vis X.env.scope x->∃u,RelV v u/\Look X.env s.heap m x u
 cell:∀x c,X.env.cells.lookup x=some c->∃v,s.heap.IsCell c v
 free:H X.env.locals=none
 freeC:∀x c,X.env.cells.lookup x=some c->H c=none
 pin:∀p∈X.pn++aA,s.heap.get? p.1=some p.2/\H p.1=none/\p.1≠X.env.locals/\p.1∉X.fs/\∀v,p.2.data≠.cell v
 hok:HOk X.prog X.w H s.heap
 len:Z.length=X.N.length
section
variable{X:Cx}{aA:List (Addr×Obj)}{Z:List (Option V)}{H H':Hp}{s:Shared}{h':Heap}
theorem Cx.Ok.nofr(ok:X.Ok)(e:X.base.get? b=some o):b∉X.fs:=λhb=>by
 have:=(ok.funs.mem hb).1
 rw[e]at this;cases this
theorem Inv.bs(I:Inv X aA Z H s):∀b o,X.base.get? b=some o->s.heap.get? b=some o/\H b=none:=λb o e =>
 ⟨I.base.keep b o (I.ok.bs b o e).1 (I.ok.bs b o e).2 (I.ok.nofr e) (I.ok.noex b o e),I.base.free b o (I.ok.bs b o e).1 (I.ok.bs b o e).2 (I.ok.noex b o e)⟩
theorem Inv.bk(I:Inv X aA Z H s):∀b o,X.base.get? b=some o->s.heap.get? b=some o:=λb o e=>(I.bs b o e).1
theorem Inv.mod(I:Inv X aA Z H s):Mod X.K X.mg X.base:=I.ok.mod
theorem Inv.kIn(I:Inv X aA Z H s):X.K.In s.heap:=I.ok.mod.kin.keeps I.bk
theorem Inv.fr(I:Inv X aA Z H s):∃m,Fr X.base X.env.locals s.heap m :=
 let ⟨m,hn,_⟩:=I.loc
 ⟨m,hn,I.bk,bC I.ok.bsz I.ok.above⟩
theorem Inv.lt(I:Inv X aA Z H s):X.env.locals<s.heap.objs.size:=let ⟨_,hn,_⟩:=I.loc;hn.lt
theorem Inv.sz(I:Inv X aA Z H s):X.s₀.heap.objs.size<=s.heap.objs.size:=bC I.ok.above (hR I.lt)
theorem Inv.nofs(I:Inv X aA Z H s)(h:s.heap.objs.size<=a):a∉X.fs:=λhb=>by
 obtain⟨_,o,ho,_⟩:=I.ok.funs.mem hb;exact absurd (aT (aP ho) (bC I.sz h)) (bU _)
theorem Inv.cne(I:Inv X aA Z H s):∀x c,X.env.cells.lookup x=some c->c≠X.env.locals:=λx c e z=>by
 obtain⟨v,o,ho,hd⟩:=I.cell x c e;obtain⟨m,⟨o',es,ep,ho',hd',_⟩,_⟩:=I.loc;rw[z,ho']at ho;cases ho;rw[hd']at hd;cases hd
theorem Inv.funs(I:Inv X aA Z H s):s.heap.FunFrames X.base X.outer:=by
 have all:∀(l:List Env),(∀b∈frs l,b∈X.fs)->X.s₀.heap.FunFrames X.base l->s.heap.FunFrames X.base l:=by
  intro l
  induction l with
  |nil=>intro _ _;trivial
  |cons env r ih =>
   intro hs hl
   obtain⟨hk,⟨L,o,hf,hn,ho,hd⟩,hr⟩:=hl;have hL:L∈X.fs:=hs L (by unfold frs;rw[dC,hf];exact bB)
   obtain⟨sl,e⟩:=I.base.slot L o ho (I.ok.frf L hL) hL λz=>I.ok.exfs L z hL;exact⟨hk,⟨L,_,hf,hn,e,hd⟩,ih (λb hb=>hs b (by unfold frs;rw[dC,hf];exact aW _ hb)) hr⟩
 exact all X.outer (λ_ hb=>hb) I.ok.funs
theorem Inv.stack(I:Inv X aA Z H s):s.heap.FunFrames X.base X.stack:=by
 rcases I.ok.stk with e|⟨e,hf⟩
 .rw[e];exact I.funs
 .rw[e];obtain⟨m,hn,_⟩:=I.loc;refine .cons (by rw[I.ok.kind];decide) hf hn ?_ I.funs
  exact Heap.get?_none_of_le (bC I.ok.bsz I.ok.above)
theorem Inv.stkSub(I:Inv X aA Z H s):∀b∈frs X.stack,b∈X.env.locals::X.fs:=λb hb=>by
 rcases I.ok.stk with e|⟨e,hf⟩
 .rw[e]at hb;exact aW _ hb
 .rw[e]at hb;unfold frs at hb;rw[dC,hf]at hb;exact hb
theorem Inv.stkFree(I:Inv X aA Z H s):∀b∈frs X.stack,H b=none:=λb hb=>by
 rcases aL.mp (I.stkSub b hb) with e|hb
 .rw[e];exact I.free
 .obtain⟨_,o,ho,_⟩:=I.ok.funs.mem hb;exact I.base.free b o ho (I.ok.frf b hb) λz=>I.ok.exfs b z hb
theorem Inv.step{g':Array GenState}{t':Nat}{d':Drawn}{ch:List Addr}(I:Inv X aA Z H s)
  (hch:∀b∈ch,(b∈X.ex\/X.s₀.heap.objs.size<=b)/\b≠X.env.locals/\(∀x c,X.env.cells.lookup x=some c->c≠b)/\∀p∈X.pn++aA,p.1≠b)
  (keep:∀b o,b≠X.env.locals->b∉X.fs->b∉ch->s.heap.get? b=some o->H b=none->h'.get? b=some o)
  (slot:∀b o,b≠X.env.locals->b∈X.fs->b∉ch->s.heap.get? b=some o->H b=none->∃sl,h'.get? b=some {o with slots:=sl}) (free:∀b o,b∉ch->s.heap.get? b=some o->H b=none->H' b=none)
  (there:∀b o,b∉ch->s.heap.get? b=some o->∃o',h'.get? b=some o')
  (tups:∀b xs,H b=some (.tup xs)->H' b=some (.tup xs)) (frzs:∀b o u,H b=some (.frz o u)->H' b=some (.frz o u)) (tbls:∀b ps,H b=some (.tbl ps)->∃more,H' b=some (.tbl (ps++more)))
  (ns:∀m,s.heap.Ns X.env.locals m->h'.Ns X.env.locals m) (hok:HOk X.prog X.w H' h') (hg:AllBare g') :
  Inv X aA Z H' {s with heap:=h',gens:=g',drawn:=d',toks:=t' }:=by
 have neL:∀b o,X.s₀.heap.get? b=some o->b≠X.env.locals:=λb o e=>br (aT (aP e) I.ok.above);have neC:∀b o,X.s₀.heap.get? b=some o->b∉X.ex->b∉ch:=λb o e hx hb=>by
  rcases(hch b hb).1 with z|z
  .exact hx z
  .exact absurd (aT (aP e) z) (bU _)
 have cellK:∀x c,X.env.cells.lookup x=some c->∀v,s.heap.IsCell c v->h'.IsCell c v:=λx c e v ⟨o,ho,hd⟩=>by
  have nch:c∉ch:=λz=>(hch c z).2.2.1 x c e rfl
  by_cases hc:c∈X.fs
  .obtain⟨sl,q⟩:=slot c o (I.cne x c e) hc nch ho (I.freeC x c e);exact⟨_,q,hd⟩
  .exact⟨o,keep c o (I.cne x c e) hc nch ho (I.freeC x c e),hd⟩
 refine⟨I.ok,I.os,hg,⟨λb o e n hb hx=>?_,λb o e n hb hx=>?_,λb o e n hx=>?_,λb o e hx=>?_,λb xs e=>tups b xs (I.base.tups b xs e),λb o xs e=>frzs b o xs (I.base.frzs b o xs e),λb ps e=>?_⟩,?_,λx c e=>?_,?_,λx c e=>?_,λp hp=>?_,hok,I.len⟩
 .exact keep b o (neL b o e) hb (neC b o e hx) (I.base.keep b o e n hb hx) (I.base.free b o e n hx)
 .obtain⟨sl,e1⟩:=I.base.slot b o e n hb hx;obtain⟨sl',e2⟩:=slot b _ (neL b o e) hb (neC b o e hx) e1 (I.base.free b o e n hx);exact⟨sl',e2⟩
 .obtain⟨o',e1⟩:=I.base.there b o e hx;exact free b o' (neC b o e hx) e1 (I.base.free b o e n hx)
 .obtain⟨o',e1⟩:=I.base.there b o e hx;exact there b o' (neC b o e hx) e1
 .obtain⟨m1,e1⟩:=I.base.tbls b ps e;obtain⟨m2,e2⟩:=tbls b _ e1;exact⟨m1++m2,by rw[e2,Array.append_assoc]⟩
 .obtain⟨m,hn,hl⟩:=I.loc;refine⟨m,ns m hn,λi x v e1 e2 e3=>?_⟩;obtain⟨u,r,l⟩:=hl i x v e1 e2 e3;refine⟨u,r,?_⟩
  rcases l with l|⟨k,c,e,z⟩
  .exact .inl l
  .exact .inr ⟨k,c,e,cellK x c e _ z⟩
 .obtain⟨v,z⟩:=I.cell x c e;exact⟨v,cellK x c e v z⟩
 .obtain⟨m,⟨o,_,_,ho,_⟩,_⟩:=I.loc;exact free _ o (λz=>(hch _ z).2.1 rfl) ho I.free
 .obtain⟨v,o,ho,hd⟩:=I.cell x c e;exact free c o (λz=>(hch c z).2.2.1 x c e rfl) ho (I.freeC x c e)
 .obtain⟨e,n,ne,nf,d⟩:=I.pin p hp;have nch:p.1∉ch:=λz=>(hch p.1 z).2.2.2 p hp rfl;exact⟨keep p.1 p.2 ne nf nch e n,free p.1 p.2 nch e n,ne,nf,d⟩
theorem Inv.un{t':Nat}(I:Inv X aA Z H s)(u:Un X.fs [] H H' s.heap h')(hok:HOk X.prog X.w H' h'):Inv X aA Z H' {s with heap:=h',toks:=t' }:=by
 obtain⟨m,⟨o,es,ep,ho,r⟩,_⟩:=id I.loc;obtain⟨sl,hL⟩:=u.any ho I.free (by simp)
 exact I.step (g':=s.gens) (d':=s.drawn) (ch:=[]) (λ_ z=>nomatch z) (λb o _ hb _ e n=>u.keep b o e n hb (by simp)) (λb o _ hb _ e n=>u.slot b o e n hb (by simp)) (λb o _ e n=>u.free b o e n (by simp)) (λb o _ e=>u.there b o e (by simp)) u.tups u.frzs u.tbls (λm' hm=>by
  obtain⟨o',es',ep',ho',r'⟩:=hm;rw[ho]at ho';cases ho'
  exact⟨_,es',ep',hL,r'⟩) hok I.bare
theorem Inv.call{g':Array GenState}{t':Nat}{d':Drawn}{ch:List Addr}(I:Inv X aA Z H s)(u:Un (frs X.stack) ch H H' s.heap h')(hok:HOk X.prog X.w H' h')(hg:AllBare g')
  (hch:∀b∈ch,(b∈X.ex\/X.s₀.heap.objs.size<=b)/\b≠X.env.locals/\(∀x c,X.env.cells.lookup x=some c->c≠b)/\∀p∈X.pn++aA,p.1≠b) :
  Inv X aA Z H' {s with heap:=h',gens:=g',drawn:=d',toks:=t' }:=by
 obtain⟨m,⟨o,es,ep,ho,r⟩,_⟩:=id I.loc;obtain⟨sl,hL⟩:=u.any ho I.free λz=>(hch _ z).2.1 rfl;exact I.step (ch:=ch) hch (λb o hL hb hc e n=>u.keep b o e n (λz=>(aL.mp (I.stkSub b z)).elim hL hb) hc) (λb o _ _ hc e n=>u.any e n hc) (λb o hc e n=>u.free b o e n hc) (λb o hc e=>u.there b o e hc) u.tups u.frzs u.tbls (λm' hm=>by
  obtain⟨o',es',ep',ho',r'⟩:=hm;rw[ho]at ho';cases ho'
  exact⟨_,es',ep',hL,r'⟩) hok hg
theorem Inv.turned{t':Nat}{it:Addr}(I:Inv X aA Z H s)(k:∀b o,b≠it->s.heap.get? b=some o->h'.get? b=some o)(hn:H it=none)(hL:it≠X.env.locals)
  (h1:it∈X.ex\/X.s₀.heap.objs.size<=it) (h2:∀x c,X.env.cells.lookup x=some c->c≠it) (h3:∀p∈X.pn++aA,p.1≠it):Inv X aA Z H {s with heap:=h',toks:=t' }:=by
 have nit:∀b u,H b=some u->b≠it:=λb u e z=>by rw[z,hn]at e;cases e
 refine I.step (g':=s.gens) (d':=s.drawn) (ch:=[it]) (λb hb=>?_) (λb o _ _ hc e _=>k b o (λz=>hc (by simp[z])) e) (λb o _ _ hc e _=>⟨o.slots,k b o (λz=>hc (by simp[z])) e⟩) (λ_ _ _ _ n=>n)
  (λb o hc e=>⟨o,k b o (λz=>hc (by simp[z])) e⟩) (λ_ _ e=>e) (λ_ _ _ e=>e) (λb ps e=>⟨#[],by rw[e];simp⟩) (λm hm=>?_) (λb u e=>?_) I.bare
 .have e:b=it:=by simpa using hb
  subst e;exact⟨h1,hL,h2,h3⟩
 .obtain⟨o,es,ep,ho,r⟩:=hm;exact⟨o,es,ep,k _ o (fz hL) ho,r⟩
 .refine(I.hok b u e).stay (λc v hc q=>k c v ?_ q) (λ_ q=>q) λ_ _ q=>q
  rcases hc with z|z
  .rw[z];exact nit b u e
  .exact nit c _ z
theorem Inv.tok(I:Inv X aA Z H s)(t:Nat):Inv X aA Z H {s with toks:=t}:=I.un (h':=s.heap) (t':=t) Un.refl I.hok
theorem Inv.kept(I:Inv X aA Z H s)(k:∀b u,s.heap.get? b=some u->h'.get? b=some u):Inv X aA Z H {s with heap:=h',toks:=t' }:=I.un (Un.kept k) (I.hok.kept k)
theorem Inv.laid(I:Inv X aA Z H s)(k:∀b u,s.heap.get? b=some u->h'.get? b=some u)(hp:s.heap.objs.size<=a)(new:ObjOk X.prog X.w (upd H a o) h' a o) :
  Inv X aA Z (upd H a o) {s with heap:=h',toks:=t' }:=I.un (Un.laid k hp (I.hok.fresh hp)) (I.hok.laid k hp new)
theorem Inv.write(I:Inv X aA Z H s)(mu:Mut (H x))(he:e=x\/H e=some (.own x))(k:∀b u,b≠e->s.heap.get? b=some u->h'.get? b=some u)(heo:∃u,h'.get? e=some u)
  (new:ObjOk X.prog X.w (upd H x o) h' x o):Inv X aA Z (upd H x o) {s with heap:=h',toks:=t' }:=I.un (Un.write mu he k heo) (I.hok.write mu he k heo new)
theorem Inv.weak{Z':List (Option V)}(I:Inv X aA Z H s)(hl:Z'.length=Z.length)(w:∀(i:Nat) v,Z'[i]? = some (some v)->Z[i]? = some (some v)):Inv X aA Z' H s :=
 ⟨I.ok,I.os,I.bare,I.base,let ⟨m,hn,hl'⟩:=I.loc; ⟨m,hn,λi x v e1 e2 e3=>hl' i x v e1 (w i v e2) e3⟩,I.cell,I.free,I.freeC,I.pin,I.hok,hl.trans I.len⟩
theorem Inv.pins_of(I:Inv X aA Z H s)(h:∀p∈pins',s.heap.get? p.1=some p.2/\H p.1=none/\p.1≠X.env.locals/\p.1∉X.fs/\∀v,p.2.data≠.cell v):Inv X pins' Z H s :=
 ⟨I.ok,I.os,I.bare,I.base,I.loc,I.cell,I.free,I.freeC,λp hp=>(bq.mp hp).elim (λz=>I.pin p (de _ z)) (h p),I.hok,I.len⟩
theorem af2{N:List Str}(hN:N.Nodup){i j:Nat}(a:N[i]? = some x)(b:N[j]? = some x):i=j:=by
 obtain⟨h1,e1⟩:=ai.mp a;obtain⟨h2,e2⟩:=ai.mp b;exact(List.getElem_inj hN).mp (e1.trans e2.symm)
abbrev Hf(X:Cx)(x:Str):Prop:=X.fn x=true\/X.env.scope.names.lookup x=some .local
theorem abi{i:Nat}(I:Inv X aA Z H s)(hN:X.N.Nodup)(hi:X.N[i]? = some x)(hx:Loc X.env.scope x)(r:RelV v u)
  (h:∀s',Inv X aA (Z.set i (some v)) H s'->(∃a,Heap.SameBut a s.heap s'.heap/\(a=X.env.locals\/X.env.cells.lookup x=some a))->Q () s') (hf:Hf X x:=by first|exact .inl rfl|exact .inr rfl|assumption):wpAny M A (storeName X.env x u) Q E s:=by
 obtain⟨m,hn,hl⟩:=id I.loc;have hcls:(X.env.scope.kind == .class || (X.env.scope.kind == .module && X.env.locals != X.env.globals))=false:=by rw[I.ok.kind];rfl
 have hiZ:i<Z.length:=by rw[I.len];exact(ai.mp hi).1
 have cne:=I.cne;have tracked:∀{a:Addr} {h':Heap},(∃o,s.heap.get? a=some o/\H a=none)->Heap.SameBut a s.heap h'->HOk X.prog X.w H h':=λ{a h'} ha hs b ob e=>by
  obtain⟨_,_,hfree⟩:=ha;refine(I.hok b ob e).stay (λc w' hc q=>(hs.2 c ?_).trans q) (λ_ q=>q) λ_ _ q=>q
  rintro rfl
  rcases hc with rfl|hc
  .rw[hfree]at e;cases e
  .rw[hfree]at hc;cases hc
 rcases hx with hk|hk
 .refine wpAny_storeName_local hk hn (λh' hn' hs=>?_) hcls;obtain⟨oL,_,_,hoL,_⟩:=id hn;refine h _ ⟨I.ok,I.os,I.bare,⟨λb o e n hb hx=>?_,λb o e n hb hx=>?_,I.base.free,λb o e hx=>?_,I.base.tups,I.base.frzs,I.base.tbls⟩,⟨_,hn',λj y v' e1 e2 e3=>?_⟩,λy c e=>?_,I.free,I.freeC,λp hp=>?_,tracked ⟨oL,hoL,I.free⟩ hs,by simpa using I.len⟩ ⟨_,hs,.inl rfl⟩
  .exact(hs.2 b (br (aT (aP e) I.ok.above))).trans (I.base.keep b o e n hb hx)
  .obtain⟨sl,e1⟩:=I.base.slot b o e n hb hx;exact⟨sl,(hs.2 b (br (aT (aP e) I.ok.above))).trans e1⟩
  .obtain⟨o',e1⟩:=I.base.there b o e hx;exact⟨o',(hs.2 b (br (aT (aP e) I.ok.above))).trans e1⟩
  .by_cases hj:j=i
   .subst hj;rw[hi]at e1;cases e1
    rw[cQ hiZ]at e2;cases e2
    exact⟨u,r,.inl ⟨hk,by simp⟩⟩
   .rw[eL (fz hj)]at e2;obtain⟨u',r',q⟩:=hl j y v' e1 e2 e3;refine⟨u',r',?_⟩
    rcases q with⟨k,e⟩|⟨k,c,e,z⟩
    .refine .inl ⟨k,?_⟩;have:y≠x:=λe=>hj (af2 hN e1 (e ▸ hi));simp[this,e]
    .exact .inr ⟨k,c,e,z.sameBut hs (cne y c e)⟩
  .obtain⟨w',z⟩:=I.cell y c e;exact⟨w',z.sameBut hs (cne y c e)⟩
  .obtain⟨e,n,ne,nf,d⟩:=I.pin p hp;exact⟨(hs.2 p.1 ne).trans e,n,ne,nf,d⟩
 .have hfn:X.fn x=true:=by
   rcases hf with z|z
   .exact z
   .rw[z]at hk;cases hk
  obtain⟨c,hc⟩:=I.ok.has x (.inl hk);obtain⟨w',z⟩:=I.cell x c hc;refine wpAny_storeName_cell I.ok.kind hk hc z (λh' hc' hs=>?_);obtain⟨oc,hoc,hocd⟩:=id z;refine h {s with heap:=h' } ⟨I.ok,I.os,I.bare,⟨λb o e n hb hx=>?_,λb o e n hb hx=>?_,I.base.free,λb o e hx=>?_,I.base.tups,I.base.frzs,I.base.tbls⟩,⟨m,hn.sameBut hs (fz (cne x c hc)),λj y v' e1 e2 e3=>?_⟩,λy c' e=>?_,I.free,I.freeC,λp hp=>?_,tracked ⟨oc,hoc,I.freeC x c hc⟩ hs,by simpa using I.len⟩ ⟨c,hs,.inr hc⟩
  .exact(hs.2 b (br (aT (aP e) (I.ok.cab x c hfn hc)))).trans (I.base.keep b o e n hb hx)
  .obtain⟨sl,e1⟩:=I.base.slot b o e n hb hx;exact⟨sl,(hs.2 b (br (aT (aP e) (I.ok.cab x c hfn hc)))).trans e1⟩
  .obtain⟨o',e1⟩:=I.base.there b o e hx;exact⟨o',(hs.2 b (br (aT (aP e) (I.ok.cab x c hfn hc)))).trans e1⟩
  .by_cases hj:j=i
   .subst hj;rw[hi]at e1;cases e1
    rw[cQ hiZ]at e2;cases e2
    exact⟨u,r,.inr ⟨.inl hk,c,hc,hc'⟩⟩
   .rw[eL (fz hj)]at e2;obtain⟨u',r',q⟩:=hl j y v' e1 e2 e3;refine⟨u',r',?_⟩
    rcases q with q|⟨k,c',e,z'⟩
    .exact .inl q
    .refine .inr ⟨k,c',e,z'.sameBut hs ?_⟩
     rintro rfl
     exact hj (af2 hN e1 (I.ok.inj _ _ _ e hc ▸ hi))
  .by_cases hcc:c'=c
   .subst hcc;exact⟨_,hc'⟩
   .obtain⟨w2,z2⟩:=I.cell y c' e;exact⟨w2,z2.sameBut hs hcc⟩
  .obtain⟨e,n,ne,nf,d⟩:=I.pin p hp;refine⟨(hs.2 p.1 ?_).trans e,n,ne,nf,d⟩
   intro q
   rw[q,hoc]at e;have q':oc=p.2:=bP e;exact d w' (by rw[<-q'];exact hocd)
theorem a9r(I:Inv X aA Z H s)(hN:X.N.Nodup)(hi:X.N[i]? = some x)(hx:Loc X.env.scope x)(r:RelV v u)
  (h:∀s',Inv X aA (Z.set i (some v)) H s'->Q () s') (hf:Hf X x:=by first|exact .inl rfl|exact .inr rfl|assumption):wpAny M A (storeName X.env x u) Q E s :=
 abi I hN hi hx r (λs' I' _=>h s' I') hf
end
abbrev XK:=Value->Option Addr->Hp->Prop
abbrev St:=List (Option V)
abbrev VK:=V->Hp->Prop
abbrev TE:=St->Hp->VK->Prop
abbrev TT:=St->Hp->(Bool->Hp->Prop)->Prop
abbrev TA:=St->Hp->(List V->Hp->Prop)->Prop
structure Ends where
 nx:St->Hp->Prop
 rt:VK
 bk:St->Hp->Prop:=λ_ _=>False
 ct:St->Hp->Prop:=λ_ _=>False
abbrev TS:=Ends->St->Hp->Prop
def EP(X:Cx)(aA:List (Addr×Obj))(Z:St)(Q:VK)(u:Value)(s':Shared):Prop:=∃v H',Inv X aA Z H' s'/\RelV v u/\Q v H'
def TP(X:Cx)(aA:List (Addr×Obj))(Z:St)(Q:Bool->Hp->Prop)(b:Bool)(s':Shared):Prop:=∃H',Inv X aA Z H' s'/\Q b H'
def AP(X:Cx)(aA:List (Addr×Obj))(Z:St)(Q:List V->Hp->Prop)(us:List Value)(s':Shared):Prop:=∃vs H',Inv X aA Z H' s'/\Vals vs us/\Q vs H'
def SP(X:Cx)(aA:List (Addr×Obj))(D:Ends)(f:Flow)(s':Shared):Prop :=
 match f with
 |.next=>∃Z' H',Inv X aA Z' H' s'/\D.nx Z' H'
 |.brk=>∃Z' H',Inv X aA Z' H' s'/\D.bk Z' H'
 |.cont=>∃Z' H',Inv X aA Z' H' s'/\D.ct Z' H'
 |.ret u=>∃v Z' H',Inv X aA Z' H' s'/\RelV v u/\D.rt v H'
def PE(X:Cx)(e:Expr)(t:TE):Prop :=
 ∀(aA:List (Addr×Obj)) (s:Shared) (Z:St) (H:Hp) (Q:VK),Inv X aA Z H s->t Z H Q->wpAny (model X.prog X.w) X.A (eval e X.env) (EP X aA Z Q) X.xe s
def PT(X:Cx)(e:Expr)(t:TT):Prop :=
 ∀(aA:List (Addr×Obj)) (s:Shared) (Z:St) (H:Hp) (Q:Bool->Hp->Prop),Inv X aA Z H s->t Z H Q->wpAny (model X.prog X.w) X.A (isTrue e X.env (eval e X.env)) (TP X aA Z Q) X.xe s
def PW(X:Cx)(e:Expr)(t:TT):Prop :=
 ∀(whole:Sem Value) (aA:List (Addr×Obj)) (s:Shared) (Z:St) (H:Hp) (Q:Bool->Hp->Prop),Inv X aA Z H s->t Z H Q->wpAny (model X.prog X.w) X.A (isTrue e X.env whole) (TP X aA Z Q) X.xe s
theorem PW.pt(h:PW X e t):PT X e t:=h _
def PA(X:Cx)(es:List Expr)(t:TA):Prop :=
 ∀(pos:Pos) (aA:List (Addr×Obj)) (s:Shared) (Z:St) (H:Hp) (Q:List V->Hp->Prop),Inv X aA Z H s->t Z H Q->wpAny (model X.prog X.w) X.A (spliced (backTo pos (starEach es X.env))) (AP X aA Z Q) X.xe s
def PS(X:Cx)(st:Stmt)(t:TS):Prop :=
 ∀(aA:List (Addr×Obj)) (s:Shared) (Z:St) (H:Hp) (D:Ends),Inv X aA Z H s->t D Z H->wpAny (model X.prog X.w) X.A (exec st X.env) (SP X aA D) X.xe s
def PSs(X:Cx)(st:List Stmt)(t:TS):Prop :=
 ∀(aA:List (Addr×Obj)) (s:Shared) (Z:St) (H:Hp) (D:Ends),Inv X aA Z H s->t D Z H->wpAny (model X.prog X.w) X.A (execs st X.env) (SP X aA D) X.xe s
theorem thn{α:Type}{t:Sem α}{Q Q':α->Shared->Prop}{M:Model}{A:Around}{E:Value->Shared->Prop}{s:Shared}(h:wpAny M A t Q E s)(hQ:∀a s,Q a s->Q' a s):wpAny M A t Q' E s:=bL h hQ λ_ _ x=>x
section
variable{X:Cx}
def b4t(i:Nat):TE:=λZ H Q=>∃v,Z[i]? = some (some v)/\Q v H
def tC(v:V):TE:=λ_ H Q=>Q v H
theorem aw6(hN:X.N[i]? = some x)(hv:Vis X.env.scope x)(hd:(x == ("__debug__" : Str))=false:=by decide)(hcd:(x == ("__classdict__" : Str))=false:=by decide):PE X (.Name x pos) (b4t i):=by
 intro aA s Z H Q I h
 obtain⟨v,e,h⟩:=h;obtain⟨m,hn,hl⟩:=I.loc;obtain⟨u,r,l⟩:=hl i x v hN e hv;have fin:EP X aA Z Q u s:=⟨v,H,I,r,h⟩
 rcases l with⟨hk,hm⟩|⟨hk,c,hc,hcell⟩
 .exact wpAny_Name (wpAny_loadName_local I.ok.kind hk hn hm fin) hd
 .rcases hk with hk|hk
  .exact wpAny_Name (wpAny_loadName_cell I.ok.kind hk hc hcell fin) hd
  .exact wpAny_Name (wpAny_loadName_free I.ok.kind hk hc hcell fin hcd) hd
theorem aw7{i j pos}:PE X (.Constant (.int i) j pos) (tC (.int i)):=λ_ _ _ H _ I h=>wpAny_Constant_int ⟨.int i,H,I.tok _,⟨_,rfl⟩,h⟩
theorem b1p{b j pos}:PE X (.Constant (.bool b) j pos) (tC (.bl b)):=λ_ _ _ H _ I h=>Constant_bool ⟨.bl b,H,I,rfl,h⟩
theorem aw8{j pos}:PE X (.Constant .none j pos) (tC .non):=λ_ _ _ H _ I h=>Constant_none ⟨.non,H,I,rfl,h⟩
theorem aw9{x j pos}:PE X (.Constant (.str x) j pos) (tC (.str x)):=λ_ _ _ H _ I h=>Calls.Constant_str ⟨.str x,H,I.tok _,⟨_,rfl⟩,h⟩
def Gl(X:Cx)(x:Str):Prop:=X.env.kindOf x=some .globalImplicit
theorem a9s(I:Inv X aA Z H s)(hg:Gl X x)(hm:X.mg x=some u)(h:Q u s)
  (hd:(x == ("__debug__" : Str))=false:=by decide):wpAny (model X.prog X.w) X.A (eval (.Name x pos) X.env) Q E s :=
 Calls.Name_function_global I.ok.kind hg (Calls.loadGlobal_global (by rw[I.ok.glob];exact I.mod.glob.keeps I.bk) hm h) hd
theorem a66(I:Inv X aA Z H s)(hg:Gl X x)(hm:X.mg x=none)(hv:bootBuiltins x=some u)(h:Q u s)
  (hn:x ≠ "__name__":=by decide) (hd:(x == ("__debug__" : Str))=false:=by decide):wpAny (model X.prog X.w) X.A (eval (.Name x pos) X.env) Q E s:=by
 obtain⟨mb,h1,h2⟩:=I.mod.blt;exact Calls.Name_function_global I.ok.kind hg (Calls.loadGlobal_builtin (by rw[I.ok.glob];exact I.mod.glob.keeps I.bk) hm (by rw[I.ok.blt];exact h1.keeps I.bk) ((h2 x hn).trans hv) h) hd
theorem ars(hg:Gl X x)(hm:X.mg x=some u)(r:RelV v u)(hd:(x == ("__debug__" : Str))=false:=by decide):PE X (.Name x pos) (tC v) :=
 λ_ _ _ H _ I h=>a9s I hg hm ⟨v,H,I,r,h⟩ hd
theorem art(hg:Gl X x)(hm:X.mg x=none)(hv:bootBuiltins x=some u)(r:RelV v u)(hn:x ≠ "__name__":=by decide)(hd:(x == ("__debug__" : Str))=false:=by decide):PE X (.Name x pos) (tC v) :=
 λ_ _ _ H _ I h=>a66 I hg hm hv ⟨v,H,I,r,h⟩ hn hd
variable{a b:Expr}{ta tb:TE}{pos:Pos}
variable{tA tB':TT}{aG:List Expr}
def b4u(t u:TT):TT:=λZ H Q=>t Z H λc H1=>if c=true then u Z H1 Q else Q false H1
def tOr(t u:TT):TT:=λZ H Q=>t Z H λc H1=>if c=true then Q true H1 else u Z H1 Q
def b4v(t:TT):TT:=λZ H Q=>t Z H λc H1=>Q (!c) H1
theorem aru(ha:PT X a tA):PW X (.BoolOp .And [a] pos) tA:=by
 intro wh aA s Z H Q I h
 refine isTrue_and (thn (ha aA s Z H Q I h) λc s1 e=>?_)
 cases c with
 |true=>exact isTrue_and_nil e
 |false=>exact e
theorem awa(ha:PT X a tA):PW X (.BoolOp .Or [a] pos) tA:=by
 intro wh aA s Z H Q I h
 refine isTrue_or (thn (ha aA s Z H Q I h) λc s1 e=>?_)
 cases c with
 |false=>exact isTrue_or_nil e
 |true=>exact e
theorem awb(ha:PT X a tA)(hb:PW X (.BoolOp .And (b::aG) pos) tB'):PW X (.BoolOp .And (a::b::aG) pos) (b4u tA tB'):=by
 intro wh aA s Z H Q I h
 refine isTrue_and (thn (ha aA s Z H _ I h) λc s1 ⟨H1,I1,q1⟩=>?_)
 cases c with
 |true=>exact hb wh aA s1 Z H1 Q I1 q1
 |false=>exact⟨H1,I1,q1⟩
theorem b1q(ha:PT X a tA)(hb:PW X (.BoolOp .Or (b::aG) pos) tB'):PW X (.BoolOp .Or (a::b::aG) pos) (tOr tA tB'):=by
 intro wh aA s Z H Q I h
 refine isTrue_or (thn (ha aA s Z H _ I h) λc s1 ⟨H1,I1,q1⟩=>?_)
 cases c with
 |true=>exact⟨H1,I1,q1⟩
 |false=>exact hb wh aA s1 Z H1 Q I1 q1
theorem awc(ha:PT X a tA):PT X (.UnaryOp .Not a pos) (b4v tA):=by
 intro aA s Z H Q I h
 exact isTrue_not (ha aA s Z H (λc H1=>Q (!c) H1) I h)
noncomputable def b1r(ta tb:TE):TE:=λZ H Q=>ta Z H λx H1=>∃c,x=.bl c/\if c=true then tb Z H1 Q else Q (.bl false) H1
noncomputable def b4w(ta tb:TE):TE:=λZ H Q=>ta Z H λx H1=>∃c,x=.bl c/\if c=true then Q (.bl true) H1 else tb Z H1 Q
def b1s(ta:TE):TE:=λZ H Q=>ta Z H λx H1=>∃c,x=.bl c/\Q (.bl (!c)) H1
theorem awd{op}(h:PE X a t):PE X (.BoolOp op [a] pos) t:=λaA s Z H Q I hw=>BoolOp_one (h aA s Z H Q I hw)
theorem awe(ha:PE X a ta)(hb:PE X (.BoolOp .And (b::aG) pos) tb):PE X (.BoolOp .And (a::b::aG) pos) (b1r ta tb):=by
 intro aA s Z H Q I h
 refine BoolOp_and (thn (ha aA s Z H _ I h) λv s1 ⟨x,H1,I1,r1,q1⟩=>?_);obtain⟨c,rfl,q1⟩:=q1;cases r1
 refine cU ?_
 cases c with
 |true=>exact hb aA s1 Z H1 Q I1 q1
 |false=>exact⟨.bl false,H1,I1,rfl,q1⟩
theorem b1t(ha:PE X a ta)(hb:PE X (.BoolOp .Or (b::aG) pos) tb):PE X (.BoolOp .Or (a::b::aG) pos) (b4w ta tb):=by
 intro aA s Z H Q I h
 refine BoolOp_or (thn (ha aA s Z H _ I h) λv s1 ⟨x,H1,I1,r1,q1⟩=>?_);obtain⟨c,rfl,q1⟩:=q1;cases r1
 refine cU ?_
 cases c with
 |false=>exact hb aA s1 Z H1 Q I1 q1
 |true=>exact⟨.bl true,H1,I1,rfl,q1⟩
theorem awf(ha:PE X a ta):PE X (.UnaryOp .Not a pos) (b1s ta):=by
 intro aA s Z H Q I h
 refine UnaryOp_ (thn (ha aA s Z H _ I h) λv s1 ⟨x,H1,I1,r1,q1⟩=>?_);obtain⟨c,rfl,q1⟩:=q1;cases r1
 exact not_of (cU ⟨.bl (!c),H1,I1,rfl,q1⟩)
def tIf(t:TT)(ta tb:TE):TE:=λZ H Q=>t Z H λc H1=>if c=true then ta Z H1 Q else tb Z H1 Q
theorem amt{c:Expr}(hc:PT X c tA)(ha:PE X a ta)(hb:PE X b tb):PE X (.IfExp c a b pos) (tIf tA ta tb):=by
 intro aA s Z H Q I h
 refine wpAny_IfExp (thn (hc aA s Z H _ I h) λd s1 ⟨H1,I1,q1⟩=>?_)
 cases d with
 |true=>exact ha aA s1 Z H1 Q I1 q1
 |false=>exact hb aA s1 Z H1 Q I1 q1
end
def SqL(K:Fg)(H:Hp)(a:Addr)(xs:List V):Prop :=
 Rd H a (.lst xs) \/
  ∃(o:Obj) (its:Array Value) (n:Nat),K.lookup a=some o/\o.cls=.type "list"/\o.dict=none/\o.data=.seq its n/\its.size<=sizeLine/\Vals xs its.toList
def SqT(K:Fg)(H:Hp)(a:Addr)(xs:List V):Prop :=
 Rd H a (.tup xs) \/
  ∃(o:Obj) (its:Array Value) (n:Nat),K.lookup a=some o/\o.cls=.type "tuple"/\o.data=.seq its n/\its.size<=sizeLine/\Vals xs its.toList
noncomputable def b4x:Value->Option V
 |.none=>some .non
 |.bool b=>some (.bl b)
 |.int i _=>some (.int i)
 |.str x _=>some (.str x)
 |.bytes b _=>some (.byt b)
 |.float b _=>some (.flt b)
 |.ref a=>some (.ref a)
 |.type n=>some (.ty n)
 |_=>none
theorem RelV.abs(r:RelV x u):b4x u=some x:=by
 cases x with
 |non=>cases r;rfl
 |bl _=>cases r;rfl
 |int _=>obtain⟨t,rfl⟩:=r;rfl
 |str _=>obtain⟨t,rfl⟩:=r;rfl
 |byt _=>obtain⟨t,rfl⟩:=r;rfl
 |flt _=>obtain⟨t,rfl⟩:=r;rfl
 |ref _=>cases r;rfl
 |ty _=>cases r;rfl
theorem RelV.inj(r:RelV x u)(q:RelV y u):x=y:=bP (r.abs.symm.trans q.abs)
theorem Vals.inj:∀{xs ys:List V} {us:List Value},Vals xs us->Vals ys us->xs=ys
 |_,_,_,.nil,.nil=>rfl
 |_,_,_,.cons r t,.cons r' t'=>by rw[r.inj r',Vals.inj t t']
section
variable{X:Cx}{aA:List (Addr×Obj)}{Z:St}{H:Hp}{s:Shared}{a:Addr}{xs ys:List V}
theorem SqL.of{K:Fg}(h:H a=some (.lst xs)):SqL K H a xs:=.inl (.inl h)
theorem SqT.of{K:Fg}(h:H a=some (.tup xs)):SqT K H a xs:=.inl (.inl h)
theorem Inv.list(I:Inv X aA Z H s)(h:SqL X.K H a xs):∃its:List Value,Vals xs its/\PlainL s.heap a its.toArray/\xs.length<=sizeLine:=by
 rcases h with h|⟨o,its,n,hk,hc,hd,hs,hz,r⟩
 .obtain⟨z,its,n,r,e⟩:=h.ok I.hok;exact⟨its,r,⟨_,n,e,rfl,rfl,rfl⟩,z⟩
 .refine⟨its.toList,r,⟨o,n,I.kIn a o hk,hc,hd,by simpa using hs⟩,?_⟩
  have e:=r.length;simp only[bp]at e;omega
theorem Inv.tuple(I:Inv X aA Z H s)(h:SqT X.K H a xs):∃its:List Value,Vals xs its/\IsTup s.heap a its.toArray/\xs.length<=sizeLine:=by
 rcases h with h|⟨o,its,n,hk,hc,hs,hz,r⟩
 .obtain⟨z,its,r,p⟩:=h.ok I.hok;exact⟨its,r,p,z⟩
 .refine⟨its.toList,r,⟨o,I.kIn a o hk,hc,n,by simpa using hs⟩,?_⟩
  have e:=r.length;simp only[bp]at e;omega
theorem Inv.list_inj(I:Inv X aA Z H s)(h:SqL X.K H a xs)(h':SqL X.K H a ys):xs=ys:=by
 obtain⟨its,r,⟨o,n,e,_,_,d⟩,_⟩:=I.list h;obtain⟨its',r',⟨o',n',e',_,_,d'⟩,_⟩:=I.list h';rw[e]at e';cases e'
 rw[d]at d'
 injection d' with d1 _
 have:its=its':=by simpa using aI Array.toList d1
 subst this;exact r.inj r'
theorem Inv.tuple_inj(I:Inv X aA Z H s)(h:SqT X.K H a xs)(h':SqT X.K H a ys):xs=ys:=by
 obtain⟨its,r,⟨o,e,_,n,d⟩,_⟩:=I.tuple h;obtain⟨its',r',⟨o',e',_,n',d'⟩,_⟩:=I.tuple h';rw[e]at e';cases e'
 rw[d]at d'
 injection d' with d1 _
 have:its=its':=by simpa using aI Array.toList d1
 subst this;exact r.inj r'
end
abbrev Cx.wish(X:Cx)(E:Value->Shared->Prop):Cx:={X with xe:=E}
abbrev Cx.nox(X:Cx):Cx:=X.wish λ_ _=>False
theorem Cx.Ok.wish{X:Cx}(ok:X.Ok)(E:Value->Shared->Prop):(X.wish E).Ok :=
 ⟨ok.mod,ok.kind,ok.glob,ok.blt,ok.above,ok.inj,ok.has,ok.cab,ok.hd,ok.frames,ok.stk,ok.exf,ok.bs,ok.bsz,ok.noex,ok.exfs,ok.funs,ok.frf⟩
theorem Cx.Ok.unwish{X:Cx}(ok:(X.wish E).Ok):X.Ok :=
 ⟨ok.mod,ok.kind,ok.glob,ok.blt,ok.above,ok.inj,ok.has,ok.cab,ok.hd,ok.frames,ok.stk,ok.exf,ok.bs,ok.bsz,ok.noex,ok.exfs,ok.funs,ok.frf⟩
section
variable{X:Cx}{aA:List (Addr×Obj)}{Z:St}{H:Hp}{s:Shared}{E:Value->Shared->Prop}
theorem Inv.wish(I:Inv X aA Z H s)(E:Value->Shared->Prop):Inv (X.wish E) aA Z H s:=⟨I.ok.wish E,I.os,I.bare,I.base,I.loc,I.cell,I.free,I.freeC,I.pin,I.hok,I.len⟩
theorem Inv.unwish(I:Inv (X.wish E) aA Z H s):Inv X aA Z H s:=⟨I.ok.unwish,I.os,I.bare,I.base,I.loc,I.cell,I.free,I.freeC,I.pin,I.hok,I.len⟩
theorem SP.unwish(h:SP (X.wish E) aA D f s'):SP X aA D f s':=by
 cases f with
 |next=>obtain⟨Z',H',I,q⟩:=h;exact⟨Z',H',I.unwish,q⟩
 |brk=>obtain⟨Z',H',I,q⟩:=h;exact⟨Z',H',I.unwish,q⟩
 |cont=>obtain⟨Z',H',I,q⟩:=h;exact⟨Z',H',I.unwish,q⟩
 |ret u=>obtain⟨v,Z',H',I,r,q⟩:=h;exact⟨v,Z',H',I.unwish,r,q⟩
theorem PSs.nox{st:List Stmt}{t:TS}(h:PSs X.nox st t):PSs X st t:=λaA s Z H D I hw =>
 bL (h aA s Z H D (I.wish _) hw) (λ_ _ q=>q.unwish) λ_ _ z=>False.elim z
end
section
variable{X:Cx}{st:Stmt}{aG:List Stmt}{t u:TS}{e:Expr}{te:TE}{pos:Pos}
def b1u:TS:=λD Z H=>D.nx Z H
def b4y(t u:TS):TS:=λD Z H=>t {D with nx:=u D} Z H
theorem arv:PSs X [] b1u:=λ_ _ Z H _ I h=>gR ⟨Z,H,I,h⟩
theorem amu(h1:PS X st t)(h2:PSs X aG u):PSs X (st::aG) (b4y t u):=by
 intro aA s Z H D I h
 refine wpAny_execs_cons (thn (h1 aA s Z H {D with nx:=u D} I h) λf s1 q=>?_)
 cases f with
 |next =>
  obtain⟨Z',H',I',q⟩:=q;exact h2 aA s1 Z' H' D I' q
 |ret v=>exact q
 |brk=>exact q
 |cont=>exact q
theorem arw(h1:PS X st t):PSs X [st] t:=by
 intro aA s Z H D I h
 refine wpAny_execs_cons (thn (h1 aA s Z H D I h) λf s1 q=>?_)
 cases f with
 |next=>exact gR q
 |ret v=>exact q
 |brk=>exact q
 |cont=>exact q
theorem Inv.quiet(I:Inv X aA Z H s):interactive X.env=false:=by simp[interactive,I.ok.kind]
def b1v(te:TE):TS:=λD Z H=>te Z H λ_ H1=>D.nx Z H1
theorem arx(he:PE X e te)(hs:swapsWith e none pos.line X.env=pure false:=by rfl):PS X (.Expr e pos) (b1v te):=by
 intro aA s Z H D I h
 exact wpAny_Expr_any (thn (he aA s Z H _ I h) λv s1 ⟨x,H1,I1,r1,q1⟩=>⟨Z,H1,I1,q1⟩) I.quiet hs
def b4z(te:TE):TS:=λD Z H=>te Z H D.rt
theorem awg(he:PE X e te):PS X (.Return (some e) pos) (b4z te):=by
 intro aA s Z H D I h
 exact wpAny_Return_some (thn (he aA s Z H _ I h) λv s1 ⟨x,H1,I1,r1,q1⟩=>⟨x,Z,H1,I1,r1,q1⟩)
def b50(c:TT)(t u:TS):TS:=λD Z H=>c Z H λb H1=>if b=true then t D Z H1 else u D Z H1
theorem b1w{c:Expr}{a b:List Stmt}{tc:TT}(hc:PT X c tc)(ha:PSs X a t)(hb:PSs X b u):PS X (.If c a b pos) (b50 tc t u):=by
 intro aA s Z H D I h
 refine wpAny_If (thn (hc aA s Z H _ I h) λd s1 ⟨H1,I1,q1⟩=>?_)
 cases d with
 |true=>exact ha aA s1 Z H1 D I1 q1
 |false=>exact hb aA s1 Z H1 D I1 q1
end
abbrev TG:=V->St->Hp->(St->Hp->Prop)->Prop
abbrev TGs:=List V->St->Hp->(St->Hp->Prop)->Prop
def PG(X:Cx)(target:Expr)(t:TG):Prop :=
 ∀(aA:List (Addr×Obj)) (s:Shared) (Z:St) (H:Hp) (v:V) (u:Value) (Q:St->Hp->Prop),Inv X aA Z H s->RelV v u->t v Z H Q->
  wpAny (model X.prog X.w) X.A (assign target X.env u) (λ_ s'=>∃Z' H',Inv X aA Z' H' s'/\Q Z' H') X.xe s
def PGs(X:Cx)(ts:List Expr)(t:TGs):Prop :=
 ∀(aA:List (Addr×Obj)) (s:Shared) (Z:St) (H:Hp) (vs:List V) (us:List Value) (Q:St->Hp->Prop),Inv X aA Z H s->Vals vs us->t vs Z H Q->
  wpAny (model X.prog X.w) X.A (assignInOrder ((assignEach ts X.env).map (·.2)) us) (λ_ s'=>∃Z' H',Inv X aA Z' H' s'/\Q Z' H') X.xe s
abbrev awh:=V->V->V->Hp->(Hp->Prop)->Prop
def b1x(X:Cx)(t:awh):Prop :=
 ∀(aA:List (Addr×Obj)) (s:Shared) (Z:St) (H:Hp) (o i v:V) (ov iv u:Value) (Q:Hp->Prop),Inv X aA Z H s->RelV o ov->RelV i iv->RelV v u->t o i v H Q->
  wpAny (model X.prog X.w) X.A (setItem ov iv u) (λ_ s'=>∃H',Inv X aA Z H' s'/\Q H') X.xe s
abbrev TIp:=V->V->Hp->VK->Prop
def PIp(X:Cx)(op:Operator)(t:TIp):Prop :=
 ∀(aA:List (Addr×Obj)) (s:Shared) (Z:St) (H:Hp) (x y:V) (v u:Value) (Q:VK),Inv X aA Z H s->RelV x v->RelV y u->t x y H Q->
  wpAny (model X.prog X.w) X.A (inplaceOp op v u) (EP X aA Z Q) X.xe s
section
variable{X:Cx}{pos:Pos}
def a05(i:Nat):TG:=λv Z H Q=>Q (Z.set i (some v)) H
theorem a9t(hN:X.N.Nodup)(hi:X.N[i]? = some x)(hx:Loc X.env.scope x)(hf:Hf X x:=by first|exact .inl rfl|exact .inr rfl|assumption):PG X (.Name x pos) (a05 i):=by
 intro aA s Z H v u Q I r h
 exact wpAny_assign_Name (a9r I hN hi hx r (λs' I'=>⟨_,H,I',h⟩) hf)
def b3p:TGs:=λvs Z H Q=>vs=[]/\Q Z H
def amv(t:TG)(u:TGs):TGs:=λvs Z H Q=>∃v r,vs=v::r/\t v Z H λZ' H'=>u r Z' H' Q
theorem aib:PGs X [] b3p:=by
 intro aA s Z H vs us Q I r h
 obtain⟨e,h⟩:=h;subst e;cases r
 exact assignInOrder_nil ⟨Z,H,I,h⟩
theorem a9u{e:Expr}{es:List Expr}{t:TG}{u:TGs}(h1:PG X e t)(h2:PGs X es u)
  (hs:(assignEach (e::es) X.env).map (·.2)=assign e X.env::(assignEach es X.env).map (·.2):=by rfl):PGs X (e::es) (amv t u):=by
 intro aA s Z H vs us Q I r h
 obtain⟨v,vr,e1,h⟩:=h;subst e1
 cases r with
 |cons r rr =>
  rw[hs];refine assignInOrder_cons (thn (h1 aA s Z H _ _ _ I r h) λ_ s1 ⟨Z1,H1,I1,q1⟩=>?_);exact h2 aA s1 Z1 H1 _ _ Q I1 rr q1
def yj(K:Fg)(n:Nat)(t:TGs):TG:=λv Z H Q=>∃a xs,v=.ref a/\SqT K H a xs/\xs.length=n/\t xs Z H Q
theorem apu(hc:X.calm=true)(h:PGs X es t)
  (hn:(assignEach es X.env).length=n:=by rfl) (hst:(assignEach es X.env).findIdx? (·.1)=none:=by rfl):PG X (.Tuple es k pos) (yj X.K n t):=by
 intro aA s Z H v u Q I r hw
 obtain⟨a,xs,e1,hq,hl,hw⟩:=hw;subst e1;cases r
 obtain⟨its,rv,ht,hz⟩:=I.tuple hq;refine assign_Tuple_tuple (I.ok.hd hc) ht (by simp[hn,<-hl,rv.length]) hst λh' hx=>?_
 have I1:Inv X aA Z H {s with heap:=h' }:=I.kept (t':=s.toks) λb o e=>hx b o (br (aP e)) e
 exact h aA _ Z H xs _ Q I1 (by simpa using rv) hw
def a77(to ti:TE)(t:awh):TG:=λv Z H Q=>to Z H λo H1=>ti Z H1 λi H2=>t o i v H2 λH3=>Q Z H3
theorem awi{o i:Expr}{to ti:TE}{t:awh}(ho:PE X o to)(hi:PE X i ti)(hs:b1x X t)
  (ha:∀v,assign (.Subscript o i pos) X.env v=(do
   let ov <-holding [v] (eval o X.env)
   let iv <-holding [v,ov] (eval i X.env)
   standAt pos
   holding [v,ov,iv] (setItem ov iv v)
   release [v,ov,iv] []):=by intro _;rfl):PG X (.Subscript o i pos) (a77 to ti t):=by
 intro aA s Z H v u Q I r h
 rw[ha];refine ae (cX (thn (ho aA s Z H _ I h) λov s1 ⟨x,H1,I1,r1,q1⟩=>?_));refine ae (cX (thn (hi aA s1 Z H1 _ I1 q1) λiv s2 ⟨y,H2,I2,r2,q2⟩=>?_));refine ae (dY (ae (cX (thn (hs aA s2 Z H2 x y v ov iv u _ I2 r1 r2 r q2) λ_ s3 ⟨H3,I3,q3⟩=>?_))));exact wpAny_release ⟨Z,H3,I3,q3⟩
def awj(te:TE)(g:TG):TS:=λD Z H=>te Z H λx H1=>g x Z H1 D.nx
theorem apv{tg e:Expr}{te:TE}{g:TG}(he:PE X e te)(hg:PG X tg g)(hs:swapsWithSole [tg] e pos.line X.env=pure false:=by rfl)(hw:swappedStores [tg] e X.env=pure none:=by rfl)
  (h1:(assignEach [tg] X.env).map (·.2)=[assign tg X.env]:=by rfl):PS X (.Assign [tg] e pos) (awj te g):=by
 intro aA s Z H D I h
 refine wpAny_Assign_stores (thn (he aA s Z H _ I h) λv s1 ⟨x,H1,I1,r1,q1⟩=>?_) hs hw;rw[h1];exact thn (hg aA s1 Z H1 x v _ I1 r1 q1) λ_ s2 q=>q
theorem awk{i:Nat}{x:Str}{e:Expr}{te:TE}{pos':Pos}(hN:X.N.Nodup)(hi:X.N[i]? = some x)(hx:Loc X.env.scope x)(he:PE X e te)(hs:swapsWith e (some (.Name x pos')) pos.line X.env=pure false:=by rfl)(hf:Hf X x:=by first|exact .inl rfl|exact .inr rfl|assumption) :
  PS X (.Assign [.Name x pos'] e pos) (awj te (a05 i)):=by
 intro aA s Z H D I h
 refine wpAny_Assign_Name (thn (he aA s Z H _ I h) λv s1 ⟨y,H1,I1,r1,q1⟩=>?_) hs;exact a9r I1 hN hi hx r1 (λs2 I2=>⟨_,H1,I2,q1⟩) hf
noncomputable def b51(i:Nat)(te:TE)(ti:TIp):TS:=λD Z H=>∃x,Z[i]? = some (some x)/\te Z H λy H1=>ti x y H1 λz H2=>D.nx (Z.set i (some z)) H2
theorem awl{i:Nat}{x:Str}{e:Expr}{te:TE}{op:Operator}{ti:TIp}{pos':Pos}(hN:X.N.Nodup)(hi:X.N[i]? = some x)(hx:Loc X.env.scope x)(he:PE X e te)(ho:PIp X op ti)(hf:Hf X x:=by first|exact .inl rfl|exact .inr rfl|assumption) :
  PS X (.AugAssign (.Name x pos') op e pos) (b51 i te ti):=by
 intro aA s Z H D I h
 obtain⟨v,e1,h⟩:=h;obtain⟨m,hn,hl⟩:=I.loc;have vis:Vis X.env.scope x:=by rcases hx with k|k;exact .inl k;exact .inr (.inl k)
 obtain⟨u,r,l⟩:=hl i x v hi e1 vis;refine wpAny_AugAssign_Name ?_;have go:wpAny (model X.prog X.w) X.A (eval e X.env) (λw s₂=>wpAny (model X.prog X.w) X.A (inplaceOp op u w) (λr s₃=>wpAny (model X.prog X.w) X.A (storeName X.env x r) (λ_=>SP X aA D .next) X.xe s₃) X.xe s₂) X.xe s:=by
  refine thn (he aA s Z H _ I h) ?_
  rintro w s1 ⟨y,H1,I1,r1,q1⟩
  refine thn (ho aA s1 Z H1 v y u w _ I1 r r1 q1) ?_
  rintro z s2 ⟨zv,H2,I2,r2,q2⟩
  exact a9r I2 hN hi hx r2 (λs3 I3=>⟨_,H2,I3,q2⟩) hf
 rcases l with⟨hk,hm⟩|⟨hk,c,hc,hcell⟩
 .exact wpAny_loadName_local I.ok.kind hk hn hm go
 .rcases hk with hk|hk
  .exact wpAny_loadName_cell I.ok.kind hk hc hcell go
  .rcases hx with k|k
   .have:X.env.scope.names.lookup x=some .free:=hk
    rw[k]at this;cases this
   .have:X.env.scope.names.lookup x=some .free:=hk
    rw[k]at this;cases this
def b1y(to ti te:TE)(tget:V->V->Hp->VK->Prop)(tip:TIp)(tset:awh):TS:=λD Z H=>to Z H λo H1=>ti Z H1 λi H2=>tget o i H2 λx H3=>te Z H3 λy H4=>tip x y H4 λz H5=>tset o i z H5 λH6=>D.nx Z H6
def b3q(X:Cx)(t:V->V->Hp->VK->Prop):Prop :=
 ∀(aA:List (Addr×Obj)) (s:Shared) (Z:St) (H:Hp) (o i:V) (ov iv:Value) (Q:VK),Inv X aA Z H s->RelV o ov->RelV i iv->t o i H Q->
  wpAny (model X.prog X.w) X.A (getItem ov iv) (EP X aA Z Q) X.xe s
theorem arz{o i e:Expr}{to ti te:TE}{tget:V->V->Hp->VK->Prop}{tip:TIp}{tset:awh}{op:Operator}{tpos:Pos}(ho:PE X o to)(hi:PE X i ti)(hg:b3q X tget)(he:PE X e te)(hp:PIp X op tip)(hs:b1x X tset)
  (ha:∀ov iv new,augStore i ov iv new=(do holding [new,ov,iv] (setItem ov iv new);release [new,ov,iv] [];pure .next):=by intros;rfl):PS X (.AugAssign (.Subscript o i tpos) op e pos) (b1y to ti te tget tip tset):=by
 intro aA s Z H D I h
 refine wpAny_AugAssign_SubscriptAny (thn (ho aA s Z H _ I h) λov s1 ⟨x1,H1,I1,r1,q1⟩=>?_) ha;refine thn (hi aA s1 Z H1 _ I1 q1) ?_
 rintro iv s2 ⟨x2,H2,I2,r2,q2⟩
 refine thn (hg aA s2 Z H2 x1 x2 ov iv _ I2 r1 r2 q2) ?_
 rintro old s3 ⟨x3,H3,I3,r3,q3⟩
 refine thn (he aA s3 Z H3 _ I3 q3) ?_
 rintro v s4 ⟨x4,H4,I4,r4,q4⟩
 refine thn (hp aA s4 Z H4 x3 x4 old v _ I4 r3 r4 q4) ?_
 rintro new s5 ⟨x5,H5,I5,r5,q5⟩
 exact thn (hs aA s5 Z H5 x1 x2 x5 ov iv new _ I5 r1 r2 r5 q5) λ_ s6 ⟨H6,I6,q6⟩=>⟨Z,H6,I6,q6⟩
end
section
variable{X:Cx}{pos:Pos}
def awm(c:TT)(tb:TS):TS:=λD Z H=>∃W:Nat->St->Hp->Prop,(∃m,W m Z H)/\∀m Z H,W m Z H->
 c Z H λb H1=>if b=true then ∃N:St->Hp->Prop,(∀Z' H',N Z' H'->∃m',m'<m/\W m' Z' H')/\tb {D with nx:=N,ct:=N,bk:=D.nx} Z H1 else D.nx Z H1
theorem amw{c:Expr}{body:List Stmt}{tc:TT}{tb:TS}(hp:PassesOwn (model X.prog X.w) X.A X.env X.xe)(hc:PT X c tc)(hb:PSs X body tb):PS X (.While c body [] pos) (awm tc tb):=by
 intro aA s Z H D I h
 obtain⟨W,⟨m0,w0⟩,turn⟩:=h;refine wpAny_While (codeAny_whileLoop (λn s'=>∃Z' H',Inv X aA Z' H' s'/\W n Z' H') ?_ m0 ⟨Z,H,I,w0⟩)
 rintro n s1 ⟨Z1,H1,I1,w1⟩
 refine eN hp (thn (hc aA s1 Z1 H1 _ I1 (turn n Z1 H1 w1)) λb s2 ⟨H2,I2,q2⟩=>?_)
 cases b with
 |true =>
  obtain⟨N,hN,q2⟩:=q2;rw[aJ rfl];refine eN hp (thn (hb aA s2 Z1 H2 _ I2 q2) λf s3 q3=>?_)
  cases f with
  |next =>
   obtain⟨Z3,H3,I3,n3⟩:=q3;obtain⟨m',hm,w3⟩:=hN Z3 H3 n3;exact⟨m',hm,Z3,H3,I3,w3⟩
  |cont =>
   obtain⟨Z3,H3,I3,n3⟩:=q3;obtain⟨m',hm,w3⟩:=hN Z3 H3 n3;exact⟨m',hm,Z3,H3,I3,w3⟩
  |brk=>exact q3
  |ret v=>exact q3
 |false =>
  rw[ba aX];exact gR ⟨Z1,H2,I2,q2⟩
end
structure It where
 go:Nat->Hp->Prop
 yld:Nat->Hp->V->Hp->Prop
 stop:Nat->Hp->Prop
def FpOk(X:Cx)(aA:List (Addr×Obj))(H:Hp)(b:Addr):Prop :=
 H b=none/\b≠X.env.locals/\b∉X.fs/\(b∈X.ex\/X.s₀.heap.objs.size<=b)/\(∀x c,X.env.cells.lookup x=some c->c≠b)/\∀p∈X.pn++aA,p.1≠b
theorem Inv.fpOk(I:Inv X aA Z H s)(hb:s.heap.objs.size<=b)(hn:H' b=none):FpOk X aA H' b:=by
 refine⟨hn,iV (aT I.lt hb),I.nofs hb,.inr (bC I.sz hb),λx c e z=>?_,λp hp z=>?_⟩
 .obtain⟨v,q⟩:=I.cell x c e;exact absurd (aT q.lt (by rw[z];exact hb)) (bU _)
 .exact absurd (aT (aP (I.pin p hp).1) (by rw[z];exact hb)) (bU _)
structure Turn (P:Program) (w:World) (K:Fg) (tg:Expr) (J:It) (fp:List Addr) (it:Addr) (tn:Nat->Heap->Prop):Prop where
 mem:it∈fp
 obj:∀i h,tn i h->∀b∈fp,∃o,h.get? b=some o/\∀v,o.data≠.cell v
 keep:∀i h h',tn i h->(∀b∈fp,∀o,h.get? b=some o->h'.get? b=some o)->tn i h'
 item:∀(X:Cx),X.prog=P->X.w=w->X.K=K->X.calm=true->∀(i:Nat) (aA:List (Addr×Obj)) (s:Shared) (Z:St) (H:Hp) (E:Value->Shared->Prop),Inv X aA Z H s->(∀b∈fp,FpOk X aA H b)->tn i s.heap->J.go i H->
  wpAny (model P w) X.A (pyNext (.ref it)) (λr s1=>∃u,r=some u /\
   wpAny (model P w) X.A (letOwnedTupleGo tg (.ref it) u) (λ_ s2=>∃x H',Inv X aA Z H' s2/\RelV x u/\J.yld i H x H'/\tn (i+1) s2.heap/\∀b∈fp,H' b=none) E s1) E s
 done:∀(X:Cx),X.prog=P->X.w=w->X.K=K->X.calm=true->∀(i:Nat) (aA:List (Addr×Obj)) (s:Shared) (Z:St) (H:Hp) (E:Value->Shared->Prop),Inv X aA Z H s->(∀b∈fp,FpOk X aA H b)->tn i s.heap->J.stop i H->
  wpAny (model P w) X.A (pyNext (.ref it)) (λr s1=>r=none/\Inv X aA Z H s1) E s
 self:∀(A:Around) (i:Nat) (s:Shared) (Q:Value->Shared->Prop) (E:Value->Shared->Prop),tn i s.heap->Q (.ref it) s->wpAny (model P w) A (pyIter (.ref it)) Q E s
abbrev TI:=St->Hp->(It->Hp->Prop)->Prop
def PIE(X:Cx)(aA:List (Addr×Obj))(Z:St)(tg:Expr)(R:It->Hp->Prop)(itv:Value)(s2:Shared):Prop :=
 ∃(it:Addr) (fp:List Addr) (tn:Nat->Heap->Prop) (J:It) (H':Hp),itv=.ref it/\Inv X aA Z H' s2/\Turn X.prog X.w X.K tg J fp it tn/\tn 0 s2.heap/\(∀b∈fp,FpOk X aA H' b)/\R J H'
def PI(X:Cx)(tg aF:Expr)(wi:TI):Prop :=
 ∀(aA:List (Addr×Obj)) (s:Shared) (Z:St) (H:Hp) (R:It->Hp->Prop),Inv X aA Z H s->wi Z H R->
  wpAny (model X.prog X.w) X.A (eval aF X.env) (λv s1=>wpAny (model X.prog X.w) X.A (pyIter v) (PIE X aA Z tg R) X.xe s1) X.xe s
theorem aic{s:Shared}(ho:s.heap.get? it=some o)(hc:o.cls=.type n)(hd:o.data=.fields vs)
  (hn:["enumerate","zip","dict_itemiterator","dict_reverseitemiterator","odict_iterator","itertools.zip_longest","itertools.pairwise"].contains n=false) (hQ:Q () s):wpAny M A (letOwnedTupleGo tg (.ref it) u) Q E s:=by
 unfold letOwnedTupleGo
 cases tg<;>first
  |exact av hQ
  | (cases u<;>first
    |exact av hQ
    | (refine ae (wpAny_load ho ?_)
       rw[hc,hd];show wpAny M A (if (["enumerate","zip","dict_itemiterator","dict_reverseitemiterator","odict_iterator","itertools.zip_longest","itertools.pairwise"].contains n && vs[0]? == some (rawInt _))=true then _ else _) Q E s
       rw[ba (by intro h;rw[hn,Bool.false_and]at h;cases h)]
       exact av hQ))
noncomputable def Itl(K:Fg)(a:Addr):It :=
 ⟨λi H=>∃xs x,SqL K H a xs/\xs[i]? = some x,λi H x H'=>H'=H/\∀xs,SqL K H a xs->xs[i]? = some x,λi H=>∃xs,SqL K H a xs/\xs.length<=i⟩
noncomputable def Itt(K:Fg)(a:Addr):It :=
 ⟨λi H=>∃xs x,SqT K H a xs/\xs[i]? = some x,λi H x H'=>H'=H/\∀xs,SqT K H a xs->xs[i]? = some x,λi H=>∃xs,SqT K H a xs/\xs.length<=i⟩
def Itr(lo:Int)(n:Nat):It:=⟨λi _=>i<n,λi H x H'=>H'=H/\x=.int (lo+i),λi _=>n<=i⟩
theorem aid{P:Program}{w:World}{K:Fg}{tg:Expr}(a it:Addr):Turn P w K tg (Itl K a) [it] it (λi h=>h.IsListIter it a i) where
 mem:=by simp
 obj:=λi h st b hb=>by
  have e:b=it:=by simpa using hb
  subst e;obtain⟨o,e,c,d⟩:=st;exact⟨o,e,λv z=>by rw[d]at z;cases z⟩
 keep:=λi h h' st k=>st.at λo e=>k it (by simp) o e
 item:=by
  intro X hP hw hK hc i aA s Z H E I hf st hg
  subst hP hw hK;obtain⟨xs,x,hq,hx⟩:=hg;obtain⟨its,rv,p,hz⟩:=I.list hq;obtain⟨u,hu,ru⟩:=rv.get hx;obtain⟨f0,f1,f2,f3,f4,f5⟩:=hf it (by simp)
  refine wpAny_pyNext_list_item st p.isList (x:=u) (by simpa using hu) λh' st' sb=>?_
  have I1:Inv X aA Z H {s with heap:=h' }:=I.turned (t':=s.toks) (λb o hb e=>(sb.2 b hb).trans e) f0 f1 f3 f4 f5
  obtain⟨o,e,c,d⟩:=id st';exact⟨u,rfl,aic (s:={s with heap:=h' }) e c d (by decide) ⟨x,H,I1,ru,⟨rfl,λys hy=>by rw[I.list_inj hy hq];exact hx⟩,st',λb hb=>(hf b hb).1⟩⟩
 done:=by
  intro X hP hw hK hc i aA s Z H E I hf st hg
  subst hP hw hK;obtain⟨xs,hq,hx⟩:=hg;obtain⟨its,rv,p,hz⟩:=I.list hq;obtain⟨f0,f1,f2,f3,f4,f5⟩:=hf it (by simp)
  have hl:=rv.length;exact wpAny_pyNext_list_end (I.ok.hd hc) st p.isList (by simp;omega) λh' eb=>⟨rfl,I.turned (t':=s.toks) (λb o hb e=>eb b o hb e) f0 f1 f3 f4 f5⟩
 self:=λ_ _ _ _ _ st h=>wpAny_pyIter_listiter st h
theorem agu{P:Program}{w:World}{K:Fg}{tg:Expr}(a it:Addr):Turn P w K tg (Itt K a) [it] it (λi h=>h.IsTupleIter it a i) where
 mem:=by simp
 obj:=λi h st b hb=>by
  have e:b=it:=by simpa using hb
  subst e;obtain⟨o,e,c,d⟩:=st;exact⟨o,e,λv z=>by rw[d]at z;cases z⟩
 keep:=λi h h' st k=>st.at λo e=>k it (by simp) o e
 item:=by
  intro X hP hw hK hc i aA s Z H E I hf st hg
  subst hP hw hK;obtain⟨xs,x,hq,hx⟩:=hg;obtain⟨its,rv,p,hz⟩:=I.tuple hq;obtain⟨u,hu,ru⟩:=rv.get hx;obtain⟨f0,f1,f2,f3,f4,f5⟩:=hf it (by simp)
  refine wpAny_pyNext_tuple_item st (show s.heap.IsTuple a its.toArray from p) (x:=u) (by simpa using hu) λh' st' sb=>?_
  have I1:Inv X aA Z H {s with heap:=h' }:=I.turned (t':=s.toks) (λb o hb e=>(sb.2 b hb).trans e) f0 f1 f3 f4 f5
  obtain⟨o,e,c,d⟩:=id st';exact⟨u,rfl,aic (s:={s with heap:=h' }) e c d (by decide) ⟨x,H,I1,ru,⟨rfl,λys hy=>by rw[I.tuple_inj hy hq];exact hx⟩,st',λb hb=>(hf b hb).1⟩⟩
 done:=by
  intro X hP hw hK hc i aA s Z H E I hf st hg
  subst hP hw hK;obtain⟨xs,hq,hx⟩:=hg;obtain⟨its,rv,p,hz⟩:=I.tuple hq;obtain⟨f0,f1,f2,f3,f4,f5⟩:=hf it (by simp)
  have hl:=rv.length;exact wpAny_pyNext_tuple_end (I.ok.hd hc) st (show s.heap.IsTuple a its.toArray from p) (by simp;omega) λh' eb=>⟨rfl,I.turned (t':=s.toks) (λb o hb e=>eb b o hb e) f0 f1 f3 f4 f5⟩
 self:=λ_ _ _ _ _ st h=>wpAny_pyIter_tupleiter st h
theorem agv{P:Program}{w:World}{K:Fg}{tg:Expr}(it:Addr)(lo:Int)(n:Nat):Turn P w K tg (Itr lo n) [it] it (λi h=>IsRangeIter h it (lo+(i:Nat)*1) ((n:Int)-(i:Nat)) 1) where
 mem:=by simp
 obj:=λi h st b hb=>by
  have e:b=it:=by simpa using hb
  subst e;exact⟨_,st,λv z=>by
   have z':Data.fields _=Data.cell v:=z
   cases z'⟩
 keep:=λi h h' st k=>k it (by simp) _ st
 item:=by
  intro X hP hw hK hc i aA s Z H E I hf st hg
  subst hP hw hK;obtain⟨f0,f1,f2,f3,f4,f5⟩:=hf it (by simp)
  have W:=Walks.range (prog:=X.prog) (w:=X.w) (I.ok.hd hc) it lo 1 n;refine W.item i s _ _ hg st λv h' tk hv st' kk=>?_;obtain⟨t,rfl⟩:=hv;have I1:Inv X aA Z H {s with heap:=h',toks:=tk}:=I.turned (λb o hb e=>kk b o (by simpa using hb) e) f0 f1 f3 f4 f5
  refine⟨_,rfl,aic (s:={s with heap:=h',toks:=tk}) (n := "range_iterator") st' rfl rfl (by decide) ⟨.int (lo+i),H,I1,⟨t,?_⟩,⟨rfl,rfl⟩,st',λb hb=>(hf b hb).1⟩⟩
  rw[Int.mul_one]
 done:=by
  intro X hP hw hK hc i aA s Z H E I hf st hg
  subst hP hw hK;obtain⟨f0,f1,f2,f3,f4,f5⟩:=hf it (by simp)
  exact wpAny_pyNext_range_end (I.ok.hd hc) st (by have:n<=i:=hg;omega) λh' eb=>⟨rfl,I.turned (t':=s.toks) (λb o hb e=>eb b o hb e) f0 f1 f3 f4 f5⟩
 self:=λ_ _ _ _ _ st h=>gc st h
section
variable{X:Cx}{tg:Expr}
def b1z(K:Fg)(tl:TE):TI:=λZ H R=>tl Z H λx H1=>∃a,x=.ref a/\(∃xs,SqL K H1 a xs)/\R (Itl K a) H1
def b52(K:Fg)(tl:TE):TI:=λZ H R=>tl Z H λx H1=>∃a,x=.ref a/\(∃xs,SqT K H1 a xs)/\R (Itt K a) H1
theorem aie{l:Expr}{tl:TE}(hl:PE X l tl):PI X tg l (b1z X.K tl):=by
 intro aA s Z H R I h
 refine thn (hl aA s Z H _ I h) ?_
 rintro v s1 ⟨x,H1,I1,r1,q1⟩
 obtain⟨a,e,⟨xs,hq⟩,q⟩:=q1;subst e;cases r1
 obtain⟨its,rv,p,hz⟩:=I1.list hq;refine gu p.isList ?_;refine⟨s1.heap.objs.size,[s1.heap.objs.size],_,_,H1,rfl,I1.kept (t':=s1.toks) λb o e=>af _ e,aid a _,⟨_,aO _ rfl,rfl,rfl⟩,λb hb=>?_,q⟩;have e:b=s1.heap.objs.size:=by simpa using hb
 subst e;exact I1.fpOk (aw _) (I1.hok.fresh (aw _))
theorem awn{l:Expr}{tl:TE}(hl:PE X l tl):PI X tg l (b52 X.K tl):=by
 intro aA s Z H R I h
 refine thn (hl aA s Z H _ I h) ?_
 rintro v s1 ⟨x,H1,I1,r1,q1⟩
 obtain⟨a,e,⟨xs,hq⟩,q⟩:=q1;subst e;cases r1
 obtain⟨its,rv,p,hz⟩:=I1.tuple hq;refine hU (show s1.heap.IsTuple a its.toArray from p) ?_
 refine⟨s1.heap.objs.size,[s1.heap.objs.size],_,_,H1,rfl,I1.kept (t':=s1.toks) λb o e=>af _ e,agu a _,⟨_,aO _ rfl,rfl,rfl⟩,λb hb=>?_,q⟩;have e:b=s1.heap.objs.size:=by simpa using hb
 subst e;exact I1.fpOk (aw _) (I1.hok.fresh (aw _))
theorem af3{s:Shared}{lo hi:Int}{tk:Nat}(I:Inv X aA Z H s)(h1 : -(2^62)<=lo)(h2:lo<2^62)(h3 : -(2^62)<=hi)(h4:hi<2^62)
  (q:R (Itr lo (hi-lo).toNat) H):wpAny (model X.prog X.w) X.A (pyIter (.ref s.heap.objs.size)) (PIE X aA Z tg R) E {s with heap:=s.heap.push {cls:=.type "range",data:=.fields #[.int lo t,.int hi u,.int 1 v]},toks:=tk}:=by
 refine wpAny_pyIter_range (IsRange.new ..) (small_one h1 h2 h3 h4) ?_;have I1:Inv X aA Z H {s with heap:=s.heap.push {cls:=.type "range",data:=.fields #[.int lo t,.int hi u,.int 1 v]},toks:=tk}:=I.kept λb o e=>af _ e
 refine⟨(s.heap.push {cls:=.type "range",data:=.fields #[.int lo t,.int hi u,.int 1 v]}).objs.size,[(s.heap.push {cls:=.type "range",data:=.fields #[.int lo t,.int hi u,.int 1 v]}).objs.size],_,_,H,rfl,
  I1.kept (t':=tk) λb o e=>af _ e,agv _ lo (hi-lo).toNat,?_,λb hb=>?_,q⟩
 .have e1:lo+((0:Nat):Int)*1=lo:=by simp
  have e2:(((hi-lo).toNat:Nat):Int)-((0:Nat):Int)=Builtin.Range.rangeSize lo hi 1:=by rw[rangeSize_one];split<;>omega
  show IsRangeIter _ _ (lo+((0:Nat):Int)*1) ((((hi-lo).toNat:Nat):Int)-((0:Nat):Int)) 1;rw[e1,e2];exact aO _ rfl
 .have e:b=(s.heap.push {cls:=.type "range",data:=.fields #[.int lo t,.int hi u,.int 1 v]}).objs.size:=by simpa using hb
  subst e;exact I1.fpOk (aw _) (I1.hok.fresh (aw _))
noncomputable def b20(ta:TA):TI:=λZ H R=>ta Z H λvs H1=>∃j:Int,vs=[.int j] /\ -(2^62)<=j/\j<2^62/\R (Itr 0 j.toNat) H1
noncomputable def b21(ta:TA):TI:=λZ H R=>ta Z H λvs H1=>∃i j:Int,vs=[.int i,.int j]/\(-(2^62)<=i/\i<2^62 /\ -(2^62)<=j/\j<2^62)/\R (Itr i (j-i).toNat) H1
theorem aif{a:Expr}{ta:TA}{p pos:Pos}(hg:Gl X "range")(hm:X.mg "range" = none)(ha:PA X [a] ta)(hs:starEach [a] X.env=[(false,eval a X.env)]:=by rfl):PI X tg (.Call (.Name "range" p) [a] [] pos) (b20 ta):=by
 intro aA s Z H R I h
 refine Call_ (a66 I hg hm boot_range (cH (thn (ha pos aA s Z H _ I h) λus s1 ⟨vs,H1,I1,r1,q1⟩=>?_) hs rfl));obtain⟨j,e,q1,q2,q⟩:=q1;subst e
 cases r1 with
 |cons r rr =>
  cases rr
  obtain⟨t,rfl⟩:=r;exact call_range_1 (af3 I1 (by omega) (by omega) q1 q2 (by simpa using q))
theorem aig{a b:Expr}{ta:TA}{p pos:Pos}(hg:Gl X "range")(hm:X.mg "range" = none)(ha:PA X [a,b] ta)(hs:starEach [a,b] X.env=[(false,eval a X.env),(false,eval b X.env)]:=by rfl)(hs2:starEach [b] X.env=[(false,eval b X.env)]:=by rfl) :
  PI X tg (.Call (.Name "range" p) [a,b] [] pos) (b21 ta):=by
 intro aA s Z H R I h
 refine Call_ (a66 I hg hm boot_range (cH (thn (ha pos aA s Z H _ I h) λus s1 ⟨vs,H1,I1,r1,q1⟩=>?_) (by rw[hs,hs2]) (by rw[hs2];rfl)))
 obtain⟨i,j,e,⟨q1,q2,q3,q4⟩,q⟩:=q1;subst e
 cases r1 with
 |cons r rr =>
  cases rr with
  |cons r' rr =>
   cases rr
   obtain⟨t,rfl⟩:=r;obtain⟨t',rfl⟩:=r';exact call_range_2 (af3 I1 q1 q2 q3 q4 q)
def b53(wi:TI)(g:TG)(tb:TS):TS:=λD Z H=>wi Z H λJ H1=>∃W:Nat->Nat->St->Hp->Prop,(∃m,W 0 m Z H1)/\∀i m Z H,W i m Z H->
 (J.stop i H/\D.nx Z H)\/(J.go i H/\∃N:St->Hp->Prop,(∀Z' H',N Z' H'->∃m',m'<m/\W (i+1) m' Z' H')/\∀x H',J.yld i H x H'->g x Z H' λZ2 H2=>tb {D with nx:=N,ct:=N,bk:=D.nx} Z2 H2)
def yp(fp:List Addr)(h:Heap):List (Addr×Obj):=fp.filterMap λb=>(h.get? b).map λo=>(b,o)
theorem lz{h:Heap}(hb:b∈fp)(e:h.get? b=some o):(b,o)∈yp fp h:=hV.mpr ⟨b,hb,by rw[e];rfl⟩
theorem abj(hp:p∈yp fp h):p.1∈fp/\h.get? p.1=some p.2:=by
 obtain⟨b,hb,e⟩:=hV.mp hp
 cases q:h.get? b with
 |none=>rw[q]at e;cases e
 |some o =>
  rw[q]at e;have e':(b,o)=p:=bP e;subst e';exact⟨hb,q⟩
theorem Inv.pinned(I:Inv X aA Z H s)(hf:∀b∈fp,FpOk X aA H b)(ho:∀b∈fp,∃o,s.heap.get? b=some o/\∀v,o.data≠.cell v):Inv X (aA++yp fp s.heap) Z H s :=
 I.pins_of λp hp=>(bq.mp hp).elim (λz=>I.pin p (aS _ z)) λz=>by
  obtain⟨hb,e⟩:=abj z;obtain⟨f0,f1,f2,_⟩:=hf p.1 hb;obtain⟨o,e',d⟩:=ho p.1 hb;rw[e]at e';cases e'
  exact⟨e,f0,f1,f2,d⟩
theorem Inv.unpinned(I:Inv X (aA++pl) Z H s):Inv X aA Z H s:=I.pins_of λp hp=>I.pin p (aS _ (de _ hp))
theorem awo{aF:Expr}{body:List Stmt}{wi:TI}{g:TG}{tb:TS}{pos:Pos}(hp:PassesOwn (model X.prog X.w) X.A X.env X.xe)(hc:X.calm=true)(hi:PI X tg aF wi)(hg:PG X tg g)(hb:PSs X body tb)
  (hs:∀x,foldedSetIterable aF X.env x=pure x:=by intro _;rfl):PS X (.For tg aF body [] pos) (b53 wi g tb):=by
 intro aA s Z H D I h
 refine wpAny_For (thn (hi aA s Z H _ I h) λv s1 h1=>thn h1 λitv s2 h2=>?_) hs;obtain⟨it,fp,tn,J,H2,e,I2,T,st2,f2,W,⟨m0,w0⟩,turn⟩:=h2;subst e;have stat:∀{H':Hp},(∀b∈fp,H' b=none)->∀b∈fp,FpOk X aA H' b:=λhn b hb=>⟨hn b hb,(f2 b hb).2⟩;refine codeAny_forLoop_any (λn s'=>∃i Z' H',Inv X aA Z' H' s'/\tn i s'.heap/\(∀b∈fp,H' b=none)/\W i n Z' H') ?_ m0 ⟨0,Z,H2,I2,st2,λb hb=>(f2 b hb).1,w0⟩
 rintro n s3 ⟨i,Z3,H3,I3,st3,fr3,w3⟩
 rcases turn i n Z3 H3 w3 with⟨stop,qn⟩|⟨go,N,hN,step⟩
 .refine eN hp (thn (T.done X rfl rfl rfl hc i aA s3 Z3 H3 X.xe I3 (stat fr3) st3 stop) λr s4 ⟨hr,I4⟩=>?_);subst hr;exact gR ⟨Z3,H3,I4,qn⟩
 .refine eN hp (thn (T.item X rfl rfl rfl hc i aA s3 Z3 H3 X.xe I3 (stat fr3) st3 go) λr s4 ⟨u,hr,h4⟩=>?_);subst hr;refine eN hp (thn h4 λ_ s5 ⟨x,H5,I5,r5,y5,st5,fr5⟩=>?_);have I5':=I5.pinned (stat fr5) (T.obj _ _ st5);refine eN hp (thn (hg _ s5 Z3 H5 x u _ I5' r5 (step x H5 y5)) λ_ s6 ⟨Z6,H6,I6,q6⟩=>?_);refine eN hp (thn (hb _ s6 Z6 H6 _ I6 q6) λf s7 q7=>?_);have again:∀{Z7:St} {H7:Hp},Inv X (aA++yp fp s5.heap) Z7 H7 s7->N Z7 H7->∃m,m<n/\∃i Z' H',Inv X aA Z' H' s7/\tn i s7.heap/\(∀b∈fp,H' b=none)/\W i m Z' H':=λ{Z7 H7} I7 n7=>by
   obtain⟨m',hm,w7⟩:=hN Z7 H7 n7;refine⟨m',hm,i+1,Z7,H7,I7.unpinned,T.keep _ _ _ st5 λb hb o e=>(I7.pin (b,o) (aS _ (aS _ (lz hb e)))).1,λb hb=>?_,w7⟩;obtain⟨o,e,d⟩:=T.obj _ _ st5 b hb;exact(I7.pin (b,o) (aS _ (aS _ (lz hb e)))).2.1
  cases f with
  |next=>obtain⟨Z7,H7,I7,n7⟩:=q7;exact again I7 n7
  |cont=>obtain⟨Z7,H7,I7,n7⟩:=q7;exact again I7 n7
  |brk=>obtain⟨Z7,H7,I7,q7⟩:=q7;exact⟨Z7,H7,I7.unpinned,q7⟩
  |ret v=>obtain⟨x7,Z7,H7,I7,r7,q7⟩:=q7;exact⟨x7,Z7,H7,I7.unpinned,r7,q7⟩
end
abbrev R2:=V->V->Hp->VK->Prop
def OpR(X:Cx)(f:Value->Value->Sem Value)(r:R2):Prop :=
 ∀(aA:List (Addr×Obj)) (s:Shared) (Z:St) (H:Hp) (x y:V) (v u:Value) (Q:VK),Inv X aA Z H s->RelV x v->RelV y u->r x y H Q->
  wpAny (model X.prog X.w) X.A (f v u) (EP X aA Z Q) X.xe s
def UnR(X:Cx)(f:Value->Sem Value)(r:V->Hp->VK->Prop):Prop :=
 ∀(aA:List (Addr×Obj)) (s:Shared) (Z:St) (H:Hp) (x:V) (v:Value) (Q:VK),Inv X aA Z H s->RelV x v->r x H Q->
  wpAny (model X.prog X.w) X.A (f v) (EP X aA Z Q) X.xe s
def CallR(X:Cx)(f:Value)(r:List V->Hp->VK->Prop):Prop :=
 ∀(aA:List (Addr×Obj)) (s:Shared) (Z:St) (H:Hp) (xs:List V) (us:List Value) (Q:VK),Inv X aA Z H s->Vals xs us->r xs H Q->
  wpAny (model X.prog X.w) X.A (call f us) (EP X aA Z Q) X.xe s
def b54(X:Cx)(r:V->Hp->(Bool->Hp->Prop)->Prop):Prop :=
 ∀(aA:List (Addr×Obj)) (s:Shared) (Z:St) (H:Hp) (x:V) (v:Value) (Q:Bool->Hp->Prop),Inv X aA Z H s->RelV x v->r x H Q->
  wpAny (model X.prog X.w) X.A (truthy v) (TP X aA Z Q) X.xe s
def tOp(r:R2)(ta tb:TE):TE:=λZ H Q=>ta Z H λx H1=>tb Z H1 λy H2=>r x y H2 Q
def tUn(r:V->Hp->VK->Prop)(ta:TE):TE:=λZ H Q=>ta Z H λx H1=>r x H1 Q
def rI(C:Int->Int->Prop)(g:Int->Int->V):R2:=λx y H Q=>∃i j,x=.int i/\y=.int j/\C i j/\Q (g i j) H
def rI0(g:Int->Int->V):R2:=λx y H Q=>∃i j,x=.int i/\y=.int j/\Q (g i j) H
def rU(g:Int->V):V->Hp->VK->Prop:=λx H Q=>∃i,x=.int i/\Q (g i) H
section
variable{X:Cx}{a b c:Expr}{ta tb tc:TE}{pos:Pos}
theorem b22(ha:PE X a ta)(hb:PE X b tb){aA:List (Addr×Obj)}{s:Shared}{Z:St}{H:Hp}{R:V->V->Hp->Prop}(I:Inv X aA Z H s)
  (h:ta Z H λx H1=>tb Z H1 λy H2=>R x y H2) {Q:Value->Shared->Prop} {f:Value->Value->Sem Value}
  (hf:∀v u s2 x y H2,Inv X aA Z H2 s2->RelV x v->RelV y u->R x y H2->wpAny (model X.prog X.w) X.A (f v u) Q X.xe s2) :
  wpAny (model X.prog X.w) X.A (eval a X.env) (λv s₁=>wpAny (model X.prog X.w) X.A (eval b X.env) (λu s₂=>wpAny (model X.prog X.w) X.A (f v u) Q X.xe s₂) X.xe s₁) X.xe s:=by
 refine thn (ha aA s Z H _ I h) ?_
 rintro v s1 ⟨x,H1,I1,r1,q1⟩
 refine thn (hb aA s1 Z H1 _ I1 q1) ?_
 rintro u s2 ⟨y,H2,I2,r2,q2⟩
 exact hf v u s2 x y H2 I2 r1 r2 q2
theorem b23{op:Operator}{r:R2}(ho:OpR X (binaryOp op) r)(ha:PE X a ta)(hb:PE X b tb):PE X (.BinOp a op b pos) (tOp r ta tb):=by
 intro aA s Z H Q I h
 exact wpAny_BinOp (b22 ha hb I h λv u s2 x y H2 I2 rx ry q=>ho aA s2 Z H2 x y v u Q I2 rx ry q)
theorem b24{op:UnaryOp}{r:V->Hp->VK->Prop}(ho:UnR X (unaryOp op) r)(ha:PE X a ta):PE X (.UnaryOp op a pos) (tUn r ta):=by
 intro aA s Z H Q I h
 exact UnaryOp_ (thn (ha aA s Z H _ I h) λv s1 ⟨x,H1,I1,r1,q1⟩=>ho aA s1 Z H1 x v Q I1 r1 q1)
theorem opI{f:Value->Value->Sem Value}{C:Int->Int->Prop}{g:Int->Int->Int}
  (rule:∀(i j:Int) (t u:Tok) (s:Shared) (Q:Value->Shared->Prop) (E:Value->Shared->Prop),C i j->Q (.int (g i j) s.toks) {s with toks:=s.toks+1}->wpAny (model X.prog X.w) X.A (f (.int i t) (.int j u)) Q E s) :
  OpR X f (rI C λi j=>.int (g i j)):=by
 intro aA s Z H x y v u Q I rx ry h
 obtain⟨i,j,rfl,rfl,hc,q⟩:=h;obtain⟨t,rfl⟩:=rx;obtain⟨t',rfl⟩:=ry;exact rule i j t t' s _ _ hc ⟨.int (g i j),H,I.tok _,⟨_,rfl⟩,q⟩
theorem b14{f:Value->Value->Sem Value}{g:Int->Int->Int}
  (rule:∀(i j:Int) (t u:Tok) (s:Shared) (Q:Value->Shared->Prop) (E:Value->Shared->Prop),Q (.int (g i j) s.toks) {s with toks:=s.toks+1}->wpAny (model X.prog X.w) X.A (f (.int i t) (.int j u)) Q E s) :
  OpR X f (rI0 λi j=>.int (g i j)):=by
 intro aA s Z H x y v u Q I rx ry h
 obtain⟨i,j,rfl,rfl,q⟩:=h;obtain⟨t,rfl⟩:=rx;obtain⟨t',rfl⟩:=ry;exact rule i j t t' s _ _ ⟨.int (g i j),H,I.tok _,⟨_,rfl⟩,q⟩
theorem b15{f:Value->Value->Sem Value}{g:Int->Int->Bool}
  (rule:∀(i j:Int) (t u:Tok) (s:Shared) (Q:Value->Shared->Prop) (E:Value->Shared->Prop),Q (.bool (g i j)) s->wpAny (model X.prog X.w) X.A (f (.int i t) (.int j u)) Q E s) :
  OpR X f (rI0 λi j=>.bl (g i j)):=by
 intro aA s Z H x y v u Q I rx ry h
 obtain⟨i,j,rfl,rfl,q⟩:=h;obtain⟨t,rfl⟩:=rx;obtain⟨t',rfl⟩:=ry;exact rule i j t t' s _ _ ⟨.bl (g i j),H,I,rfl,q⟩
def b28(i j:Int):Prop:=0<j/\j<1073741824
def b3r(i j:Int):Prop:=0<=j/\j<=1000000/\i.natAbs<2^64
def CMul(i j:Int):Prop:=(-(2^64)<i/\i<2^64)\/(-(2^64)<j/\j<2^64)
theorem CMul.ok(h:CMul i j):IntMulOk i j:=by
 rcases h with⟨h1,h2⟩|⟨h1,h2⟩
 .exact .of_left (intBits_le_64 h1 h2)
 .exact .of_right (intBits_le_64 h1 h2)
theorem awp:OpR X (binaryOp .Add) (rI0 λi j=>.int (i+j)):=b14 λ_ _ _ _ _ _ _ q=>add_int q
theorem awq:OpR X (binaryOp .Sub) (rI0 λi j=>.int (i-j)):=b14 λ_ _ _ _ _ _ _ q=>sub_int q
theorem apw:OpR X (binaryOp .Mult) (rI CMul λi j=>.int (i*j)):=opI λ_ _ _ _ _ _ _ hc q=>mul_int q hc.ok
theorem as3:OpR X (binaryOp .FloorDiv) (rI b28 λi j=>.int (i / j)):=opI λi j _ _ _ _ _ hc q=>by
 have h1:(0:Int)<j:=hc.1;have h2:j<1073741824:=hc.2;exact floordiv_int (by omega) (by rw[gZ i (by omega)];exact q) (.inl (PyProof.noPylong_small (by omega)))
theorem awr:OpR X (binaryOp .Mod) (rI (λ_ j=>0<j) λi j=>.int (i%j)):=opI λi j _ _ _ _ _ hc q=>by
 have h1:(0:Int)<j:=hc;exact mod_int' (by omega) (by rw[Int.fmod_eq_emod_of_nonneg i (by omega)];exact q)
theorem aws:OpR X (binaryOp .Pow) (rI b3r λi j=>.int (i^j.toNat)):=opI λ_ _ _ _ _ _ _ hc q=>pow_int_small hc.1 hc.2.1 hc.2.2 q
theorem a78:OpR X (inplaceOp .Add) (rI0 λi j=>.int (i+j)):=b14 λ_ _ _ _ _ _ _ q=>iadd_int q
theorem aih:OpR X (inplaceOp .Sub) (rI0 λi j=>.int (i-j)):=b14 λ_ _ _ _ _ _ _ q=>isub_int q
theorem amx:OpR X (inplaceOp .FloorDiv) (rI b28 λi j=>.int (i / j)):=opI λi j _ _ _ _ _ hc q=>by
 have h1:(0:Int)<j:=hc.1;have h2:j<1073741824:=hc.2;exact ifloordiv_int (by omega) (by rw[gZ i (by omega)];exact q) (.inl (PyProof.noPylong_small (by omega)))
theorem unI{f:Value->Sem Value}{g:Int->Int}
  (rule:∀(i:Int) (t:Tok) (s:Shared) (Q:Value->Shared->Prop) (E:Value->Shared->Prop),Q (.int (g i) s.toks) {s with toks:=s.toks+1}->wpAny (model X.prog X.w) X.A (f (.int i t)) Q E s) :
  UnR X f (rU λi=>.int (g i)):=by
 intro aA s Z H x v Q I rx h
 obtain⟨i,rfl,q⟩:=h;obtain⟨t,rfl⟩:=rx;exact rule i t s _ _ ⟨.int (g i),H,I.tok _,⟨_,rfl⟩,q⟩
theorem awt:UnR X (unaryOp .USub) (rU λi=>.int (-i)):=unI λ_ _ _ _ _ q=>neg_int q
end
section
variable{X:Cx}{a b c:Expr}{ta tb tc:TE}{pos:Pos}
theorem a8w(I:Inv X aA Z H s)(q:Q (.bl k) H)(e:k=k'):EP X aA Z Q (.bool k') s:=by
 subst e;exact⟨.bl k,H,I,rfl,q⟩
theorem a8k:OpR X (compareOp .Lt) (rI0 λi j=>.bl (decide (i<j))):=b15 λ_ _ _ _ _ _ _ q=>lt_int q
theorem awu:OpR X (compareOp .LtE) (rI0 λi j=>.bl (decide (i<=j))):=b15 λ_ _ _ _ _ _ _ q=>le_int q
theorem amy:OpR X (compareOp .Gt) (rI0 λi j=>.bl (decide (j<i))):=b15 λ_ _ _ _ _ _ _ q=>gt_int q
theorem awv:OpR X (compareOp .GtE) (rI0 λi j=>.bl (decide (j<=i))):=b15 λ_ _ _ _ _ _ _ q=>ge_int q
theorem vq:OpR X (compareOp .Lt) (λx y H Q=>∃i j,x=.str i/\y=.str j/\Q (.bl (decide (i.cps.toList<j.cps.toList))) H):=by
 intro aA s Z H x y v u Q I rx ry h
 obtain⟨i,j,rfl,rfl,q⟩:=h;obtain⟨t,rfl⟩:=rx;obtain⟨t',rfl⟩:=ry;exact lt_str (a8w I q rfl)
theorem aii:OpR X (compareOp .In) (λx y H Q=>∃i j,x=.str i/\y=.str j/\Q (.bl (!(Builtin.Str.occurrences j i 0 j.length 1).isEmpty)) H):=by
 intro aA s Z H x y v u Q I rx ry h
 obtain⟨i,j,rfl,rfl,q⟩:=h;obtain⟨t,rfl⟩:=rx;obtain⟨t',rfl⟩:=ry;exact in_str (a8w I q rfl)
theorem aij:OpR X (compareOp .IsNot) (λx y H Q=>y=.non/\Q (.bl (!decide (x=.non))) H):=by
 intro aA s Z H x y v u Q I rx ry h
 obtain⟨rfl,q⟩:=h;cases ry
 refine isnot_none_gen (a8w I q ?_)
 cases x<;>first
  |(cases rx;rfl)
  |(obtain⟨t,rfl⟩:=rx;rfl)
theorem abk:OpR X (compareOp .NotIn) (λx y H Q=>∃i j,x=.str i/\y=.str j/\Q (.bl (!(!(Builtin.Str.occurrences j i 0 j.length 1).isEmpty))) H):=by
 intro aA s Z H x y v u Q I rx ry h
 obtain⟨i,j,rfl,rfl,q⟩:=h;obtain⟨t,rfl⟩:=rx;obtain⟨t',rfl⟩:=ry;exact notIn_str (a8w I q rfl)
theorem OpR.or(h:OpR X f r)(h':OpR X f r'):OpR X f (λx y H Q=>r x y H Q\/r' x y H Q):=by
 intro aA s Z H x y v u Q I rx ry q
 rcases q with q|q
 .exact h aA s Z H x y v u Q I rx ry q
 .exact h' aA s Z H x y v u Q I rx ry q
theorem a67(b:Expr)(h:op≠.In:=by decide)(h2:op≠.NotIn:=by decide):behindInMarks op b=false:=by
 have e1:(op == CmpOp.In)=false:=by cases op<;>first|rfl|exact absurd rfl h
 have e2:(op == CmpOp.NotIn)=false:=by cases op<;>first|rfl|exact absurd rfl h2
 cases b<;>simp[behindInMarks,e1,e2]
theorem as4(ho:OpR X (compareOp op) r)(ha:PE X a ta)(hb:PE X b tb)(hm:behindInMarks op b=false):PE X (.Compare a [op] [b] pos) (tOp r ta tb):=by
 intro aA s Z H Q I h
 exact wpAny_Compare1 (b22 ha hb I h λv u s2 x y H2 I2 rx ry q=>ho aA s2 Z H2 x y v u Q I2 rx ry q) hm
def as5(t:TE):TT:=λZ H Q=>t Z H λx H'=>∃k,x=.bl k/\Q k H'
theorem as6{op:CmpOp}{r:R2}(ho:OpR X (compareOp op) r)(ha:PE X a ta)(hb:PE X b tb)(hm:behindInMarks op b=false):PT X (.Compare a [op] [b] pos) (as5 (tOp r ta tb)):=by
 intro aA s Z H Q I h
 refine wpAny_isTrue_Compare1 (thn (ha aA s Z H _ I h) λv s1 ⟨x,H1,I1,r1,q1⟩=>thn (hb aA s1 Z H1 _ I1 q1) λu s2 ⟨y,H2,I2,r2,q2⟩ =>
  thn (ho aA s2 Z H2 x y v u _ I2 r1 r2 q2) λc s3 ⟨z,H3,I3,r3,k,e,q3⟩=>?_) hm
 subst e;cases r3
 exact cU ⟨H3,I3,q3⟩
noncomputable def aik(r r':R2)(ta tb tc:TE):TE:=λZ H Q=>ta Z H λx H1=>tb Z H1 λy H2=>r x y H2 λz H3=>∃k,z=.bl k /\
 (if k=true then tc Z H3 λw' H4=>r' y w' H4 Q else Q (.bl false) H3)
theorem amz{op op':CmpOp}{r r':R2}(ho:OpR X (compareOp op) r)(ho':OpR X (compareOp op') r')(ha:PE X a ta)(hb:PE X b tb)(hc:PE X c tc)
  (hm:lastMarks [op,op'] [b,c]=false:=by with_unfolding_all rfl):PE X (.Compare a [op,op'] [b,c] pos) (aik r r' ta tb tc):=by
 intro aA s Z H Q I h
 refine Compare_chain (thn (ha aA s Z H _ I h) λv s1 ⟨x,H1,I1,r1,q1⟩=>chain_link (thn (hb aA s1 Z H1 _ I1 q1) λu s2 ⟨y,H2,I2,r2,q2⟩ =>
  thn (ho aA s2 Z H2 x y v u _ I2 r1 r2 q2) λd s3 ⟨z,H3,I3,r3,k,e,q3⟩=>?_)) hm
 subst e;cases r3
 refine cU ?_
 cases k with
 |false=>exact ite_ff ⟨.bl false,H3,I3,rfl,q3⟩
 |true=>exact ite_tt (chain_last (thn (hc aA s3 Z H3 _ I3 q3) λw' s4 ⟨z',H4,I4,r4,q4⟩=>ho' aA s4 Z H4 y z' u w' Q I4 r2 r4 q4))
theorem an0{op op':CmpOp}{r r':R2}(ho:OpR X (compareOp op) r)(ho':OpR X (compareOp op') r')(ha:PE X a ta)(hb:PE X b tb)(hc:PE X c tc)
  (hm:lastMarks [op,op'] [b,c]=false:=by with_unfolding_all rfl):PT X (.Compare a [op,op'] [b,c] pos) (as5 (aik r r' ta tb tc)):=by
 intro aA s Z H Q I h
 refine isTrue_chain (thn (ha aA s Z H _ I h) λv s1 ⟨x,H1,I1,r1,q1⟩=>test_link (thn (hb aA s1 Z H1 _ I1 q1) λu s2 ⟨y,H2,I2,r2,q2⟩ =>
  thn (ho aA s2 Z H2 x y v u _ I2 r1 r2 q2) λd s3 ⟨z,H3,I3,r3,k,e,q3⟩=>?_)) hm
 subst e;cases r3
 refine cU ?_
 cases k with
 |false =>
  obtain⟨k',e',q'⟩:=q3
  cases e'
  exact ite_ff ⟨H3,I3,q'⟩
 |true =>
  refine ite_tt (test_last (thn (hc aA s3 Z H3 _ I3 q3) λw' s4 ⟨z',H4,I4,r4,q4⟩=>thn (ho' aA s4 Z H4 y z' u w' _ I4 r2 r4 q4) λd' s5 ⟨z2,H5,I5,r5,k2,e2,q5⟩=>?_));subst e2;cases r5
  exact cU ⟨H5,I5,q5⟩
def b29(K:Fg)(x:V)(H:Hp)(k:Bool):Prop :=
 match x with
 |.non=>k=false
 |.bl b=>k=b
 |.int i=>k=(i != 0)
 |.str y=>y.length<=sizeLine/\k=((y.length:Int) != 0)
 |.byt y=>y.size<=sizeLine/\k=((y.size:Int) != 0)
 |.ref p=>(∃xs,SqL K H p xs/\k = !xs.isEmpty)\/(∃xs,SqT K H p xs/\k = !xs.isEmpty)\/∃kvs,H p=some (.dK kvs)/\k = !kvs.isEmpty
 |_=>False
theorem agw{κ:Type}{kvs:List (κ×V)}{vs:List (κ×Value)}(r:KV kvs vs):(!vs.isEmpty) = !kvs.isEmpty:=by
 cases r<;>rfl
theorem a8x(r:Vals xs its):(!its.toArray.isEmpty) = !xs.isEmpty:=by
 cases r<;>simp
theorem a68:(sizeLine:Nat)<2^63:=by rw[gy];decide
theorem aww:b54 X (λx H Q=>∃k,b29 X.K x H k/\Q k H):=by
 intro aA s Z H x v Q I rx h
 obtain⟨k,e,q⟩:=h;have hl:=a68;have hs:sizeLine=16777216:=gy
 cases x with
 |non =>
  cases rx
  have e':k=false:=e;subst e';exact truthy_none ⟨H,I,q⟩
 |bl b =>
  cases rx
  have e':k=b:=e;subst e';exact cU ⟨H,I,q⟩
 |int i =>
  obtain⟨t,rfl⟩:=rx;have e':k=(i != 0):=e;subst e';exact PySem.P.truthy_int ⟨H,I,q⟩
 |str y =>
  obtain⟨t,rfl⟩:=rx;obtain⟨hy,e'⟩:y.length<=sizeLine/\k=((y.length:Int) != 0):=e;subst e';exact PySem.P.truthy_str (by omega) ⟨H,I.tok _,q⟩
 |byt y =>
  obtain⟨t,rfl⟩:=rx;obtain⟨hy,e'⟩:y.size<=sizeLine/\k=((y.size:Int) != 0):=e;subst e';exact PySem.W.truthy_bytes (by omega) ⟨H,I.tok _,q⟩
 |ref p =>
  cases rx
  have e':(∃xs,SqL X.K H p xs/\k = !xs.isEmpty)\/(∃xs,SqT X.K H p xs/\k = !xs.isEmpty)\/∃kvs,H p=some (.dK kvs)/\k = !kvs.isEmpty:=e
  rcases e' with⟨xs,hx,e'⟩|⟨xs,hx,e'⟩|⟨kvs,hx,e'⟩
  .subst e';obtain⟨its,r,pl,hz⟩:=I.list hx;have aH:=r.length;exact wpAny_truthy_list pl.isList (by simp only[ay];omega) ⟨H,I.tok _,by rw[a8x r];exact q⟩
  .subst e';obtain⟨its,r,pl,hz⟩:=I.tuple hx;have aH:=r.length;exact truthy_tuple pl (by simp only[ay];omega) ⟨H,I.tok _,by rw[a8x r];exact q⟩
  .subst e';obtain⟨hz,hS,vs,r,m⟩:kvs.length<=sizeLine/\(p == sysModules)=false/\∃vs,KV kvs vs/\s.heap.DictOf (a76 X.prog X.w) p vs:=I.hok p _ hx;have aH:kvs.length=vs.length:=Paired.length r;exact wpAny_truthy_dict hS m (by omega) ⟨H,I.tok _,by rw[agw r];exact q⟩
 |_=>exact(show False from e).elim
theorem an1(ha:PE X a ta)(he:∀whole,isTrue a X.env whole=(do let v <-whole;standAt a.pos;holding [v] (truthy v))) :
  PT X a (λZ H Q=>ta Z H λx H'=>∃k,b29 X.K x H' k/\Q k H'):=by
 intro aA s Z H Q I h
 exact isTrue_plain (thn (ha aA s Z H _ I h) λv s1 ⟨x,H1,I1,r1,q1⟩=>aww aA s1 Z H1 x v Q I1 r1 q1) (he _)
theorem agx:OpR X (binaryOp .Add) (λx y H Q=>∃i j,x=.str i/\y=.str j/\i.length+j.length<=sizeLine/\Q (.str (i++j)) H):=by
 intro aA s Z H x y v u Q I rx ry h
 obtain⟨i,j,rfl,rfl,hz,q⟩:=h;obtain⟨t,rfl⟩:=rx;obtain⟨t',rfl⟩:=ry;exact add_str (λt' tk=>⟨.str (i++j),H,I.tok _,⟨_,rfl⟩,q⟩) hz
theorem a09:OpR X (inplaceOp .Add) (λx y H Q=>∃i j,x=.str i/\y=.str j/\i.length+j.length<=sizeLine/\Q (.str (i++j)) H):=by
 intro aA s Z H x y v u Q I rx ry h
 obtain⟨i,j,rfl,rfl,hz,q⟩:=h;obtain⟨t,rfl⟩:=rx;obtain⟨t',rfl⟩:=ry;exact iadd_str (λt' tk=>⟨.str (i++j),H,I.tok _,⟨_,rfl⟩,q⟩) hz
theorem vals1(r:Vals [x] us):∃u,us=[u]/\RelV x u:=by
 cases r with
 |cons r1 r2=>cases r2;exact⟨_,rfl,r1⟩
theorem vals2(r:Vals [x,y] us):∃u w',us=[u,w']/\RelV x u/\RelV y w':=by
 cases r with
 |cons r1 r2 =>
  cases r2 with
  |cons r3 r4=>cases r4;exact⟨_,_,rfl,r1,r3⟩
theorem an2:CallR X (.builtin "abs") (λxs H Q=>∃i,xs=[.int i]/\Q (.int (if i<0 then -i else i)) H):=by
 intro aA s Z H xs us Q I r h
 obtain⟨i,rfl,q⟩:=h;obtain⟨u,rfl,t,rfl⟩:=vals1 r;exact call_abs_int λu tk=>⟨.int (if i<0 then -i else i),H,I.tok _,⟨_,rfl⟩,q⟩
theorem ail(hc:X.calm=true):CallR X (.builtin "max") (λxs H Q=>∃i j,xs=[.int i,.int j]/\Q (.int (if j > i then j else i)) H):=by
 intro aA s Z H xs us Q I r h
 obtain⟨i,j,rfl,q⟩:=h;obtain⟨u,w',rfl,⟨t,rfl⟩,⟨t',rfl⟩⟩:=vals2 r;refine max_two_ints (I.ok.hd hc) λh' tk k=>⟨_,H,I.kept k,?_,q⟩
 by_cases hj:j > i
 .rw[aJ hj,aJ hj];exact⟨_,rfl⟩
 .rw[ba hj,ba hj];exact⟨_,rfl⟩
theorem aim(hc:X.calm=true):CallR X (.builtin "min") (λxs H Q=>∃i j,xs=[.int i,.int j]/\Q (.int (if j<i then j else i)) H):=by
 intro aA s Z H xs us Q I r h
 obtain⟨i,j,rfl,q⟩:=h;obtain⟨u,w',rfl,⟨t,rfl⟩,⟨t',rfl⟩⟩:=vals2 r;refine min_two_ints (I.ok.hd hc) λh' tk k=>⟨_,H,I.kept k,?_,q⟩
 by_cases hj:j<i
 .rw[aJ hj,aJ hj];exact⟨_,rfl⟩
 .rw[ba hj,ba hj];exact⟨_,rfl⟩
theorem ain:CallR X (.type "int") (λxs H Q=>(∃i,xs=[.int i]/\Q (.int i) H)\/∃k,xs=[.bl k]/\Q (.int (if k then 1 else 0)) H):=by
 intro aA s Z H xs us Q I r h
 rcases h with⟨i,rfl,q⟩|⟨k,rfl,q⟩
 .obtain⟨u,rfl,t,rfl⟩:=vals1 r;exact call_int_int ⟨.int i,H,I,⟨_,rfl⟩,q⟩
 .obtain⟨u,rfl,r1⟩:=vals1 r;cases r1
  exact call_int_bool ⟨.int (if k then 1 else 0),H,I.tok _,⟨_,rfl⟩,q⟩
end
structure ObjM (h:Heap) (x dx C:Addr) (mA:Str->Option Value):Prop where
 obj:h.get? x=some (PySem.W.instObj C dx)
 ns:h.Ns1 dx mA
 ne:dx≠x
theorem aio{h:Heap}(n:h.Ns1 dx mA):∃od,h.get? dx=some od/\∀name,PySem.W.lookIn name od=some (mA name):=by
 obtain⟨o,es,ep,ho,hd,hk,_,hm⟩:=n;refine⟨o,ho,λname=>?_⟩;have e:=hm name;unfold nsFind findBy at e;rw[<-Array.find?_toList]at e;unfold PySem.W.lookIn;rw[hd];dsimp only
 split
 .rename_i y q;rw[q]at e;exact aI some e
 .rename_i q;rw[q]at e;have a:es.toList.any (·.refKey)=false:=by
   rw[List.any_eq_false]
   intro y hy
   obtain⟨z,t,hkey⟩:=hk y (Array.mem_toList_iff.mp hy);simp[DictEntry.refKey,hkey]
  have a':¬ es.toList.any (·.refKey)=true:=by rw[a];exact aX
  rw[ba a'];exact aI some e
theorem ObjM.look(I:ObjM h x dx C mA):∃od,PySem.W.InstAt h x (PySem.W.instObj C dx) C (some od)/\∀name,PySem.W.lookIn name od=some (mA name) :=
 let ⟨od,ho,hl⟩:=aio I.ns
 ⟨od,⟨I.obj,rfl,rfl,ho⟩,hl⟩
section
variable{prog:Program}{w:World}{A:Around}{E:Value->Shared->Prop}{s:Shared}{K:Fg}{x dx C f:Addr}{mA:Str->Option Value}{name:Str}{v:Value}
theorem aip(X:K.In s.heap)(I:ObjM s.heap x dx C mA)(hg:PySem.W.plainGet K C name=true)(hh:PySem.W.hasDictIn K C=true)
  (ha:PySem.W.findIn K (.ref C) name=some none) (hv:mA name=some v) (hv':PySem.W.handedIn v=true) (h:Q v {s with toks:=s.toks+1}) :
  wpAny (model prog w) A (getAttr (.ref x) name expr) Q E s:=by
 obtain⟨od,J,hl⟩:=I.look;exact PySem.W.get_value X J (PySem.W.plainGet_of hg).1 (PySem.W.findObj_own hh ha rfl (by rw[hl,hv])) hv' h
theorem as7(X:K.In s.heap)(I:ObjM s.heap x dx C mA)
  (hs:PySem.W.findIn K (.ref C) "__setattr__" = some (some (.builtin "object.__setattr__"))) (hp:PySem.W.plainOver K C=true) (ht:PySem.W.takerIn K C name=some none) (hh:PySem.W.hasDictIn K C=true)
  (hw:PySem.Within mA ns) (hsz:ns.length<=sizeLine)
  (h:∀h',ObjM h' x dx C (λy=>if y=name then some v else mA y)->Heap.SameBut dx s.heap h'->Q () {s with heap:=h',toks:=s.toks+2}) :
  wpAny (model prog w) A (setAttr (.ref x) name v) Q E s:=by
 obtain⟨od,J,hl⟩:=I.look;refine PySem.W.set_plain X J hs (PySem.W.osa_open (s:={s with toks:=s.toks+1}) (r:=none) X J hp ht λb=>?_)
 obtain⟨cd,hc,hd'⟩:=PySem.W.any_some hh;have hx:s.heap.get? x=some ⟨.ref C,some dx,.plain, #[]⟩:=I.obj;refine ae (av (ae (ae (wpAny_loadPart hx (ae (PySem.W.Looks.here (s:={s with toks:=s.toks+1}) (PySem.W.looks_clsIn X hc) ?_))))))
 rw[hd'];refine av (a:=some dx) (ae (av (ae ?_)));refine wpAny_nsSet1 (s:={s with toks:=s.toks+1}) I.ns λh' hn2 hs2=>?_
 obtain⟨oD,esD,epD,hoD,hdD,hcD⟩:=hn2.count (PySem.Within.cons name v hw);refine ae (wpAny_lookBehind hoD (by rw[hdD];exact pastItsLine_dict (bC hcD (by rw[aN];omega))) ?_)
 exact av (h _ ⟨(hs2.2 _ (fz I.ne)).trans I.obj,hn2,I.ne⟩ hs2)
theorem an3(X:K.In s.heap)(hm:PySem.W.makesIn K C=true)
  (hi:PySem.W.findIn K (.ref C) "__init__" = some (some (.ref f))) (hf:PySem.W.typeIn K (.ref f)=some (.type "function"))
  (h:codeAny (model prog w) (A.under (.builtin "type.__call__" ⟨.ref C::vs,kw⟩)) (.call (.ref f) ⟨.ref (s.heap.objs.size+1)::vs,kw⟩) (PySem.W.InitBack (s.heap.objs.size+1) R)
   {s with heap:=(s.heap.push PySem.W.emptyDict).push (PySem.W.instObj C s.heap.objs.size)}) :
  codeAny (model prog w) A (.call (.ref C) ⟨vs,kw⟩) R s:=by
 obtain⟨hh,g,d,t,os⟩:=s;exact PySem.W.make_core (PySem.W.makes_of X hm) (PySem.W.looks_findIn X hi) (λself=>PySem.W.bind_fn X self hf) (.inl rfl) h
end
noncomputable def a9v(f:Str)(v:V):List (Str×V)->List (Str×V)
 |[]=>[(f,v)]
 |(g,x)::r=>if g=f then (g,v)::r else (g,x)::a9v f v r
theorem a79(f g:Str)(v:V):∀fs:List (Str×V),(a9v f v fs).lookup g=if g=f then some v else fs.lookup g
 |[]=>by
  show List.lookup g [(f,v)]=_
  by_cases h:g=f
  .have hb:(g == f)=true:=eD.mpr h;simp only[List.lookup,hb,aJ h]
  .have hb:(g == f)=false:=bQ.mpr h;simp only[List.lookup,hb,ba h]
 |(k,x)::r=>by
  have ih:=a79 f g v r;rw[show a9v f v ((k,x)::r)=(if k=f then (k,v)::r else (k,x)::a9v f v r) from rfl]
  by_cases hk:k=f
  .rw[aJ hk]
   by_cases h:g=k
   .have hb:(g == k)=true:=eD.mpr h;simp only[List.lookup,hb,aJ (h.trans hk)]
   .have hb:(g == k)=false:=bQ.mpr h;simp only[List.lookup,hb,ba (λe:g=f=>h (e.trans hk.symm))]
  .rw[ba hk]
   by_cases h:g=k
   .have hb:(g == k)=true:=eD.mpr h;simp only[List.lookup,hb,ba (λe:g=f=>hk (h.symm.trans e))]
   .have hb:(g == k)=false:=bQ.mpr h;simp only[List.lookup,hb];exact ih
theorem a7a(f:Str)(v:V):∀fs:List (Str×V),f∈(a9v f v fs).map (·.1)/\∀g,g∈fs.map (·.1)->g∈(a9v f v fs).map (·.1)
 |[]=>⟨by simp[a9v],λg h=>by simp at h⟩
 |(k,x)::r=>by
  obtain⟨i1,i2⟩:=a7a f v r;rw[show a9v f v ((k,x)::r)=(if k=f then (k,v)::r else (k,x)::a9v f v r) from rfl]
  by_cases hk:k=f
  .rw[aJ hk];subst hk;exact⟨by simp,λg h=>by simpa using h⟩
  .rw[ba hk];refine⟨?_,λg h=>?_⟩
   .rw[aZ];exact aW _ i1
   .rw[aZ]at h ⊢
    rcases aL.mp h with e|e
    .exact aL.mpr (.inl e)
    .exact aW _ (i2 g e)
theorem a7b(f:Str)(v:V):∀fs:List (Str×V),(a9v f v fs).length<=fs.length+1
 |[]=>by simp[a9v]
 |(k,x)::r=>by
  have ih:=a7b f v r;rw[show a9v f v ((k,x)::r)=(if k=f then (k,v)::r else (k,x)::a9v f v r) from rfl]
  by_cases hk:k=f
  .rw[aJ hk,aN,aN];omega
  .rw[ba hk,aN,aN];omega
theorem RelO.some_of(r:RelO (some v) o):∃u,o=some u/\RelV v u:=by
 cases o with
 |none=>exact(show False from r).elim
 |some u=>exact⟨u,rfl,r⟩
theorem abl(r:RelV v u):PySem.W.handedIn u=true:=by
 cases v with
 |non=>cases (show u=Value.none from r);rfl
 |bl b=>cases (show u=Value.bool b from r);rfl
 |int i=>obtain⟨t,e⟩:=(show ∃t,u=Value.int i t from r);cases e;rfl
 |str x=>obtain⟨t,e⟩:=(show ∃t,u=Value.str x t from r);cases e;rfl
 |byt b=>obtain⟨t,e⟩:=(show ∃t,u=Value.bytes b t from r);cases e;rfl
 |flt b=>obtain⟨t,e⟩:=(show ∃t,u=Value.float b t from r);cases e;rfl
 |ref a=>cases (show u=Value.ref a from r);rfl
 |ty n=>cases (show u=Value.type n from r);rfl
section
variable{P:Program}{w:World}{H H':Hp}{h h':Heap}{a C dx:Addr}{fs fs':List (Str×V)}
theorem adq(hok:HOk P w H h)(e:H a=some (.ins C dx fs)):∃mA,ObjM h a dx C mA/\(∀f,RelO (fs.lookup f) (mA f))/\PySem.Within mA (fs.map (·.1))/\fs.length<=1000/\H dx=some (.own a):=by
 obtain⟨d,z,ne,ob,mA,n,r,q⟩:=(show ObjOk P w H h a (.ins C dx fs) from hok a _ e)
 exact⟨mA,⟨ob,n,ne⟩,r,q,z,d⟩
end
structure Cls (K:Fg) (C:Addr):Prop where
 pg:PySem.W.plainGet K C Str.empty=true
 hd:PySem.W.hasDictIn K C=true
 po:PySem.W.plainOver K C=true
 sa:PySem.W.findIn K (.ref C) "__setattr__" = some (some (.builtin "object.__setattr__"))
theorem Cls.get{K:Fg}{C:Addr}(c:Cls K C)(f:Str):PySem.W.plainGet K C f=true:=c.pg
def NoAttr(K:Fg)(C:Addr)(f:Str):Prop:=PySem.W.findIn K (.ref C) f=some none
theorem NoAttr.taker{K:Fg}{C:Addr}{f:Str}(n:NoAttr K C f):PySem.W.takerIn K C f=some none:=by
 unfold PySem.W.takerIn;rw[show PySem.W.findIn K (.ref C) f=some none from n]
 rfl
section
variable{X:Cx}{aA:List (Addr×Obj)}{Z:St}{H:Hp}{s:Shared}{a C dx:Addr}{fs:List (Str×V)}{f:Str}{v:V}{A:Around}{E:Value->Shared->Prop}
theorem agy(I:Inv X aA Z H s)(e:H a=some (.ins C dx fs))(c:Cls X.K C)(n:NoAttr X.K C f)(l:fs.lookup f=some v)
  (h:∀u s',Inv X aA Z H s'->RelV v u->Q u s'):wpAny (model X.prog X.w) A (getAttr (.ref a) f b) Q E s:=by
 obtain⟨mA,O,r,_,_,_⟩:=adq I.hok e;obtain⟨u,hu,ru⟩:=RelO.some_of (v:=v) (o:=mA f) (by rw[<-l];exact r f)
 exact aip I.kIn O (c.get f) c.hd n hu (abl ru) (h u _ (I.tok _) ru)
theorem agz(I:Inv X aA Z H s)(e:H a=some (.ins C dx fs))(c:Cls X.K C)(n:NoAttr X.K C f)(hl:fs.length<1000)(ry:RelV y u)
  (h:∀s',Inv X aA Z (upd H a (.ins C dx (a9v f y fs))) s'->Q () s'):wpAny (model X.prog X.w) A (setAttr (.ref a) f u) Q E s:=by
 obtain⟨mA,O,r,wi,_,ho⟩:=adq I.hok e;have hz:(fs.map (·.1)).length<=sizeLine:=by rw[ar,gy];omega
 refine as7 I.kIn O c.sa c.po n.taker c.hd wi hz λh' O' sb=>h _ ?_;have hd:∃o,h'.get? dx=some o:=let ⟨o,_,_,e',_⟩:=O'.ns; ⟨o,e'⟩;refine I.write (x:=a) (e:=dx) (by rw[e];exact True.intro) (.inr ho) (λb q hb z=>(sb.2 b hb).trans z) hd ?_
 refine⟨by rw[je O.ne];exact ho,?_,O.ne,O'.obj,_,O'.ns,λg=>?_,λg hg=>?_⟩
 .have:=a7b f y fs;omega
 .show RelO ((a9v f y fs).lookup g) (if g=f then some u else mA g)
  rw[a79]
  by_cases q:g=f
  .rw[aJ q,aJ q];exact ry
  .rw[ba q,ba q];exact r g
 .by_cases q:g=f
  .rw[q];exact(a7a f y fs).1
  .refine(a7a f y fs).2 g (wi g λz=>hg ?_);show(if g=f then some u else mA g)=none
   rw[ba q];exact z
theorem Inv.made(I:Inv X aA Z H s):Inv X aA Z (upd (upd H s.heap.objs.size (.own (s.heap.objs.size+1))) (s.heap.objs.size+1) (.ins C s.heap.objs.size []))
  {s with heap:=(s.heap.push PySem.W.emptyDict).push (PySem.W.instObj C s.heap.objs.size)}:=by
 have e1:(s.heap.push PySem.W.emptyDict).get? s.heap.objs.size=some PySem.W.emptyDict:=aO s.heap rfl;have e2:((s.heap.push PySem.W.emptyDict).push (PySem.W.instObj C s.heap.objs.size)).get? (s.heap.objs.size+1)=some (PySem.W.instObj C s.heap.objs.size):=by
  have:=aO (s.heap.push PySem.W.emptyDict) (o:=PySem.W.instObj C s.heap.objs.size) rfl
  rwa[cB]at this
 have e3:(s.heap.push PySem.W.emptyDict).Ns s.heap.objs.size (λ_=>none):=⟨PySem.W.emptyDict, #[],_,e1,rfl,(λe he=>absurd he (by simp)),λ_=>rfl⟩
 have I1:=I.laid (a:=s.heap.objs.size) (o:=.own (s.heap.objs.size+1)) (h':=s.heap.push PySem.W.emptyDict) (t':=s.toks) (λb u q=>af _ q) (aw _) ⟨_,e1⟩;refine I1.laid (a:=s.heap.objs.size+1) (o:=.ins C s.heap.objs.size []) (t':=s.toks) (λb u q=>af _ q) (Nat.le_of_eq (cB _ _)) ?_;have ne:s.heap.objs.size≠s.heap.objs.size+1:=br (eW _);refine⟨by rw[je ne,qw],bb _,ne,e2,λ_=>none,(Heap.Ns1.of_empty e3).at λo q=>af _ q,λ_=>True.intro,λy hy=>absurd rfl hy⟩
theorem as8(hb:attributeBase e f env (eval e env)=eval e env)
  (h:wpAny (model prog w) A (eval e env) (λo s₁=>wpAny (model prog w) A (getAttr o f true) Q E s₁) E s):wpAny (model prog w) A (eval (.Attribute e f pos) env) Q E s :=
 Attribute_any_ h (by rw[arm_eval_Attribute,hb])
end
noncomputable def b55(K:Fg)(ta tv:TE)(f:Str):TS:=λD Z H=>tv Z H λy H1=>ta Z H1 λx H2=>∃a C dx fs,x=.ref a/\H2 a=some (.ins C dx fs)/\Cls K C/\NoAttr K C f/\fs.length<1000 /\
 D.nx Z (upd H2 a (.ins C dx (a9v f y fs)))
section
variable{X:Cx}{o e value:Expr}{f:Str}{pos pos' tpos:Pos}{ta tv:TE}
theorem awx(ha:PE X o ta)(hv:PE X value tv)(hs:swapsWith value (some (.Attribute o f pos')) pos.line X.env=pure false):PS X (.Assign [.Attribute o f pos'] value pos) (b55 X.K ta tv f):=by
 intro aA s Z H D I h
 refine plainObj_wpAny_Assign_Attribute (thn (hv aA s Z H _ I h) λu s1 ⟨y,H1,I1,ry,q⟩=>thn (ha aA s1 Z H1 _ I1 q) λov s2 ⟨x,H2,I2,rx,a,C,dx,fs,ex,ea,c,n,l,q2⟩=>?_) hs;subst ex;obtain rfl:ov=Value.ref a:=rx;exact agz I2 ea c n l ry λs3 I3=>⟨Z,_,I3,q2⟩
end
section
variable{X:Cx}{aA:List (Addr×Obj)}{Z:St}{H:Hp}{s:Shared}{A:Around}{E:Value->Shared->Prop}{Q:Value->Shared->Prop}{c:Value}{b:Bool}
inductive TyOf (K:Fg) (H:Hp):V->Value->Prop where
 |non:TyOf K H .non (.type "NoneType")
 |bl (x:Bool):TyOf K H (.bl x) (.type "bool")
 |int (i:Int):TyOf K H (.int i) (.type "int")
 |str (x:Str):TyOf K H (.str x) (.type "str")
 |flt (x:UInt64):TyOf K H (.flt x) (.type "float")
 |lst {a:Addr} {xs:List V} (e:H a=some (.lst xs)):TyOf K H (.ref a) (.type "list")
 |frz {a:Addr} {o:Obj} {xs:List V} (e:H a=some (.frz o (.lst xs))):TyOf K H (.ref a) (.type "list")
 |tup {a:Addr} {xs:List V} (e:H a=some (.tup xs)):TyOf K H (.ref a) (.type "tuple")
 |dK {a:Addr} {kvs:List (Key×V)} (e:H a=some (.dK kvs)):TyOf K H (.ref a) (.type "dict")
 |dT {a:Addr} {kvs:List (List Key×V)} (e:H a=some (.dT kvs)):TyOf K H (.ref a) (.type "dict")
 | ins {a C dx:Addr} {fs:List (Str×V)} (e:H a=some (.ins C dx fs)) (cl:Cls K C) (ha:PySem.W.findIn K (.ref C) "__class__" = some (some (.builtin "object.__class__")))
   (hn:PySem.W.specialIn K (.builtin "object.__class__") "__get__" = some (some (.builtin "getset_descriptor.__get__"))) (htk:PySem.W.takesIn K (.builtin "object.__class__")=some true)
   (hm:PySem.W.mroIn K C (.type "object")=some true):TyOf K H (.ref a) (.ref C)
theorem aiq(I:Inv X aA Z H s)(rx:RelV x u)(ty:TyOf X.K H x t)(e:PySem.W.kitOne X.K t c=some b)(h:∀tk,Q (.bool b) {s with toks:=tk}) :
  wpAny (model X.prog X.w) A (call (.builtin "isinstance") [u,c]) Q E s:=by
 cases ty with
 |non=>cases (show u=Value.none from rx);exact cI PySem.W.kitx_none I.kIn True.intro e (λz=>nomatch z) h
 |bl y=>cases (show u=Value.bool y from rx);exact cI PySem.W.kitx_bool I.kIn True.intro e (λz=>nomatch z) h
 |int i=>obtain⟨t,q⟩:=(show ∃t,u=Value.int i t from rx);cases q;exact cI PySem.W.kitx_int I.kIn True.intro e (λz=>nomatch z) h
 |str y=>obtain⟨t,q⟩:=(show ∃t,u=Value.str y t from rx);cases q;exact cI PySem.W.kitx_str I.kIn True.intro e (λz=>nomatch z) h
 |flt y=>obtain⟨t,q⟩:=(show ∃t,u=Value.float y t from rx);cases q;exact cI PySem.W.kitx_float I.kIn True.intro e (λz=>nomatch z) h
 |@lst a xs ea =>
  cases (show u=Value.ref a from rx)
  obtain⟨_,_,n,_,h1⟩:=(show ObjOk X.prog X.w H s.heap a (.lst xs) from I.hok a _ ea)
  exact cI PySem.W.kitx_list I.kIn ⟨_,h1,rfl⟩ e (λz=>nomatch z) h
 |@frz a ob xs ea =>
  cases (show u=Value.ref a from rx)
  obtain⟨_,_,_,n,_,h1⟩:=(show ObjOk X.prog X.w H s.heap a (.frz ob (.lst xs)) from I.hok a _ ea)
  exact cI PySem.W.kitx_list I.kIn ⟨_,h1,rfl⟩ e (λz=>nomatch z) h
 |@tup a xs ea =>
  cases (show u=Value.ref a from rx)
  obtain⟨_,_,_,p⟩:=(show ObjOk X.prog X.w H s.heap a (.tup xs) from I.hok a _ ea)
  obtain⟨o,h1,h2,_⟩:=p;exact cI PySem.W.kitx_tuple I.kIn ⟨o,h1,h2⟩ e (λz=>nomatch z) h
 |@dK a kvs ea =>
  cases (show u=Value.ref a from rx)
  obtain⟨_,_,vs,_,p⟩:=(show ObjOk X.prog X.w H s.heap a (.dK kvs) from I.hok a _ ea)
  obtain⟨o,es,ep,h1,h2,_⟩:=p;exact cI ib I.kIn ⟨o,h1,h2.1⟩ e (λz=>nomatch z) h
 |@dT a kvs ea =>
  cases (show u=Value.ref a from rx)
  obtain⟨_,_,xs,_,o,es,ep,h1,h2,_⟩:=(show ObjOk X.prog X.w H s.heap a (.dT kvs) from I.hok a _ ea)
  exact cI ib I.kIn ⟨o,h1,h2.1⟩ e (λz=>nomatch z) h
 |@ins a C dx fs ea cl ha hn htk hm =>
  cases (show u=Value.ref a from rx)
  obtain⟨mA,O,_⟩:=adq I.hok ea;obtain⟨od,J,_⟩:=O.look;exact cI (PySem.W.kitx_own (cl.get _) cl.hd ha hn htk hm) I.kIn J e (λz=>nomatch z) h
end
structure Room (k:Nat) (A:Around):Prop where
 hd:A.handled=none
 dp:A.depth+3*k+5<recursionLimit
 un:A.units+16*k+200<cLine
 gd:A.guards=some []
theorem Room.mono(r:Room k A)(h:j<=k):Room j A:=⟨r.hd,by have:=r.dp;omega,by have:=r.un;omega,r.gd⟩
theorem Room.deeper(r:Room (k+1) A)(env:Env):Room k (A.deeper env) :=
 ⟨r.hd,by have:=r.dp;show A.depth+1+3*k+5<_;omega,by have:=r.un;show A.units+3+16*k+200<_;omega,r.gd⟩
theorem ah0{A:Around}:(A.under (.builtin "type.__call__" ⟨.ref C::us,kw⟩)).depth=A.depth+1:=by
 first|rfl|simp[Around.under,Code.weight,Code.isCreation,Code.isGuard,Code.isCaller,Code.frames,Code.isFrame,guardIds]
theorem ah1{A:Around}:(A.under (.builtin "type.__call__" ⟨.ref C::us,kw⟩)).units=A.units+1:=by
 first|rfl|simp[Around.under,Code.cUnits,Code.frames,Code.isFrame]
theorem adt{A:Around}:(A.under (.builtin "type.__call__" ⟨.ref C::us,kw⟩)).guards=A.guards:=by
 obtain⟨_,_,_,g,_⟩:=A
 cases g<;>first|rfl|simp[Around.under,pushGuards,Code.guards,Code.isGuard,guardIds]
theorem Room.make(r:Room (k+1) A)(C:Addr)(us:List Value)(kw:List (Str×Value)):Room k (A.under (.builtin "type.__call__" ⟨.ref C::us,kw⟩)) :=
 ⟨r.hd,by have:=r.dp;rw[ah0];omega,by have:=r.un;rw[ah1];omega,by rw[adt];exact r.gd⟩
theorem Room.depth(r:Room k A):A.depth<recursionLimit:=by have:=r.dp;omega
theorem Room.units(r:Room k A):A.units+64<cLine:=by have:=r.un;omega
def b3s:TA:=λ_ H Q=>Q [] H
def b2a(ta:TE)(tr:TA):TA:=λZ H Q=>ta Z H λx H1=>tr Z H1 λxs H2=>Q (x::xs) H2
section
variable{X:Cx}{e:Expr}{es:List Expr}{te:TE}{t:TA}{pos:Pos}
theorem af4:PA X [] b3s:=λ_ _ _ _ H Q I h=>Calls.spliced_nil ⟨[],H,I,.nil,h⟩
theorem a7c(ha:PE X e te)(hr:PA X es t)(hs:starEach (e::es) X.env=(false,eval e X.env)::starEach es X.env:=by rfl):PA X (e::es) (b2a te t):=by
 intro pos aA s Z H Q I h
 rw[hs];show wpAny _ _ (spliced ((false,eval e X.env)::backTo pos (starEach es X.env))) _ _ s;refine Calls.spliced_cons (thn (ha aA s Z H _ I h) λu s1 ⟨x,H1,I1,r1,q1⟩=>?_);exact thn (hr pos aA s1 Z H1 _ I1 q1) λus s2 ⟨xs,H2,I2,r2,q2⟩=>⟨x::xs,H2,I2,.cons r1 r2,q2⟩
noncomputable def b56(t:TA):TE:=λZ H Q=>t Z H λxs H1=>xs.length<=sizeLine/\∀p,H1 p=none->Q (.ref p) (upd H1 p (.tup xs))
noncomputable def b57(t:TA):TE:=λZ H Q=>t Z H λxs H1=>xs.length<=sizeLine/\∀p,H1 p=none->Q (.ref p) (upd H1 p (.lst xs))
theorem awy{x1}(h:PA X es t):PE X (.Tuple es x1 pos) (b56 t):=by
 intro aA s Z H Q I hq
 refine wpAny_Tuple_spliced (thn (h pos aA s Z H _ I hq) λus s1 ⟨xs,H1,I1,r,z,q⟩=>⟨by rw[<-r.length];exact z,?_⟩)
 have hf:H1 s1.heap.objs.size=none:=I1.hok.fresh (aw _);refine⟨.ref s1.heap.objs.size,upd H1 s1.heap.objs.size (.tup xs),I1.laid (t':=s1.toks) (λb u e=>af _ e) (aw _) ?_,rfl,q _ hf⟩;exact⟨z,us,r,⟨_,aO _ rfl,rfl,_,rfl⟩⟩
theorem awz(h:PA X es t):PE X (.List es pos) (b57 t):=by
 intro aA s Z H Q I hq
 refine wpAny_List_spliced (thn (h pos aA s Z H _ I hq) λus s1 ⟨xs,H1,I1,r,z,q⟩=>⟨by rw[<-r.length];exact z,?_⟩)
 have hf:H1 s1.heap.objs.size=none:=I1.hok.fresh (aw _);refine⟨.ref s1.heap.objs.size,upd H1 s1.heap.objs.size (.lst xs),I1.laid (t':=s1.toks) (λb u e=>af _ e) (aw _) ?_,rfl,q _ hf⟩;exact⟨z,us,0,r,aO _ rfl⟩
end
abbrev Sp:=List V->Hp->VK->XK->Prop
abbrev CXT:=List Env->Hp->Shared->XK->Value->Shared->Prop
structure Env0 (P:Program) (w:World) (K:Fg) (mg:Str->Option Value) (base:Heap) (A:Around) (outer:List Env) (s:Shared) (H:Hp):Prop where
 frames:A.frames=some outer
 mod:Mod K mg base
 bs:∀b o,base.get? b=some o->s.heap.get? b=some o/\H b=none
 bsz:base.objs.size<=s.heap.objs.size
 funs:s.heap.FunFrames base outer
 frf:∀b∈frs outer,H b=none
 hok:HOk P w H s.heap
 bare:AllBare s.gens
def CE(outer:List Env)(P:Program)(w:World)(H:Hp)(s:Shared)(Q:VK)(u:Value)(s':Shared):Prop :=
 ∃v H',s'.os=s.os/\AllBare s'.gens/\Un (frs outer) [] H H' s.heap s'.heap/\HOk P w H' s'.heap/\RelV v u/\Q v H'
def CR(CX:CXT)(outer:List Env)(P:Program)(w:World)(H:Hp)(s:Shared)(Q:VK)(E:XK)(r:Result)(s':Shared):Prop :=
 match r with
 |.ok (.ret u)=>CE outer P w H s Q u s'
 |.ok _=>False
 |.error e=>CX outer H s E e s'
structure FnOk (P:Program) (w:World) (K:Fg) (mg:Str->Option Value) (base:Heap) (CX:CXT) (k:Nat) (f:Addr) (fd:FuncData) (ps:List Str) (sp:Sp):Prop where
 len:∀vs H Q E,sp vs H Q E->vs.length=ps.length
 run:∀(A:Around) (outer:List Env) (s:Shared) (H:Hp) (args:Args) (us:List Value) (vs:List V) (Q:VK) (E:XK),Room k A->Env0 P w K mg base A outer s H->BindsTo s fd args (ps.zip us)->Vals vs us->sp vs H Q E->
  codeAny (model P w) A (.call (.ref f) args) (CR CX outer P w H s Q E) s
theorem FnOk.imp{P:Program}{w:World}{K:Fg}{mg:Str->Option Value}{base:Heap}{CX:CXT}{k:Nat}{f:Addr}{fd:FuncData}{ps:List Str}{sp sp':Sp}(F:FnOk P w K mg base CX k f fd ps sp)
  (h:∀vs H Q E,sp' vs H Q E->sp vs H Q E):FnOk P w K mg base CX k f fd ps sp' :=
 ⟨λvs H Q E q=>F.len vs H Q E (h _ _ _ _ q),λA outer s H args us vs Q E hr he hb hv hs=>F.run A outer s H args us vs Q E hr he hb hv (h _ _ _ _ hs)⟩
theorem Env0.make{P:Program}{w:World}{K:Fg}{mg:Str->Option Value}{base:Heap}{A:Around}{outer:List Env}{s:Shared}{H:Hp}(e:Env0 P w K mg base A outer s H)(C:Addr)(us:List Value)(kw:List (Str×Value)) :
  Env0 P w K mg base (A.under (.builtin "type.__call__" ⟨.ref C::us,kw⟩)) outer s H:=⟨by first|exact e.frames|(simpa[Around.under,Code.envs,Code.isFrame,pushEnvs] using e.frames),e.mod,e.bs,e.bsz,e.funs,e.frf,e.hok,e.bare⟩
section
variable{X:Cx}{aA:List (Addr×Obj)}{Z:St}{H:Hp}{s s':Shared}
theorem Inv.env0(I:Inv X aA Z H s):Env0 X.prog X.w X.K X.mg X.base X.A X.stack s H :=
 ⟨I.ok.frames,I.ok.mod,I.bs,bC I.ok.bsz I.sz,I.stack,I.stkFree,I.hok,I.bare⟩
theorem Inv.after(I:Inv X aA Z H s)(h:CE X.stack X.prog X.w H s Q u s'):EP X aA Z Q u s':=by
 obtain⟨v,H',os,bare,un,hok,r,q⟩:=h;obtain⟨hh,g,d,t,os'⟩:=s';obtain rfl:os'=s.os:=os;exact⟨v,H',I.call (h':=hh) (g':=g) (d':=d) (t':=t) (ch:=[]) un hok bare (λb z=>absurd z (by simp)),r,q⟩
end
def ax0(sp:Sp)(dvs:List V)(E:XK)(t:TA):TE:=λZ H Q=>t Z H λvs H1=>sp (vs++dvs) H1 Q E
noncomputable def b2b(C:Addr)(sp:Sp)(dvs:List V)(E:XK)(t:TA):TE:=λZ H Q=>t Z H λvs H1=>∀x dx,H1 x=none->H1 dx=none->dx≠x->
 sp (.ref x::(vs++dvs)) (upd (upd H1 dx (.own x)) x (.ins C dx [])) (λv H2=>v=.non/\Q (.ref x) H2) E
def Binds(K:Fg)(fd:FuncData)(ps:List Str)(ds:List Value):Prop :=
 ∀(s:Shared) (us:List Value),K.In s.heap->(us++ds).length=ps.length->BindsTo s fd ⟨us,[]⟩ (ps.zip (us++ds))
theorem Binds.all{K:Fg}{fd:FuncData}{ps:List Str}(h:∀us:List Value,us.length=ps.length->bindArgs fd ⟨us,[]⟩=pure (ps.zip us)):Binds K fd ps []:=λs us _ hl=>by
 rw[bE]at hl ⊢;exact .of_eq (h us hl)
def a8y(CX:CXT)(X:Cx)(E:XK):Prop:=∀(aA:List (Addr×Obj)) (Z:St) (H:Hp) (s:Shared) (e:Value) (s':Shared),Inv X aA Z H s->CX X.stack H s E e s'->X.xe e s'
section
variable{X:Cx}{CX:CXT}{k:Nat}{f C:Addr}{fd:FuncData}{ps:List Str}{sp:Sp}{dvs:List V}{ds:List Value}{E:XK}{x m:Str}{p pos apos:Pos}{e o:Expr}{es:List Expr}{ta:TE}{t:TA}
theorem apx(F:FnOk X.prog X.w X.K X.mg X.base CX k f fd ps sp)(hr:Room k X.A)(hb:Binds X.K fd ps ds)(hd:Vals dvs ds)(hx:a8y CX X E)
  (I:Inv X aA Z H s) (r:Vals vs us) (h:sp (vs++dvs) H Q E):wpAny (model X.prog X.w) X.A (call (.ref f) us) (EP X aA Z Q) X.xe s:=by
 have r2:Vals (vs++dvs) (us++ds):=r.append hd;have hl:(us++ds).length=ps.length:=by rw[<-r2.length];exact F.len _ _ _ _ h
 refine wpAny_call (fL (F.run X.A X.stack s H ⟨us,[]⟩ (us++ds) (vs++dvs) Q E hr I.env0 (hb s us I.kIn hl) r2 h) λr s' hq=>?_)
 cases r with
 |error e=>exact hx aA Z H s e s' I hq
 |ok fl =>
  cases fl with
  |ret u=>exact I.after hq
  |next=>exact False.elim hq
  |brk=>exact False.elim hq
  |cont=>exact False.elim hq
theorem as9(F:FnOk X.prog X.w X.K X.mg X.base CX k f fd ps sp)(hr:Room k X.A)(hg:Gl X x)(hm:X.mg x=some (.ref f))(hk:PySem.W.keepIn X.K (.ref f)=true)(hb:Binds X.K fd ps ds)(hd:Vals dvs ds)(hx:a8y CX X E)
  (ha:PA X (e::es) t) (hdb:(x == ("__debug__" : Str))=false:=by decide) (he:starEach (e::es) X.env=(false,eval e X.env)::starEach es X.env:=by rfl) (hpl:(backTo pos (starEach es X.env)).any (·.1)=false:=by rfl) :
  PE X (.Call (.Name x p) (e::es) [] pos) (ax0 sp dvs E t):=by
 intro aA s Z H Q I h
 refine eE (a9s I hg hm ?_ hdb);refine PySem.W.callWith_K (h₀:=X.base) I.ok.mod.kin hk (thn (ha pos aA s Z H _ I h) λus s1 ⟨vs,H1,I1,r,q⟩=>⟨I1.kIn,?_⟩) he hpl;exact apx F hr hb hd hx I1 r q
theorem an4(F:FnOk X.prog X.w X.K X.mg X.base CX k f fd ps sp)(hr:Room k X.A)(hg:Gl X x)(hm:X.mg x=some (.ref f))(hk:PySem.W.keepIn X.K (.ref f)=true)(hb:Binds X.K fd ps ds)(hd:Vals dvs ds)(hx:a8y CX X E)
  (hdb:(x == ("__debug__" : Str))=false:=by decide):PE X (.Call (.Name x p) [] [] pos) (ax0 sp dvs E b3s):=by
 intro aA s Z H Q I h
 refine eE (a9s I hg hm ?_ hdb);exact PySem.W.callWith_K0 I.kIn hk (apx (us:=[]) F hr hb hd hx I .nil h)
structure Mk (K:Fg) (C f:Addr):Prop where
 makes:PySem.W.makesIn K C=true
 init:PySem.W.findIn K (.ref C) "__init__" = some (some (.ref f))
 fn:PySem.W.isFn K (.ref f)=true
 kp:PySem.W.keepIn K (.ref C)=true
theorem an5(M:Mk X.K C f)(F:FnOk X.prog X.w X.K X.mg X.base CX k f fd ps sp)(hr:Room (k+1) X.A)(hb:Binds X.K fd ps ds)(hd:Vals dvs ds)
  (hx:a8y CX X E) (I:Inv X aA Z H s) (r:Vals vs us)
  (h:∀x dx,H x=none->H dx=none->dx≠x->sp (.ref x::(vs++dvs)) (upd (upd H dx (.own x)) x (.ins C dx [])) (λv H2=>v=.non/\Q (.ref x) H2) E) :
  wpAny (model X.prog X.w) X.A (call (.ref C) us) (EP X aA Z Q) X.xe s:=by
 have hq:=h (s.heap.objs.size+1) s.heap.objs.size (I.hok.fresh (Nat.le_succ _)) (I.hok.fresh (aw _)) (br (eW _));have I2:=Inv.made (C:=C) I;have r2:Vals (V.ref (s.heap.objs.size+1)::(vs++dvs)) (Value.ref (s.heap.objs.size+1)::(us++ds)):=.cons rfl (r.append hd);have hl:(Value.ref (s.heap.objs.size+1)::us++ds).length=ps.length:=by
  have e:=r2.length;rw[F.len _ _ _ _ hq]at e;exact e.symm
 refine wpAny_call (an3 (f:=f) I.kIn M.makes M.init (eD.mp M.fn) (fL (F.run _ X.stack _ _ ⟨Value.ref (s.heap.objs.size+1)::us,[]⟩ (Value.ref (s.heap.objs.size+1)::(us++ds)) _ _ E (hr.make C us [])
  (I2.env0.make C us []) (hb _ (Value.ref (s.heap.objs.size+1)::us) I2.kIn hl) r2 hq) λr s' hq'=>?_))
 cases r with
 |error e=>exact hx aA Z _ _ e s' I2 hq'
 |ok fl =>
  cases fl with
  |ret u =>
   obtain⟨v,H',I3,rv,ev,q3⟩:=I2.after hq';subst ev;exact⟨rv,⟨V.ref (s.heap.objs.size+1),H',I3,rfl,q3⟩⟩
  |next=>exact False.elim hq'
  |brk=>exact False.elim hq'
  |cont=>exact False.elim hq'
theorem asa(M:Mk X.K C f)(F:FnOk X.prog X.w X.K X.mg X.base CX k f fd ps sp)(hr:Room (k+1) X.A)(hg:Gl X x)(hm:X.mg x=some (.ref C))(hb:Binds X.K fd ps ds)(hd:Vals dvs ds)(hx:a8y CX X E)
  (ha:PA X (e::es) t) (hdb:(x == ("__debug__" : Str))=false:=by decide) (he:starEach (e::es) X.env=(false,eval e X.env)::starEach es X.env:=by rfl) (hpl:(backTo pos (starEach es X.env)).any (·.1)=false:=by rfl) :
  PE X (.Call (.Name x p) (e::es) [] pos) (b2b C sp dvs E t):=by
 intro aA s Z H Q I h
 refine eE (a9s I hg hm ?_ hdb);refine PySem.W.callWith_K (h₀:=X.base) I.ok.mod.kin M.kp (thn (ha pos aA s Z H _ I h) λus s1 ⟨vs,H1,I1,r,q⟩=>⟨I1.kIn,?_⟩) he hpl;exact an5 M F hr hb hd hx I1 r q
end
structure FnScope (N P:List Str) (sc:Scope):Prop where
 kind:sc.kind=.function
 co:sc.isCoroutine=false
 gen:sc.isGenerator=false
 nd:N.Nodup
 pre:N.take P.length=P
 par:∀x∈P,sc.names.lookup x=some .local\/sc.names.lookup x=some .cell
 nofree:∀y∈sc.names,y.2≠.free
theorem abm{kindOf:Str->Option NameKind}{x:Str}:∀{binds:List (Str×Value)} {m:Str->Option Value},(∀v,(x,v)∉binds)->bindL kindOf binds m x=m x
 |[],_,_=>rfl
 |(n,v)::r,m,h=>by
  unfold bindL;rw[abm λw hw=>h w (aW _ hw)]
  split
  .have:x≠n:=by rintro rfl;exact h v bB
   simp[this]
  .rfl
theorem abn{kindOf:Str->Option NameKind}{x:Str}:∀{binds:List (Str×Value)} {m:Str->Option Value},(∀v,(x,v)∉binds)->bindC kindOf binds m x=m x
 |[],_,_=>rfl
 |(n,v)::r,m,h=>by
  unfold bindC;rw[abn λw hw=>h w (aW _ hw)]
  split
  .rfl
  .have:x≠n:=by rintro rfl;exact h v bB
   simp[this]
theorem abo{kindOf:Str->Option NameKind}{x:Str}{v:Value}:∀{P:List Str} {vs:List Value} {i:Nat} {m:Str->Option Value},P.Nodup->P[i]? = some x->vs[i]? = some v->kindOf x=some .local->
  bindL kindOf (P.zip vs) m x=some v
 |[],_,_,_,_,h,_,_=>by simp at h
 |_::_,[],_,_,_,_,h,_=>by simp at h
 |p::P,w::vs,0,m,nd,h1,h2,hk=>by
  simp at h1 h2;subst h1;subst h2
  show bindL kindOf ((p,w)::P.zip vs) m p=_;unfold bindL;rw[abm λv hv=>(fh.mp nd).1 (iW hv).1,aJ hk];simp
 |p::P,w::vs,i+1,m,nd,h1,h2,hk=>by
  show bindL kindOf ((p,w)::P.zip vs) m x=_;unfold bindL;exact abo (i:=i) (fh.mp nd).2 (by simpa using h1) (by simpa using h2) hk
theorem abp{kindOf:Str->Option NameKind}{x:Str}{v:Value}:∀{P:List Str} {vs:List Value} {i:Nat} {m:Str->Option Value},P.Nodup->P[i]? = some x->vs[i]? = some v->kindOf x≠some .local->
  bindC kindOf (P.zip vs) m x=some v
 |[],_,_,_,_,h,_,_=>by simp at h
 |_::_,[],_,_,_,_,h,_=>by simp at h
 |p::P,w::vs,0,m,nd,h1,h2,hk=>by
  simp at h1 h2;subst h1;subst h2
  show bindC kindOf ((p,w)::P.zip vs) m p=_;unfold bindC;rw[abn λv hv=>(fh.mp nd).1 (iW hv).1,ba hk];simp
 |p::P,w::vs,i+1,m,nd,h1,h2,hk=>by
  show bindC kindOf ((p,w)::P.zip vs) m x=_;unfold bindC;exact abp (i:=i) (fh.mp nd).2 (by simpa using h1) (by simpa using h2) hk
def start(N:List Str)(vs:List V):St:=vs.map some++List.replicate (N.length-vs.length) none
noncomputable def air(CX:CXT)(P:Program)(w:World)(K:Fg)(mg:Str->Option Value)(base:Heap)(N:List Str)(qual:Str)(aB:Scope)(f:Addr)(cd:Value)(A:Around)(outer:List Env)(s:Shared)(H:Hp)(E:XK):Cx where
 prog:=P
 w:=w
 K:=K
 mg:=mg
 base:=base
 A:=A.deeper (envOfC qual aB s.heap.objs.size f cd)
 N:=N
 s₀:=s
 H₀:=H
 env:=envOfC qual aB s.heap.objs.size f cd
 outer:=outer
 stack:=envOfC qual aB s.heap.objs.size f cd::outer
 ex:=[]
 calm:=true
 fn:=λ_=>true
 pn:=[]
 xe:=λe s'=>wpAny (model P w) (A.deeper (envOfC qual aB s.heap.objs.size f cd)) (leaving (envOfC qual aB s.heap.objs.size f cd) e) (λ_ s''=>CX outer H s E e s'') (λe' s''=>CX outer H s E e' s'') s'
theorem af5{sc:Scope}(h:sc.names.lookup x=some .cell):∃c,(cellsFrom n sc.names []).lookup x=some c:=by
 have q:=PySem.W.cellsFrom_some sc.names n [] (.inl h);exact fM.mp q
theorem ais{CX:CXT}{P:Program}{w:World}{K:Fg}{mg:Str->Option Value}{base:Heap}{N ps:List Str}{qual:Str}{aB:Scope}{f:Addr}{cd:Value}{A:Around}{outer:List Env}{s s1:Shared}{H:Hp}{E:XK}{us:List Value}{vs:List V}
  (S:FnScope N ps aB) (hd:A.handled=none) (e0:Env0 P w K mg base A outer s H) (hl:vs.length=ps.length) (r:Vals vs us)
  (x:InCallC s s.heap.objs.size (bindL (envOfC qual aB s.heap.objs.size f cd).kindOf (ps.zip us) λ_=>none) (cellsFrom (s.heap.objs.size+1) aB.names []) (bindC (envOfC qual aB s.heap.objs.size f cd).kindOf (ps.zip us) λ_=>none) s1) :
  Inv (air CX P w K mg base N qual aB f cd A outer s H E) [] (start N vs) H s1:=by
 have hpl:ps.length<=N.length:=by have:=aI List.length S.pre;rw[aQ]at this;omega
 obtain⟨h1,tk,rfl,hk⟩:=x.done;have noA:∀b:Addr,b∉(air CX P w K mg base N qual aB f cd A outer s H E).ex:=λb z=>absurd (show b∈([]:List Addr) from z) (by simp)
 refine⟨⟨e0.mod,S.kind,rfl,rfl,aw _,λy z c h1 h2=>?_,λy hy=>?_,λy c _ h=>?_,λ_=>hd,Around.frames_deeper e0.frames,.inr ⟨rfl,rfl⟩,λb z=>absurd z (noA b),e0.bs,e0.bsz,λb _ _=>noA b,λb z=>absurd z (noA b),e0.funs,e0.frf⟩,
  rfl,e0.bare,Un.kept hk,⟨_,x.toInCall.ns,λi y v h1 h2 h3=>?_⟩,λy c h=>⟨_,x.cell y c h⟩,e0.hok.fresh (aw _),λy c h=>?_,λp hp=>absurd (show p∈([]:List (Addr×Obj)) from hp) (by simp),e0.hok.kept hk,?_⟩
 .exact name_of_addr x.apart (cb h1) (cb h2)
 .have hy:aB.names.lookup y=some .cell\/aB.names.lookup y=some .free:=hy
  rcases hy with hy|hy
  .exact af5 hy
  .exact absurd rfl (S.nofree _ (cb hy))
 .exact hR (x.above y c (cb h))
 .have hi:i<vs.length:=by
   unfold start at h2
   by_cases hi:i<vs.length
   .exact hi
   .rw[aK (by simpa using hi)]at h2
    rw[dZ]at h2
    split at h2<;>cases h2
  have ha:vs[i]? = some v:=by
   unfold start at h2;rw[aV (by simpa using hi),bD]at h2
   cases e:vs[i]? with
   |none=>rw[e]at h2;cases h2
   |some a=>rw[e]at h2;cases h2;rfl
  obtain⟨u,hu,rv⟩:=r.get ha;have hp:ps[i]? = some y:=by
   rw[<-S.pre,fN (by omega)];exact h1
  have ndP:ps.Nodup:=by rw[<-S.pre];exact S.nd.sublist (ic _ _)
  refine⟨u,rv,?_⟩
  rcases S.par y (bG hp) with k|k
  .exact .inl ⟨k,abo ndP hp hu k⟩
  .obtain⟨c,e⟩:=af5 (n:=s.heap.objs.size+1) k;refine .inr ⟨.inl k,c,e,?_⟩;have q:=x.cell y c e;rw[abp ndP hp hu (by show aB.names.lookup y≠_;rw[k];decide)]at q
   exact q
 .exact e0.hok.fresh (hR (x.above y c (cb h)))
 .unfold start;show _=N.length;rw[ah,ar,cJ];omega
theorem b2c{CX:CXT}{P:Program}{w:World}{K:Fg}{mg:Str->Option Value}{base:Heap}{k:Nat}{f:Addr}{name qual:Str}{params:Arguments}{body:List Stmt}{aB:Scope}{dV kV doc pm cdv ct oc:Value}{an od:Option Addr}
  {osl:Array (Option Value)} {N ps:List Str} {sp:Sp} (lk:K.lookup f=some ⟨oc,od,.func (PySem.W.fnOf name qual params body aB dV kV doc pm an cdv ct),osl⟩) (hcd:PySem.W.codeIn K cdv qual=true) (S:FnScope N ps aB)
  (len:∀vs H Q E,sp vs H Q E->vs.length=ps.length)
  (hbody:∀(A:Around) (outer:List Env) (s:Shared) (H:Hp) (vs:List V) (Q:VK) (E:XK),Room k (A.deeper (envOfC qual aB s.heap.objs.size f cdv))->sp vs H Q E->
   ∃t,PSs (air CX P w K mg base N qual aB f cdv A outer s H E) body t/\t {nx:=λ_ H'=>Q .non H',rt:=Q} (start N vs) H) :
  FnOk P w K mg base CX (k+1) f (PySem.W.fnOf name qual params body aB dV kV doc pm an cdv ct) ps sp:=by
 refine⟨len,λA outer s H args us vs Q E hr e0 hb r hsp=>?_⟩;have hl:=len _ _ _ _ hsp;have KX:K.In s.heap:=e0.mod.kin.keeps λb o e=>(e0.bs b o e).1;have lim:s.heap.NoLimit:=e0.mod.nolimit.keeps λb o e=>(e0.bs b o e).1;have hkind:∀y∈ps.zip us,aB.names.lookup y.1=some .local\/(aB.names.lookup y.1=some .cell/\((cellsFrom (s.heap.objs.size+1) aB.names []).lookup y.1).isSome=true):=λ⟨n,v⟩ hy=>by
  rcases S.par n (iW hy).1 with q|q
  .exact .inl q
  .exact .inr ⟨q,PySem.W.cellsFrom_some _ _ _ (.inl q)⟩
 refine codeAny_call_function hr.depth (KX _ _ lk) rfl S.co S.gen rfl (PySem.W.codeRec_of KX hcd) (hb _ _ _ _ ?_);refine wpAny_newFunctionEnv_cells S.kind hkind λenv he s1 x=>?_;subst he;refine⟨lim.keeps x.toInCall.keep,codeAny_func ?_⟩;obtain⟨t,ht,hq⟩:=hbody A outer s H vs Q E (hr.deeper _) hsp;have I:Inv (air CX P w K mg base N qual aB f cdv A outer s H E) [] (start N vs) H s1:=ais S hr.hd e0 hl r x;refine bL (ht [] s1 (start N vs) H _ I hq) (λfl s' hs=>?_) λe s' hs=>hs;have fin:∀{Z':St} {H':Hp} {v:V} {u:Value},Inv (air CX P w K mg base N qual aB f cdv A outer s H E) [] Z' H' s'->RelV v u->Q v H'->CE outer P w H s Q u s' :=
  λ{Z' H' v u} J rv q=>⟨v,H',J.os,J.bare,J.base,J.hok,rv,q⟩
 cases fl with
 |ret u =>
  obtain⟨v,Z',H',J,rv,q⟩:=hs;exact fin J rv q
 |next =>
  obtain⟨Z',H',J,q⟩:=hs;exact fin (v:=V.non) (u:=Value.none) J rfl q
 |brk =>
  obtain⟨_,_,_,q⟩:=hs;exact False.elim q
 |cont =>
  obtain⟨_,_,_,q⟩:=hs;exact False.elim q
section
variable{X:Cx}{x:Str}{p pos:Pos}{e:Expr}{es:List Expr}{t:TA}{id T:String}{r:List V->Hp->VK->Prop}
def tCB(r:List V->Hp->VK->Prop)(t:TA):TE:=λZ H Q=>t Z H λvs H1=>r vs H1 Q
theorem af6(hc:CallR X (.builtin id) r)(hg:Gl X x)(hm:X.mg x=none)(hv:bootBuiltins x=some (.builtin id))(ha:PA X (e::es) t)(hn:x ≠ "__name__":=by decide)(hdb:(x == ("__debug__" : Str))=false:=by decide)
  (he:starEach (e::es) X.env=(false,eval e X.env)::starEach es X.env:=by rfl) (hpl:(backTo pos (starEach es X.env)).any (·.1)=false:=by rfl):PE X (.Call (.Name x p) (e::es) [] pos) (tCB r t):=by
 intro aA s Z H Q I h
 refine eE (a66 I hg hm hv ?_ hn hdb);exact PyProof.Rows.callWith_builtin1 (thn (ha pos aA s Z H _ I h) λus s1 ⟨vs,H1,I1,r1,q1⟩=>hc aA s1 Z H1 vs us Q I1 r1 q1) he hpl
theorem abq(hc:CallR X (.type T) r)(hg:Gl X x)(hm:X.mg x=none)(hv:bootBuiltins x=some (.type T))(ha:PA X (e::es) t)(hn:x ≠ "__name__":=by decide)(hdb:(x == ("__debug__" : Str))=false:=by decide)
  (he:starEach (e::es) X.env=(false,eval e X.env)::starEach es X.env:=by rfl) (hpl:(backTo pos (starEach es X.env)).any (·.1)=false:=by rfl):PE X (.Call (.Name x p) (e::es) [] pos) (tCB r t):=by
 intro aA s Z H Q I h
 refine eE (a66 I hg hm hv ?_ hn hdb);exact cH (thn (ha pos aA s Z H _ I h) λus s1 ⟨vs,H1,I1,r1,q1⟩=>hc aA s1 Z H1 vs us Q I1 r1 q1) he hpl
end
end L2
namespace HT
open PyProof.Rows
section
variable{prog:Program}{w:World}{A:Around}{E:Value->Shared->Prop}{s:Shared}
theorem asb{vs ws:List Value}(ht:IsTup s.heap t vs.toArray)(hb:IsTup s.heap b ws.toArray)(hv:vs≠[])
  (h1:ws=[]->Q (.ref t) s) (h2:ws≠[]->Q (.ref s.heap.objs.size) {s with heap:=s.heap.push {cls:=.type "tuple",data:=.seq (vs++ws).toArray} })
  (hsz:vs.length+ws.length<=sizeLine):wpAny (model prog w) A (binaryOp .Add (.ref t) (.ref b)) Q E s:=by
 obtain⟨⟨cls,dd,data,sl⟩,ho,hc,n,hd⟩:=id ht;obtain⟨⟨cls2,dd2,data2,sl2⟩,ho2,hc2,n2,hd2⟩:=id hb;simp only at hc hd hc2 hd2;subst hc hd hc2 hd2;have e:vs.toArray++ws.toArray=(vs++ws).toArray:=by simp
 by_cases hw:ws=[]
 .exact concat_meets ⟨_,ho,rfl⟩ ⟨_,ho2,rfl⟩ iN seq_tuple_add PySem.F.slot_tuple_add iE (ij _ _)
   (tuple_addW1 t b vs.toArray ws.toArray n n2 dd dd2 sl sl2 (by simpa using hv) (by simp[hw])) ⟨ho,ho2,h1 hw⟩
 .refine concat_meets ⟨_,ho,rfl⟩ ⟨_,ho2,rfl⟩ iN seq_tuple_add PySem.F.slot_tuple_add iE (ij _ _)
   (tuple_addW2 t b vs.toArray ws.toArray n n2 dd dd2 sl sl2 (by simpa using hv) (by simpa using hw) (by rw[ay,ay];exact hsz)) ⟨ho,ho2,?_⟩
  rw[e];exact h2 hw
noncomputable def sIx(n d:Nat):Option Int->Nat
 |none=>d
 |some v=>if v<0 then (v+(n:Int)).toNat else min v.toNat n
theorem a9w(n d:Nat):sIx n d none=d:=rfl
theorem ait(n d k:Nat):sIx n d (some (k:Int))=min k n:=by
 show(if (k:Int)<0 then ((k:Int)+(n:Int)).toNat else min (k:Int).toNat n)=min k n
 rw[ba (by omega),ee]
theorem aiu(n d:Nat)(hd:d<=n)(o:Option Int):sIx n d o<=n:=by
 cases o with
 |none=>exact hd
 |some v =>
  show(if v<0 then (v+(n:Int)).toNat else min v.toNat n)<=n
  by_cases hv:v<0
  .rw[aJ hv];omega
  .rw[ba hv];exact Nat.min_le_right _ _
theorem aiv(v:Int)(n d:Nat):(if v<0 then max (v+(n:Int)) 0 else min v (n:Int))=((sIx n d (some v):Nat):Int):=by
 show(if v<0 then max (v+(n:Int)) 0 else min v (n:Int))=(((if v<0 then (v+(n:Int)).toNat else min v.toNat n):Nat):Int)
 by_cases hv:v<0
 .simp only[aJ hv];omega
 .simp only[ba hv];omega
theorem ah2(lo hi:Option Int)(n:Nat):Builtin.Slice.sliceAdjust lo hi 1 (n:Int)=(((sIx n 0 lo:Nat):Int),((sIx n n hi:Nat):Int)):=by
 have h1:¬ ((1:Int)<0):=by omega
 unfold Builtin.Slice.sliceAdjust;simp only[h1,fR];refine Prod.ext ?_ ?_
 .cases lo with
  |none=>rfl
  |some v=>exact aiv v n 0
 .cases hi with
  |none=>rfl
  |some v=>exact aiv v n n
theorem ah3(i j:Nat):Builtin.Slice.slicePlaces (i:Int) (j:Int) 1=j-i:=by
 unfold Builtin.Slice.slicePlaces;have h1:(1:Int) > 0:=by omega
 simp only[h1,dO,Int.ediv_one]
 split<;>omega
theorem a1m(p:IsPart v o)(h:Q o s):wpAny (model prog w) A (Builtin.Slice.slicePartIndex v) Q E s:=by
 cases p with
 |none=>exact slicePart_none h
 |int i t=>exact slicePart_int h
theorem a2m{sl:Addr}{vl vu:Value}{lo hi:Option Int}{n:Nat}{Q:Int×Int×Nat->Shared->Prop}(hs:s.heap.IsSliceOf sl vl vu .none)(pl:IsPart vl lo)(pu:IsPart vu hi)
  (h:Q (((sIx n 0 lo:Nat):Int),1,sIx n n hi-sIx n 0 lo) s):wpAny (model prog w) A (Builtin.Slice.sliceApplied (.ref sl) (pure (n:Int))) Q E s:=by
 obtain⟨os,hos,hcs,hds⟩:=id hs;unfold Builtin.Slice.sliceApplied Builtin.Slice.sliceFields;refine ae (ae (dD hos hds (x:=vl) rfl (ae (dD hos hds (x:=vu) rfl (ae (dD hos hds (x:=.none) rfl (av ?_)))))));refine ae (slicePart_none ?_);show wpAny _ _ (if ((1:Int) == 0)=true then _ else _) _ _ s
 rw[ba (by decide)]
 refine ae (a1m pl (ae (a1m pu (ae (av ?_)))));show wpAny _ _ (match Builtin.Slice.sliceAdjust lo hi 1 (n:Int) with|(lo,hi)=>pure (lo,(1:Int),Builtin.Slice.slicePlaces lo hi 1)) _ _ s
 rw[ah2 lo hi n];show wpAny _ _ (pure (((sIx n 0 lo:Nat):Int),(1:Int),Builtin.Slice.slicePlaces ((sIx n 0 lo:Nat):Int) ((sIx n n hi:Nat):Int) 1)) _ _ s;rw[ah3];exact av h
theorem an6(xs:Array Value)(i k:Nat):((List.range k).filterMap λ(m:Nat)=>xs[((i:Int)+(m:Int)*1).toNat]?).toArray=((xs.toList.drop i).take k).toArray:=by
 have e:(λ(m:Nat)=>xs[((i:Int)+(m:Int)*1).toNat]?)=λm=>xs[i+m]?:=by
  funext m
  have:((i:Int)+(m:Int)*1).toNat=i+m:=by omega
  rw[this]
 rw[e];have:=pick_run xs i k;rw[hW]at this;have e2:((λx=>xs[x]?) ∘ λx=>i+x)=λm=>xs[i+m]?:=rfl;rw[e2]at this;rw[this]
theorem a5k{t sl:Addr}{aC:Array Value}{vl vu:Value}{lo hi:Option Int}{Q:Value->Shared->Prop}(ht:IsTup s.heap t aC)(hs:s.heap.IsSliceOf sl vl vu .none)(pl:IsPart vl lo)(pu:IsPart vu hi)
  (hw:¬ (sIx aC.size 0 lo=0/\sIx aC.size aC.size hi=aC.size))
  (h:Q (.ref s.heap.objs.size) {s with heap:=s.heap.push {cls:=.type "tuple",data:=.seq ((aC.toList.drop (sIx aC.size 0 lo)).take (sIx aC.size aC.size hi-sIx aC.size 0 lo)).toArray} })
  (hsz:aC.size<=sizeLine):wpAny (model prog w) A (getItem (.ref t) (.ref sl)) Q E s:=by
 have htake:sizeOk (.seq ((aC.toList.drop (sIx aC.size 0 lo)).take (sIx aC.size aC.size hi-sIx aC.size 0 lo)).toArray):=by
  show((aC.toList.drop (sIx aC.size 0 lo)).take (sIx aC.size aC.size hi-sIx aC.size 0 lo)).toArray.size<=sizeLine;rw[ay,aQ,aY,bp];omega
 have hj:sIx aC.size aC.size hi<=aC.size:=aiu _ _ (aw _) hi;obtain⟨os,hos,hcs,hds⟩:=id hs;have hTs:s.TypeIs (.ref sl) "slice":=⟨os,hos,hcs⟩;unfold getItem
 try with_reducible refine cX ?_
 first|refine ae (av ?_)|skip
 refine ae (ip ht.typeIs (by decide) ?_)
 refine ae (bY (name:=Str.ofString "__getitem__") ht.typeIs bJ
  (cm bJ ht.typeIs entry_tuple_getitem ?_ (args_tuple_getitem _ _)))
 show wpAny _ _ (Builtin.Tuple.tupleItemsOf (.ref t)>>=_) _ _ s;refine ae (tupleItemsOf_ ht ?_);refine ae (gF hTs ?_);rw[aJ (by decide)]
 refine ae (a2m hs pl pu ?_);have hno:¬ ((((sIx aC.size 0 lo:Nat):Int) == 0 && (1:Int) == 1 && (sIx aC.size aC.size hi-sIx aC.size 0 lo) == aC.size)=true):=by
  intro q
  rw[bM,bM]at q;have q1:((sIx aC.size 0 lo:Nat):Int)=0:=eq_of_beq q.1.1;have q2:sIx aC.size aC.size hi-sIx aC.size 0 lo=aC.size:=eq_of_beq q.2;exact hw ⟨by omega,by omega⟩
 show wpAny _ _ (if (((sIx aC.size 0 lo:Nat):Int) == 0 && (1:Int) == 1 && (sIx aC.size aC.size hi-sIx aC.size 0 lo) == aC.size)=true then _ else _) _ _ s
 rw[ba hno,an6]
 first
  |exact ae (m:=Builtin.Tuple.tupleExact _) (bV (av ⟨_,rfl,av h⟩) htake)
  |exact ae (m:=Builtin.Tuple.tupleExact _) (bV (ae (av (av ⟨_,rfl,av h⟩))) htake)
  |exact ae (ae (m:=Builtin.Tuple.tupleExact _) (bV (av (av ⟨_,rfl,av h⟩)) htake))
  |exact ae (ae (m:=Builtin.Tuple.tupleExact _) (bV (av ⟨_,rfl,av h⟩) htake))
end
end HT
namespace L2
open PyProof.Rows
abbrev TO:=St->Hp->(Option Int->Hp->Prop)->Prop
def PO(X:Cx)(e:Option Expr)(t:TO):Prop :=
 ∀(aA:List (Addr×Obj)) (s:Shared) (Z:St) (H:Hp) (Q:Option Int->Hp->Prop),Inv X aA Z H s->t Z H Q->
  wpAny (model X.prog X.w) X.A (evalPart e X.env) (λu s'=>∃o H',Inv X aA Z H' s'/\IsPart u o/\Q o H') X.xe s
def asd:TO:=λ_ H Q=>Q none H
def b2d(t:TE):TO:=λZ H Q=>t Z H λx H1=>∃i,x=.int i/\Q (some i) H1
theorem intsAre_of{ns:List Int}:∀{us:List Value},Vals (ns.map V.int) us->IntsAre us ns:=by
 induction ns with
 |nil=>intro us r;rw[cM]at r;cases r;exact .nil
 |cons n ns ih =>
  intro us r
  rw[aZ]at r
  cases r with
  |cons r1 r2 =>
   obtain⟨t,e⟩:=r1;subst e;exact .cons n t (ih r2)
section
variable{X:Cx}{e:Expr}{te:TE}{lo hi:Option Expr}{tl th:TO}{pos p2:Pos}
theorem ase:PO X none asd:=by
 intro aA s Z H Q I h
 rw[iF];exact av ⟨none,H,I,.none,h⟩
theorem asf(h:PE X e te):PO X (some e) (b2d te):=by
 intro aA s Z H Q I hw
 rw[iG];refine thn (h aA s Z H _ I hw) ?_
 rintro u s1 ⟨x,H1,I1,r1,q1⟩
 obtain⟨i,rfl,q⟩:=q1;obtain⟨t,rfl⟩:=r1;exact⟨some i,H1,I1,.int i t,q⟩
def SlR(X:Cx)(r:V->Option Int->Option Int->Hp->VK->Prop):Prop :=
 ∀(aA:List (Addr×Obj)) (s:Shared) (Z:St) (H:Hp) (x:V) (v vl vu:Value) (lo hi:Option Int) (sl:Addr) (Q:VK),Inv X aA Z H s->RelV x v->s.heap.IsSliceOf sl vl vu .none->IsPart vl lo->IsPart vu hi->r x lo hi H Q->
  ∃T id,typeLookup (.type T) "__getitem__" = pure (some (.builtin id))/\s.TypeIs v T/\wpAny (model X.prog X.w) X.A (getItem v (.ref sl)) (EP X aA Z Q) X.xe s
theorem SlR.or(h:SlR X r)(h':SlR X r'):SlR X (λx lo hi H Q=>r x lo hi H Q\/r' x lo hi H Q):=by
 intro aA s Z H x v vl vu lo hi sl Q I rx hs pl pu q
 rcases q with q|q
 .exact h aA s Z H x v vl vu lo hi sl Q I rx hs pl pu q
 .exact h' aA s Z H x v vl vu lo hi sl Q I rx hs pl pu q
def tSl(r:V->Option Int->Option Int->Hp->VK->Prop)(te:TE)(tl th:TO):TE:=λZ H Q=>te Z H λx H1=>tl Z H1 λl H2=>th Z H2 λu H3=>r x l u H3 Q
theorem an7(hr:SlR X r)(he:PE X e te)(hl:PO X lo tl)(hu:PO X hi th):PE X (.Subscript e (.Slice lo hi none p2) pos) (tSl r te tl th):=by
 intro aA s Z H Q I h
 refine Subscript_ (thn (he aA s Z H _ I h) λv s1 ⟨x,H1,I1,r1,q1⟩=>?_);refine wpAny_Slice (thn (hl aA s1 Z H1 _ I1 q1) λvl s2 ⟨l,H2,I2,pl,q2⟩=>thn (hu aA s2 Z H2 _ I2 q2) λvu s3 ⟨u,H3,I3,pu,q3⟩=>?_);rw[iF];refine av ?_;have I4:Inv X aA Z H3 {s3 with heap:=s3.heap.push {cls:=.type "slice",data:=.fields #[vl,vu,.none]} }:=I3.kept (t':=s3.toks) λb ob q=>af _ q
 obtain⟨T,id,hT,ht,hg⟩:=hr aA {s3 with heap:=s3.heap.push {cls:=.type "slice",data:=.fields #[vl,vu,.none]} } Z H3 x v vl vu l u s3.heap.objs.size Q I4 r1 (hX ..) pl pu q3
 show wpAny (model X.prog X.w) X.A (subscriptTail e (.Slice lo hi none p2) v (.ref s3.heap.objs.size)) (EP X aA Z Q) X.xe {s3 with heap:=s3.heap.push {cls:=.type "slice",data:=.fields #[vl,vu,.none]} }
 exact tail_any (ops:=[.ref s3.heap.objs.size,v]) ht hT hg (by with_unfolding_all rfl)
noncomputable def apy(xs:List V)(lo hi:Option Int):List V:=(xs.drop (HT.sIx xs.length 0 lo)).take (HT.sIx xs.length xs.length hi-HT.sIx xs.length 0 lo)
theorem a7d(xs:List V)(lo hi:Option Int):(apy xs lo hi).length<=xs.length:=by
 unfold apy;rw[aQ,aY];omega
def b2e(K:Fg):V->Option Int->Option Int->Hp->VK->Prop:=λx lo hi H Q=>∃a xs,x=.ref a/\SqT K H a xs /\
 ¬ (HT.sIx xs.length 0 lo=0/\HT.sIx xs.length xs.length hi=xs.length)/\∀p,H p=none->Q (.ref p) (upd H p (.tup (apy xs lo hi)))
theorem ax1:SlR X (b2e X.K):=by
 intro aA s Z H x v vl vu lo hi sl Q I rx hs pl pu h
 obtain⟨a,xs,rfl,hx,hw,q⟩:=h;cases rx
 obtain⟨its,r,ht,hz⟩:=I.tuple hx;have aH:its.toArray.size=xs.length:=by rw[ay];exact r.length.symm
 refine⟨"tuple",_,bJ.lookup,ht.typeIs,?_⟩;refine HT.a5k ht hs pl pu (by rw[aH];exact hw) ?_ (by rw[aH];exact hz)
 rw[aH];refine⟨.ref s.heap.objs.size,_,I.laid (t':=s.toks) (o:=.tup (apy xs lo hi)) (λb ob q=>af _ q) (aw _) ?_,rfl,q _ (I.hok.fresh (aw _))⟩;exact⟨bC (a7d xs lo hi) hz,_,(r.drop (HT.sIx xs.length 0 lo)).take (HT.sIx xs.length xs.length hi-HT.sIx xs.length 0 lo),IsTup.new _ _⟩
noncomputable def ax2(K:Fg):R2:=λx y H Q=>∃a b xs ys,x=.ref a/\y=.ref b/\SqT K H a xs/\SqT K H b ys/\xs≠[]/\xs.length+ys.length<=sizeLine /\
 (ys=[]->Q (.ref a) H)/\(ys≠[]->∀p,H p=none->Q (.ref p) (upd H p (.tup (xs++ys))))
theorem Vals.nil_iff(r:Vals xs us):us=[]↔xs=[]:=by
 cases r with
 |nil=>simp
 |cons _ _=>simp
theorem ash:OpR X (binaryOp .Add) (ax2 X.K):=by
 intro aA s Z H x y v u Q I rx ry h
 obtain⟨a,b,xs,ys,rfl,rfl,ha,hb,hx,hz,q1,q2⟩:=h;cases rx
 cases ry
 obtain⟨its,r1,p1,_⟩:=I.tuple ha;obtain⟨its2,r2,p2,_⟩:=I.tuple hb;refine HT.asb p1 p2 (λz=>hx (r1.nil_iff.mp z)) (λz=>⟨.ref a,H,I,rfl,q1 (r2.nil_iff.mp z)⟩) (λz=>?_) (by rw[<-r1.length,<-r2.length];exact hz)
 refine⟨.ref s.heap.objs.size,_,I.laid (t':=s.toks) (o:=.tup (xs++ys)) (λb ob q=>af _ q) (aw _) ?_,rfl,q2 (λw=>z (r2.nil_iff.mpr w)) _ (I.hok.fresh (aw _))⟩;exact⟨by rw[ah];exact hz,_,r1.append r2,IsTup.new _ _⟩
end
noncomputable def ixN(n:Nat)(i:Int):Option Nat:=if 0<=i then (if i<n then some i.toNat else none) else if -(n:Int)<=i then some (i+n).toNat else none
def atI{α:Type}(xs:List α)(i:Int):Option α:=(ixN xs.length i).bind λj=>xs[j]?
theorem aiw(h:ixN n i=some j):seqIndex? i n=some j/\j<n /\ -(n:Int)<=i/\i<n:=by
 unfold ixN at h
 by_cases h0:0<=i
 .rw[aJ h0]at h
  by_cases h1:i<n
  .rw[aJ h1]at h;have e:i.toNat=j:=bP h;exact⟨by rw[jD h0 h1,e],by omega,by omega,h1⟩
  .rw[ba h1]at h;cases h
 .rw[ba h0]at h
  by_cases h1 : -(n:Int)<=i
  .rw[aJ h1]at h;have e:(i+n).toNat=j:=bP h;exact⟨by rw[iX (by omega) h1,e],by omega,h1,by omega⟩
  .rw[ba h1]at h;cases h
theorem a9x{α:Type}{xs:List α}{i:Int}{v:α}(h:atI xs i=some v):∃j,seqIndex? i xs.length=some j/\xs[j]? = some v/\j<xs.length /\ -(xs.length:Int)<=i/\i<xs.length:=by
 unfold atI at h
 cases e:ixN xs.length i with
 |none=>rw[e]at h;cases h
 |some j =>
  rw[e]at h;obtain⟨h1,h2,h3,h4⟩:=aiw e;exact⟨j,h1,h,h2,h3,h4⟩
theorem yr{α:Type}{xs:List α}{j:Nat}{v:α}(h:xs[j]? = some v):atI xs (j:Int)=some v:=by
 have hj:j<xs.length:=(ai.mp h).1;have e:ixN xs.length (j:Int)=some j:=by
  unfold ixN;rw[aJ (by omega),aJ (by omega)];simp
 unfold atI;rw[e];exact h
def a9y(b:Expr):Prop:=∀o i,subscripted b false o i=operate [o,i] (getItem o i)
def IxR(X:Cx)(r:R2):Prop :=
 ∀(value slice:Expr) (aA:List (Addr×Obj)) (s:Shared) (Z:St) (H:Hp) (x y:V) (v u:Value) (Q:VK),Inv X aA Z H s->RelV x v->RelV y u->r x y H Q->
  subscripted slice false v u=operate [v,u] (getItem v u)->wpAny (model X.prog X.w) X.A (subscriptTail value slice v u) (EP X aA Z Q) X.xe s
def MtR(X:Cx)(id:String)(r:V->List V->Hp->VK->Prop):Prop :=
 ∀(aA:List (Addr×Obj)) (s:Shared) (Z:St) (H:Hp) (x:V) (xs:List V) (v:Value) (us:List Value) (Q:VK),Inv X aA Z H s->RelV x v->Vals xs us->r x xs H Q->
  wpAny (model X.prog X.w) X.A (call (.builtin id) (v::us)) (EP X aA Z Q) X.xe s
section
variable{X:Cx}{a b:Expr}{ta tb:TE}{pos:Pos}
theorem IxR.or(h:IxR X r)(h':IxR X r'):IxR X (λx y H Q=>r x y H Q\/r' x y H Q):=by
 intro value slice aA s Z H x y v u Q I rx ry q hs
 rcases q with q|q
 .exact h value slice aA s Z H x y v u Q I rx ry q hs
 .exact h' value slice aA s Z H x y v u Q I rx ry q hs
theorem MtR.or{id:String}{r r':V->List V->Hp->VK->Prop}(h:MtR X id r)(h':MtR X id r'):MtR X id (λx xs H Q=>r x xs H Q\/r' x xs H Q):=by
 intro aA s Z H x xs v us Q I rx rs q
 rcases q with q|q
 .exact h aA s Z H x xs v us Q I rx rs q
 .exact h' aA s Z H x xs v us Q I rx rs q
theorem b2f(hr:IxR X r)(ha:PE X a ta)(hb:PE X b tb)(hs:a9y b):PE X (.Subscript a b pos) (tOp r ta tb):=by
 intro aA s Z H Q I h
 exact Subscript_ (b22 ha hb I h λv u s2 x y H2 I2 rx ry q=>hr a b aA s2 Z H2 x y v u Q I2 rx ry q (hs _ _))
def b16(K:Fg):R2:=λx y H Q=>∃p xs i v,x=.ref p/\y=.int i/\SqL K H p xs/\atI xs i=some v/\Q v H
def b3t(K:Fg):R2:=λx y H Q=>∃p xs i v,x=.ref p/\y=.int i/\SqT K H p xs/\atI xs i=some v/\Q v H
noncomputable def b3u:R2:=λx y H Q=>∃z i c,x=.str z/\y=.int i/\z.length<=sizeLine/\atI z.cps.toList i=some c/\Q (.str ⟨#[c]⟩) H
theorem asi:IxR X (b16 X.K):=by
 intro value slice aA s Z H x y v u Q I rx ry h hs
 obtain⟨p,xs,i,z,rfl,rfl,hq,he,q⟩:=h;cases rx
 obtain⟨t,rfl⟩:=ry;obtain⟨its,r,pl,hz⟩:=I.list hq;obtain⟨j,h1,h2,h3,h4,h5⟩:=a9x he;obtain⟨w,ew,rw'⟩:=r.get h2;have hl:=r.length;have hn:=a68;have fin:EP X aA Z Q w s:=⟨z,H,I,rw',q⟩
 by_cases h0:0<=i
 .have hj:i.toNat=j:=by
   rw[jD h0 h5]at h1;exact bP h1
  exact item_listR pl.isList h0 (by omega) (by rw[hj];simpa using ew) fin hs
 .have hj:(i+(its.toArray.size:Int)).toNat=j:=by
   rw[iX (by omega) h4]at h1
   rw[ay,<-hl];exact bP h1
  exact subscriptTail_builtinR (x:=w) pl.isList.typeIs iq.lookup
   (wpAny_getItem_list_neg (Q:=λr s'=>r=w/\EP X aA Z Q r s') pl.isList (by omega) (by rw[ay]<;>omega) (by omega) (by rw[hj];simpa using ew) ⟨rfl,fin⟩) hs
theorem a69:IxR X (b3t X.K):=by
 intro value slice aA s Z H x y v u Q I rx ry h hs
 obtain⟨p,xs,i,z,rfl,rfl,hq,he,q⟩:=h;cases rx
 obtain⟨t,rfl⟩:=ry;obtain⟨its,r,pl,hz⟩:=I.tuple hq;obtain⟨j,h1,h2,h3,h4,h5⟩:=a9x he;obtain⟨w,ew,rw'⟩:=r.get h2;have hl:=r.length;have hn:=a68;have fin:EP X aA Z Q w s:=⟨z,H,I,rw',q⟩;exact subscriptTail_builtinR (x:=w) pl.typeIs slot_tuple_getitem.lookup
  (getItem_tuple (j:=j) (Q:=λr s'=>r=w/\EP X aA Z Q r s') pl (by omega) (by omega) (by rw[ay,<-hl];exact h1) (by simpa using ew) ⟨rfl,fin⟩) hs
theorem ax3:IxR X b3u:=by
 intro value slice aA s Z H x y v u Q I rx ry h hs
 obtain⟨z,i,c,rfl,rfl,hz,he,q⟩:=h;obtain⟨t,rfl⟩:=rx;obtain⟨t',rfl⟩:=ry;obtain⟨j,h1,h2,h3,h4,h5⟩:=a9x he;have hl:z.cps.toList.length=z.length:=by simp[Str.length]
 rw[hl]at h1 h4 h5;have hn:=a68;exact tail_any (typeIs_str s z t) slot_str_getitem.lookup (getItem_str (c:=c) (by
  have e1:decide (i < -(2^63:Int))=false:=bI (by omega)
  have e2:decide (i≥2^63)=false:=bI (by omega)
  rw[e1,e2,Bool.or_false]) (by rw[h1];simpa using h2) ⟨.str ⟨#[c]⟩,H,I.tok _,⟨_,rfl⟩,q⟩) hs
def rIx(K:Fg):R2:=λx y H Q=>b16 K x y H Q\/b3t K x y H Q\/b3u x y H Q
theorem ax4:IxR X (rIx X.K):=asi.or (a69.or ax3)
theorem ah4(its:List Value)(n j:Nat)(u:Value):Obj.mapSeq (·.setIfInBounds j u) {cls:=.type "list",data:=.seq its.toArray n}={cls:=.type "list",data:=.seq (its.set j u).toArray n}:=by
 simp[Obj.mapSeq]
theorem Inv.lst{aA:List (Addr×Obj)}{Z:St}{H:Hp}{s:Shared}{p:Addr}{xs:List V}(I:Inv X aA Z H s)(h:H p=some (.lst xs)) :
  ∃(its:List Value) (n:Nat),Vals xs its/\s.heap.get? p=some {cls:=.type "list",data:=.seq its.toArray n}/\xs.length<=sizeLine:=by
 obtain⟨z,its,n,r,e⟩:=I.hok p _ h;exact⟨its,n,r,e,z⟩
theorem Inv.lstUpd{its its':List Value}(I:Inv X aA Z H s)(h:H p=some (.lst xs))
  (ho:s.heap.get? p=some {cls:=.type "list",data:=.seq its.toArray n}) (hf:f {cls:=.type "list",data:=.seq its.toArray n}={cls:=.type "list",data:=.seq its'.toArray n' }) (r:Vals ys its') (hz:ys.length<=sizeLine) (t:Nat) :
  Inv X aA Z (upd H p (.lst ys)) {s with heap:=s.heap.update p f,toks:=t}:=by
 have e:(s.heap.update p f).get? p=some {cls:=.type "list",data:=.seq its'.toArray n' }:=by
  rw[dP f ho (by rw[hf]<;>rfl),hf]
 refine I.write (x:=p) (e:=p) (by rw[h];trivial) (.inl rfl) (λb u hb q=>(dB _ _ (fz hb)).trans q) ⟨_,e⟩ ?_
 exact⟨hz,its',n',r,e⟩
def ax5:V->V->V->Hp->(Hp->Prop)->Prop:=λo i v H Q=>∃p xs k j,o=.ref p/\i=.int k/\H p=some (.lst xs)/\ixN xs.length k=some j/\Q (upd H p (.lst (xs.set j v)))
theorem set_list:b1x X ax5:=by
 intro aA s Z H o i v ov iv u Q I ro ri rv h
 obtain⟨p,xs,k,j,rfl,rfl,hp,hj,q⟩:=h;cases ro
 obtain⟨t,rfl⟩:=ri;obtain⟨its,n,r,ho,hz⟩:=I.lst hp;obtain⟨h1,h2,h3,h4⟩:=aiw hj;have hl:=r.length;have hn:=a68;have I':Inv X aA Z (upd H p (.lst (xs.set j v))) {s with heap:=s.heap.update p (Obj.mapSeq (·.setIfInBounds j u))} :=
  I.lstUpd hp ho (ah4 its n j u) (r.set rv j) (by rw[iY];exact hz) s.toks
 by_cases h0:0<=k
 .have hk:k.toNat=j:=by
   rw[jD h0 h4]at h1;exact bP h1
  exact PySem.W.ki_setAt ho h0 (by omega) (by rw[ay,<-hl];exact h4) (by rw[hk];exact⟨_,I',q⟩)
 .have hk:(k+(its.toArray.size:Int)).toNat=j:=by
   rw[iX (by omega) h3]at h1
   rw[ay,<-hl];exact bP h1
  exact PySem.W.ki_setBack ho (by omega) (by rw[ay,<-hl];exact h3) (by omega) (by rw[hk];exact⟨_,I',q⟩)
theorem abr(lo hi:Option Int)(n:Nat):(sliceBounds lo hi none n).1=((HT.sIx n 0 lo:Nat):Int)/\(sliceBounds lo hi none n).2.1=((HT.sIx n n hi:Nat):Int)/\(sliceBounds lo hi none n).2.2=1:=by
 refine⟨?_,?_,rfl⟩
 .cases lo with
  |none=>simp[sliceBounds,HT.sIx]
  |some i =>
   simp only[sliceBounds,HT.sIx,iO,show(1:Int) > 0 by decide,dO]
   by_cases h:i<0
   .simp only[h,dO]<;>omega
   .simp only[h,fR]<;>omega
 .cases hi with
  |none=>simp[sliceBounds,HT.sIx]
  |some i =>
   simp only[sliceBounds,HT.sIx,iO,show(1:Int) > 0 by decide,dO]
   by_cases h:i<0
   .simp only[h,dO]<;>omega
   .simp only[h,fR]<;>omega
theorem a9z(its:List Value)(lo hi:Option Int):slicePick its.toArray lo hi none=((its.drop (HT.sIx its.length 0 lo)).take (HT.sIx its.length its.length hi-HT.sIx its.length 0 lo)).toArray:=by
 obtain⟨h1,h2,h3⟩:=abr lo hi its.toArray.size;unfold slicePick;rw[h1,h2,h3];simp only[sliceRange_one,pick_run,ay]<;>rfl
def b2g(K:Fg):V->Option Int->Option Int->Hp->VK->Prop:=λx lo hi H Q=>∃a xs,x=.ref a/\SqL K H a xs/\∀p,H p=none->Q (.ref p) (upd H p (.lst (apy xs lo hi)))
theorem asj:SlR X (b2g X.K):=by
 intro aA s Z H x v vl vu lo hi sl Q I rx hs pl pu h
 obtain⟨a,xs,rfl,hx,q⟩:=h;cases rx
 obtain⟨its,r,ht,hz⟩:=I.list hx;have aH:=r.length;refine⟨"list",_,iq.lookup,ht.isList.typeIs,?_⟩;refine wpAny_getItem_list_slice ht.isList hs pl pu .none (by simp) ?_ (by rw[ay]<;>omega)
 rw[a9z,<-aH];refine⟨.ref s.heap.objs.size,_,I.laid (t':=s.toks) (o:=.lst (apy xs lo hi)) (λb ob q=>af _ q) (aw _) ?_,rfl,q _ (I.hok.fresh (aw _))⟩;exact⟨bC (a7d xs lo hi) hz,_,0,(r.drop (HT.sIx xs.length 0 lo)).take (HT.sIx xs.length xs.length hi-HT.sIx xs.length 0 lo),aO _ rfl⟩
def a4d:V->Bool
 |.non=>true
 |.bl _=>true
 |.int _=>true
 |.str _=>true
 |_=>false
noncomputable def eqV:V->V->Bool
 |.non,.non=>true
 |.bl a,.bl b=>a == b
 |.bl a,.int b=>(if a then 1 else 0) == b
 |.int a,.bl b=>a == (if b then 1 else 0)
 |.int a,.int b=>a == b
 |.str a,.str b=>a == b
 |_,_=>false
theorem aix(ry:RelV y u)(rx:RelV x v)(fy:a4d y=true)(fx:a4d x=true):SeqAt.EqAt A s u v (eqV y x):=by
 cases y with
 |non =>
  cases ry
  cases x with
  |non=>cases rx;exact SeqAt.EqAt.same _
  |bl b=>cases rx;exact SeqAt.EqAt.none_bool b
  |int b=>obtain⟨t,rfl⟩:=rx;exact SeqAt.EqAt.none_int b t
  |str b=>obtain⟨t,rfl⟩:=rx;exact SeqAt.EqAt.none_str b t
  |_=>exact absurd (show false=true from fx) aX
 |bl a =>
  cases ry
  cases x with
  |non=>cases rx;exact SeqAt.EqAt.bool_none a
  |bl b=>cases rx;exact SeqAt.EqAt.bool_bool a b
  |int b=>obtain⟨t,rfl⟩:=rx;exact SeqAt.EqAt.bool_int a b t
  |str b=>obtain⟨t,rfl⟩:=rx;exact SeqAt.EqAt.bool_str a b t
  |_=>exact absurd (show false=true from fx) aX
 |int a =>
  obtain⟨t',rfl⟩:=ry
  cases x with
  |non=>cases rx;exact SeqAt.EqAt.int_none a t'
  |bl b=>cases rx;exact SeqAt.EqAt.int_bool a t' b
  |int b=>obtain⟨t,rfl⟩:=rx;exact SeqAt.EqAt.int_int a t' b t
  |str b=>obtain⟨t,rfl⟩:=rx;exact SeqAt.EqAt.int_str a t' b t
  |_=>exact absurd (show false=true from fx) aX
 |str a =>
  obtain⟨t',rfl⟩:=ry
  cases x with
  |non=>cases rx;exact SeqAt.EqAt.str_none a t'
  |bl b=>cases rx;exact SeqAt.EqAt.str_bool a t' b
  |int b=>obtain⟨t,rfl⟩:=rx;exact SeqAt.EqAt.str_int a t' b t
  |str b=>obtain⟨t,rfl⟩:=rx;exact SeqAt.EqAt.str_str a t' b t
  |_=>exact absurd (show false=true from fx) aX
 |_=>exact absurd (show false=true from fy) aX
noncomputable def eqU(x:V)(u:Value):Bool:=match u with
 |.none=>eqV .non x
 |.bool b=>eqV (.bl b) x
 |.int i _=>eqV (.int i) x
 |.str z _=>eqV (.str z) x
 |_=>false
theorem apz(r:RelV y u)(f:a4d y=true):eqU x u=eqV y x:=by
 cases y with
 |non=>cases r;rfl
 |bl b=>cases r;rfl
 |int i=>obtain⟨t,rfl⟩:=r;rfl
 |str z=>obtain⟨t,rfl⟩:=r;rfl
 |_=>exact absurd (show false=true from f) aX
theorem a7e:∀{xs:List V} {us:List Value},Vals xs us->xs.all a4d=true->us.any (eqU x)=xs.any λy=>eqV y x
 |_,_,.nil,_=>rfl
 |y::xs,u::us,.cons r t,f=>by
  rw[fS,bM]at f;rw[gO,gO,apz r f.1,a7e t f.2]
theorem a4q(rx:RelV x v)(fx:a4d x=true):∀{xs:List V} {us:List Value},Vals xs us->xs.all a4d=true->∀u∈us,SeqAt.EqAt A s u v (eqU x u)
 |_,_,.nil,_=>λu hu=>by cases hu
 |y::xs,u::us,.cons r t,f=>λu' hu=>by
  rw[fS,bM]at f
  rcases aL.mp hu with rfl|hu
  .rw[apz r f.1];exact aix r rx f.1 fx
  .exact a4q rx fx t f.2 u' hu
def inV(x:V)(xs:List V):Bool:=xs.any λy=>eqV y x
noncomputable def rIn(K:Fg)(neg:Bool):R2:=λx y H Q=>∃p xs,y=.ref p/\(SqL K H p xs\/SqT K H p xs)/\a4d x=true/\xs.all a4d=true/\Q (.bl (if neg then !inV x xs else inV x xs)) H
theorem a0a:OpR X (compareOp .In) (rIn X.K false):=by
 intro aA s Z H x y v u Q I rx ry h
 obtain⟨p,xs,rfl,hq,fx,fs,q⟩:=h;cases ry
 rcases hq with hq|hq
 .obtain⟨its,r,pl,hz⟩:=I.list hq;refine SeqAt.in_listAt (eqU x) pl.isList (λw hw=>a4q rx fx r fs w (by simpa using hw)) ⟨.bl _,H,I,rfl,?_⟩
  rw[show its.toArray.any (eqU x)=its.any (eqU x) by simp,a7e r fs]
  exact q
 .obtain⟨its,r,pl,hz⟩:=I.tuple hq;refine SeqAt.in_tupleAt (eqU x) pl (λw hw=>a4q rx fx r fs w (by simpa using hw)) ⟨.bl _,H,I,rfl,?_⟩
  rw[show its.toArray.any (eqU x)=its.any (eqU x) by simp,a7e r fs]
  exact q
theorem a0y:OpR X (compareOp .NotIn) (rIn X.K true):=by
 intro aA s Z H x y v u Q I rx ry h
 obtain⟨p,xs,rfl,hq,fx,fs,q⟩:=h;cases ry
 rcases hq with hq|hq
 .obtain⟨its,r,pl,hz⟩:=I.list hq;refine SeqAt.notIn_listAt (eqU x) pl.isList (λw hw=>a4q rx fx r fs w (by simpa using hw)) ⟨.bl _,H,I,rfl,?_⟩
  rw[show its.toArray.any (eqU x)=its.any (eqU x) by simp,a7e r fs]
  exact q
 .obtain⟨its,r,pl,hz⟩:=I.tuple hq;refine SeqAt.notIn_tupleAt (eqU x) pl (λw hw=>a4q rx fx r fs w (by simpa using hw)) ⟨.bl _,H,I,rfl,?_⟩
  rw[show its.toArray.any (eqU x)=its.any (eqU x) by simp,a7e r fs]
  exact q
theorem abt:CallR X (.builtin "len") (λxs H Q=>∃p ys,xs=[.ref p]/\(SqL X.K H p ys\/SqT X.K H p ys)/\Q (.int ys.length) H):=by
 intro aA s Z H xs us Q I r h
 obtain⟨p,ys,rfl,hq,q⟩:=h;obtain⟨u,rfl,rx⟩:=vals1 r;cases rx
 have hn:=a68
 rcases hq with hq|hq
 .obtain⟨its,r',pl,hz⟩:=I.list hq;have aH:=r'.length;exact Calls.call_len_list pl.isList (by simp only[ay]<;>omega) ⟨.int ys.length,H,I.tok _,⟨s.toks+1,by rw[ay,aH]⟩,q⟩
 .obtain⟨its,r',pl,hz⟩:=I.tuple hq;have aH:=r'.length;exact len_tuple pl (by simp only[ay]<;>omega) ⟨.int ys.length,H,I.tok _,⟨s.toks+1,by rw[ay,aH]⟩,q⟩
theorem abu:CallR X (.builtin "len") (λxs H Q=>∃z,xs=[.str z]/\z.length<=sizeLine/\Q (.int z.length) H):=by
 intro aA s Z H xs us Q I r h
 obtain⟨z,rfl,hz,q⟩:=h;obtain⟨u,rfl,t,rfl⟩:=vals1 r;have hn:=a68;exact len_str (by omega) ⟨.int z.length,H,I.tok _,⟨_,rfl⟩,q⟩
theorem CallR.or(h:CallR X f r)(h':CallR X f r'):CallR X f (λxs H Q=>r xs H Q\/r' xs H Q):=by
 intro aA s Z H xs us Q I rs q
 rcases q with q|q
 .exact h aA s Z H xs us Q I rs q
 .exact h' aA s Z H xs us Q I rs q
theorem abv:CallR X (.type "list") (λxs H Q=>∃p ys,xs=[.ref p]/\(SqL X.K H p ys\/SqT X.K H p ys)/\∀l,H l=none->Q (.ref l) (upd H l (.lst ys))):=by
 intro aA s Z H xs us Q I r h
 obtain⟨p,ys,rfl,hq,q⟩:=h;obtain⟨u,rfl,rx⟩:=vals1 r;cases rx
 have fin:∀(its:List Value),Vals ys its->ys.length<=sizeLine->∀(h':Heap) (c':Nat),(∀b o',s.heap.get? b=some o'->h'.get? b=some o')->
   h'.get? s.heap.objs.size=some {cls:=.type "list",dict:=none,data:=.seq its.toArray c',slots := #[]}->EP X aA Z Q (.ref s.heap.objs.size) {s with heap:=h' }:=λits r' hz h' c' kp e =>
  ⟨.ref s.heap.objs.size,_,I.laid (t':=s.toks) kp (aw _) (show ObjOk X.prog X.w _ h' _ (.lst ys) from ⟨hz,its,c',r',e⟩),rfl,q _ (I.hok.fresh (aw _))⟩
 rcases hq with hq|hq
 .obtain⟨its,r',pl,hz⟩:=I.list hq;have aH:=r'.length;obtain⟨o,ho,hc,n,hd⟩:=pl.isList;exact call_list_seq p (.inl rfl) ho hc hd (λh' c' kp e=>fin its r' hz h' c' kp e) (by simp only[ay]<;>omega)
 .obtain⟨its,r',pl,hz⟩:=I.tuple hq;have aH:=r'.length;obtain⟨o,ho,hc,n,hd⟩:=pl;exact call_list_seq p (.inr rfl) ho hc hd (λh' c' kp e=>fin its r' hz h' c' kp e) (by simp only[ay]<;>omega)
theorem qx:CallR X (.type "tuple") (λxs H Q=>∃p ys,xs=[.ref p]/\((SqL X.K H p ys/\∀l,H l=none->Q (.ref l) (upd H l (.tup ys)))\/(SqT X.K H p ys/\Q (.ref p) H))):=by
 intro aA s Z H xs us Q I r h
 obtain⟨p,ys,rfl,h⟩:=h;obtain⟨u,rfl,rx⟩:=vals1 r;cases rx
 rcases h with⟨hq,q⟩|⟨hq,q⟩
 .obtain⟨its,r',pl,hz⟩:=I.list hq;have aH:=r'.length;refine call_tuple_list pl.isList (λh' kp=>?_) (by simp only[ay]<;>omega)
  have I1:Inv X aA Z H {s with heap:=h' }:=I.kept (t':=s.toks) kp
  have I2:Inv X aA Z (upd H h'.objs.size (.tup ys)) {s with heap:=h'.push {cls:=.type "tuple",data:=.seq its.toArray} } :=
   I1.laid (t':=s.toks) (λb o e=>af _ e) (aw _) (show ObjOk X.prog X.w _ _ _ (.tup ys) from ⟨hz,its,r',IsTup.new _ _⟩)
  exact⟨.ref h'.objs.size,_,I2,rfl,q _ (I1.hok.fresh (aw _))⟩
 .obtain⟨its,r',pl,hz⟩:=I.tuple hq;exact call_tuple_same pl ⟨.ref p,H,I,rfl,q⟩
def tyV(K:Fg)(T:String)(x:V)(H:Hp):Prop:=match x with
 |.str _=>T = "str"
 |.int _=>T = "int"
 | .ref p=>(T = "list"/\∃xs,SqL K H p xs)\/(T = "tuple"/\∃o,K.lookup p=some o/\o.cls=.type "tuple"/\o.dict=none) \/
   (T = "dict"/\((∃kvs,H p=some (.dK kvs))\/∃kvs,H p=some (.dT kvs)))\/(T = "set"/\∃S n,H p=some (.set S n))
 |_=>False
theorem aq0(I:Inv X aA Z H s)(r:RelV x v)(ty:tyV X.K T x H) :
  s.TypeIs v T/\∀a,v=.ref a->∃ob,s.heap.get? a=some ob/\ob.dict=none:=by
 cases x with
 |str z =>
  obtain⟨t,rfl⟩:=r
  cases (show T = "str" from ty)
  exact⟨typeIs_str s z t,λ_ e=>nomatch e⟩
 |int i =>
  obtain⟨t,rfl⟩:=r
  cases (show T = "int" from ty)
  exact⟨eY s i t,λ_ e=>nomatch e⟩
 |ref p =>
  cases r
  rcases ty with⟨rfl,xs,hq⟩|⟨rfl,o,hk,hc,hd⟩|⟨rfl,hk⟩|⟨rfl,S,n,hk⟩
  .obtain⟨its,_,pl,_⟩:=I.list hq;refine⟨pl.isList.typeIs,λa e=>?_⟩;cases e
   obtain⟨o,n,e,c,hd,_⟩:=pl;exact⟨o,e,hd⟩
  .refine⟨⟨o,I.kIn p o hk,hc⟩,λa e=>?_⟩;cases e
   exact⟨o,I.kIn _ o hk,hd⟩
  .have z:∃o,s.heap.get? p=some o/\o.ExactDict:=by
    rcases hk with⟨kvs,hk⟩|⟨kvs,hk⟩
    .obtain⟨_,_,_,_,o,_,_,e,ex,_⟩:=I.hok p _ hk;exact⟨o,e,ex⟩
    .obtain⟨_,_,_,_,o,_,_,e,ex,_⟩:=I.hok p _ hk;exact⟨o,e,ex⟩
   obtain⟨o,e,ex⟩:=z;refine⟨⟨o,e,ex.1⟩,λa e2=>?_⟩;cases e2
   exact⟨o,e,ex.2.1⟩
  .obtain⟨o,_,_,_,e,ex,_⟩:=I.hok p _ hk;refine⟨⟨o,e,ex.1⟩,λa e2=>?_⟩;cases e2
   exact⟨o,e,ex.2.1⟩
 |_=>exact False.elim ty
def tBM(K:Fg)(T:String)(r:V->List V->Hp->VK->Prop)(to:TE)(t:TA):TE:=λZ H Q=>to Z H λx H1=>tyV K T x H1/\t Z H1 λxs H2=>r x xs H2 Q
variable{o e:Expr}{es:List Expr}{to:TE}{t:TA}{name:Str}{apos cpos:Pos}{T id:String}{r:V->List V->Hp->VK->Prop}
theorem b2h(pa:PlainAttrs T)(slot:Slot T name id)(hty:typeOf (.builtin id)=pure (.type "method_descriptor"))(hm:MtR X id r)(ho:PE X o to)(ha:PA X (e::es) t)
  (hbase:attributeBase o name X.env (eval o X.env)=eval o X.env:=by rfl)
  (hfew:((backTo cpos (starEach (e::es) X.env)).all (λx => !x.1) && (backToKw cpos (keywordEach [] X.env)).all (λx=>x.1.isSome)
   && decide ((e::es).length+([]:List Keyword).length+(if ([]:List Keyword).isEmpty then 0 else 1)<30))=true:=by rfl)
  (hline:(apos.endLine == cpos.line)=true:=by rfl) (hs:starEach (e::es) X.env=(false,eval e X.env)::starEach es X.env:=by rfl) (hplain:(backTo cpos (starEach es X.env)).any (·.1)=false:=by rfl) :
  PE X (.Call (.Attribute o name apos) (e::es) [] cpos) (tBM X.K T r to t):=by
 intro aA s Z H Q I h
 refine wpAny_Call_method_late hbase hfew hline rfl (thn (ho aA s Z H _ I h) λv s1 ⟨x,H1,I1,r1,ty,q1⟩=>?_);obtain⟨h1,h2⟩:=aq0 I1 r1 ty;refine⟨T,id,pa,slot,hty,h1,h2,?_⟩;have hA:=ha cpos aA s1 Z H1 _ I1 q1;rw[hs]at hA ⊢;refine Calls.callWith_builtin (by show(false || (backTo cpos (starEach es X.env)).any (·.1))=false;rw[hplain]<;>rfl) (Calls.evalArgs_plain ?_)
 exact thn hA λus s2 ⟨vs,H2,I2,r2,q2⟩=>hm aA s2 Z H2 x vs v us Q I2 r1 r2 q2
end
def MtM(X:Cx)(id:String)(r:V->List V->Hp->VK->Prop):Prop :=
 ∀(aA:List (Addr×Obj)) (s:Shared) (Z:St) (H:Hp) (x:V) (xs:List V) (v:Value) (us:List Value) (Q:VK),Inv X aA Z H s->RelV x v->Vals xs us->r x xs H Q->
  wpAny (model X.prog X.w) X.A (call (.builtin id) (v::us)) (EP X aA Z Q) X.xe s
theorem Vals.one:∀{x:V} {us:List Value},Vals [x] us->∃u,us=[u]/\RelV x u
 |_,_,.cons r .nil=>⟨_,rfl,r⟩
theorem Vals.reverse(h:Vals xs us):Vals xs.reverse us.reverse:=by
 induction h with
 |nil=>exact .nil
 |cons r t ih=>rw[eO,eO];exact Vals.append ih (.cons r .nil)
theorem Vals.rep(h:Vals xs us):∀k:Nat,Vals (List.replicate k xs).flatten (List.replicate k us).flatten
 |0=>.nil
 |k+1=>by
  rw[bA,bA,cv,cv];exact Vals.append h (Vals.rep h k)
theorem foldl_rep(its:List Value):∀(k:Nat) (acc:List Value),
  List.foldl (λx1 x2=>x1++x2) acc.toArray (List.replicate k its.toArray)=(acc++(List.replicate k its).flatten).toArray
 |0,acc=>by simp
 |k+1,acc=>by
  have e:acc.toArray++its.toArray=(acc++its).toArray:=by simp
  have e2:(acc++its)++(List.replicate k its).flatten=acc++(List.replicate (k+1) its).flatten:=by
   rw[bA,cv,cA]
  rw[<-e2,<-foldl_rep its k (acc++its),<-e,bA,gS]
section
variable{X:Cx}{aA:List (Addr×Obj)}{Z:St}{H:Hp}{s:Shared}{l b:Addr}{xs ys zs:List V}
theorem Inv.lset{its its':List Value}(I:Inv X aA Z H s)(hH:H l=some (.lst xs))
  (e:s.heap.get? l=some {cls:=.type "list",data:=.seq its.toArray n}) (hf:f its.toArray=its'.toArray) (hv:Vals ys its') (hz:ys.length<=sizeLine) :
  Inv X aA Z (upd H l (.lst ys)) {s with heap:=s.heap.update l (Obj.mapSeq f),toks:=t' }:=by
 have q:=iP e f;rw[hf]at q;refine I.write (x:=l) (e:=l) (by rw[hH];exact trivial) (.inl rfl) (λb' u hb hu=>(dB s.heap (Obj.mapSeq f) (fz hb)).trans hu) ⟨_,q⟩ ?_
 exact⟨hz,its',_,hv,q⟩
theorem Inv.lnew(I:Inv X aA Z H s)(hv:Vals ys its)(hz:ys.length<=sizeLine) :
  Inv X aA Z (upd H s.heap.objs.size (.lst ys)) {s with heap:=s.heap.push {cls:=.type "list",data:=.seq its.toArray},toks:=t' } :=
 I.laid (λ_ _ q=>af _ q) (aw _) ⟨hz,its,0,hv,aO _ rfl⟩
theorem Inv.fresh(I:Inv X aA Z H s):H s.heap.objs.size=none:=I.hok.fresh (aw _)
theorem Inv.lstM(I:Inv X aA Z H s)(hH:H l=some (.lst xs)):xs.length<=sizeLine/\∃(its:List Value) (n:Nat),Vals xs its/\xs.length=its.length/\s.heap.get? l=some {cls:=.type "list",data:=.seq its.toArray n}:=by
 obtain⟨z,its,n,r,e⟩:=I.hok l _ hH;exact⟨z,its,n,r,r.length,e⟩
theorem a6p(h:n<=sizeLine):Builtin.List.listTooLong n=false:=by
 unfold Builtin.List.listTooLong;exact bI (by omega)
end
section
variable{X:Cx}
def aiy:V->List V->Hp->VK->Prop:=λx vs H Q=>∃l xs y,x=.ref l/\vs=[y]/\H l=some (.lst xs)/\xs.length<sizeLine/\Q .non (upd H l (.lst (xs++[y])))
theorem a0b:MtM X "list.append" aiy:=by
 intro aA s Z H x vs v us Q I rx rv h
 obtain⟨l,xs,y,rfl,rfl,hH,hz,q⟩:=h;cases rx
 obtain⟨u,rfl,ru⟩:=rv.one;obtain⟨z,its,n,r,hl,e⟩:=I.lstM hH;refine dW bR ⟨_,e,rfl⟩ gT (gM _ _) (iA l its.toArray n u (by rw[ay];omega)) ⟨e,?_⟩
 refine⟨.non,_,I.lset (its':=its++[u]) hH e (by simp) (r.append (.cons ru .nil)) ?_,rfl,q⟩
 rw[ah,aM];omega
noncomputable def ax6:R2:=λx y H Q=>∃l k xs,x=.ref l/\y=.int k/\H l=some (.lst xs) /\ -(2^63)<=k/\k<2^63/\xs.length*k.toNat<=sizeLine /\
 ∀p,H p=none->Q (.ref p) (upd H p (.lst (List.replicate k.toNat xs).flatten))
theorem len_rep{α:Type}(xs:List α)(k:Nat):(List.replicate k xs).flatten.length=k*xs.length:=by
 induction k with
 |zero=>simp
 |succ k ih=>rw[bA,cv,ah,ih,cN,Nat.add_comm]
theorem ax7:OpR X (binaryOp .Mult) ax6:=by
 intro aA s Z H x y v u Q I rx ry h
 obtain⟨l,k,xs,rfl,rfl,hH,h1,h2,hz,q⟩:=h;cases rx
 obtain⟨t,rfl⟩:=ry;obtain⟨z,its,n,r,hl,e⟩:=I.lstM hH;have aH:its.toArray.size*k.toNat<=sizeLine:=by rw[ay,<-hl];exact hz
 have hcap:¬ its.toArray.size*k.toNat > (2^63-1) / 8:=by
  have:(sizeLine:Nat)<=(2^63-1) / 8:=by decide
  omega
 have hfit:¬ (!Builtin.List.listFitsIndex k)=true:=by
  rw[fitsIndex_both h1 h2];exact aX
 have hlong:¬ Builtin.List.listTooLong (its.toArray.size*k.toNat)=true:=by
  rw[a6p aH];exact aX
 have hnew:List.foldl (λx1 x2=>x1++x2) #[] (List.replicate (if its.toArray.isEmpty=true then 0 else k.toNat) its.toArray)=(List.replicate k.toNat its).flatten.toArray:=by
  have f0:∀m:Nat,List.foldl (λx1 x2=>x1++x2) #[] (List.replicate m its.toArray)=(List.replicate m its).flatten.toArray:=λm=>by
   have:=foldl_rep its m []
   rw[eA]at this;exact this
  rw[f0]
  cases its with
  |nil=>simp
  |cons a r'=>rw[ba (by simp)]
 refine dI (T := "list") (U := "int") (by decide) ⟨_,e,rfl⟩ (λs'=>eY s' k t) noFill_list_mul fT cY repeat_list fG.lookup
  (dW cY (eY s k t) fH (fq _ _) (int___rmul___int_list k t l its.toArray n)
   ⟨e,rfl,⟨_,e,rfl⟩,dW F.slot_list_mul ⟨_,e,rfl⟩ F.entry_list_mul (F.args_list_mul_2 _ _) (fU l its.toArray n k t hfit hcap hlong) ⟨e,?_⟩⟩)
 rw[hnew];exact⟨.ref _,_,I.lnew (t':=s.toks) (r.rep k.toNat) (by rw[len_rep,fO];exact hz),rfl,q _ I.fresh⟩
end
end L2
namespace Att
open PySem.W PySem.Calls PyProof.Rows
theorem a7f:∀(ns:List Int) (vs:List Value),WellAll P h vs (ns.map WData.int)->IntsAre vs ns:=by
 intro ns
 induction ns with
 |nil =>
  intro vs w
  rw[cM]at w;cases w
  exact .nil
 |cons n ns ih =>
  intro vs w
  rw[aZ]at w
  cases w with
  |cons a b =>
   cases a
   exact .cons _ _ (ih _ b)
theorem aiz{l:OpenLaw}(hn:l.most=some n)
  (hpre:l.row.toRowW.claim.pre args=true) (hwl:WellAll P h vals args) :
  ∃a vs ns,vals=[Value.ref a]/\args=[WData.list (ns.map WData.int)]/\h.get? a=some {cls:=.type "list",data:=.seq vs.toArray}/\IntsAre vs ns/\ns.length<=n:=by
 have hsh:WShape.hasAll [] args [.list .int]=true:=(pre_splitW hpre).1;have hc:l.pre.holds [] {args:=args}=true:=(pre_splitW hpre).2;obtain⟨d,r,rfl,h1,h2⟩:=hasAllW_cons hsh;obtain rfl:=hasAllW_nil h2;obtain⟨xs,rfl,h3⟩:=hasW_list h1;obtain⟨ns,rfl⟩:=items_int h3;have aH:ns.length<=n:=by
  unfold OpenLaw.pre at hc;have h4:(WTm.not (.lt (.lit (.int (n:Int))) (.len (.arg 0)))).holds [] {args:=[.list (ns.map .int)]}=true:=by
   have h4:=(holds_andW hc).1;rw[hn]at h4;exact h4
  have h5:=condW_of h4 (w_not (w_lt w_lit (w_len_list (w_arg rfl))));rw[ar]at h5;refine Nat.le_of_not_lt λq=>?_;have q':(n:Int)<((ns.length:Nat):Int):=by omega
  first
   |(rw[e8 q']at h5;exact absurd h5 (by decide))
   |(simp at h5;omega)
 cases hwl with
 |cons w1 w2 =>
  cases w2
  cases w1 with
  |list ho hall=>exact⟨_,_,ns,rfl,rfl,ho,a7f ns _ hall,aH⟩
theorem aj0(l:OpenLaw)(args:List WData):l.row.toRowW.claim.post args (.bool true) args=true :=
 postW_of (r:=l.row.toRowW) (X:=(true == true))
  (show WShape.has [] (.bool true) .bool=true by first|rfl|decide|simp[WShape.has,WShape.arms,WShape.armsAll])
  (show(WTm.eq .res (.lit (.bool true))).value [] {args:=args,res:=some (.bool true),after:=args}=some (.bool (true == true)) from w_eq_bool (w_res rfl) w_lit) rfl
theorem adu{l:OpenLaw}{d:DefRec}
  (hn:l.most=some n) (hdf:d.params.defaults=[])
  (call:∀(w:World) (s₀ s₁:Shared) (mg mb:Str->Option Value) (fa:Addr) (o:Obj) (pm cd doc:Value) (a:Addr) (vs:List Value) (ns:List Int),
   Ground q loose [] XP w s₀ mg mb s₁.heap->YP w s₁.heap->
   s₁.heap.get? fa=some o->o.data=.func (docDef d.name d.params d.body d.scope pm cd doc)->s₁.heap.CodeRec cd d.name->mg d.name=some (.ref fa)->
   s₁.heap.get? a=some {cls:=.type "list",data:=.seq vs.toArray}->IntsAre vs ns->ns.length<=n->s₁.gens = #[]->
   codeAny (model l.prog w) callerA (.call (.ref fa) ⟨[.ref a],[]⟩) (λr s'=>r=.ok (.ret (.bool true))/\OldK s₁.heap s'.heap/\s'.os=s₁.os/\AllBare s'.gens) s₁) :
  WalkO q loose XP YP l.row.toRowW d [] (λf vs=>PySem.call f vs):=by
 intro w s₀ s₁ mg mb G Y fa o pm cd doc dV kV ho hd hcd hD hmg hg args vals as hpre hlay hrd hwl hlo
 obtain rfl:dV=.none:=Dflts.none hD hdf
 obtain rfl:kV=.none:=Dflts.noKw hD
 obtain⟨a,vs,ns,rfl,rfl,hobj,hints,aH⟩:=aiz hn hpre hwl;refine enter_call (fL (call w s₀ s₁ mg mb fa o pm cd doc a vs ns G Y ho (fd_plain hd) hcd hmg hobj hints aH hg) λr s' hq=>?_);obtain⟨rfl,h2,h3,h4⟩:=hq;exact⟨.inl ⟨.bool true,.bool true,[],rfl,λ_=>rfl,.bool true,aj0 l _,λ_=>⟨List.Pairwise.nil,λ_ hm=>(nomatch hm)⟩⟩,h2,h3,h4⟩
end Att
namespace L2
open PyProof.Rows
theorem a7g:∀{vs:List Value} {ns:List Int},IntsAre vs ns->Vals (ns.map V.int) vs
 |_,_,.nil=>.nil
 |_,_,.cons n t h=>.cons ⟨t,rfl⟩ (a7g h)
def Only(H:Hp):Prop:=∀b,H b=none\/∃o xs,H b=some (.frz o (.lst xs))
theorem an8{K:Fg}{s₁:Shared}{vs:List Value}
  (KX:K.In s₁.heap) (hns:s₁.heap.Ns mainGlobals mg) (hb:s₁.heap.Ns builtinsNs mb) (hbb:∀x:Str,x ≠ "__name__"->mb x=bootBuiltins x) (hlim:s₁.heap.NoLimit) (hg:s₁.gens = #[])
  (ha:s₁.heap.get? a=some {cls:=.type "list",data:=.seq vs.toArray}) (hi:IntsAre vs ns) (hl:ns.length<=sizeLine) (hr:Room k callerA)
  (F:∀base:Heap,K.In base->base.Ns mainGlobals mg->FnOk P w K mg base CX k fa fd [x] sp) (hbind:∀(s:Shared) (u:Value),BindsTo s fd ⟨[u],[]⟩ [(x,u)])
  (hsp:∀H:Hp,Only H->SqL K H a (ns.map V.int)->sp [.ref a] H (λv _=>v=.bl true) λ_ _ _=>False)
  (hCX:∀H e s',CX [] H s₁ (λ_ _ _=>False) e s'->False) :
  codeAny (model P w) callerA (.call (.ref fa) ⟨[.ref a],[]⟩) (λr s'=>r=.ok (.ret (.bool true))/\OldK s₁.heap s'.heap/\s'.os=s₁.os/\AllBare s'.gens) s₁:=by
 have rv:=a7g hi;have lenV:=hi.length;have core:∀H:Hp,Only H->SqL K H a (ns.map V.int)->HOk P w H s₁.heap->(∀b,H b≠none->b=a)->(H a≠none->K.lookup a=none)->
   codeAny (model P w) callerA (.call (.ref fa) ⟨[.ref a],[]⟩) (λr s'=>r=.ok (.ret (.bool true))/\OldK s₁.heap s'.heap/\s'.os=s₁.os/\AllBare s'.gens) s₁:=by
  intro H hO hS hok hA hK
  have base_of:∀{b:Addr} {o:Obj},s₁.heap.get? b=some o->H b=none->(amr s₁.heap H).get? b=some o:=λe n=>ams e n;have noA:∀{b:Addr} {o:Obj} {es:Array DictEntry} {ep:Nat},s₁.heap.get? b=some o->o.data=.dict es ep->H b=none:=λ{b o es ep} e d=>by
   cases q:H b with
   |none=>rfl
   |some u =>
    have e':b=a:=hA b (by rw[q];simp)
    subst e';rw[ha]at e;cases e
    have d':Data.seq vs.toArray _=Data.dict es ep:=d
    cases d'
  have nsK:∀{b:Addr} {m:Str->Option Value},s₁.heap.Ns b m->(amr s₁.heap H).Ns b m:=λ{b m} ⟨o,es,ep,e,d,r⟩=>⟨o,es,ep,base_of e (noA e d),d,r⟩;have hKb:K.In (amr s₁.heap H):=λb o e=>base_of (KX b o e) (by
   cases q:H b with
   |none=>rfl
   |some u =>
    have e':b=a:=hA b (by rw[q];simp)
    subst e';rw[hK (by rw[q];simp)]at e;cases e)
  have hM:Mod K mg (amr s₁.heap H):=⟨hKb,nsK hns,⟨mb,nsK hb,hbb⟩,let ⟨mc,h1,h2⟩:=hlim; ⟨mc,nsK h1,h2⟩⟩;have e0:Env0 P w K mg (amr s₁.heap H) callerA [] s₁ H:=⟨rfl,hM,λb o e=>arp e,Nat.le_of_eq (aia _ _),trivial,λb hb=>absurd (show b∈([]:List Addr) from hb) (by simp),hok,.of_eq hg⟩
  refine fL ((F _ hKb (nsK hns)).run callerA [] s₁ H ⟨[.ref a],[]⟩ [.ref a] [.ref a] _ _ hr e0 (hbind s₁ (.ref a)) (.cons rfl .nil) (hsp H hO hS)) λr s' h=>?_
  cases r with
  |error e=>exact(hCX H e s' h).elim
  |ok fl =>
   cases fl with
   |next=>exact False.elim h
   |brk=>exact False.elim h
   |cont=>exact False.elim h
   |ret u =>
    obtain⟨v,H',os,bare,un,hok',r',q⟩:=h;have q':v=.bl true:=q;subst q';obtain rfl:u=Value.bool true:=r';refine⟨rfl,OldK.of_keep λb o e=>?_,os,bare⟩
    cases q:H b with
    |none=>exact un.keep b o e q (by intro z;exact absurd (show b∈([]:List Addr) from z) (by simp)) (by simp)
    |some u =>
     rcases hO b with z|⟨ob,xs,z⟩
     .rw[q]at z;cases z
     .have z2:=un.frzs b ob _ z;obtain⟨e1,_⟩:=hok b _ z;obtain⟨e2,_⟩:=hok' b _ z2;rw[e]at e1;cases e1
      exact e2
 cases hk:K.lookup a with
 |some o =>
  have e:=KX a o hk;rw[ha]at e;cases e
  refine core (λ_=>none) (λ_=>.inl rfl) (.inr ⟨_,vs.toArray,_,hk,rfl,rfl,rfl,by rw[ay,lenV];exact hl,by simpa using rv⟩) (λb u z=>by have z':(none:Option HO)=some u:=z;cases z') (λb z=>absurd rfl z) λz=>absurd rfl z
 |none =>
  refine core (λb=>if b=a then some (.frz {cls:=.type "list",data:=.seq vs.toArray} (.lst (ns.map V.int))) else none) (λb=>?_) (.inl (.inr ⟨{cls:=.type "list",data:=.seq vs.toArray},aJ rfl⟩)) (λb u z=>?_) (λb z=>?_) λ_=>hk
  .by_cases hb:b=a
   .exact .inr ⟨_,_,aJ hb⟩
   .exact .inl (ba hb)
  .by_cases hb:b=a
   .have z':=(aJ hb).symm.trans z
    cases z'
    subst hb;exact⟨ha,by rw[ar];exact hl,vs,_,rv,ha⟩
   .have z':=(ba hb).symm.trans z
    cases z'
  .by_cases hb:b=a
   .exact hb
   .exact absurd (ba hb) z
theorem asl{l:PySem.W.OpenLaw}{n k:Nat}{q:Program}{loose:List Str}{XP:(Str->Option Value)->Heap->Prop}{YP:World->Heap->Prop}{d:DefRec}{K:Params->Fg}{CX:World->CXT}{sp:World->Sp}{x:Str}
  (hn:l.most=some n) (hn2:n<=sizeLine) (hdf:d.params.defaults=[]) (hr:Room k callerA)
  (hY:∀(w:World) (h:Heap),YP w h->(K w.params).In h)
  (F:∀(w:World) (mg:Str->Option Value) (fa:Addr) (h:Heap),(K w.params).In h->h.Ns mainGlobals mg->mg d.name=some (.ref fa)->
   ∃fd:FuncData,(∀(s:Shared) (u:Value),BindsTo s fd ⟨[u],[]⟩ [(x,u)]) /\
    ∀base:Heap,(K w.params).In base->base.Ns mainGlobals mg->FnOk l.prog w (K w.params) mg base (CX w) k fa fd [x] (sp w))
  (hsp:∀(w:World) (H:Hp) (a:Addr) (ns:List Int),ns.length<=n->Only H->SqL (K w.params) H a (ns.map V.int)->sp w [.ref a] H (λv _=>v=.bl true) λ_ _ _=>False)
  (hCX:∀(w:World) (H:Hp) (s:Shared) (e:Value) (s':Shared),CX w [] H s (λ_ _ _=>False) e s'->False) :
  PySem.W.WalkO q loose XP YP l.row.toRowW d [] (λf vs=>PySem.call f vs):=by
 refine Att.adu hn hdf λw s₀ s₁ mg mb fa o pm cd doc a vs ns G Y ho hd hcd hmg hobj hints aH hg=>?_;have KX:=hY w _ Y;obtain⟨fd,hb,hF⟩:=F w mg fa _ KX G.T.g hmg;exact an8 KX G.T.g G.T.b G.T.builtins G.T.nolimit hg hobj hints (bC aH hn2) hr hF hb (λH hO hS=>hsp w H a ns aH hO hS) λH e s'=>hCX w H s₁ e s'
noncomputable def a2q(s:Stmt):Arguments:=match s with
 |.FunctionDef _ a _ _ _ _ _ _ _ _=>a
 |_=>{posonlyargs:=[],args:=[],vararg:=none,kwonlyargs:=[],kw_defaults:=[],kwarg:=none,defaults:=[]}
def xr(s:Stmt):List Stmt:=match s with
 |.FunctionDef _ _ b _ _ _ _ _ _ _=>b
 |_=>[]
noncomputable def dh(s:Stmt):Scope:=match s with
 |.FunctionDef _ _ _ _ _ _ sc _ _ _=>sc
 |_=>{kind:=.function,names:=[],isGenerator:=false,isCoroutine:=false}
abbrev CX0:CXT:=λ_ _ _ _ _ _=>False
abbrev E0:XK:=λ_ _ _=>False
theorem asm:a8y CX0 X E0:=λ_ _ _ _ _ _ _ h=>h.elim
structure Fun (K:Fg) (x qual:Str) (st:Stmt) (f:Addr) (fd:FuncData):Prop where
 ex:∃(oc:Value) (od:Option Addr) (kV doc pm:Value) (an:Option Addr) (cdv ct:Value) (osl:Array (Option Value)),
  fd=PySem.W.fnOf x qual (a2q st) (xr st) (dh st) .none kV doc pm an cdv ct/\K.lookup f=some ⟨oc,od,.func fd,osl⟩/\PySem.W.codeIn K cdv qual=true
 kp:PySem.W.keepIn K (.ref f)=true
section
variable{P:Program}{w:World}{K:Fg}{mg:Str->Option Value}{base:Heap}
theorem Fun.ok{x qual:Str}{st:Stmt}{f:Addr}{fd:FuncData}{N ps:List Str}{k:Nat}{sp:Sp}(F:Fun K x qual st f fd)(S:FnScope N ps (dh st))(len:∀vs H Q E,sp vs H Q E->vs.length=ps.length)
  (hbody:∀(cdv:Value) (A:Around) (outer:List Env) (s:Shared) (H:Hp) (vs:List V) (Q:VK) (E:XK),Room k (A.deeper (envOfC qual (dh st) s.heap.objs.size f cdv))->sp vs H Q E->
   ∃t,PSs (air CX0 P w K mg base N qual (dh st) f cdv A outer s H E).nox (xr st) t/\t {nx:=λ_ H'=>Q .non H',rt:=Q} (start N vs) H):FnOk P w K mg base CX0 (k+1) f fd ps sp:=by
 obtain⟨oc,od,kV,doc,pm,an,cdv,ct,osl,rfl,lk,hcd⟩:=F.ex;refine b2c lk hcd S len λA outer s H vs Q E hr hsp=>?_;obtain⟨t,h,q⟩:=hbody cdv A outer s H vs Q E hr hsp;exact⟨t,h.nox,q⟩
theorem Fun.binds{x qual:Str}{st:Stmt}{f:Addr}{fd:FuncData}{ps:List Str}(F:Fun K x qual st f fd)
  (h:∀(kV doc pm:Value) (an:Option Addr) (cdv ct:Value) (us:List Value),us.length=ps.length->bindArgs (PySem.W.fnOf x qual (a2q st) (xr st) (dh st) .none kV doc pm an cdv ct) ⟨us,[]⟩=pure (ps.zip us)):Binds K fd ps []:=by
 obtain⟨oc,od,kV,doc,pm,an,cdv,ct,osl,rfl,lk,hcd⟩:=F.ex;exact .all (h kV doc pm an cdv ct)
theorem aq1{x qual:Str}{st:Stmt}{f:Addr}{oc:Value}{od an:Option Addr}{osl:Array (Option Value)}{kV doc pm cdv ct:Value}(l:K.lookup f=some ⟨oc,od,.func (PySem.W.fnOf x qual (a2q st) (xr st) (dh st) .none kV doc pm an cdv ct),osl⟩)
  (c:PySem.W.codeIn K cdv qual=true) (k:PySem.W.keepIn K (.ref f)=true):Fun K x qual st f (PySem.W.fnOf x qual (a2q st) (xr st) (dh st) .none kV doc pm an cdv ct):=⟨⟨oc,od,kV,doc,pm,an,cdv,ct,osl,rfl,l,c⟩,k⟩
end
def Same(H H':Hp):Prop:=∀b o,H b=some o->H' b=some o
theorem Same.seq{K:Fg}{H H':Hp}{a:Addr}{xs:List V}(e:Same H H')(h:SqL K H a xs):SqL K H' a xs:=by
 rcases h with(h|⟨o,h⟩)|h
 .exact .inl (.inl (e _ _ h))
 .exact .inl (.inr ⟨o,e _ _ h⟩)
 .exact .inr h
section
variable{κ:Type}[DecidableEq κ]
theorem RelO.getD{o:Option V}{u:Option Value}{d:V}{d':Value}(r:RelO o u)(rd:RelV d d'):RelV (o.getD d) (u.getD d'):=by
 cases o with
 |none=>cases u with
  |none=>exact rd
  |some _=>exact(show False from r).elim
 |some _=>cases u with
  |none=>exact(show False from r).elim
  |some _=>exact r
end
section
variable{X:Cx}{aA:List (Addr×Obj)}{Z:St}{H:Hp}{s:Shared}{a:Addr}{y v:V}{u r:Value}{o:Option V}{A:Around}{E:Value->Shared->Prop}
theorem Inv.big(I:Inv X aA Z H s):sysModules<s.heap.objs.size:=by
 have h:mainGlobals<s.heap.objs.size:=(I.mod.glob.keeps I.bk).lt;exact Nat.lt_trans (by decide) h
end
theorem an9{P:Program}{w:World}{H:Hp}(h:Heap)(hb:sysModules<h.objs.size):ObjOk P w H (h.push {cls:=.type "dict",data:=.dict #[]}) h.objs.size (.dK []) :=
 ⟨bb _,bQ.mpr (fz (br hb)),[],.nil,Heap.DictOf.new h⟩
def ax8:TE:=λ_ H Q=>∀p,H p=none->Q (.ref p) (upd H p (.dK []))
section
variable{X:Cx}{pos:Pos}
theorem ana:PE X (.Dict [] [] pos) ax8:=λaA s Z H Q I h =>
 wpAny_Dict_empty ⟨.ref s.heap.objs.size,_,I.laid (a:=s.heap.objs.size) (o:=.dK []) (t':=s.toks) (λ_ _ q=>af _ q) (aw _) (an9 s.heap I.big),rfl,h _ (I.hok.fresh (aw _))⟩
end
section
variable{X:Cx}
theorem a7h:OpR X (compareOp .IsNot) (λx y H Q=>∃i j,x=.bl i/\y=.bl j/\Q (.bl (i != j)) H):=by
 intro aA s Z H x y v u Q I rx ry h
 obtain⟨i,j,rfl,rfl,q⟩:=h;cases rx
 cases ry
 exact isnot_bool (a8w I q rfl)
theorem abw:OpR X (compareOp .LtE) (λx y H Q=>∃i j,x=.str i/\y=.str j/\Q (.bl (!decide (j.cps.toList<i.cps.toList))) H):=by
 intro aA s Z H x y v u Q I rx ry h
 obtain⟨i,j,rfl,rfl,q⟩:=h;obtain⟨t,rfl⟩:=rx;obtain⟨t',rfl⟩:=ry;exact PySem.P.le_str (a8w I q rfl)
noncomputable def a5i{α:Type}(xs:List α)(lo hi:Option Int):List α:=(xs.drop (HT.sIx xs.length 0 lo)).take (HT.sIx xs.length xs.length hi-HT.sIx xs.length 0 lo)
def b2j:V->Option Int->Option Int->Hp->VK->Prop:=λx lo hi H Q=>∃z,x=.str z/\z.length<=sizeLine/\Q (.str ⟨(a5i z.cps.toList lo hi).toArray⟩) H
theorem ax9(lo hi:Option Int)(n:Nat):Builtin.Str.strSliceIndices lo hi 1 n=(List.range (HT.sIx n n hi-HT.sIx n 0 lo)).map λk=>HT.sIx n 0 lo+k:=by
 have e1:Builtin.Str.strSliceIndices lo hi 1 n=sliceRange ((HT.sIx n 0 lo:Nat):Int) ((HT.sIx n n hi:Nat):Int) 1:=by
  unfold Builtin.Str.strSliceIndices;dsimp only
  congr 1
  .cases lo with
   |none=>simp[HT.sIx]
   |some i=>simp only[HT.sIx,show(1:Int) > 0 by decide,dO];split<;>omega
  .cases hi with
   |none=>simp[HT.sIx]
   |some i=>simp only[HT.sIx,show(1:Int) > 0 by decide,dO];split<;>omega
 rw[e1];exact sliceRange_one _ _
theorem axa{α:Type}(xs:List α)(a:Nat):∀k,a+k<=xs.length->((List.range k).map λj=>a+j).filterMap (xs[·]?)=(xs.drop a).take k
 |0,_=>by simp
 |k+1,h=>by
  rw[List.range_succ,bF,List.filterMap_append,axa xs a k (by omega)]
  have hk:a+k<xs.length:=by omega
  rw[jC]
  congr 1
  simp[hZ,hk]
theorem axb:SlR X b2j:=by
 intro aA s Z H x v vl vu lo hi sl Q I rx hs pl pu h
 obtain⟨z,rfl,hz,q⟩:=h;obtain⟨t,rfl⟩:=rx;refine⟨"str",_,PyProof.Rows.slot_str_getitem.lookup,typeIs_str s z t,?_⟩;have hl:z.cps.toList.length=z.length:=by simp[Str.length]
 have fin:∀(l u:Option (Int×Tok)),vl=partValue l->vu=partValue u->l.map (·.1)=lo->u.map (·.1)=hi->wpAny (model X.prog X.w) X.A (getItem (.str z t) (.ref sl)) (EP X aA Z Q) X.xe s:=by
  intro l u e1 e2 e3 e4
  subst e1 e2;refine wpAny_getItem_str_slice (l:=l) (u:=u) (st:=none) hs rfl ?_;have hp:slicePicked z l u none=(List.range (HT.sIx z.length z.length hi-HT.sIx z.length 0 lo)).map λk=>HT.sIx z.length 0 lo+k:=by
   unfold slicePicked;rw[e3,e4];exact ax9 lo hi z.length
  have hb1:HT.sIx z.length z.length hi<=z.length:=HT.aiu _ _ (aw _) _;have hb2:HT.sIx z.length 0 lo<=z.length:=HT.aiu _ _ (bb _) _;unfold sliceMade
  split
  .rename_i c;simp only[bM,eD]at c;obtain⟨_,c⟩:=c;rw[hp,ar,cV]at c;have e:(⟨(a5i z.cps.toList lo hi).toArray⟩:Str)=z:=by
    unfold a5i;rw[hl];have z1:HT.sIx z.length 0 lo=0:=by omega
    have z2:HT.sIx z.length z.length hi=z.length:=by omega
    rw[z1,z2,i6,Nat.sub_zero,cC (by omega)]
   rw[e]at q;exact⟨.str z,H,I,⟨_,rfl⟩,q⟩
  .have e:(⟨(a5i z.cps.toList lo hi).toArray⟩:Str)=⟨((slicePicked z l u none).filterMap (z.cps[·]?)).toArray⟩:=by
    rw[hp];unfold a5i;rw[hl]
    by_cases hc:HT.sIx z.length 0 lo<=HT.sIx z.length z.length hi
    .rw[<-axa z.cps.toList _ _ (by omega)]
     simp only[Array.getElem?_toList]
    .rw[show HT.sIx z.length z.length hi-HT.sIx z.length 0 lo=0 by omega]
     simp
   rw[e]at q;refine⟨?_,.str _,H,I.tok _,⟨_,rfl⟩,q⟩;rw[<-e];show(a5i z.cps.toList lo hi).toArray.size<=sizeLine;rw[ay];unfold a5i;rw[aQ,aY,hl];omega
 cases pl with
 |none=>cases pu with
  |none=>exact fin none none rfl rfl rfl rfl
  |int j t'=>exact fin none (some (j,t')) rfl rfl rfl rfl
 |int i t'=>cases pu with
  |none=>exact fin (some (i,t')) none rfl rfl rfl rfl
  |int j t''=>exact fin (some (i,t')) (some (j,t'')) rfl rfl rfl rfl
theorem wu:CallR X (.builtin "isinstance") (λxs H Q=>∃x T t b,xs=[x,.ty T]/\TyOf X.K H x t/\PySem.W.kitOne X.K t (.type T)=some b/\Q (.bl b) H):=by
 intro aA s Z H xs us Q I r h
 obtain⟨x,T,t,b,rfl,ty,e,q⟩:=h;obtain⟨u,w',rfl,rx,rt⟩:=vals2 r;cases rt
 exact aiq I rx ty e λtk=>⟨.bl b,H,I.tok tk,rfl,q⟩
def a00(x:Str):List V:=x.cps.toList.map λc=>V.str ⟨#[c]⟩
theorem a8z(h:ItemsOf (SignAt x) acc x.cps.size):Vals (a00 x) acc.toList:=by
 obtain⟨hs,ha⟩:=h;have key:∀(cs:List Nat) (us:List Value),us.length=cs.length->(∀(j:Nat) (v:Value),us[j]? = some v->∃c u,cs[j]? = some c/\v=.str ⟨#[c]⟩ u)->Vals (cs.map λc=>V.str ⟨#[c]⟩) us:=by
  intro cs
  induction cs with
  |nil=>intro us hl _;cases us with|nil=>exact .nil|cons _ _=>simp at hl
  |cons c cs ih =>
   intro us hl hp
   cases us with
   |nil=>simp at hl
   |cons u us =>
    refine .cons ?_ (ih us (by simpa using hl) λj v e=>hp (j+1) v (by simpa using e))
    obtain⟨c',t,e1,e2⟩:=hp 0 u rfl;simp at e1;subst e1;exact⟨t,e2⟩
 refine key _ _ (by simp[hs]) λj v e=>?_
 obtain⟨c,u,e1,e2⟩:=ha j v (by simpa using e)
 exact⟨c,u,by simpa using e1,e2⟩
theorem adv(hc:X.calm=true):CallR X (.type "list") (λxs H Q=>∃z,xs=[.str z]/\z.length<=sizeLine/\∀l,H l=none->Q (.ref l) (upd H l (.lst (a00 z)))):=by
 intro aA s Z H xs us Q I r h
 obtain⟨z,rfl,hz,q⟩:=h;obtain⟨u,rfl,t,rfl⟩:=vals1 r;refine PySem.call_list_str (I.ok.hd hc) z t (λh' tk acc c kp e hi=>?_) (by simpa[Str.length] using hz)
 refine⟨.ref s.heap.objs.size,_,I.laid (t':=tk) kp (aw _) (show ObjOk X.prog X.w _ h' _ (.lst (a00 z)) from ⟨by simpa[a00,Str.length] using hz,acc.toList,c,a8z hi,by simpa using e⟩),rfl,q _ (I.hok.fresh (aw _))⟩
theorem ut(hc:X.calm=true):CallR X (.type "tuple") (λxs H Q=>∃z,xs=[.str z]/\z.length<=sizeLine/\∀l,H l=none->Q (.ref l) (upd H l (.tup (a00 z)))):=by
 intro aA s Z H xs us Q I r h
 obtain⟨z,rfl,hz,q⟩:=h;obtain⟨u,rfl,t,rfl⟩:=vals1 r;refine PySem.call_tuple_str (I.ok.hd hc) z t (λh' tk acc kp hi=>?_) (by simpa[Str.length] using hz)
 have I1:Inv X aA Z H {s with heap:=h',toks:=tk}:=I.kept kp
 have I2:Inv X aA Z (upd H h'.objs.size (.tup (a00 z))) {s with heap:=h'.push {cls:=.type "tuple",data:=.seq acc},toks:=tk} :=
  I1.laid (t':=tk) (λb o e=>af _ e) (aw _) (show ObjOk X.prog X.w _ _ _ (.tup (a00 z)) from ⟨by simpa[a00,Str.length] using hz,acc.toList,a8z hi,by simpa using IsTup.new h' acc⟩)
 exact⟨.ref h'.objs.size,_,I2,rfl,q _ (I1.hok.fresh (aw _))⟩
end
noncomputable def Its(x:Str):It:=⟨λi _=>i<x.cps.size,λi H v H'=>H'=H/\∃c,x.cps.toList[i]? = some c/\v=.str ⟨#[c]⟩,λi _=>i=x.cps.size⟩
theorem af7{P:Program}{w:World}{K:Fg}{tg:Expr}(it:Addr)(x:Str)(t:Tok)(ty:String)
  (hty:["enumerate","zip","dict_itemiterator","dict_reverseitemiterator","odict_iterator","itertools.zip_longest","itertools.pairwise"].contains ty=false)
  (W:∀A':Around,A'.handled=none->Walks P w A' it [it] [it] x.cps.size (SignAt x) (λi h=>h.IsStrIter it ty x t i))
  (slf:∀(A:Around) (i:Nat) (s:Shared) (Q:Value->Shared->Prop) (E:Value->Shared->Prop),s.heap.IsStrIter it ty x t i->Q (.ref it) s->wpAny (model P w) A (pyIter (.ref it)) Q E s) :
  Turn P w K tg (Its x) [it] it (λi h=>h.IsStrIter it ty x t i) where
 mem:=by simp
 obj:=λi h st b hb=>by
  have e:b=it:=by simpa using hb
  subst e;obtain⟨o,e,c,d⟩:=st;exact⟨o,e,λv z=>by rw[d]at z;cases z⟩
 keep:=λi h h' st k=>by
  obtain⟨o,e,c,d⟩:=st;exact⟨o,k it (by simp) o e,c,d⟩
 item:=by
  intro X hP hw hK hc i aA s Z H E I hf st hg
  subst hP hw hK;obtain⟨f0,f1,f2,f3,f4,f5⟩:=hf it (by simp)
  refine(W X.A (I.ok.hd hc)).item i s _ _ hg st λv h' tk hv st' kk=>?_;obtain⟨c,u,hx,rfl⟩:=hv;have I1:Inv X aA Z H {s with heap:=h',toks:=tk}:=I.turned (λb o hb e=>kk b o (by simpa using hb) e) f0 f1 f3 f4 f5
  obtain⟨o,e,oc,d⟩:=id st';exact⟨_,rfl,aic (s:={s with heap:=h',toks:=tk}) e oc d hty ⟨.str ⟨#[c]⟩,H,I1,⟨_,rfl⟩,⟨rfl,c,by simpa using hx,rfl⟩,st',λb hb=>(hf b hb).1⟩⟩
 done:=by
  intro X hP hw hK hc i aA s Z H E I hf st hg
  subst hP hw hK;obtain⟨f0,f1,f2,f3,f4,f5⟩:=hf it (by simp)
  have hg':i=x.cps.size:=hg;subst hg';exact(W X.A (I.ok.hd hc)).done s _ _ st λh' tk eb=>⟨rfl,I.turned (λb o hb e=>eb b o (by simpa using hb) e) f0 f1 f3 f4 f5⟩
 self:=slf
section
variable{X:Cx}{tg:Expr}
def b58(tl:TE):TI:=λZ H R=>tl Z H λx H1=>∃z,x=.str z/\R (Its z) H1
theorem aq2{l:Expr}{tl:TE}(hl:PE X l tl):PI X tg l (b58 tl):=by
 intro aA s Z H R I h
 refine thn (hl aA s Z H _ I h) ?_
 rintro v s1 ⟨x,H1,I1,r1,q1⟩
 obtain⟨z,e,q⟩:=q1;subst e;obtain⟨t,rfl⟩:=r1;have fp:∀b∈[s1.heap.objs.size],FpOk X aA H1 b:=λb hb=>by
  have e:b=s1.heap.objs.size:=by simpa using hb
  subst e;exact I1.fpOk (aw _) (I1.hok.fresh (aw _))
 cases ha:z.cps.all (· < 128)
 .exact wpAny_pyIter_wide ha ⟨s1.heap.objs.size,[s1.heap.objs.size],_,_,H1,rfl,I1.kept (t':=s1.toks) λb o e=>af _ e,
   af7 _ z t "str_iterator" (by decide) (λA' hA=>Walks.strWide hA _ z t) (λ_ _ _ _ _ st h=>wpAny_pyIter_striter_wide st h),⟨_,aO _ rfl,rfl,rfl⟩,fp,q⟩
 .exact wpAny_pyIter_ascii ha ⟨s1.heap.objs.size,[s1.heap.objs.size],_,_,H1,rfl,I1.kept (t':=s1.toks) λb o e=>af _ e,
   af7 _ z t "str_ascii_iterator" (by decide) (λA' hA=>Walks.strAscii hA _ z t) (λ_ _ _ _ _ st h=>wpAny_pyIter_striter_ascii st h),⟨_,aO _ rfl,rfl,rfl⟩,fp,q⟩
end
noncomputable def cxC(X:Cx)(N:List Str)(aB:Scope)(cl:List (Str×Addr))(C:Addr)(fp:List Addr)(s:Shared)(H:Hp):Cx where
 prog:=X.prog
 w:=X.w
 K:=X.K
 mg:=X.mg
 base:=X.base
 A:=X.A
 N:=N
 s₀:=s
 H₀:=H
 env:=compEnvC aB cl C X.env
 outer:=X.stack
 stack:=X.stack
 ex:=fp
 fn:=λ_=>false
 calm:=X.calm
 pn:=[]
 xe:=λ_ _=>False
structure CSc (X:Cx) (aB:Scope) (cl:List (Str×Addr)) (ts fr:List Str) (ix:List Nat):Prop where
 clos:closureFor aB X.env=pure cl
 kind:aB.kind=.function
 nocell:∀y∈aB.names,y.2≠.cell
 names:∀y∈aB.names,y.2=.local->aB.names.lookup y.1=some .local
 sub:∀y c,cl.lookup y=some c->X.env.cells.lookup y=some c
 has:∀y,((relabel aB X.env).names.lookup y=some .cell\/(relabel aB X.env).names.lookup y=some .free)->∃c,cl.lookup y=some c
 nofn:∀y∈ts,(relabel aB X.env).names.lookup y=some .local
 len:ix.length=fr.length
 vis:∀(j:Nat) (y:Str),fr[j]? = some y->∃i:Nat,ix[j]? = some i/\X.N[i]? = some y/\(X.env.kindOf y=some .cell\/X.env.kindOf y=some .free)/\((relabel aB X.env).names.lookup y=some .cell\/(relabel aB X.env).names.lookup y=some .free)
def Ext(a b:St):Prop:=b.length=a.length/\∀(i:Nat) v,a[i]? = some (some v)->b[i]? = some (some v)
def my(nt:Nat)(ix:List Nat)(Z:St):St:=List.replicate nt none++ix.map λi=>(Z[i]?).join
def asn(J:It)(s0:St)(g:TG)(te:TE)(Q:VK)(H1:Hp):Prop:=∃W:Nat->Nat->List V->Hp->Prop,(∃m,W 0 m [] H1)/\∀i m ys H,W i m ys H->
 (J.stop i H/\∀p,H p=none->Q (.ref p) (upd H p (.lst ys))) \/
 (J.go i H/\ys.length<sizeLine/\∀x H',J.yld i H x H'->g x s0 H' λZ2 H2=>Ext s0 Z2/\te Z2 H2 λy H3=>∃m',m'<m/\W (i+1) m' (ys++[y]) H3)
def aj1(wi:TI)(s0:St->St)(g:TG)(te:TE):TE:=λZ H Q=>wi Z H λJ H1=>asn J (s0 Z) g te Q H1
def adw(J:It)(s0:St)(g:TG)(tc:TT)(te:TE)(Q:VK)(H1:Hp):Prop:=∃W:Nat->Nat->List V->Hp->Prop,(∃m,W 0 m [] H1)/\∀i m ys H,W i m ys H->
 (J.stop i H/\∀p,H p=none->Q (.ref p) (upd H p (.lst ys))) \/
 (J.go i H/\ys.length<sizeLine/\∀x H',J.yld i H x H'->g x s0 H' λZ2 H2=>Ext s0 Z2/\tc Z2 H2 λok H2'=>if ok=true then te Z2 H2' (λy H3=>∃m',m'<m/\W (i+1) m' (ys++[y]) H3) else ∃m',m'<m/\W (i+1) m' ys H2')
noncomputable def a1v(wi:TI)(s0:St->St)(g:TG)(tc:TT)(te:TE):TE:=λZ H Q=>wi Z H λJ H1=>adw J (s0 Z) g tc te Q H1
theorem a7i(aD target aF cnd:Expr)(aB:Scope)(pos:Pos)(it acc:Value)(env:Env) :
  compTurn (.ListComp aD [⟨target,aF,[cnd],0⟩] aB pos) 0 it acc env=(standAt aF.pos>>=λ_=>pyNext it>>=λr=>match r with
   |none=>pure (.done .next)
   |some v=>letOwnedTupleGo target it v>>=λ_=>assign target env v>>=λ_=>isTrue cnd env (eval cnd env)>>=λok =>
    (if ok=true then (eval aD env>>=λx=>call (.builtin "list.append") [acc,x]>>=λ_=>pure ()) else pure ())>>=λ_ =>
     again (.compLoop (.ListComp aD [⟨target,aF,[cnd],0⟩] aB pos) 0 it acc env)):=by
 first
  |rfl
  |(unfold compTurn;simp only[iH];rfl)
  | (show(standAt aF.pos>>=λ_=>pyNext it>>=λr=>_)=_
     congr 1;funext _;congr 1;funext r
     cases r with
     |none=>rfl
     |some v =>
      show(letOwnedTupleGo target it v>>=λ_=>assign target env v>>=λ_=>_)=(letOwnedTupleGo target it v>>=λ_=>assign target env v>>=λ_=>_)
      congr 1;funext _;congr 1;funext _
      simp
      congr 1;funext ok
      cases ok with
      |false=>rw[ba aX,ba aX,pure_bind]
      |true =>
       rw[aJ rfl,aJ rfl,bind_assoc]
       congr 1;funext x
       rw[map_eq_pure_bind,bind_assoc]
       congr 1)
noncomputable def runC(cnd:Option Expr)(env:Env):Sem Bool:=match cnd with
 |none=>pure true
 |some c=>isTrue c env (eval c env)
def PTO(X:Cx)(cnd:Option Expr)(t:TT):Prop :=
 ∀(aA:List (Addr×Obj)) (s:Shared) (Z:St) (H:Hp) (Q:Bool->Hp->Prop),Inv X aA Z H s->t Z H Q->wpAny (model X.prog X.w) X.A (runC cnd X.env) (TP X aA Z Q) X.xe s
theorem a8l(aD target aF:Expr)(cnd:Option Expr)(aB:Scope)(pos:Pos)(it acc:Value)(env:Env) :
  compTurn (.ListComp aD [⟨target,aF,cnd.toList,0⟩] aB pos) 0 it acc env=(standAt aF.pos>>=λ_=>pyNext it>>=λr=>match r with
   |none=>pure (.done .next)
   |some v=>letOwnedTupleGo target it v>>=λ_=>assign target env v>>=λ_=>runC cnd env>>=λok =>
    (if ok=true then (eval aD env>>=λx=>call (.builtin "list.append") [acc,x]>>=λ_=>pure ()) else pure ())>>=λ_ =>
     again (.compLoop (.ListComp aD [⟨target,aF,cnd.toList,0⟩] aB pos) 0 it acc env)):=by
 cases cnd with
 |some c=>exact a7i ..
 |none =>
  rw[show(none:Option Expr).toList=[] from rfl,compTurn_list1]
  congr 1
theorem aj2{cnd:Option Expr}{E:Value->Shared->Prop}(no:∀v s,E v s->False)(J:Nat->Shared->Prop)
  (step:∀m z,J m z->wpAny (model prog w) A (pyNext it) (λgot z1=>match got with
   |none=>R (.ok .next) z1
   |some v=>wpAny (model prog w) A (letOwnedTupleGo target it v) (λ_ z2=>wpAny (model prog w) A (assign target env v) (λ_ z3=>wpAny (model prog w) A (runC cnd env) (λok z3'=>if ok=true then wpAny (model prog w) A (eval aD env) (λx z4 =>
     wpAny (model prog w) A (call (.builtin "list.append") [acc,x]) (λ_ z5=>∃m',m'<m/\J m' z5) E z4)
     E z3' else ∃m',m'<m/\J m' z3') E z3) E z2) E z1) E z)
  (m:Nat) (j0:J m s):codeAny (model prog w) A (.compLoop (.ListComp aD [⟨target,aF,cnd.toList,0⟩] aB pos) 0 it acc env) R s:=by
 refine codeAny_loop rfl J (λm z hj=>(wpAny_noted ?_:wpAny _ _ ((compTurn (.ListComp aD [⟨target,aF,cnd.toList,0⟩] aB pos) 0 it acc env).onRaise _) _ _ z)) m j0;rw[a8l];refine ae (dY (ae (bL (step m z hj) (λgot z1 h1=>?_) λ_ _ e=>(no _ _ e).elim)))
 match got,h1 with
 |none,h1=>exact av h1
 |some v,h1 =>
  refine ae (bL h1 (λ_ z2 h2=>ae (bL h2 (λ_ z3 h3=>ae (bL h3 (λok z3' h3'=>?_) λ_ _ e=>(no _ _ e).elim)) λ_ _ e=>(no _ _ e).elim)) λ_ _ e=>(no _ _ e).elim)
  match ok,h3' with
  |true,h3' =>
   rw[aJ rfl]at h3';refine ae (ae (bL h3' (λx z4 h4=>?_) λ_ _ e=>(no _ _ e).elim));exact ae (bL h4 (λ_ z5 h5=>av (av ⟨rfl,h5⟩)) λ_ _ e=>(no _ _ e).elim)
  |false,h3' =>
   rw[ba aX]at h3';exact ae (av (av ⟨rfl,h3'⟩))
section
variable{X:Cx}
theorem abx(S:CSc X aB cl ts fr ix)(I:Inv X aA Z H s)
  (hf:∀b∈fp,FpOk X aA H b) (hb:∀b∈fp,b<s.heap.objs.size) (hC:s.heap.objs.size<=C):(cxC X (ts++fr) aB cl C fp s H).Ok where
 mod:=I.ok.mod
 kind:=S.kind
 glob:=I.ok.glob
 blt:=I.ok.blt
 above:=hC
 inj:=λx y c h1 h2=>I.ok.inj x y c (S.sub x c h1) (S.sub y c h2)
 has:=S.has
 cab:=λ_ _ z=>nomatch z
 hd:=I.ok.hd
 frames:=I.ok.frames
 stk:=.inl rfl
 exf:=λb hb'=>⟨br (aT (hb b hb') hC),λx c e=>(hf b hb').2.2.2.2.1 x c (S.sub x c e)⟩
 bs:=λb o e=>I.bs b o e
 bsz:=bC I.ok.bsz I.sz
 noex:=λb o e hb'=>by
  rcases(hf b hb').2.2.2.1 with z|z
  .exact I.ok.noex b o e z
  .exact absurd (aT (aP e) (bC I.ok.bsz z)) (bU _)
 exfs:=λb hb' z=>by
  rcases aL.mp (I.stkSub b z) with e|e
  .exact(hf b hb').2.1 e
  .exact(hf b hb').2.2.1 e
 funs:=I.stack
 frf:=λb hb'=>I.stkFree b hb'
theorem a90:(my nt ix Z).length=nt+ix.length:=by
 unfold my;rw[ah,cJ,ar]
theorem aj3{s4:Shared}(S:CSc X aB cl ts fr ix)(I:Inv X aA Z H s)
  (hf:∀b∈fp,FpOk X aA H b) (hb:∀b∈fp,b<s.heap.objs.size) (hC:s.heap.objs.size<=C)
  (k:∀b o,s.heap.get? b=some o->s4.heap.get? b=some o) (hn:s4.heap.Ns C m) (ho:s4.os=s.os) (hg:s4.gens=s.gens) :
  Inv (cxC X (ts++fr) aB cl C fp s H) [] (my ts.length ix Z) H s4 where
 ok:=abx S I hf hb hC
 os:=ho
 bare:=by rw[hg];exact I.bare
 base:=Un.kept k
 loc:=by
  refine⟨m,hn,λi x v e1 e2 e3=>?_⟩;have e1:(ts++fr)[i]? = some x:=e1
  by_cases hi:i<ts.length
  .unfold my at e2;rw[aV (by simpa using hi),dZ,aJ hi]at e2
   cases e2
  .rw[aK (by omega)]at e1
   unfold my at e2;rw[aK (by simpa using hi),cJ,bD]at e2
   obtain⟨j,h1,h2,h3,h4⟩:=S.vis _ x e1;rw[h1]at e2;have e2':(Z[j]?).join=some v:=bP e2;have e5:Z[j]? = some (some v):=by
    cases q:Z[j]? with
    |none=>rw[q]at e2';cases e2'
    |some o=>rw[q]at e2';simp at e2';rw[e2']
   obtain⟨m0,_,hl⟩:=I.loc;have vis:Vis X.env.scope x:=h3.elim (λz=>.inr (.inl z)) λz=>.inr (.inr z);obtain⟨u,ru,l⟩:=hl j x v h2 e5 vis;refine⟨u,ru,?_⟩
   rcases l with⟨z,_⟩|⟨_,c,hc,hcell⟩
   .rcases h3 with h3|h3<;>rw[h3]at z<;>cases z
   .obtain⟨c',hc'⟩:=S.has x h4;have e6:c'=c:=bP ((S.sub x c' hc').symm.trans hc);subst e6;obtain⟨o,ho,hd⟩:=hcell;exact .inr ⟨h4,c',hc',o,k _ _ ho,hd⟩
 cell:=λx c e=>by
  obtain⟨v,o,ho,hd⟩:=I.cell x c (S.sub x c e);exact⟨v,o,k _ _ ho,hd⟩
 free:=I.hok.fresh hC
 freeC:=λx c e=>I.freeC x c (S.sub x c e)
 pin:=λp hp=>absurd (show p∈([]:List (Addr×Obj)) from hp) (by simp)
 hok:=I.hok.kept k
 len:=by
  rw[a90];show _=(ts++fr).length;rw[ah,S.len]
theorem Inv.unpinned'(I:Inv X aA Z H s):Inv X [] Z H s:=I.pins_of λ_ hp=>nomatch hp
theorem comp_back{its:List Value}(I:Inv X aA Z H s)
  (hf:∀b∈fp,FpOk X aA H b) (hC:s.heap.objs.size<=C) (hacc:s.heap.objs.size<=acc) (hCa:C≠acc)
  (J:Inv (cxC X N aB cl C fp s H) [] Z' H' s') (hn:H' acc=none) (ha:s'.heap.get? acc=some {cls:=.type "list",data:=.seq its.toArray n}) (rv:Vals ys its) (hz:ys.length<=sizeLine) (sb:Heap.SameBut C s'.heap h') :
  Inv X aA Z (upd H' acc (.lst ys)) {s' with heap:=h' }:=by
 have k:∀b o,b≠C->s'.heap.get? b=some o->h'.get? b=some o:=λb o hb e=>sb.extBut b o hb e;have old:∀b o,s.heap.get? b=some o->b≠C/\b≠acc:=λb o e=>⟨br (aT (aP e) hC),br (aT (aP e) hacc)⟩;have u0:Un (frs X.stack) fp H H' s.heap s'.heap:=J.base;have fC:H' C=none:=J.free;have u:Un (frs X.stack) fp H (upd H' acc (.lst ys)) s.heap h':=by
  refine⟨λb o e n' hb hx=>k b o (old b o e).1 (u0.keep b o e n' hb hx),λb o e n' hb hx=>?_,λb o e n' hx=>?_,λb o e hx=>?_,λb xs e=>?_,λb o v e=>?_,λb ps e=>?_⟩
  .obtain⟨sl,e1⟩:=u0.slot b o e n' hb hx;exact⟨sl,k b _ (old b o e).1 e1⟩
  .rw[je (old b o e).2];exact u0.free b o e n' hx
  .obtain⟨o',e1⟩:=u0.there b o e hx;exact⟨o',k b _ (old b o e).1 e1⟩
  .rw[je (iu (u0.tups b xs e) hn)];exact u0.tups b xs e
  .rw[je (iu (u0.frzs b o v e) hn)];exact u0.frzs b o v e
  .obtain⟨more,e1⟩:=u0.tbls b ps e;exact⟨more,by rw[je (iu e1 hn)];exact e1⟩
 have hok:HOk X.prog X.w (upd H' acc (.lst ys)) h':=λb o e=>by
  by_cases hb:b=acc
  .subst hb;rw[qw]at e;cases e
   exact⟨hz,its,n,rv,k _ _ (fz hCa) ha⟩
  .rw[je hb]at e;refine(J.hok b o e).stay (λc v hc q=>k c v ?_ q) (λc q=>by rw[je (iu q hn)];exact q) λc xs q=>by rw[je (iu q hn)];exact q
   rcases hc with z|z
   .rw[z];exact iu e fC
   .exact iu z fC
 have J':=I.call (g':=s'.gens) (t':=s'.toks) (d':=s'.drawn) (ch:=fp) u hok J.bare λb hb=>⟨(hf b hb).2.2.2.1,(hf b hb).2.1,(hf b hb).2.2.2.2.1,(hf b hb).2.2.2.2.2⟩;have eo:s'.os=s.os:=J.os;obtain⟨hp,g,d,t,o⟩:=s';have eo':o=s.os:=eo;subst eo';exact J'
def a2r(X:Cx)(aA:List (Addr×Obj))(Z:St)(use:Option (Value->Sem Unit))(Q:VK)(Qf:Value->Shared->Prop):Prop :=
 ∀(acc C:Addr) (s6:Shared) (H6:Hp) (m6:Str->Option Value),s6.heap.Ns C m6->FpOk X aA H6 C->(∀h',Heap.SameBut C s6.heap h'->Inv X aA Z H6 {s6 with heap:=h' })->Q (.ref acc) H6->
  compPost (model X.prog X.w) X.A X.xe use Qf (.ref acc) C (.ok .next) s6
theorem a6q:a2r X aA Z none Q (EP X aA Z Q):=λacc C s6 H6 m6 hn _ k q=>⟨m6,hn,λh' sb=>⟨.ref acc,H6,k h' sb,rfl,q⟩⟩
theorem aa0{D:Ends}(hN:X.N.Nodup)(hi:X.N[i]? = some x)(hx:Loc X.env.scope x)(hf:X.fn x=true\/X.env.scope.names.lookup x=some .local) :
  a2r X aA Z (some (assign (.Name x pos') X.env)) (λv H1=>a05 i v Z H1 D.nx) (λ_ s'=>SP X aA D .next s'):=by
 intro acc C s6 H6 m6 hn fp k q
 obtain⟨f1,f2,f3,f4,f5,f6⟩:=fp;have I6:Inv X aA Z H6 s6:=k s6.heap (Heap.SameBut.refl _ _);refine wpAny_assign_Name (abi (v:=.ref acc) I6 hN hi hx rfl (λs' I' ⟨a,sb,ha⟩=>⟨m6,hn.sameBut sb ?_,λh' sb'=>⟨_,H6,I'.turned (t':=s'.toks) (it:=C) (λb o hb e=>sb'.extBut b o hb e) f1 f2 f4 f5 f6,q⟩⟩) hf)
 rcases ha with ha|ha
 .rw[ha];exact f2
 .exact λz=>f5 x a ha z.symm
theorem aby{Y:Cx}{cnd:Option Expr}{N it:Addr}{fp:List Addr}{tn:Nat->Heap->Prop}{J:It}{Z0:St}{H2:Hp}{s4:Shared}{W:Nat->Nat->List V->Hp->Prop}{Q:VK}(hc:Y.calm=true)(no:∀v s,Y.xe v s->False)(hp0:Y.pn=[])(T:Turn Y.prog Y.w Y.K tg J fp it tn)
  (stat:∀{H':Hp},(∀b∈fp,H' b=none)->∀b∈fp,FpOk Y [] H' b) (statA:∀{H':Hp},H' N=none->FpOk Y [] H' N) (accF:N∉fp) (hg:PG Y tg g) (he:PE Y aD te) (ht:PTO Y cnd tc)
  (turn:∀i m ys H,W i m ys H->(J.stop i H/\∀p,H p=none->Q (.ref p) (upd H p (.lst ys)))\/(J.go i H/\ys.length<sizeLine/\∀x H',J.yld i H x H'->g x Z0 H' λZ2 H2=>Ext Z0 Z2/\tc Z2 H2 λok H2'=>if ok=true then te Z2 H2' (λy H3=>∃m',m'<m/\W (i+1) m' (ys++[y]) H3) else ∃m',m'<m/\W (i+1) m' ys H2'))
  (w0:W 0 m0 [] H2) (K0:Inv Y [] Z0 H2 s4) (st4:tn 0 s4.heap) (f0:∀b∈fp,H2 b=none) (fa:H2 N=none) (hacc:s4.heap.get? N=some {cls:=.type "list",data:=.seq ([]:List Value).toArray 0})
  (fin:∀s6 H6 ys its k,Inv Y [(N,{cls:=.type "list",data:=.seq its.toArray k})] Z0 H6 s6->H6 N=none->Vals ys its->ys.length<=sizeLine->(∀p,H6 p=none->Q (.ref p) (upd H6 p (.lst ys)))->R (.ok .next) s6) :
  codeAny (model Y.prog Y.w) Y.A (.compLoop (.ListComp aD [⟨tg,aF,cnd.toList,0⟩] aB pos) 0 (.ref it) (.ref N) Y.env) R s4:=by
 refine aj2 no (λn s'=>∃i Z' H' ys its k,Inv Y [] Z' H' s'/\Ext Z0 Z'/\tn i s'.heap/\(∀b∈fp,H' b=none)/\H' N=none /\
  s'.heap.get? N=some {cls:=.type "list",data:=.seq its.toArray k}/\Vals ys its/\ys.length<=sizeLine/\W i n ys H') ?_ m0
  ⟨0,_,H2,[],[],0,K0,⟨rfl,λ_ _ z=>z⟩,st4,f0,fa,hacc,.nil,bb _,w0⟩
 rintro n s5 ⟨i,Z5,H5,ys,its,k5,I5,x5,st5,fr5,fa5,ac5,rv5,hz5,w5⟩
 have I5':Inv Y [] Z0 H5 s5:=I5.weak x5.1.symm x5.2;obtain⟨ob,hob⟩:∃ob:Obj,ob={cls:=.type "list",data:=.seq its.toArray k5}:=⟨_,rfl⟩;rw[<-hob]at ac5;have IP:Inv Y [(N,ob)] Z0 H5 s5:=I5'.pins_of λp hp=>by
  rw[ax.mp hp];obtain⟨a0,a1,a2,_⟩:=statA fa5;exact⟨ac5,a0,a1,a2,λv z=>by rw[hob]at z;cases z⟩
 have FB:∀b∈fp,FpOk Y [(N,ob)] H5 b:=λb hb=>by
  obtain⟨b0,b1,b2,b3,b4,b5⟩:=stat fr5 b hb;refine⟨b0,b1,b2,b3,b4,λp hp=>?_⟩;rw[hp0]at hp;rw[ax.mp hp];exact λz=>accF (by have z':N=b:=z;rw[z'];exact hb)
 rcases turn i n ys H5 w5 with⟨stop,qn⟩|⟨go,hlt,step⟩
 .refine thn (T.done Y rfl rfl rfl hc i [(N,ob)] s5 _ H5 _ IP FB st5 stop) ?_
  rintro r s6 ⟨hr,I6⟩
  subst hr;rw[hob]at I6;exact fin s6 H5 ys its k5 I6 fa5 rv5 hz5 qn
 .refine thn (T.item Y rfl rfl rfl hc i [(N,ob)] s5 _ H5 _ IP FB st5 go) ?_
  rintro r s6 ⟨u,hr,h6⟩
  subst hr;refine thn h6 ?_
  rintro _ s7 ⟨x,H7,I7,r7,y7,st7,fr7⟩
  obtain⟨ac7,fa7,_⟩:=I7.pin (N,ob) (by simp)
  have I7':Inv Y (yp (N::fp) s7.heap) Z0 H7 s7:=by
   show Inv Y ([]++yp (N::fp) s7.heap) _ _ _;refine Inv.pinned I7.unpinned' (λb hb=>?_) λb hb=>?_
   .rcases aL.mp hb with e|e
    .subst e;exact statA fa7
    .exact stat fr7 b e
   .rcases aL.mp hb with e|e
    .subst e;exact⟨_,ac7,λv z=>by rw[hob]at z;cases z⟩
    .exact T.obj _ _ st7 b e
  have keep:∀{Z':St} {H9:Hp} {s9:Shared} {ps:List (Addr×Obj)},Inv Y (yp (N::fp) s7.heap) Z' H9 s9->(s9.heap.get? N=some ob/\H9 N=none)/\∀b∈fp,(∀o,s7.heap.get? b=some o->s9.heap.get? b=some o)/\H9 b=none:=λI9=>by
   refine⟨?_,λb hb=>?_⟩
   .obtain⟨z1,z2,_⟩:=I9.pin (N,ob) (aS _ (lz bB ac7));exact⟨z1,z2⟩
   .obtain⟨o,e,_⟩:=T.obj _ _ st7 b hb;obtain⟨z1,z2,_⟩:=I9.pin (b,o) (aS _ (lz (aW _ hb) e));exact⟨λo' e'=>by rw[e]at e';cases e';exact z1,z2⟩
  refine thn (hg _ s7 _ H7 x u _ I7' r7 (step x H7 y7)) ?_
  rintro _ s8 ⟨Z8,H8,I8,x8,q8⟩
  refine thn (ht _ s8 _ H8 _ I8 q8) ?_
  rintro ok s8' ⟨H8',I8',q8'⟩
  cases ok with
  |false =>
   rw[ba aX]at q8' ⊢;obtain⟨m',hm',w9⟩:=q8';obtain⟨⟨ac9,fa9⟩,k9⟩:=keep (ps:=[]) I8';exact⟨m',hm',i+1,Z8,H8',ys,its,k5,I8'.unpinned',x8,T.keep _ _ _ st7 λb hb o e=>(k9 b hb).1 o e,λb hb=>(k9 b hb).2,fa9,by rw[ac9,hob],rv5,hz5,w9⟩
  |true =>
   rw[aJ rfl]at q8' ⊢;refine thn (he _ s8' _ H8' _ I8' q8') ?_
   rintro yv s9 ⟨y,H9,I9,r9,m',hm',w9⟩
   obtain⟨⟨ac9,fa9⟩,k9⟩:=keep (ps:=[]) I9;rw[hob]at ac9;have hl:=rv5.length;refine dW bR ⟨_,ac9,rfl⟩ gT (gM _ _) (iA N its.toArray k5 yv (by rw[ay];omega)) ⟨ac9,?_⟩
   have q:=iP ac9 (λa=>a.push yv);have qo:∀b o,b≠N->s9.heap.get? b=some o->(s9.heap.update N (Obj.mapSeq (λa=>a.push yv))).get? b=some o:=λb o hb e=>(dB s9.heap _ (fz hb)).trans e;have q':∃k,(s9.heap.update N (Obj.mapSeq (λa=>a.push yv))).get? N=some {cls:=.type "list",data:=.seq (its++[yv]).toArray k}:=⟨_,by rw[q];simp;rfl⟩
   obtain⟨k9',q9⟩:=q';obtain⟨a0,a1,a2,a3,a4,a5⟩:=statA fa9;refine⟨m',hm',i+1,Z8,H9,ys++[y],its++[yv],k9',(I9.unpinned').turned qo a0 a1 a3 a4 a5,x8,T.keep _ _ _ st7 λb hb o e=>qo b o (λz=>accF (z ▸ hb)) ((k9 b hb).1 o e),λb hb=>(k9 b hb).2,fa9,q9,rv5.append (.cons r9 .nil),?_,w9⟩;rw[ah,aM];omega
theorem a91{cnd:Option Expr}(hc:X.calm=true)(S:CSc X aB cl ts fr ix)(hi:PI X tg aF wi)
  (hg:∀C fp s H,PG (cxC X (ts++fr) aB cl C fp s H) tg g) (he:∀C fp s H,PE (cxC X (ts++fr) aB cl C fp s H) aD te) (ht:∀C fp s H,PTO (cxC X (ts++fr) aB cl C fp s H) cnd tc) (hs:∀x,foldedSetIterable aF X.env x=pure x)
  (use:Option (Value->Sem Unit)) (I:Inv X aA Z H s) (h:a1v wi (my ts.length ix) g tc te Z H Q) (fin:a2r X aA Z use Q Qf) :
  wpAny (model X.prog X.w) X.A (comprehension (.ListComp aD [⟨tg,aF,cnd.toList,0⟩] aB pos) aB X.env ppos (newList []) false (eval aF X.env) use) Qf X.xe s:=by
 refine fP (use:=use) rfl hs S.clos S.kind S.names (thn (hi aA s Z H _ I h) λv s1 h1=>thn h1 λitv s2 h2=>?_);obtain⟨it,fp,tn,J,H2,e,I2,T,st2,f2,W,⟨m0,w0⟩,turn⟩:=h2;subst e;have hob:∀b∈fp,b<s2.heap.objs.size:=λb hb=>let ⟨o,e,_⟩:=T.obj _ _ st2 b hb;aP e;refine bV (wpAny_newFunctionEnv S.nocell (by intro y hy;simp at hy) (λh4 hns4 hsb4=>?_) S.kind)
 dsimp only at hns4 hsb4 ⊢
 generalize hH2:s2.heap.push {cls:=.type "list",dict:=none,data:=.seq ([]:List Value).toArray}=G at hns4 hsb4 ⊢
 have hCs:G.objs.size=s2.heap.objs.size+1:=by rw[<-hH2,cB]
 have hCle:s2.heap.objs.size<=G.objs.size:=by omega
 have hne:G.objs.size≠s2.heap.objs.size:=by omega
 have old:∀b o,s2.heap.get? b=some o->h4.get? b=some o:=λb o e=>by
  have hlt:=aP e;exact hsb4.extBut b o (br (aT hlt hCle)) (af _ (hH2 ▸ af _ e))
 have hacc:h4.get? s2.heap.objs.size=some {cls:=.type "list",data:=.seq ([]:List Value).toArray 0} :=
  hsb4.extBut _ _ (fz hne) (af _ (hH2 ▸ aO _ rfl))
 have K0:Inv (cxC X (ts++fr) aB cl G.objs.size fp s2 H2) [] (my ts.length ix Z) H2 {s2 with heap:=h4,toks:=s2.toks+([]:List (Str×Value)).length} :=
  aj3 S I2 f2 hob hCle old hns4 rfl rfl
 have st4:tn 0 h4:=T.keep _ _ _ st2 λb _ o e=>old b o e;have accF:s2.heap.objs.size∉fp:=λz=>bU _ (hob _ z);have stat:∀{H':Hp},(∀b∈fp,H' b=none)->∀b∈fp,FpOk (cxC X (ts++fr) aB cl G.objs.size fp s2 H2) [] H' b:=λhn b hb =>
  ⟨hn b hb,λz=>by have h1:=hob b hb;have z':b=G.objs.size:=z;exact br (aT h1 hCle) z',λz=>(abx S I2 f2 hob hCle).exfs b hb z,.inl hb,λx c e=>(f2 b hb).2.2.2.2.1 x c (S.sub x c e),λp hp=>absurd (show p∈([]:List (Addr×Obj)) from hp) (by simp)⟩
 have statA:∀{H':Hp},H' s2.heap.objs.size=none->FpOk (cxC X (ts++fr) aB cl G.objs.size fp s2 H2) [] H' s2.heap.objs.size:=λhn =>
  ⟨hn,λz=>hne (show G.objs.size=s2.heap.objs.size from z.symm),λz=>by
   obtain⟨_,o,ho,_⟩:=(abx S I2 f2 hob hCle).funs.mem z;exact bU _ (aP ho),.inr (aw _),λx c e z=>by
   obtain⟨v,o,ho,_⟩:=I2.cell x c (S.sub x c e);rw[z]at ho;exact bU _ (aP ho),λp hp=>absurd (show p∈([]:List (Addr×Obj)) from hp) (by simp)⟩
 have loop:codeAny (model X.prog X.w) X.A (.compLoop (.ListComp aD [⟨tg,aF,cnd.toList,0⟩] aB pos) 0 (.ref it) (.ref s2.heap.objs.size) (compEnvC aB cl G.objs.size X.env))
   (compPost (model X.prog X.w) X.A X.xe use Qf (.ref s2.heap.objs.size) G.objs.size) {s2 with heap:=h4,toks:=s2.toks+([]:List (Str×Value)).length} :=
  aby (Y:=cxC X (ts++fr) aB cl G.objs.size fp s2 H2) hc (λ_ _ h=>h) rfl T stat statA accF (hg _ _ _ _) (he _ _ _ _) (ht _ _ _ _) turn w0 K0 st4 (λb hb=>(f2 b hb).1) (I2.hok.fresh (aw _)) hacc λs6 H6 ys its k I6 fa rv hz qn=>by
   have e6:=(I6.pin (s2.heap.objs.size,{cls:=.type "list",data:=.seq its.toArray k}) (by show _∈[]++[_];simp)).1
   obtain⟨m6,hn6,_⟩:=I6.loc;exact fin _ _ s6 _ m6 hn6 (I2.fpOk hCle (by rw[je hne];exact I6.free)) (λh' sb=>comp_back I2 f2 hCle (aw _) hne I6.unpinned' fa e6 rv hz sb) (qn _ fa)
 exact codeAny_compStart_list loop (T.self _ 0 _ _ _ st4 loop)
theorem abz(hc:X.calm=true)(S:CSc X aB cl ts fr ix)(hi:PI X tg aF wi)
  (hg:∀C fp s H,PG (cxC X (ts++fr) aB cl C fp s H) tg g) (he:∀C fp s H,PE (cxC X (ts++fr) aB cl C fp s H) aD te) (hs:∀x,foldedSetIterable aF X.env x=pure x)
  (use:Option (Value->Sem Unit)) (I:Inv X aA Z H s) (h:aj1 wi (my ts.length ix) g te Z H Q) (fin:a2r X aA Z use Q Qf) :
  wpAny (model X.prog X.w) X.A (comprehension (.ListComp aD [⟨tg,aF,[],0⟩] aB pos) aB X.env ppos (newList []) false (eval aF X.env) use) Qf X.xe s:=by
 refine a91 (cnd:=none) (tc:=λZ H Q=>Q true H) hc S hi hg he (λ_ _ _ _ aA s Z H Q I h=>av ⟨H,I,h⟩) hs use I ?_ fin;unfold a1v adw;unfold aj1 asn at h;simpa only[dO] using h
theorem anb(hc:X.calm=true)(S:CSc X aB cl ts fr ix)(hi:PI X tg aF wi)
  (hg:∀C fp s H,PG (cxC X (ts++fr) aB cl C fp s H) tg g) (he:∀C fp s H,PE (cxC X (ts++fr) aB cl C fp s H) aD te)
  (hs:∀x,foldedSetIterable aF X.env x=pure x:=by intro _;rfl) :
  PE X (.ListComp aD [⟨tg,aF,[],0⟩] aB pos) (aj1 wi (my ts.length ix) g te):=by
 intro aA s Z H Q I h
 rw[iI];exact abz hc S hi hg he hs none I h a6q
theorem anc{spos:Pos}(hN:X.N.Nodup)(hi':X.N[i]? = some x)(hx:Loc X.env.scope x)(hc:X.calm=true)(S:CSc X aB cl ts fr ix)(hi:PI X tg aF wi)
  (hg:∀C fp s H,PG (cxC X (ts++fr) aB cl C fp s H) tg g) (he:∀C fp s H,PE (cxC X (ts++fr) aB cl C fp s H) aD te)
  (hs:∀x,foldedSetIterable aF X.env x=pure x:=by intro _;rfl) (hsw:swapsWith (.ListComp aD [⟨tg,aF,[],0⟩] aB pos) (some (.Name x pos')) spos.line X.env=pure true:=by rfl) (hf:Hf X x:=by first|exact .inl rfl|exact .inr rfl|assumption) :
  PS X (.Assign [.Name x pos'] (.ListComp aD [⟨tg,aF,[],0⟩] aB pos) spos) (awj (aj1 wi (my ts.length ix) g te) (a05 i)):=by
 intro aA s Z H D I h
 rw[gG _ _ _ _ hsw];refine ae (dY (ae ?_));refine ae (bL (abz hc S hi hg he hs (some (assign (.Name x pos') X.env)) I h (aa0 hN hi' hx hf)) (λ_ s' hq=>av (av hq)) λ_ _ e=>e)
end
section
variable{K:Type}[DecidableEq K]
def stepK(l:List K)(v:K):List K:=if v∈l then l else l++[v]
end
end L2
namespace L2
theorem axc:bootBuiltins "len" = some (.builtin "len"):=PySem.boot_len
theorem qz:bootBuiltins "isinstance" = some (.builtin "isinstance"):=by first|exact PySem.boot_isinstance|exact PyProof.Rows.boot_isinstance
theorem aq3:bootBuiltins "str" = some (.type "str"):=by first|exact PySem.boot_str|exact PyProof.Rows.boot_str
theorem axd:bootBuiltins "abs" = some (.builtin "abs"):=by first|exact PySem.boot_abs|exact PyProof.Rows.boot_abs
theorem aj4:bootBuiltins "int" = some (.type "int"):=by first|exact PySem.boot_int|exact PyProof.Rows.boot_int
theorem aso:bootBuiltins "list" = some (.type "list"):=by first|exact PySem.boot_list|exact PyProof.Rows.boot_list
theorem a06:bootBuiltins "tuple" = some (.type "tuple"):=by first|exact PySem.boot_tuple|exact PyProof.Rows.boot_tuple
structure Dn (P:Program) (w:World) (K:Fg) (mg:Str->Option Value) (base:Heap) (k:Nat) (x:Str) (ps:List Str) (sp:Sp) (f:Addr) (fd:FuncData):Prop where
 ok:FnOk P w K mg base CX0 k f fd ps sp
 m:mg x=some (.ref f)
 kp:PySem.W.keepIn K (.ref f)=true
 b:Binds K fd ps []
theorem b2k:sizeLine=16777216:=gy
theorem asp(h:n<=16777216):n<=sizeLine:=by rw[gy];exact h
theorem CSc.noFree{aB:Scope}(kind:aB.kind=.function)(h:∀y∈aB.names,y.2≠.cell/\y.2≠.free)(names:∀y∈aB.names,y.2=.local->aB.names.lookup y.1=some .local)
  (ht:∀y∈ts,aB.names.lookup y=some .local):CSc X aB [] ts [] []:=by
 have e:(relabel aB X.env).names=aB.names:=by
  show aB.names.map _=_;refine map_eq_self λy hy=>?_;obtain⟨n,k⟩:=y;have:(k == NameKind.free)=false:=by simpa using (h _ hy).2
  simp[this]
 refine⟨closureFor_none λy hy=>(h y hy).2,kind,λy hy=>(h y hy).1,names,(λ_ _ z=>nomatch z),λy z=>?_,λy hy=>by rw[e];exact ht y hy,rfl,(λ_ _ z=>by simp at z)⟩
 rw[e]at z
 rcases z with z|z
 .exact absurd rfl (h _ (cb z)).1
 .exact absurd rfl (h _ (cb z)).2
theorem b2l(x y:Str):(x++y).cps.toList=x.cps.toList++y.cps.toList:=by
 show(x.cps++y.cps).toList=_;simp
theorem aa1{α:Type}(xs:List α)(k:Nat):a5i xs none (some (k:Int))=xs.take k:=by
 unfold a5i;rw[HT.a9w,HT.ait,i6,Nat.sub_zero]
 by_cases h:k<=xs.length
 .rw[gU h]
 .rw[iQ (by omega),cC (aw _),cC (by omega)]
theorem a4r{α:Type}(xs:List α)(k:Nat):a5i xs (some (k:Int)) none=xs.drop k:=by
 unfold a5i;rw[HT.a9w,HT.ait]
 by_cases h:k<=xs.length
 .rw[gU h,cC (by rw[aY];omega)]
 .rw[iQ (by omega),cD (aw _),cD (by omega),List.take_nil]
end L2
namespace L2
open PyProof.Rows
section
variable{X:Cx}
theorem a7j(hc:X.calm=true)(S:CSc X aB cl ts fr ix)(hi:PI X tg aF wi)
  (hg:∀C fp s H,PG (cxC X (ts++fr) aB cl C fp s H) tg g) (he:∀C fp s H,PE (cxC X (ts++fr) aB cl C fp s H) aD te) (ht:∀C fp s H,PT (cxC X (ts++fr) aB cl C fp s H) cnd tc) (hs:∀x,foldedSetIterable aF X.env x=pure x)
  (use:Option (Value->Sem Unit)) (I:Inv X aA Z H s) (h:a1v wi (my ts.length ix) g tc te Z H Q) (fin:a2r X aA Z use Q Qf) :
  wpAny (model X.prog X.w) X.A (comprehension (.ListComp aD [⟨tg,aF,[cnd],0⟩] aB pos) aB X.env ppos (newList []) false (eval aF X.env) use) Qf X.xe s :=
 a91 (cnd:=some cnd) hc S hi hg he ht hs use I h fin
theorem ah5(hc:X.calm=true)(S:CSc X aB cl ts fr ix)(hi:PI X tg aF wi)
  (hg:∀C fp s H,PG (cxC X (ts++fr) aB cl C fp s H) tg g) (he:∀C fp s H,PE (cxC X (ts++fr) aB cl C fp s H) aD te) (ht:∀C fp s H,PT (cxC X (ts++fr) aB cl C fp s H) cnd tc)
  (hs:∀x,foldedSetIterable aF X.env x=pure x:=by intro _;rfl) :
  PE X (.ListComp aD [⟨tg,aF,[cnd],0⟩] aB pos) (a1v wi (my ts.length ix) g tc te):=by
 intro aA s Z H Q I h
 rw[iI];exact a7j hc S hi hg he ht hs none I h a6q
theorem ah6{spos:Pos}(hN:X.N.Nodup)(hi':X.N[i]? = some x)(hx:Loc X.env.scope x)(hc:X.calm=true)(S:CSc X aB cl ts fr ix)(hi:PI X tg aF wi)
  (hg:∀C fp s H,PG (cxC X (ts++fr) aB cl C fp s H) tg g) (he:∀C fp s H,PE (cxC X (ts++fr) aB cl C fp s H) aD te) (ht:∀C fp s H,PT (cxC X (ts++fr) aB cl C fp s H) cnd tc)
  (hs:∀x,foldedSetIterable aF X.env x=pure x:=by intro _;rfl) (hsw:swapsWith (.ListComp aD [⟨tg,aF,[cnd],0⟩] aB pos) (some (.Name x pos')) spos.line X.env=pure true:=by rfl) (hf:Hf X x:=by first|exact .inl rfl|exact .inr rfl|assumption) :
  PS X (.Assign [.Name x pos'] (.ListComp aD [⟨tg,aF,[cnd],0⟩] aB pos) spos) (awj (a1v wi (my ts.length ix) g tc te) (a05 i)):=by
 intro aA s Z H D I h
 rw[gG _ _ _ _ hsw];refine ae (dY (ae ?_));refine ae (bL (a7j hc S hi hg he ht hs (some (assign (.Name x pos') X.env)) I h (aa0 hN hi' hx hf)) (λ_ s' hq=>av (av hq)) λ_ _ e=>e)
end
section
variable{X:Cx}
theorem a4e:OpR X (compareOp .In) (λx y H Q=>∃c T,x=.str ⟨#[c]⟩/\y=.str T/\Q (.bl (decide (c∈T.cps.toList))) H):=by
 intro aA s Z H x y v u Q I rx ry h
 obtain⟨c,T,rfl,rfl,q⟩:=h;exact aii aA s Z H _ _ v u Q I rx ry ⟨_,_,rfl,rfl,by rw[StrLaws.found_one];exact q⟩
theorem a3i:OpR X (compareOp .NotIn) (λx y H Q=>∃c T,x=.str ⟨#[c]⟩/\y=.str T/\Q (.bl (!decide (c∈T.cps.toList))) H):=by
 intro aA s Z H x y v u Q I rx ry h
 obtain⟨c,T,rfl,rfl,q⟩:=h;exact abk aA s Z H _ _ v u Q I rx ry ⟨_,_,rfl,rfl,by rw[StrLaws.found_one];exact q⟩
theorem asq{zs:List Str}:∀{us:List Value},Vals (zs.map V.str) us->StrsAre us zs:=by
 induction zs with
 |nil=>intro us r;rw[cM]at r;cases r;exact .nil
 |cons z zs ih =>
  intro us r
  rw[aZ]at r
  cases r with
  |cons r1 r2 =>
   obtain⟨t,e⟩:=r1;subst e;exact .cons z t (ih r2)
theorem aj5:MtR X "str.join" (λx xs H Q=>∃sep p zs,x=.str sep/\xs=[.ref p]/\SqL X.K H p (zs.map V.str)/\(zs.map (·.length)).sum+zs.length*sep.length<=16777216/\Q (.str (Txt.join sep zs)) H):=by
 intro aA s Z H x xs v us Q I rx rs h
 obtain⟨sep,p,zs,rfl,rfl,hp,hz,q⟩:=h;obtain⟨t,rfl⟩:=rx;obtain⟨u,rfl,ru⟩:=vals1 rs;cases ru
 obtain⟨its,r,pl,_⟩:=I.list hp;exact join_list pl.isList (by simpa using asq r) hz λt' k=>⟨.str _,H,I.tok _,⟨_,rfl⟩,q⟩
end
theorem CSc.of{X:Cx}{ts fr:List Str}{ix:List Nat}(clos:closureFor aB X.env=pure cl)(kind:aB.kind=.function)
  (nocell:(aB.names.all λp=>p.2 != .cell)=true) (names:(aB.names.all λp=>p.2 != .local || aB.names.lookup p.1 == some .local)=true) (sub:∀p∈cl,X.env.cells.lookup p.1=some p.2)
  (has:((relabel aB X.env).names.all λp => !(p.2 == .cell || p.2 == .free) || (cl.lookup p.1).isSome)=true) (nofn:(ts.all λy=>(relabel aB X.env).names.lookup y == some .local)=true)
  (len:ix.length=fr.length) (vis:((fr.zip ix).all λp=>X.N[p.2]? == some p.1 && (X.env.kindOf p.1 == some .cell || X.env.kindOf p.1 == some .free) && ((relabel aB X.env).names.lookup p.1 == some .cell || (relabel aB X.env).names.lookup p.1 == some .free))=true) :
  CSc X aB cl ts fr ix:=by
 refine⟨clos,kind,λy hy=>?_,λy hy e=>?_,λy c e=>sub _ (cb e),λy z=>?_,λy hy=>?_,len,λj y e=>?_⟩
 .have:=bN.mp nocell y hy
  simpa using this
 .have:=bN.mp names y hy
  rw[e]at this;simpa using this
 .have key:∀k,(relabel aB X.env).names.lookup y=some k->(k == .cell || k == .free)=true->∃c,cl.lookup y=some c:=λk e hk=>by
   have:=bN.mp has _ (cb e)
   rw[hk]at this;exact fM.mp (by simpa using this)
  rcases z with z|z
  .exact key _ z rfl
  .exact key _ z rfl
 .have:=bN.mp nofn y hy
  simpa using this
 .obtain⟨hj,_⟩:=ai.mp e;have hj2:j<ix.length:=by omega
  have hm:(y,ix[j])∈fr.zip ix:=by
   rw[List.mem_iff_getElem?];exact⟨j,by rw[fE];exact⟨e,ag hj2⟩⟩
  have:=bN.mp vis _ hm
  simp only[bM,bS,eD]at this;exact⟨ix[j],ag hj2,this.1.1,this.1.2,this.2⟩
def tSM(r:V->List V->Hp->VK->Prop)(to:TE)(t:TA):TE:=λZ H Q=>to Z H λx H1=>(∃z,x=.str z)/\t Z H1 λxs H2=>r x xs H2 Q
theorem b2m{X:Cx}{o e:Expr}{es:List Expr}{to:TE}{t:TA}{name:Str}{apos cpos:Pos}{id:String}{r:V->List V->Hp->VK->Prop}(slot:Slot "str" name id)(hty:typeOf (.builtin id)=pure (.type "method_descriptor"))(hm:MtR X id r)(ho:PE X o to)(ha:PA X (e::es) t)
  (hbase:attributeBase o name X.env (eval o X.env)=eval o X.env:=by rfl)
  (hfew:((backTo cpos (starEach (e::es) X.env)).all (λx => !x.1) && (backToKw cpos (keywordEach [] X.env)).all (λx=>x.1.isSome)
   && decide ((e::es).length+([]:List Keyword).length+(if ([]:List Keyword).isEmpty then 0 else 1)<30))=true:=by rfl)
  (hline:(apos.endLine == cpos.line)=true:=by rfl) (hs:starEach (e::es) X.env=(false,eval e X.env)::starEach es X.env:=by rfl) (hplain:(backTo cpos (starEach es X.env)).any (·.1)=false:=by rfl) :
  PE X (.Call (.Attribute o name apos) (e::es) [] cpos) (tSM r to t):=by
 intro aA s Z H Q I h
 refine wpAny_Call_method_late hbase hfew hline rfl (thn (ho aA s Z H _ I h) λv s1 ⟨x,H1,I1,r1,⟨z,hz⟩,q1⟩=>?_);subst hz;obtain⟨h1,h2⟩:=aq0 (T := "str") I1 r1 rfl;refine⟨"str",id,PySem.F.plainAttrs_str,slot,hty,h1,h2,?_⟩;have hA:=ha cpos aA s1 Z H1 _ I1 q1;rw[hs]at hA ⊢;refine Calls.callWith_builtin (by show(false || (backTo cpos (starEach es X.env)).any (·.1))=false;rw[hplain]<;>rfl) (Calls.evalArgs_plain ?_)
 exact thn hA λus s2 ⟨vs,H2,I2,r2,q2⟩=>hm aA s2 Z H2 _ vs v us Q I2 r1 r2 q2
section
variable{X:Cx}
theorem a5l(hc:X.calm=true):CallR X (.builtin "sum") (λxs H Q=>∃(p:Addr) (ns:List Int),xs=[.ref p]/\SqL X.K H p (ns.map V.int)/\Q (.int ns.sum) H):=by
 intro aA s Z H xs us Q I r h
 obtain⟨p,ns,rfl,hq,q⟩:=h;obtain⟨u,rfl,rx⟩:=vals1 r;cases rx
 obtain⟨its,r',pl,hz⟩:=I.list hq;have hInts:IntsAre its ns:=intsAre_of r';obtain⟨prs,ep⟩:=hInts.allInts.items;refine sum_intListG (xs:=prs) (I.ok.hd hc) (ep ▸ pl.isList) λh' tk t' hk=>⟨.int ns.sum,H,I.kept hk,⟨t',?_⟩,q⟩;have nums:prs.toList.map (·.1)=ns:=by
  rw[<-nums_intItems,<-ep];exact hInts.numsOf
 have tot:preSum (numAt prs) prs.size=ns.sum:=by
  rw[preSum_eq,<-nums]
  congr 1
  exact cC (by simp)
 rw[tot]
end
open PySem.AutoSeq1 in
theorem a7k(l b:Addr)(xs ys:Array Value)(n m:Nat)(dd:Option Addr)(sl:Array (Option Value))(long:¬(!xs.isEmpty && Builtin.List.listTooLong (xs.size+ys.size))=true)(fit1:xs.size<=sizeLine)(fit2:xs.size+ys.size<=sizeLine+1) :
  Meets (Builtin.«list.extend» ⟨[.ref l,.ref b],[]⟩) (λ_ R s=>(s.heap.get? l=some {cls:=.type "list",dict:=none,data:=.seq xs n,slots := #[]}/\s.heap.get? b=some {cls:=.type "tuple",dict:=dd,data:=.seq ys m,slots:=sl})/\R (.ok (.ret Value.none)) {s with heap:=s.heap.update l (Obj.mapSeq (·++ys))}) :=
 .of_wp λprog w A R ⟨hp,gn,dr,tk,os⟩ ⟨⟨hl,hb⟩,q⟩=>by
  have a1:=idx_int;have a2:=AutoSeq1.sub_tuple_tuple;have a3:=AutoSeq1.sub_list_list;have a4:=AutoSeq1.sub_tuple_list;have a5:=AutoSeq1.sub_list_tuple;have both:(xs++ys).size<=sizeLine+1:=by simpa using fit2
  wp_walk using iZ hl rfl (hz:=fit1) (_hz':=both),wpAny_loadPart' hl,wpAny_loadPart' hb
  exact⟨_,rfl,q⟩
section
variable{X:Cx}
def af8(K:Fg):V->List V->Hp->VK->Prop:=λx vs H Q=>∃l b xs zs,x=.ref l/\vs=[.ref b]/\H l=some (.lst xs)/\SqT K H b zs/\xs.length+zs.length<=sizeLine/\Q .non (upd H l (.lst (xs++zs)))
theorem a3j:MtM X "list.extend" (af8 X.K):=by
 intro aA s Z H x vs v us Q I rx rv h
 obtain⟨l,b,xs,zs,rfl,rfl,hH,hB,hz,q⟩:=h;cases rx
 obtain⟨u,rfl,ru⟩:=rv.one;cases ru
 obtain⟨z,its,n,r,hl,e⟩:=I.lstM hH;obtain⟨its2,r2,p2,_⟩:=I.tuple hB;have hl2:=r2.length;obtain⟨⟨cls,dd,data,sl⟩,e2,hc,hrest⟩:=id p2;have hsz:its.toArray.size+its2.toArray.size<=sizeLine:=by rw[ay,ay];omega
 have hlong:¬ (!its.toArray.isEmpty && Builtin.List.listTooLong (its.toArray.size+its2.toArray.size))=true:=by
  rw[a6p hsz,i7];exact aX
 obtain⟨n2,hd⟩:=(show ∃n2,data=.seq its2.toArray n2 from by first|exact hrest|exact⟨_,hrest.2⟩|(obtain⟨_,n,hd⟩:=hrest;exact⟨n,hd⟩))
 have hc':cls=.type "tuple":=hc;subst hc' hd;refine dW F.slot_list_extend ⟨_,e,rfl⟩ F.entry_list_extend (F.args_list_extend_2 _ _)
  (a7k l b its.toArray its2.toArray n n2 dd sl hlong (by rw[ay];omega) (by omega)) ⟨⟨e,e2⟩,?_⟩
 refine⟨.non,_,I.lset (its':=its++its2) hH e (by simp) (r.append r2) ?_,rfl,q⟩
 rw[ah];omega
end
end L2
namespace MI
open L2
inductive D where
 |non|bl (b:Bool)|int (i:Int)|str (x:Str)|ty (n:String)|tup (xs:List D)|rol (xs:List D)|ref (i:Nat)|scr (xs:List D)|rod (ks:List Key) (xs:List D)|rdT (ks:List (List Key)) (xs:List D)|exc (c:Str)|ins (c:Str) (ks:List Str) (xs:List D)
inductive O where
 |lst (xs:List D)|dK (kvs:List (Key×D))|dT (kvs:List (List Key×D))|ins (c:Str) (fs:List (Str×D))
abbrev Hd:=List O
abbrev Sd:=List (Option D)
inductive R (α:Type) where
 |ok (a:α) (h:Hd)|ex (c:Str) (h:Hd)|no
noncomputable def R.bind{α β:Type}:R α->(α->Hd->R β)->R β
 |.ok a h,k=>k a h
 |.ex c h,_=>.ex c h
 |.no,_=>.no
inductive Fl where
 |nx (Z:Sd) (h:Hd)|rt (d:D) (h:Hd)|bk (Z:Sd) (h:Hd)|ct (Z:Sd) (h:Hd)|ex (c:Str) (h:Hd)|no
noncomputable def R.fl{α:Type}:R α->(α->Hd->Fl)->Fl
 |.ok a h,k=>k a h
 |.ex c h,_=>.ex c h
 |.no,_=>.no
abbrev SE:=Sd->Hd->R D
abbrev ST:=Sd->Hd->R Bool
abbrev SA:=Sd->Hd->R (List D)
abbrev SS:=Sd->Hd->Fl
def SqF(K:Fg)(H:Hp)(a:Addr)(vs:List V):Prop:=(∃o,H a=some (.frz o (.lst vs)))\/SqL K (λ_=>none) a vs
theorem SqF.l(h:SqF K H a vs):SqL K H a vs:=by
 rcases h with⟨o,h⟩|h
 .exact .inl (.inr ⟨o,h⟩)
 .rcases h with(h|⟨o,h⟩)|h
  .cases h
  .cases h
  .exact .inr h
def SqZ(H:Hp)(a:Addr)(vs:List V):Prop:=∃o,H a=some (.frz o (.lst vs))
theorem SqZ.l(h:SqZ H a vs):SqL K H a vs:=let ⟨o,e⟩:=h; .inl (.inr ⟨o,e⟩)
def exO(a:Addr):HO:=.ext λh=>∃o,h.get? a=some o
mutual
inductive Rep (K:Fg) (U:List Addr) (H:Hp):V->D->Prop
 |non:Rep K U H .non .non
 |bl (b:Bool):Rep K U H (.bl b) (.bl b)
 |int (i:Int):Rep K U H (.int i) (.int i)
 |str (x:Str):Rep K U H (.str x) (.str x)
 |ty (n:String):Rep K U H (.ty n) (.ty n)
 |tup {a:Addr} {vs:List V} {xs:List D} (h:H a=some (.tup vs)) (r:Reps K U H vs xs):Rep K U H (.ref a) (.tup xs)
 |rol {a:Addr} {vs:List V} {xs:List D} (h:SqZ H a vs) (r:Reps K U H vs xs):Rep K U H (.ref a) (.rol xs)
 |scr {a:Addr} {vs:List V} {xs:List D} (h:SqF K H a vs) (r:Reps K U H vs xs):Rep K U H (.ref a) (.scr xs)
 |ref {a:Addr} {i:Nat} (h:U[i]? = some a):Rep K U H (.ref a) (.ref i)
 |rod {a:Addr} {o:Obj} {us:List (Key×V)} {ks:List Key} {xs:List D} (h:H a=some (.frz o (.dK us))) (e:us.map (·.1)=ks) (r:Reps K U H (us.map (·.2)) xs):Rep K U H (.ref a) (.rod ks xs)
 |rdT {a:Addr} {o:Obj} {us:List (List Key×V)} {ks:List (List Key)} {xs:List D} (h:H a=some (.frz o (.dT us))) (e:us.map (·.1)=ks) (r:Reps K U H (us.map (·.2)) xs):Rep K U H (.ref a) (.rdT ks xs)
 |exc {a C:Addr} {o:Obj} {c:Str} (h:H a=some (.frz o (exO a))) (hc:o.cls=.ref C) (hn:PySem.W.nsIn K mainGlobals c=some (some (.ref C))):Rep K U H (.ref a) (.exc c)
 |ins {a C dx:Addr} {o:Obj} {c:Str} {us:List (Str×V)} {ks:List Str} {xs:List D} (h:H a=some (.frz o (.ins C dx us))) (hn:PySem.W.nsIn K mainGlobals c=some (some (.ref C))) (e:us.map (·.1)=ks) (r:Reps K U H (us.map (·.2)) xs):Rep K U H (.ref a) (.ins c ks xs)
inductive Reps (K:Fg) (U:List Addr) (H:Hp):List V->List D->Prop
 |nil:Reps K U H [] []
 |cons {v:V} {d:D} {vs:List V} {ds:List D} (r:Rep K U H v d) (rs:Reps K U H vs ds):Reps K U H (v::vs) (d::ds)
end
structure Gw (U:List Addr) (H:Hp) (U':List Addr) (H':Hp):Prop where
 pre:∃m,U'=U++m
 tup:∀a vs,H a=some (.tup vs)->H' a=some (.tup vs)
 frz:∀a o u,H a=some (.frz o u)->H' a=some (.frz o u)
structure Gr (U:List Addr) (H:Hp) (U':List Addr) (H':Hp):Prop where
 pre:∃m,U'=U++m/\∀a∈m,H a=none
 tup:∀a vs,H a=some (.tup vs)->H' a=some (.tup vs)
 frz:∀a o u,H a=some (.frz o u)->H' a=some (.frz o u)
 oth:∀a u,H a=some u->a∉U->H' a=some u
 kp:∀a u,H a=some u->∃u',H' a=some u'
theorem Gr.w(g:Gr U H U' H'):Gw U H U' H':=⟨let ⟨m,e,_⟩:=g.pre; ⟨m,e⟩,g.tup,g.frz⟩
theorem Gr.refl(U:List Addr)(H:Hp):Gr U H U H:=⟨⟨[],by simp,by simp⟩,λ_ _ h=>h,λ_ _ _ h=>h,λ_ _ h _=>h,λ_ u h=>⟨u,h⟩⟩
theorem Gr.trans(a:Gr U H U1 H1)(b:Gr U1 H1 U2 H2):Gr U H U2 H2:=by
 obtain⟨m,rfl,hm⟩:=a.pre;obtain⟨n,rfl,hn⟩:=b.pre;refine⟨⟨m++n,by simp,λx hx=>?_⟩,λx vs h=>b.tup x vs (a.tup x vs h),λx o u h=>b.frz x o u (a.frz x o u h),λx u h hx=>?_,λx u h=>?_⟩
 .rcases bq.mp hx with hx|hx
  .exact hm x hx
  .cases e:H x with
   |none=>rfl
   |some u =>
    obtain⟨u',e'⟩:=a.kp x u e;rw[hn x hx]at e';cases e'
 .refine b.oth x u (a.oth x u h hx) λz=>?_
  rcases bq.mp z with z|z
  .exact hx z
  .rw[hm x z]at h;cases h
 .obtain⟨u',e⟩:=a.kp x u h;exact b.kp x u' e
theorem Gw.at(g:Gw U H U' H'){i:Nat}(h:U[i]? = some a):U'[i]? = some a:=by
 obtain⟨m,rfl⟩:=g.pre;rw[aV (ai.mp h).1];exact h
theorem Gr.at(g:Gr U H U' H'){i:Nat}(h:U[i]? = some a):U'[i]? = some a:=g.w.at h
theorem SqF.monoW(g:Gw U H U' H')(h:SqF K H a vs):SqF K H' a vs:=by
 rcases h with⟨o,h⟩|h
 .exact .inl ⟨o,g.frz _ _ _ h⟩
 .exact .inr h
theorem SqZ.monoW(g:Gw U H U' H')(h:SqZ H a vs):SqZ H' a vs:=let ⟨o,e⟩:=h; ⟨o,g.frz _ _ _ e⟩
theorem SqZ.mono(g:Gr U H U' H')(h:SqZ H a vs):SqZ H' a vs:=h.monoW g.w
mutual
theorem Rep.monoW(g:Gw U H U' H'):∀{v:V} {d:D},Rep K U H v d->Rep K U' H' v d
 |_,_,.non=>.non
 |_,_,.bl b=>.bl b
 |_,_,.int i=>.int i
 |_,_,.str x=>.str x
 |_,_,.ty n=>.ty n
 |_,_,.tup h r=>.tup (g.tup _ _ h) (Reps.monoW g r)
 |_,_,.rol h r=>.rol (h.monoW g) (Reps.monoW g r)
 |_,_,.scr h r=>.scr (h.monoW g) (Reps.monoW g r)
 |_,_,.ref h=>.ref (g.at h)
 |_,_,.rod h e r=>.rod (g.frz _ _ _ h) e (Reps.monoW g r)
 |_,_,.rdT h e r=>.rdT (g.frz _ _ _ h) e (Reps.monoW g r)
 |_,_,.exc h hc hn=>.exc (g.frz _ _ _ h) hc hn
 |_,_,.ins h hn e r=>.ins (g.frz _ _ _ h) hn e (Reps.monoW g r)
theorem Reps.monoW(g:Gw U H U' H'):∀{vs:List V} {ds:List D},Reps K U H vs ds->Reps K U' H' vs ds
 |_,_,.nil=>.nil
 |_,_,.cons r rs=>.cons (Rep.monoW g r) (Reps.monoW g rs)
end
theorem Rep.mono(g:Gr U H U' H')(r:Rep K U H v d):Rep K U' H' v d:=r.monoW g.w
theorem Reps.mono(g:Gr U H U' H')(r:Reps K U H vs ds):Reps K U' H' vs ds:=r.monoW g.w
section
variable{K:Fg}{U:List Addr}{H:Hp}
theorem Reps.len:Reps K U H vs ds->vs.length=ds.length
 |.nil=>rfl
 |.cons _ rs=>by rw[aN,aN,rs.len]
theorem Reps.get:∀{vs:List V} {ds:List D} {i:Nat} {d:D},Reps K U H vs ds->ds[i]? = some d->∃v,vs[i]? = some v/\Rep K U H v d
 |_,_,_,_,.nil,e=>by simp at e
 |_,_,0,_,.cons r _,e=>by simp at e;subst e;exact⟨_,rfl,r⟩
 |_,_,i+1,d,.cons _ rs,e=>by
  obtain⟨u,h1,h2⟩:=Reps.get (i:=i) (d:=d) rs (by simpa using e)
  exact⟨u,by simpa using h1,h2⟩
theorem Reps.app:∀{vs us:List V} {ds es:List D},Reps K U H vs ds->Reps K U H us es->Reps K U H (vs++us) (ds++es)
 |_,_,_,_,.nil,s=>s
 |_,_,_,_,.cons r rs,s=>.cons r (Reps.app rs s)
theorem Reps.set(q:Rep K U H v d):∀{vs:List V} {ds:List D} (i:Nat),Reps K U H vs ds->Reps K U H (vs.set i v) (ds.set i d)
 |_,_,_,.nil=>.nil
 |_,_,0,.cons _ rs=>.cons q rs
 |_,_,i+1,.cons r rs=>.cons r (Reps.set q i rs)
theorem Reps.take:∀{vs:List V} {ds:List D} (n:Nat),Reps K U H vs ds->Reps K U H (vs.take n) (ds.take n)
 |_,_,0,_=>.nil
 |_,_,_+1,.nil=>.nil
 |_,_,n+1,.cons r rs=>.cons r (Reps.take n rs)
theorem Reps.drop:∀{vs:List V} {ds:List D} (n:Nat),Reps K U H vs ds->Reps K U H (vs.drop n) (ds.drop n)
 |_,_,0,r=>r
 |_,_,_+1,.nil=>.nil
 |_,_,n+1,.cons _ rs=>Reps.drop n rs
theorem Reps.snoc(r:Reps K U H vs ds)(q:Rep K U H v d):Reps K U H (vs++[v]) (ds++[d]):=r.app (.cons q .nil)
theorem Reps.flat:∀{vs:List V} {ds:List D} (k:Nat),Reps K U H vs ds->Reps K U H (List.replicate k vs).flatten (List.replicate k ds).flatten
 |_,_,0,_=>.nil
 |vs,ds,k+1,r=>by
  rw[bA,bA,cv,cv];exact r.app (Reps.flat k r)
end
def KRep{κ:Type}(K:Fg)(U:List Addr)(H:Hp)(us:List (κ×V))(kvs:List (κ×D)):Prop:=us.map (·.1)=kvs.map (·.1)/\Reps K U H (us.map (·.2)) (kvs.map (·.2))
def ORep(K:Fg)(U:List Addr)(H:Hp)(a:Addr):O->Prop
 |.lst xs=>∃vs,H a=some (.lst vs)/\Reps K U H vs xs
 |.dK kvs=>∃us,H a=some (.dK us)/\KRep K U H us kvs
 |.dT kvs=>∃us,H a=some (.dT us)/\KRep K U H us kvs
 |.ins c fs=>∃C dx us,H a=some (.ins C dx us)/\PySem.W.nsIn K mainGlobals c=some (some (.ref C))/\KRep K U H us fs
structure HRep (K:Fg) (U:List Addr) (H:Hp) (h:Hd):Prop where
 nd:U.Nodup
 len:U.length=h.length
 obj:∀(i:Nat) (a:Addr) (o:O),U[i]? = some a->h[i]? = some o->ORep K U H a o
section
variable{K:Fg}{U:List Addr}{H:Hp}{h:Hd}
theorem ORep.some(r:ORep K U H a o):∃u,H a=some u/\(∀vs,u≠.tup vs)/\(∀o' u',u≠.frz o' u'):=by
 cases o with
 |lst xs=>obtain⟨vs,e,_⟩:=r;exact⟨_,e,λ_ z=>(by cases z),λ_ _ z=>(by cases z)⟩
 |dK kvs=>obtain⟨us,e,_⟩:=r;exact⟨_,e,λ_ z=>(by cases z),λ_ _ z=>(by cases z)⟩
 |dT kvs=>obtain⟨us,e,_⟩:=r;exact⟨_,e,λ_ z=>(by cases z),λ_ _ z=>(by cases z)⟩
 |ins c fs=>obtain⟨C,dx,us,e,_⟩:=r;exact⟨_,e,λ_ z=>(by cases z),λ_ _ z=>(by cases z)⟩
theorem HRep.at(r:HRep K U H h){i:Nat}(e:U[i]? = some a):∃o,h[i]? = some o/\ORep K U H a o:=by
 have hi:i<h.length:=by rw[<-r.len];exact(ai.mp e).1
 exact⟨h[i],ag hi,r.obj i a _ e (ag hi)⟩
theorem HRep.addr(r:HRep K U H h){i:Nat}(e:h[i]? = some o):∃a,U[i]? = some a/\ORep K U H a o:=by
 have hi:i<U.length:=by rw[r.len];exact(ai.mp e).1
 exact⟨U[i],ag hi,r.obj i _ o (ag hi) e⟩
theorem HRep.notin(r:HRep K U H h)(e:H p=none):p∉U:=λz=>by
 obtain⟨i,hi⟩:=cL z;obtain⟨o,_,q⟩:=r.at hi;obtain⟨u,q,_⟩:=q.some;rw[e]at q;cases q
theorem ORep.monoW(g:Gw U H U' H')(e:H' a=H a)(r:ORep K U H a o):ORep K U' H' a o:=by
 cases o with
 |lst xs=>obtain⟨vs,h1,h2⟩:=r;exact⟨vs,by rw[e];exact h1,h2.monoW g⟩
 |dK kvs=>obtain⟨us,h1,h2,h3⟩:=r;exact⟨us,by rw[e];exact h1,h2,h3.monoW g⟩
 |dT kvs=>obtain⟨us,h1,h2,h3⟩:=r;exact⟨us,by rw[e];exact h1,h2,h3.monoW g⟩
 |ins c fs=>obtain⟨C,dx,us,h1,hn,h2,h3⟩:=r;exact⟨C,dx,us,by rw[e];exact h1,hn,h2,h3.monoW g⟩
theorem ORep.mono(g:Gr U H U' H')(e:H' a=H a)(r:ORep K U H a o):ORep K U' H' a o:=r.monoW g.w e
theorem a2n(e:H p=none)(o:HO):Gr U H U (upd H p o) :=
 ⟨⟨[],by simp,by simp⟩,λa vs h=>by rw[je (iu h e)];exact h,λa o u h=>by rw[je (iu h e)];exact h,λa u h _=>by rw[je (iu h e)];exact h,λa u h=>⟨u,by rw[je (iu h e)];exact h⟩⟩
theorem HRep.aside(r:HRep K U H h)(e:H p=none)(o:HO):HRep K U (upd H p o) h:=by
 refine⟨r.nd,r.len,λi a o' e1 e2=>?_⟩;have q:=r.obj i a o' e1 e2;obtain⟨u,hu,_⟩:=q.some;exact q.mono (a2n e o) (je (iu hu e))
theorem ac0(e:H p=none)(o:HO):Gr U H (U++[p]) (upd H p o) :=
 ⟨⟨[p],rfl,by simpa using e⟩,(a2n (U:=U) e o).tup,(a2n (U:=U) e o).frz,(a2n (U:=U) e o).oth,(a2n (U:=U) e o).kp⟩
theorem HRep.add(r:HRep K U H h)(e:H p=none)(q:ORep K (U++[p]) (upd H p o) p ob):HRep K (U++[p]) (upd H p o) (h++[ob]):=by
 refine⟨?_,by simp[r.len],λi a o' e1 e2=>?_⟩
 .rw[cK];exact⟨r.nd,by simp,λa ha b hb z=>r.notin e (by rw[ax.mp hb]at z;rw[<-z];exact ha)⟩
 .by_cases hi:i<U.length
  .rw[aV hi]at e1;rw[aV (by rw[<-r.len];exact hi)]at e2
   have q:=r.obj i a o' e1 e2;obtain⟨u,hu,_⟩:=q.some;exact q.mono (ac0 e o) (je (iu hu e))
  .have hi2:i<(U++[p]).length:=(ai.mp e1).1;have:i=U.length:=by simp at hi2;omega
   subst this;rw[aK (aw _)]at e1;rw[r.len,aK (aw _)]at e2;simp at e1 e2;subst e1 e2;exact q
theorem a7l{i:Nat}(r:HRep K U H h)(e:U[i]? = some a)(o:HO):Gr U H U (upd H a o):=by
 obtain⟨_,_,q⟩:=r.at e;obtain⟨u,hu,n1,n2⟩:=q.some;refine⟨⟨[],by simp,by simp⟩,λb vs hb=>?_,λb o' u' hb=>?_,λb u' hb hn=>?_,λb u' hb=>?_⟩
 .rw[je (λz=>by subst z;rw[hu]at hb;exact n1 _ (bP hb))];exact hb
 .rw[je (λz=>by subst z;rw[hu]at hb;exact n2 _ _ (bP hb))];exact hb
 .rw[je (λz=>hn (by subst z;exact bG e))];exact hb
 .by_cases z:b=a
  .subst z;exact⟨o,qw⟩
  .exact⟨u',by rw[je z];exact hb⟩
theorem HRep.put(r:HRep K U H h){i:Nat}(e:U[i]? = some a)(q:ORep K U (upd H a o) a ob):HRep K U (upd H a o) (h.set i ob):=by
 refine⟨r.nd,by rw[iY];exact r.len,λj b o' e1 e2=>?_⟩
 by_cases hj:i=j
 .subst hj;rw[e]at e1;cases e1
  have hi:i<h.length:=by rw[<-r.len];exact(ai.mp e).1
  rw[cQ hi]at e2;cases e2
  exact q
 .rw[eL hj]at e2;have hne:b≠a:=λz=>by
   subst z;obtain⟨h1,g1⟩:=ai.mp e;obtain⟨h2,g2⟩:=ai.mp e1;have np:=cR.mp r.nd
   rcases i3 hj with l|l
   .exact np i j h1 h2 l (g1.trans g2.symm)
   .exact np j i h2 h1 l (g2.trans g1.symm)
  exact(r.obj j b o' e1 e2).mono (a7l r e o) (je hne)
end
structure SRep (K:Fg) (U:List Addr) (H:Hp) (Z:St) (τ:Sd):Prop where
 len:Z.length=τ.length
 val:∀(i:Nat) (d:D),τ[i]? = some (some d)->∃v,Z[i]? = some (some v)/\Rep K U H v d
theorem SRep.mono(g:Gr U H U' H')(s:SRep K U H Z τ):SRep K U' H' Z τ :=
 ⟨s.len,λi d e=>let ⟨v,h1,h2⟩:=s.val i d e; ⟨v,h1,h2.mono g⟩⟩
theorem SRep.set(s:SRep K U H Z τ)(r:Rep K U H v d)(i:Nat):SRep K U H (Z.set i (some v)) (τ.set i (some d)):=by
 refine⟨by simp[s.len],λj d' e=>?_⟩
 by_cases hj:i=j
 .subst hj;have hi:i<τ.length:=by
   have:=(ai.mp e).1
   simpa using this
  rw[cQ hi]at e;cases e
  exact⟨v,by rw[cQ (by rw[s.len];exact hi)],r⟩
 .rw[eL hj]at e ⊢;exact s.val j d' e
abbrev XD:=Str->List Addr->Hp->Hd->Prop
def out{α β:Type}(K:Fg)(E:XD)(Rp:List Addr->Hp->β->α->Prop)(U:List Addr)(H:Hp)(r:R α)(Q:β->Hp->Prop):Prop :=
 match r with
 |.ok a h=>∀U' H' b,Gr U H U' H'->Rp U' H' b a->HRep K U' H' h->Q b H'
 |.ex c h=>∀U' H',Gr U H U' H'->HRep K U' H' h->E c U' H' h
 |.no=>False
theorem a3k{α β:Type}{K:Fg}{E:XD}{Rp:List Addr->Hp->β->α->Prop}{U U1:List Addr}{H H1:Hp}{r:R α}{Q:β->Hp->Prop}(o:out K E Rp U H r Q)(g:Gr U H U1 H1):out K E Rp U1 H1 r Q:=by
 cases r with
 |ok a h=>exact λU' H' b g'=>o U' H' b (g.trans g')
 |ex c h=>exact λU' H' g'=>o U' H' (g.trans g')
 |no=>exact o
theorem dj{α β γ δ:Type}{K:Fg}{E:XD}{Rp:List Addr->Hp->β->α->Prop}{Sp:List Addr->Hp->δ->γ->Prop}{U:List Addr}{H:Hp}{r:R α}{k:α->Hd->R γ}{Q:δ->Hp->Prop}{P:β->Hp->Prop}
  (o:out K E Sp U H (r.bind k) Q) (hP:∀a h U1 H1 b,Gr U H U1 H1->Rp U1 H1 b a->HRep K U1 H1 h->out K E Sp U1 H1 (k a h) Q->P b H1):out K E Rp U H r P:=by
 cases r with
 |ok a h=>exact λU' H' b g r' hr=>hP a h U' H' b g r' hr (a3k o g)
 |ex c h=>exact o
 |no=>exact o
abbrev zj(K:Fg):List Addr->Hp->V->D->Prop:=λU H v d=>Rep K U H v d
abbrev b59(K:Fg):List Addr->Hp->List V->List D->Prop:=λU H v d=>Reps K U H v d
abbrev adl:List Addr->Hp->Bool->Bool->Prop:=λ_ _ a b=>a=b
abbrev b5a:List Addr->Hp->Option Int->Option Int->Prop:=λ_ _ a b=>a=b
def amk(K:Fg)(E:XD)(U:List Addr)(H:Hp)(r:Fl)(N:Ends):Prop :=
 match r with
 |.nx τ h=>∀U' H' Z,Gr U H U' H'->SRep K U' H' Z τ->HRep K U' H' h->N.nx Z H'
 |.bk τ h=>∀U' H' Z,Gr U H U' H'->SRep K U' H' Z τ->HRep K U' H' h->N.bk Z H'
 |.ct τ h=>∀U' H' Z,Gr U H U' H'->SRep K U' H' Z τ->HRep K U' H' h->N.ct Z H'
 |.rt d h=>∀U' H' v,Gr U H U' H'->Rep K U' H' v d->HRep K U' H' h->N.rt v H'
 |.ex c h=>∀U' H',Gr U H U' H'->HRep K U' H' h->E c U' H' h
 |.no=>False
theorem xu(o:amk K E U H r N)(g:Gr U H U1 H1):amk K E U1 H1 r N:=by
 cases r with
 |nx τ h=>exact λU' H' b g'=>o U' H' b (g.trans g')
 |bk τ h=>exact λU' H' b g'=>o U' H' b (g.trans g')
 |ct τ h=>exact λU' H' b g'=>o U' H' b (g.trans g')
 |rt d h=>exact λU' H' b g'=>o U' H' b (g.trans g')
 |ex c h=>exact λU' H' g'=>o U' H' (g.trans g')
 |no=>exact o
theorem xj{α β:Type}{K:Fg}{E:XD}{Rp:List Addr->Hp->β->α->Prop}{U:List Addr}{H:Hp}{r:R α}{k:α->Hd->Fl}{N:Ends}{P:β->Hp->Prop}
  (o:amk K E U H (r.fl k) N) (hP:∀a h U1 H1 b,Gr U H U1 H1->Rp U1 H1 b a->HRep K U1 H1 h->amk K E U1 H1 (k a h) N->P b H1):out K E Rp U H r P:=by
 cases r with
 |ok a h=>exact λU' H' b g r' hr=>hP a h U' H' b g r' hr (xu o g)
 |ex c h=>exact o
 |no=>exact o
def lift{α β:Type}(K:Fg)(E:XD)(Rp:List Addr->Hp->β->α->Prop)(f:Sd->Hd->R α):St->Hp->(β->Hp->Prop)->Prop:=λZ H Q =>
 ∃U τ h,SRep K U H Z τ/\HRep K U H h/\out K E Rp U H (f τ h) Q
def aa2(K:Fg)(E:XD)(f:SS):TS:=λN Z H=>∃U τ h,SRep K U H Z τ/\HRep K U H h/\amk K E U H (f τ h) N
abbrev ME(X:Cx)(E:XD)(e:Expr)(f:SE):Prop:=PE X e (lift X.K E (zj X.K) f)
abbrev MT(X:Cx)(E:XD)(e:Expr)(f:ST):Prop:=PT X e (lift X.K E adl f)
abbrev MW(X:Cx)(E:XD)(e:Expr)(f:ST):Prop:=PW X e (lift X.K E adl f)
abbrev MA(X:Cx)(E:XD)(es:List Expr)(f:SA):Prop:=PA X es (lift X.K E (b59 X.K) f)
abbrev MS(X:Cx)(E:XD)(st:Stmt)(f:SS):Prop:=PS X st (aa2 X.K E f)
abbrev MSs(X:Cx)(E:XD)(st:List Stmt)(f:SS):Prop:=PSs X st (aa2 X.K E f)
theorem PE.weak(h:PE X e t)(i:∀Z H Q,t' Z H Q->t Z H Q):PE X e t':=λaA s Z H Q I q=>h aA s Z H Q I (i _ _ _ q)
theorem PT.weak(h:PT X e t)(i:∀Z H Q,t' Z H Q->t Z H Q):PT X e t':=λaA s Z H Q I q=>h aA s Z H Q I (i _ _ _ q)
theorem PW.weak(h:PW X e t)(i:∀Z H Q,t' Z H Q->t Z H Q):PW X e t':=λwh aA s Z H Q I q=>h wh aA s Z H Q I (i _ _ _ q)
theorem PA.weak(h:PA X e t)(i:∀Z H Q,t' Z H Q->t Z H Q):PA X e t':=λpos aA s Z H Q I q=>h pos aA s Z H Q I (i _ _ _ q)
theorem PS.weak(h:PS X e t)(i:∀N Z H,t' N Z H->t N Z H):PS X e t':=λaA s Z H N I q=>h aA s Z H N I (i _ _ _ q)
theorem PSs.weak(h:PSs X e t)(i:∀N Z H,t' N Z H->t N Z H):PSs X e t':=λaA s Z H N I q=>h aA s Z H N I (i _ _ _ q)
abbrev LINE:Nat:=16777216
theorem ll{n:Nat}(h:n<=LINE):n<=sizeLine:=asp h
def sV(i:Nat):SE:=λτ h=>match τ[i]? with|some (some d)=>.ok d h|_=>.no
def sC(d:D):SE:=λ_ h=>.ok d h
abbrev sI(i:Int):SE:=sC (.int i)
section
variable{X:Cx}{E:XD}{a b c e:Expr}{fa fb fc:SE}{pos:Pos}
theorem bj(i:Nat)(hN:X.N[i]? = some x:=by rfl)(hv:Vis X.env.scope x:=by first|exact Or.inl rfl|exact Or.inr (Or.inl rfl)|exact Or.inr (Or.inr rfl))(hd:(x == ("__debug__" : Str))=false:=by decide)
  (hcd:(x == ("__classdict__" : Str))=false:=by decide):ME X E (.Name x pos) (sV i):=by
 refine PE.weak (aw6 hN hv hd hcd) ?_
 rintro Z H Q ⟨U,τ,h,S,Rh,o⟩
 unfold sV at o
 split at o
 .rename_i d e;obtain⟨v,h1,h2⟩:=S.val i d e;exact⟨v,h1,o U H v (.refl _ _) h2 Rh⟩
 .exact o.elim
theorem avq(h:PE X e (tC v))(r:∀U H,Rep X.K U H v d):ME X E e (sC d) :=
 PE.weak h λZ H Q ⟨U,τ,h,S,Rh,o⟩=>o U H v (.refl _ _) (r U H) Rh
theorem bf{i j pos}:ME X E (.Constant (.int i) j pos) (sC (.int i)):=avq aw7 λ_ _=>.int i
theorem a2s{i j pos}:ME X E (.Constant (.bool i) j pos) (sC (.bl i)):=avq b1p λ_ _=>.bl i
theorem ph{i j pos}:ME X E (.Constant (.str i) j pos) (sC (.str i)):=avq aw9 λ_ _=>.str i
theorem ac1{j pos}:ME X E (.Constant .none j pos) (sC .non):=avq aw8 λ_ _=>.non
theorem adx(hg:Gl X x)(hm:X.mg x=none)(hv:bootBuiltins x=some (.type n))(hn:x ≠ "__name__":=by decide)(hd:(x == ("__debug__" : Str))=false:=by decide):ME X E (.Name x pos) (sC (.ty n)) :=
 avq (art (v:=.ty n) hg hm hv rfl hn hd) λ_ _=>.ty n
theorem asr(hg:Gl X x)(hm:X.mg x=some (.int i t))(hd:(x == ("__debug__" : Str))=false:=by decide):ME X E (.Name x pos) (sC (.int i)) :=
 avq (ars (v:=.int i) hg hm ⟨t,rfl⟩ hd) λ_ _=>.int i
def s2(g:D->D->Hd->R D)(fa fb:SE):SE:=λτ h=>(fa τ h).bind λx h1=>(fb τ h1).bind λy h2=>g x y h2
def s1(g:D->Hd->R D)(fa:SE):SE:=λτ h=>(fa τ h).bind g
def a1w(K:Fg)(g:D->D->Hd->R D)(r:R2):Prop:=∀(E:XD) U H h x y dx dy Q,Rep K U H x dx->Rep K U H y dy->HRep K U H h->out K E (zj K) U H (g dx dy h) Q->r x y H Q
def b5b(K:Fg)(g:D->Hd->R D)(r:V->Hp->VK->Prop):Prop:=∀(E:XD) U H h x dx Q,Rep K U H x dx->HRep K U H h->out K E (zj K) U H (g dx h) Q->r x H Q
def af9(K:Fg)(g:List D->Hd->R D)(r:List V->Hp->VK->Prop):Prop:=∀(E:XD) U H h xs ds Q,Reps K U H xs ds->HRep K U H h->out K E (zj K) U H (g ds h) Q->r xs H Q
theorem b17(hs:a1w K g r)(q:lift K E (zj K) (s2 g fa fb) Z H Q):tOp r (lift K E (zj K) fa) (lift K E (zj K) fb) Z H Q:=by
 obtain⟨U,τ,h,S,Rh,o⟩:=q;refine⟨U,τ,h,S,Rh,dj o λd h1 U1 H1 v g1 r1 hr1 o1=>?_⟩;refine⟨U1,τ,h1,S.mono g1,hr1,dj o1 λd2 h2 U2 H2 u g2 r2 hr2 o2=>?_⟩;exact hs E U2 H2 h2 v u d d2 Q (r1.mono g2) r2 hr2 o2
theorem ac2(ho:OpR X (binaryOp op) r)(hs:a1w X.K g r)(ha:ME X E a fa)(hb:ME X E b fb):ME X E (.BinOp a op b pos) (s2 g fa fb) :=
 PE.weak (b23 ho ha hb) λZ H Q q=>b17 hs q
theorem a5m(ho:OpR X (compareOp op) r)(hs:a1w X.K g r)(ha:ME X E a fa)(hb:ME X E b fb)(hm:behindInMarks op b=false):ME X E (.Compare a [op] [b] pos) (s2 g fa fb) :=
 PE.weak (as4 ho ha hb hm) λZ H Q q=>b17 hs q
theorem b2n(ho:UnR X (unaryOp op) r)(hs:b5b X.K g r)(ha:ME X E a fa):ME X E (.UnaryOp op a pos) (s1 g fa):=by
 refine PE.weak (b24 ho ha) ?_
 rintro Z H Q ⟨U,τ,h,S,Rh,o⟩
 exact⟨U,τ,h,S,Rh,dj o λd h1 U1 H1 v g1 r1 hr1 o1=>hs E U1 H1 h1 v d Q r1 hr1 o1⟩
theorem b2o(ho:IxR X r)(hs:a1w X.K g r)(ha:ME X E a fa)(hb:ME X E b fb)(hp:a9y b):ME X E (.Subscript a b pos) (s2 g fa fb) :=
 PE.weak (b2f ho ha hb hp) λZ H Q q=>b17 hs q
def asB(d:D)(h:Hd):R Bool:=match d with|.bl b=>.ok b h|_=>.no
def sT(f:SE):ST:=λτ h=>(f τ h).bind asB
theorem aj6(hi:∀Z H Q,lift K E (zj K) f Z H Q->t Z H Q)(q:lift K E adl (sT f) Z H Q):as5 t Z H Q:=by
 refine hi Z H _ ?_;obtain⟨U,τ,h,S,Rh,o⟩:=q;refine⟨U,τ,h,S,Rh,dj o λd h1 U1 H1 v g1 r1 hr1 o1=>?_⟩
 cases r1 with
 |bl b=>exact⟨b,rfl,o1 U1 H1 b (.refl _ _) rfl hr1⟩
 |_=>exact o1.elim
theorem yt(ho:OpR X (compareOp op) r)(hs:a1w X.K g r)(ha:ME X E a fa)(hb:ME X E b fb)(hm:behindInMarks op b=false):MT X E (.Compare a [op] [b] pos) (sT (s2 g fa fb)) :=
 PT.weak (as6 ho ha hb hm) λZ H Q q=>aj6 (λ_ _ _=>b17 hs) q
noncomputable def sCh(g g':D->D->Hd->R D)(fa fb fc:SE):SE:=λτ h=>(fa τ h).bind λx h1=>(fb τ h1).bind λy h2=>(g x y h2).bind λz h3=>match z with
 |.bl true=>(fc τ h3).bind λw h4=>g' y w h4
 |.bl false=>.ok (.bl false) h3
 |_=>.no
theorem aq4(hs:a1w K g r)(hs':a1w K g' r')(q:lift K E (zj K) (sCh g g' fa fb fc) Z H Q) :
  aik r r' (lift K E (zj K) fa) (lift K E (zj K) fb) (lift K E (zj K) fc) Z H Q:=by
 obtain⟨U,τ,h,S,Rh,o⟩:=q;refine⟨U,τ,h,S,Rh,dj o λd h1 U1 H1 v g1 r1 hr1 o1=>?_⟩;refine⟨U1,τ,h1,S.mono g1,hr1,dj o1 λd2 h2 U2 H2 u g2 r2 hr2 o2=>?_⟩;refine hs E U2 H2 h2 v u d d2 _ (r1.mono g2) r2 hr2 (dj o2 λd3 h3 U3 H3 z g3 r3 hr3 o3=>?_)
 cases r3 with
 |bl k =>
  refine⟨k,rfl,?_⟩
  cases k with
  |true =>
   rw[aJ rfl];refine⟨U3,τ,h3,((S.mono g1).mono g2).mono g3,hr3,dj o3 λd4 h4 U4 H4 w g4 r4 hr4 o4=>?_⟩;exact hs' E U4 H4 h4 u w d2 d4 Q ((r2.mono g3).mono g4) r4 hr4 o4
  |false =>
   rw[ba aX];exact o3 U3 H3 (.bl false) (.refl _ _) (.bl false) hr3
 |_=>exact o3.elim
theorem ane(ho:OpR X (compareOp op) r)(ho':OpR X (compareOp op') r')(hs:a1w X.K g r)(hs':a1w X.K g' r')(ha:ME X E a fa)(hb:ME X E b fb)(hc:ME X E c fc)
  (hm:lastMarks [op,op'] [b,c]=false:=by with_unfolding_all rfl):ME X E (.Compare a [op,op'] [b,c] pos) (sCh g g' fa fb fc) :=
 PE.weak (amz ho ho' ha hb hc hm) λZ H Q q=>aq4 hs hs' q
theorem anf(ho:OpR X (compareOp op) r)(ho':OpR X (compareOp op') r')(hs:a1w X.K g r)(hs':a1w X.K g' r')(ha:ME X E a fa)(hb:ME X E b fb)(hc:ME X E c fc)
  (hm:lastMarks [op,op'] [b,c]=false:=by with_unfolding_all rfl):MT X E (.Compare a [op,op'] [b,c] pos) (sT (sCh g g' fa fb fc)) :=
 PT.weak (an0 ho ho' ha hb hc hm) λZ H Q q=>aj6 (λ_ _ _=>aq4 hs hs') q
noncomputable def tru(d:D)(h:Hd):R Bool:=match d with
 |.non=>.ok false h
 |.bl b=>.ok b h
 |.int i=>.ok (i != 0) h
 |.str x=>if x.length<=LINE then .ok ((x.length:Int) != 0) h else .no
 |.tup xs=>.ok (!xs.isEmpty) h
 |.rol xs=>.ok (!xs.isEmpty) h
 |.ref i=>match h[i]? with
  |some (.lst xs)=>.ok (!xs.isEmpty) h
  |some (.dK kvs)=>.ok (!kvs.isEmpty) h
  |_=>.no
 |_=>.no
theorem Reps.emp{K:Fg}{U:List Addr}{H:Hp}{vs:List V}{ds:List D}(r:Reps K U H vs ds):vs.isEmpty=ds.isEmpty:=by cases r<;>rfl
theorem KRep.emp{κ:Type}{K:Fg}{U:List Addr}{H:Hp}{us:List (κ×V)}{kvs:List (κ×D)}(r:KRep K U H us kvs):us.isEmpty=kvs.isEmpty:=by
 have:=aI List.length r.1
 cases us<;>cases kvs<;>simp at this ⊢
theorem ass{K:Fg}{U:List Addr}{H:Hp}{h:Hd}{x:V}{d:D}{Q:Bool->Hp->Prop}(r:Rep K U H x d)(hr:HRep K U H h)(o:out K E adl U H (tru d h) Q):∃k,b29 K x H k/\Q k H:=by
 cases r with
 |non=>exact⟨false,rfl,o U H _ (.refl _ _) rfl hr⟩
 |bl b=>exact⟨b,rfl,o U H _ (.refl _ _) rfl hr⟩
 |int i=>exact⟨_,rfl,o U H _ (.refl _ _) rfl hr⟩
 |str x =>
  by_cases hl:x.length<=LINE
  .simp only[tru,aJ hl]at o;exact⟨_,⟨ll hl,rfl⟩,o U H _ (.refl _ _) rfl hr⟩
  .simp only[tru,ba hl]at o;exact o.elim
 |ty n=>exact o.elim
 |rod _ _ _=>exact o.elim
 |scr _ _=>exact o.elim
 |rdT _ _ _=>exact o.elim
 |exc _ _ _=>exact o.elim
 |ins _ _ _ _=>exact o.elim
 |tup e rs=>exact⟨_,.inr (.inl ⟨_,SqT.of e,rfl⟩),by rw[rs.emp];exact o U H _ (.refl _ _) rfl hr⟩
 |rol e rs=>exact⟨_,.inl ⟨_,e.l,rfl⟩,by rw[rs.emp];exact o U H _ (.refl _ _) rfl hr⟩
 |@ref a i e =>
  obtain⟨ob,h1,h2⟩:=hr.at e;simp only[tru,h1]at o
  cases ob with
  |lst xs =>
   obtain⟨vs,h3,h4⟩:=h2;exact⟨_,.inl ⟨_,SqL.of h3,rfl⟩,by rw[h4.emp];exact o U H _ (.refl _ _) rfl hr⟩
  |dK kvs =>
   obtain⟨us,h3,h4⟩:=h2;exact⟨_,.inr (.inr ⟨_,h3,rfl⟩),by rw[h4.emp];exact o U H _ (.refl _ _) rfl hr⟩
  |dT kvs=>exact o.elim
  |ins _ _=>exact o.elim
def a7m(f:SE):ST:=λτ h=>(f τ h).bind tru
theorem a1n(ha:ME X E a fa)(he:∀whole,isTrue a X.env whole=(do let v <-whole;standAt a.pos;holding [v] (truthy v)):=by intro _;rfl):MT X E a (a7m fa):=by
 refine PT.weak (an1 ha he) ?_
 rintro Z H Q ⟨U,τ,h,S,Rh,o⟩
 exact⟨U,τ,h,S,Rh,dj o λd h1 U1 H1 v g1 r1 hr1 o1=>ass r1 hr1 o1⟩
def adm(f g:ST):ST:=λτ h=>(f τ h).bind λb h1=>if b=true then g τ h1 else .ok false h1
def sOr(f g:ST):ST:=λτ h=>(f τ h).bind λb h1=>if b=true then .ok true h1 else g τ h1
def a92(f:ST):ST:=λτ h=>(f τ h).bind λb h1=>.ok (!b) h1
variable{ga gb:ST}
theorem aa3(ha:MT X E a ga):MW X E (.BoolOp .And [a] pos) ga:=aru ha
theorem a6a(ha:MT X E a ga):MW X E (.BoolOp .Or [a] pos) ga:=awa ha
theorem afa{aG:List Expr}(ha:MT X E a ga)(hb:MW X E (.BoolOp .And (b::aG) pos) gb):MW X E (.BoolOp .And (a::b::aG) pos) (adm ga gb):=by
 refine PW.weak (awb ha hb) ?_
 rintro Z H Q ⟨U,τ,h,S,Rh,o⟩
 refine⟨U,τ,h,S,Rh,dj o λd h1 U1 H1 v g1 r1 hr1 o1=>?_⟩;cases r1
 cases d with
 |true=>exact⟨U1,τ,h1,S.mono g1,hr1,o1⟩
 |false=>exact o1 U1 H1 false (.refl _ _) rfl hr1
theorem a8m{aG:List Expr}(ha:MT X E a ga)(hb:MW X E (.BoolOp .Or (b::aG) pos) gb):MW X E (.BoolOp .Or (a::b::aG) pos) (sOr ga gb):=by
 refine PW.weak (b1q ha hb) ?_
 rintro Z H Q ⟨U,τ,h,S,Rh,o⟩
 refine⟨U,τ,h,S,Rh,dj o λd h1 U1 H1 v g1 r1 hr1 o1=>?_⟩;cases r1
 cases d with
 |true=>exact o1 U1 H1 true (.refl _ _) rfl hr1
 |false=>exact⟨U1,τ,h1,S.mono g1,hr1,o1⟩
theorem a4s(ha:MT X E a ga):MT X E (.UnaryOp .Not a pos) (a92 ga):=by
 refine PT.weak (awc ha) ?_
 rintro Z H Q ⟨U,τ,h,S,Rh,o⟩
 refine⟨U,τ,h,S,Rh,dj o λd h1 U1 H1 v g1 r1 hr1 o1=>?_⟩;cases r1
 exact o1 U1 H1 _ (.refl _ _) rfl hr1
noncomputable def a4f(f g:SE):SE:=λτ h=>(f τ h).bind λd h1=>match d with|.bl true=>g τ h1|.bl false=>.ok (.bl false) h1|_=>.no
noncomputable def ai6(f g:SE):SE:=λτ h=>(f τ h).bind λd h1=>match d with|.bl true=>.ok (.bl true) h1|.bl false=>g τ h1|_=>.no
def ac3(f:SE):SE:=λτ h=>(f τ h).bind λd h1=>match d with|.bl b=>.ok (.bl (!b)) h1|_=>.no
theorem a93{op}(ha:ME X E a fa):ME X E (.BoolOp op [a] pos) fa:=awd ha
theorem ac4{aG:List Expr}(ha:ME X E a fa)(hb:ME X E (.BoolOp .And (b::aG) pos) fb):ME X E (.BoolOp .And (a::b::aG) pos) (a4f fa fb):=by
 refine PE.weak (awe ha hb) ?_
 rintro Z H Q ⟨U,τ,h,S,Rh,o⟩
 refine⟨U,τ,h,S,Rh,dj o λd h1 U1 H1 v g1 r1 hr1 o1=>?_⟩
 cases r1 with
 |bl k =>
  refine⟨k,rfl,?_⟩
  cases k with
  |true=>exact⟨U1,τ,h1,S.mono g1,hr1,o1⟩
  |false=>exact o1 U1 H1 _ (.refl _ _) (.bl _) hr1
 |_=>exact o1.elim
theorem b2p{aG:List Expr}(ha:ME X E a fa)(hb:ME X E (.BoolOp .Or (b::aG) pos) fb):ME X E (.BoolOp .Or (a::b::aG) pos) (ai6 fa fb):=by
 refine PE.weak (b1t ha hb) ?_
 rintro Z H Q ⟨U,τ,h,S,Rh,o⟩
 refine⟨U,τ,h,S,Rh,dj o λd h1 U1 H1 v g1 r1 hr1 o1=>?_⟩
 cases r1 with
 |bl k =>
  refine⟨k,rfl,?_⟩
  cases k with
  |false=>exact⟨U1,τ,h1,S.mono g1,hr1,o1⟩
  |true=>exact o1 U1 H1 _ (.refl _ _) (.bl _) hr1
 |_=>exact o1.elim
theorem axe(ha:ME X E a fa):ME X E (.UnaryOp .Not a pos) (ac3 fa):=by
 refine PE.weak (awf ha) ?_
 rintro Z H Q ⟨U,τ,h,S,Rh,o⟩
 refine⟨U,τ,h,S,Rh,dj o λd h1 U1 H1 v g1 r1 hr1 o1=>?_⟩
 cases r1 with
 |bl k=>exact⟨k,rfl,o1 U1 H1 _ (.refl _ _) (.bl _) hr1⟩
 |_=>exact o1.elim
def ady(c:ST)(f g:SE):SE:=λτ h=>(c τ h).bind λb h1=>if b=true then f τ h1 else g τ h1
theorem afb(hc:MT X E c ga)(ha:ME X E a fa)(hb:ME X E b fb):ME X E (.IfExp c a b pos) (ady ga fa fb):=by
 refine PE.weak (amt hc ha hb) ?_
 rintro Z H Q ⟨U,τ,h,S,Rh,o⟩
 refine⟨U,τ,h,S,Rh,dj o λd h1 U1 H1 v g1 r1 hr1 o1=>?_⟩;cases r1
 cases d with
 |true=>exact⟨U1,τ,h1,S.mono g1,hr1,o1⟩
 |false=>exact⟨U1,τ,h1,S.mono g1,hr1,o1⟩
def di:SA:=λ_ h=>.ok [] h
def aj(f:SE)(g:SA):SA:=λτ h=>(f τ h).bind λd h1=>(g τ h1).bind λds h2=>.ok (d::ds) h2
variable{es:List Expr}{ka:SA}
theorem az:MA X E [] di:=PA.weak af4 λZ H Q ⟨U,τ,h,S,Rh,o⟩=>o U H [] (.refl _ _) .nil Rh
theorem aa(ha:ME X E e fa)(hr:MA X E es ka)(hs:starEach (e::es) X.env=(false,eval e X.env)::starEach es X.env:=by rfl):MA X E (e::es) (aj fa ka):=by
 refine PA.weak (a7c ha hr hs) ?_
 rintro Z H Q ⟨U,τ,h,S,Rh,o⟩
 refine⟨U,τ,h,S,Rh,dj o λd h1 U1 H1 v g1 r1 hr1 o1=>?_⟩;refine⟨U1,τ,h1,S.mono g1,hr1,dj o1 λd2 h2 U2 H2 u g2 r2 hr2 o2=>?_⟩;exact o2 U2 H2 _ (.refl _ _) (.cons (r1.mono g2) r2) hr2
def yj(ds:List D)(h:Hd):R D:=if ds.length<=LINE then .ok (.tup ds) h else .no
def xq(ds:List D)(h:Hd):R D:=if ds.length<=LINE then .ok (.ref h.length) (h++[.lst ds]) else .no
def sA(g:List D->Hd->R D)(k:SA):SE:=λτ h=>(k τ h).bind g
theorem a1h(r:Reps K U H vs ds)(hr:HRep K U H h)(o:out K E (zj K) U H (.ok (.tup ds) h) Q):∀p,H p=none->Q (.ref p) (upd H p (.tup vs)):=λp hp =>
 o U _ _ (a2n hp _) (.tup qw (r.mono (a2n hp _))) (hr.aside hp _)
theorem vf(r:Reps K U H vs ds)(hr:HRep K U H h)(o:out K E (zj K) U H (.ok (.ref h.length) (h++[.lst ds])) Q):∀p,H p=none->Q (.ref p) (upd H p (.lst vs)):=λp hp =>
 o (U++[p]) _ _ (ac0 hp _) (.ref (by rw[aK (by rw[hr.len];exact aw _),hr.len];simp)) (hr.add hp ⟨_,qw,r.mono (ac0 hp _)⟩)
theorem adz{K:Fg}{U:List Addr}{H:Hp}{h:Hd}{i:Nat}{a:Addr}{vs:List V}{ds:List D}{d:D}{v:V}{Q:VK}(r:Reps K U H vs ds)(hr:HRep K U H h)(hi:U[i]? = some a)(rd:Rep K U H v d)(o:out K E (zj K) U H (.ok d (h.set i (.lst ds))) Q):Q v (upd H a (.lst vs)) :=
 o U _ _ (a7l hr hi _) (rd.mono (a7l hr hi _)) (hr.put hi ⟨_,qw,r.mono (a7l hr hi _)⟩)
theorem uo{x1}(h:MA X E es ka):ME X E (.Tuple es x1 pos) (sA yj ka):=by
 refine PE.weak (awy h) ?_
 rintro Z H Q ⟨U,τ,h,S,Rh,o⟩
 refine⟨U,τ,h,S,Rh,dj o λd h1 U1 H1 v g1 r1 hr1 o1=>?_⟩;unfold yj at o1
 split at o1
 .rename_i hl;exact⟨ll (by rw[r1.len];exact hl),a1h r1 hr1 o1⟩
 .exact o1.elim
theorem m5(h:MA X E es ka):ME X E (.List es pos) (sA xq ka):=by
 refine PE.weak (awz h) ?_
 rintro Z H Q ⟨U,τ,h,S,Rh,o⟩
 refine⟨U,τ,h,S,Rh,dj o λd h1 U1 H1 v g1 r1 hr1 o1=>?_⟩;unfold xq at o1
 split at o1
 .rename_i hl;exact⟨ll (by rw[r1.len];exact hl),vf r1 hr1 o1⟩
 .exact o1.elim
theorem a4g{x:Str}{p:Pos}{id:String}{r:List V->Hp->VK->Prop}{g:List D->Hd->R D}(hc:CallR X (.builtin id) r)(hs:af9 X.K g r)(hg:Gl X x)(hm:X.mg x=none)(hv:bootBuiltins x=some (.builtin id))(ha:MA X E (e::es) ka)(hn:x ≠ "__name__":=by decide)(hdb:(x == ("__debug__" : Str))=false:=by decide)
  (he:starEach (e::es) X.env=(false,eval e X.env)::starEach es X.env:=by rfl) (hpl:(backTo pos (starEach es X.env)).any (·.1)=false:=by rfl):ME X E (.Call (.Name x p) (e::es) [] pos) (sA g ka):=by
 refine PE.weak (af6 hc hg hm hv ha hn hdb he hpl) ?_
 rintro Z H Q ⟨U,τ,h,S,Rh,o⟩
 exact⟨U,τ,h,S,Rh,dj o λd h1 U1 H1 v g1 r1 hr1 o1=>hs E U1 H1 h1 v d Q r1 hr1 o1⟩
theorem a0c{x:Str}{p:Pos}{id:String}{r:List V->Hp->VK->Prop}{g:List D->Hd->R D}(hc:CallR X (.type id) r)(hs:af9 X.K g r)(hg:Gl X x)(hm:X.mg x=none)(hv:bootBuiltins x=some (.type id))(ha:MA X E (e::es) ka)(hn:x ≠ "__name__":=by decide)(hdb:(x == ("__debug__" : Str))=false:=by decide)
  (he:starEach (e::es) X.env=(false,eval e X.env)::starEach es X.env:=by rfl) (hpl:(backTo pos (starEach es X.env)).any (·.1)=false:=by rfl):ME X E (.Call (.Name x p) (e::es) [] pos) (sA g ka):=by
 refine PE.weak (abq hc hg hm hv ha hn hdb he hpl) ?_
 rintro Z H Q ⟨U,τ,h,S,Rh,o⟩
 exact⟨U,τ,h,S,Rh,dj o λd h1 U1 H1 v g1 r1 hr1 o1=>hs E U1 H1 h1 v d Q r1 hr1 o1⟩
end
def iy(f g:SS):SS:=λτ h=>match f τ h with|.nx τ1 h1=>g τ1 h1|r=>r
def sNx:SS:=λτ h=>.nx τ h
def pq(f:SE):SS:=λτ h=>(f τ h).fl λd h1=>.rt d h1
def a0v(f:SE):SS:=λτ h=>(f τ h).fl λ_ h1=>.nx τ h1
def sIf(c:ST)(f g:SS):SS:=λτ h=>(c τ h).fl λb h1=>if b=true then f τ h1 else g τ h1
def jz(i:Nat)(f:SE):SS:=λτ h=>(f τ h).fl λd h1=>.nx (τ.set i (some d)) h1
noncomputable def ai7(i:Nat)(g:D->D->Hd->R D)(f:SE):SS:=λτ h=>match τ[i]? with
 |some (some x)=>(f τ h).fl λy h1=>(g x y h1).fl λz h2=>.nx (τ.set i (some z)) h2
 |_=>.no
section
variable{X:Cx}{E:XD}{e o:Expr}{es:List Expr}{fa fb fc:SE}{ga:ST}{st:Stmt}{sts a b:List Stmt}{f g:SS}{pos:Pos}
theorem iw:MSs X E [] sNx:=PSs.weak arv λN Z H ⟨U,τ,h,S,Rh,o⟩=>o U H Z (.refl _ _) S Rh
theorem axf(q:aa2 K E (iy f g) N Z H):aa2 K E f {N with nx:=aa2 K E g N} Z H:=by
 obtain⟨U,τ,h,S,Rh,o⟩:=q;refine⟨U,τ,h,S,Rh,?_⟩;unfold iy at o
 cases hf:f τ h with
 |nx τ1 h1 =>
  rw[hf]at o;exact λU1 H1 Z1 g1 S1 R1=>⟨U1,τ1,h1,S1,R1,xu o g1⟩
 |_=>rw[hf]at o;exact o
theorem aq(h1:MS X E st f)(h2:MSs X E sts g):MSs X E (st::sts) (iy f g):=PSs.weak (amu h1 h2) λN Z H q=>axf q
theorem bx(h1:MS X E st f):MSs X E [st] f:=arw h1
theorem gk(he:ME X E e fa):MS X E (.Return (some e) pos) (pq fa):=by
 refine PS.weak (awg he) ?_
 rintro N Z H ⟨U,τ,h,S,Rh,o⟩
 exact⟨U,τ,h,S,Rh,xj o λd h1 U1 H1 v g1 r1 hr1 o1=>o1 U1 H1 v (.refl _ _) r1 hr1⟩
theorem a0d(he:ME X E e fa)(hs:swapsWith e none pos.line X.env=pure false:=by rfl):MS X E (.Expr e pos) (a0v fa):=by
 refine PS.weak (arx he hs) ?_
 rintro N Z H ⟨U,τ,h,S,Rh,o⟩
 exact⟨U,τ,h,S,Rh,xj o λd h1 U1 H1 v g1 r1 hr1 o1=>o1 U1 H1 Z (.refl _ _) (S.mono g1) hr1⟩
theorem p7(hc:MT X E c ga)(ha:MSs X E a f)(hb:MSs X E b g):MS X E (.If c a b pos) (sIf ga f g):=by
 refine PS.weak (b1w hc ha hb) ?_
 rintro N Z H ⟨U,τ,h,S,Rh,o⟩
 refine⟨U,τ,h,S,Rh,xj o λd h1 U1 H1 v g1 r1 hr1 o1=>?_⟩;cases r1
 cases d with
 |true=>exact⟨U1,τ,h1,S.mono g1,hr1,o1⟩
 |false=>exact⟨U1,τ,h1,S.mono g1,hr1,o1⟩
theorem axg(hN:X.N.Nodup)(hi:X.N[i]? = some x)(hx:Loc X.env.scope x)(he:ME X E e fa)(hs:swapsWith e (some (.Name x pos')) pos.line X.env=pure false:=by rfl)(hf:Hf X x:=by first|exact .inl rfl|exact .inr rfl|assumption) :
  MS X E (.Assign [.Name x pos'] e pos) (jz i fa):=by
 refine PS.weak (awk hN hi hx he hs hf) ?_
 rintro N Z H ⟨U,τ,h,S,Rh,o⟩
 exact⟨U,τ,h,S,Rh,xj o λd h1 U1 H1 v g1 r1 hr1 o1=>o1 U1 H1 _ (.refl _ _) ((S.mono g1).set r1 i) hr1⟩
theorem afc(hN:X.N.Nodup)(hi:X.N[i]? = some x)(hx:Loc X.env.scope x)(ho:OpR X (inplaceOp op) r)(hs:a1w X.K gg r)(he:ME X E e fa)(hf:Hf X x:=by first|exact .inl rfl|exact .inr rfl|assumption) :
  MS X E (.AugAssign (.Name x pos') op e pos) (ai7 i gg fa):=by
 refine PS.weak (awl hN hi hx he ho hf) ?_
 rintro N Z H ⟨U,τ,h,S,Rh,o⟩
 unfold ai7 at o
 split at o
 .rename_i d ed;obtain⟨v,h1,h2⟩:=S.val i d ed;refine⟨v,h1,U,τ,h,S,Rh,xj o λd2 h3 U1 H1 u g1 r1 hr1 o1=>?_⟩;refine hs E U1 H1 h3 v u d d2 _ (h2.mono g1) r1 hr1 (xj o1 λd3 h4 U2 H2 z g2 r2 hr2 o2=>?_);exact o2 U2 H2 _ (.refl _ _) (((S.mono g1).mono g2).set r2 i) hr2
 .exact o.elim
noncomputable def put(o k v:D)(h:Hd):Option Hd:=match o,k with
 |.ref i,.int j=>match h[i]? with
  |some (.lst xs)=>match ixN xs.length j with
   |some m=>some (h.set i (.lst (xs.set m v)))
   |none=>none
  |_=>none
 |_,_=>none
theorem aj7{K:Fg}{U:List Addr}{H:Hp}{h h':Hd}{o k v:V}{od kd vd:D}{Q:Hp->Prop}(r1:Rep K U H o od)(r2:Rep K U H k kd)(r3:Rep K U H v vd)(hr:HRep K U H h)(e:put od kd vd h=some h')
  (q:∀H',Gr U H U H'->HRep K U H' h'->Q H'):ax5 o k v H Q:=by
 cases r1 with
 |@ref a i ha =>
  cases r2 with
  |int j =>
   obtain⟨ob,h1,h2⟩:=hr.at ha
   cases ob with
   |lst xs =>
    obtain⟨vs,h3,h4⟩:=h2;simp only[put,h1]at e
    cases hm:ixN xs.length j with
    |none=>rw[hm]at e;cases e
    |some m =>
     rw[hm]at e;cases e
     exact⟨a,vs,j,m,rfl,rfl,h3,by rw[h4.len];exact hm,q _ (a7l hr ha _) (hr.put ha ⟨_,qw,(h4.set r3 m).mono (a7l hr ha _)⟩)⟩
   |dK _=>simp only[put,h1]at e;cases e
   |dT _=>simp only[put,h1]at e;cases e
   |ins _ _=>simp only[put,h1]at e;cases e
  |_=>cases e
 |_=>cases e
noncomputable def ah7(fe fo fi:SE):SS:=λτ h=>(fe τ h).fl λv h1=>(fo τ h1).fl λo h2=>(fi τ h2).fl λk h3=>match put o k v h3 with|some h4=>.nx τ h4|none=>.no
theorem aq5(he:ME X E e fa)(ho:ME X E o fb)(hi:ME X E i fc)
  (hs:swapsWithSole [.Subscript o i pos'] e pos.line X.env=pure false:=by rfl) (hw:swappedStores [.Subscript o i pos'] e X.env=pure none:=by rfl)
  (h1:(assignEach [.Subscript o i pos'] X.env).map (·.2)=[assign (.Subscript o i pos') X.env]:=by rfl)
  (ha:∀v,assign (.Subscript o i pos') X.env v=(do
   let ov <-holding [v] (eval o X.env)
   let iv <-holding [v,ov] (eval i X.env)
   standAt pos'
   holding [v,ov,iv] (setItem ov iv v)
   release [v,ov,iv] []):=by intro _;rfl):MS X E (.Assign [.Subscript o i pos'] e pos) (ah7 fa fb fc):=by
 refine PS.weak (apv he (awi ho hi set_list ha) hs hw h1) ?_
 rintro N Z H ⟨U,τ,h,S,Rh,oo⟩
 refine⟨U,τ,h,S,Rh,xj oo λd h1 U1 H1 v g1 r1 hr1 o1=>?_⟩;refine⟨U1,τ,h1,S.mono g1,hr1,xj o1 λd2 h2 U2 H2 u g2 r2 hr2 o2=>?_⟩;refine⟨U2,τ,h2,(S.mono g1).mono g2,hr2,xj o2 λd3 h3 U3 H3 w g3 r3 hr3 o3=>?_⟩
 cases hp:put d2 d3 d h3 with
 |none=>rw[hp]at o3;exact o3.elim
 |some h4 =>
  rw[hp]at o3;exact aj7 (r2.mono g3) r3 ((r1.mono g2).mono g3) hr3 hp λH' g4 hr4=>o3 U3 H' Z g4 ((((S.mono g1).mono g2).mono g3).mono g4) hr4
noncomputable def sWh(c:ST)(f:SS):Nat->SS
 |0,_,_=>.no
 |n+1,τ,h=>(c τ h).fl λb h1=>if b=true then (match f τ h1 with|.nx τ2 h2=>sWh c f n τ2 h2|.ct τ2 h2=>sWh c f n τ2 h2|.bk τ2 h2=>.nx τ2 h2|r=>r) else .nx τ h1
theorem ang(n:Nat)(hp:PassesOwn (model X.prog X.w) X.A X.env X.xe)(hc:MT X E c ga)(hb:MSs X E a f):MS X E (.While c a [] pos) (sWh ga f n):=by
 refine PS.weak (amw hp hc hb) λN Z H q=>?_;refine⟨λm Z H=>aa2 X.K E (sWh ga f m) N Z H,⟨n,q⟩,?_⟩
 rintro m Z1 H1 ⟨U,τ,h,S,Rh,o⟩
 cases m with
 |zero=>exact o.elim
 |succ m =>
  refine⟨U,τ,h,S,Rh,xj o λd h1 U1 H1 v g1 r1 hr1 o1=>?_⟩;cases r1
  cases d with
  |false=>exact o1 U1 H1 _ (.refl _ _) (S.mono g1) hr1
  |true =>
   refine⟨λZ' H'=>aa2 X.K E (sWh ga f m) N Z' H',λZ' H' q=>⟨m,eW m,q⟩,U1,τ,h1,S.mono g1,hr1,?_⟩;rw[aJ rfl]at o1
   cases hf:f τ h1 with
   |nx τ2 h2=>rw[hf]at o1;exact λU2 H2 Z2 g2 S2 R2=>⟨U2,τ2,h2,S2,R2,xu o1 g2⟩
   |ct τ2 h2=>rw[hf]at o1;exact λU2 H2 Z2 g2 S2 R2=>⟨U2,τ2,h2,S2,R2,xu o1 g2⟩
   |bk τ2 h2=>rw[hf]at o1;exact o1
   |rt d h2=>rw[hf]at o1;exact o1
   |ex c h2=>rw[hf]at o1;exact o1
   |no=>rw[hf]at o1;exact o1.elim
end
abbrev SG:=D->Sd->Hd->Fl
noncomputable def asu(K:Fg)(E:XD)(g:SG):TG:=λv Z H Q=>∃U τ h d,Rep K U H v d/\SRep K U H Z τ/\HRep K U H h/\amk K E U H (g d τ h) {nx:=Q,rt:=λ_ _=>False}
abbrev MG(X:Cx)(E:XD)(tg:Expr)(g:SG):Prop:=PG X tg (asu X.K E g)
abbrev SGs:=List D->Sd->Hd->Fl
noncomputable def aj8(K:Fg)(E:XD)(g:SGs):TGs:=λvs Z H Q=>∃U τ h ds,Reps K U H vs ds/\SRep K U H Z τ/\HRep K U H h/\amk K E U H (g ds τ h) {nx:=Q,rt:=λ_ _=>False}
abbrev MGs(X:Cx)(E:XD)(tg:List Expr)(g:SGs):Prop:=PGs X tg (aj8 X.K E g)
theorem PG.weak(h:PG X e t)(i:∀v Z H Q,t' v Z H Q->t v Z H Q):PG X e t':=λaA s Z H v u Q I r q=>h aA s Z H v u Q I r (i _ _ _ _ q)
theorem PGs.weak(h:PGs X e t)(i:∀v Z H Q,t' v Z H Q->t v Z H Q):PGs X e t':=λaA s Z H v u Q I r q=>h aA s Z H v u Q I r (i _ _ _ _ q)
def kN(i:Nat):SG:=λd τ h=>.nx (τ.set i (some d)) h
def ai8:SGs:=λds τ h=>match ds with|[]=>.nx τ h|_=>.no
noncomputable def a07(g:SG)(k:SGs):SGs:=λds τ h=>match ds with|d::r=>(match g d τ h with|.nx τ1 h1=>k r τ1 h1|_=>.no)|[]=>.no
noncomputable def ah8(n:Nat)(k:SGs):SG:=λd τ h=>match d with|.tup ds=>if ds.length=n then k ds τ h else .no|_=>.no
section
variable{X:Cx}{E:XD}{e:Expr}{es:List Expr}{fa:SE}{pos:Pos}{g:SG}{ks:SGs}
theorem km(hN:X.N.Nodup)(hi:X.N[i]? = some x)(hx:Loc X.env.scope x)(hf:Hf X x:=by first|exact .inl rfl|exact .inr rfl|assumption):MG X E (.Name x pos) (kN i) :=
 PG.weak (a9t hN hi hx hf) λv Z H Q ⟨U,τ,h,d,r,S,Rh,o⟩=>o U H _ (.refl _ _) (S.set r i) Rh
theorem a7n:MGs X E [] ai8:=by
 refine PGs.weak aib ?_
 rintro vs Z H Q ⟨U,τ,h,ds,r,S,Rh,o⟩
 cases r with
 |nil=>exact⟨rfl,o U H Z (.refl _ _) S Rh⟩
 |cons _ _=>exact o.elim
theorem anh(q:aj8 K E (a07 g ks) vs Z H Q):amv (asu K E g) (aj8 K E ks) vs Z H Q:=by
 obtain⟨U,τ,h,ds,r,S,Rh,o⟩:=q
 cases r with
 |nil=>exact o.elim
 |@cons v d vs ds r rs =>
  refine⟨v,vs,rfl,U,τ,h,d,r,S,Rh,?_⟩;simp only[a07]at o
  cases hg:g d τ h with
  |nx τ1 h1 =>
   rw[hg]at o;exact λU1 H1 Z1 g1 S1 R1=>⟨U1,τ1,h1,ds,rs.mono g1,S1,R1,xu o g1⟩
  |_=>rw[hg]at o;exact o.elim
theorem ac6(hc:X.calm=true)(h:MGs X E es ks)(hn:(assignEach es X.env).length=n:=by rfl)(hst:(assignEach es X.env).findIdx? (·.1)=none:=by rfl):MG X E (.Tuple es k pos) (ah8 n ks):=by
 refine PG.weak (apu hc h hn hst) ?_
 rintro v Z H Q ⟨U,τ,h,d,r,S,Rh,o⟩
 cases r with
 |@tup a vs xs e rs =>
  simp only[ah8]at o
  by_cases hl:xs.length=n
  .rw[aJ hl]at o;exact⟨a,vs,rfl,SqT.of e,by rw[rs.len];exact hl,U,τ,h,xs,rs,S,Rh,o⟩
  .rw[ba hl]at o;exact o.elim
 |_=>exact o.elim
def aml(f:SE)(g:SG):SS:=λτ h=>(f τ h).fl λd h1=>match g d τ h1 with|.nx τ2 h2=>.nx τ2 h2|_=>.no
theorem aj9(he:ME X E e fa)(hg:MG X E tg g)(hs:swapsWithSole [tg] e pos.line X.env=pure false:=by rfl)(hw:swappedStores [tg] e X.env=pure none:=by rfl)
  (h1:(assignEach [tg] X.env).map (·.2)=[assign tg X.env]:=by rfl):MS X E (.Assign [tg] e pos) (aml fa g):=by
 refine PS.weak (apv he hg hs hw h1) ?_
 rintro N Z H ⟨U,τ,h,S,Rh,o⟩
 refine⟨U,τ,h,S,Rh,xj o λd h1 U1 H1 v g1 r1 hr1 o1=>⟨U1,τ,h1,d,r1,S.mono g1,hr1,?_⟩⟩
 cases hg:g d τ h1 with
 |nx τ1 h1=>rw[hg]at o1;exact o1
 |_=>rw[hg]at o1;exact o1.elim
end
structure Itm where
 xs:List D
 ck:Hd->Prop
def ani(K:Fg)(U0:List Addr)(H0:Hp)(J:It)(it:Itm):Prop:=∀U H h,Gr U0 H0 U H->HRep K U H h->it.ck h->
 (∀(i:Nat) (d:D),it.xs[i]? = some d->J.go i H/\∀x H',J.yld i H x H'->Gr U H U H'/\Rep K U H' x d/\HRep K U H' h)/\J.stop it.xs.length H
abbrev aq6(K:Fg):List Addr->Hp->It->Itm->Prop:=λU H J it=>ani K U H J it
abbrev SI:=Sd->Hd->R Itm
abbrev MI(X:Cx)(E:XD)(tg aF:Expr)(f:SI):Prop:=PI X tg aF (lift X.K E (aq6 X.K) f)
def a01(x:Str):List D:=x.cps.toList.map λc=>D.str ⟨#[c]⟩
noncomputable def amm(d:D)(h:Hd):R Itm:=match d with
 |.tup xs=>.ok ⟨xs,λ_=>True⟩ h
 |.rol xs=>.ok ⟨xs,λ_=>True⟩ h
 |.str x=>.ok ⟨a01 x,λ_=>True⟩ h
 |.ref i=>match h[i]? with
  |some (.lst xs)=>.ok ⟨xs,λh=>h[i]? = some (.lst xs)⟩ h
  |_=>.no
 |_=>.no
def sIt(f:SE):SI:=λτ h=>(f τ h).bind amm
theorem aq7(hl:∀U H h,Gr U0 H0 U H->HRep K U H h->ck h->∃vs,SqL K H a vs/\Reps K U H vs xs):ani K U0 H0 (Itl K a) ⟨xs,ck⟩:=by
 intro U H h g hr c
 obtain⟨vs,h1,h2⟩:=hl U H h g hr c;refine⟨λi d e=>?_,⟨vs,h1,by rw[h2.len];exact aw _⟩⟩
 obtain⟨v,e1,r⟩:=h2.get e;refine⟨⟨vs,v,h1,e1⟩,λx H' y=>?_⟩;obtain⟨rfl,y⟩:=y;have:=y vs h1;rw[e1]at this;cases this
 exact⟨.refl _ _,r,hr⟩
theorem uf(hl:ME X E l f):MI X E tg l (sIt f):=by
 rintro aA s Z H Rr I ⟨U,τ,h,S,Rh,o⟩
 unfold sIt at o
 cases hf:f τ h with
 |no=>rw[hf]at o;exact o.elim
 |ex c h1 =>
  rw[hf]at o;exact aq2 hl aA s Z H Rr I ⟨U,τ,h,S,Rh,by rw[hf];exact o⟩
 |ok d h1 =>
  rw[hf]at o
  cases d with
  |tup xs =>
   refine awn hl aA s Z H Rr I ⟨U,τ,h,S,Rh,?_⟩;rw[hf]
   intro U1 H1 v g1 r1 hr1
   cases r1 with
   |@tup a vs _ e rs =>
    refine⟨a,rfl,⟨vs,SqT.of e⟩,o U1 H1 _ g1 ?_ hr1⟩
    intro U2 H2 h2 g2 hr2 _
    have e2:=g2.tup _ _ e;have rs2:=rs.mono g2;refine⟨λi d ed=>?_,⟨vs,SqT.of e2,by rw[rs2.len];exact aw _⟩⟩
    obtain⟨v,e1,r⟩:=rs2.get ed;refine⟨⟨vs,v,SqT.of e2,e1⟩,λx H' y=>?_⟩;obtain⟨rfl,y⟩:=y;have:=y vs (SqT.of e2);rw[e1]at this;cases this
    exact⟨.refl _ _,r,hr2⟩
  |rol xs =>
   refine aie hl aA s Z H Rr I ⟨U,τ,h,S,Rh,?_⟩;rw[hf]
   intro U1 H1 v g1 r1 hr1
   cases r1 with
   |@rol a vs _ e rs =>
    refine⟨a,rfl,⟨vs,e.l⟩,o U1 H1 _ g1 ?_ hr1⟩;exact aq7 (λU2 H2 h2 g2 hr2 _=>⟨vs,(e.mono g2).l,rs.mono g2⟩)
  |str x =>
   refine aq2 hl aA s Z H Rr I ⟨U,τ,h,S,Rh,?_⟩;rw[hf]
   intro U1 H1 v g1 r1 hr1
   cases r1
   refine⟨x,rfl,o U1 H1 _ g1 ?_ hr1⟩
   intro U2 H2 h2 g2 hr2 _
   refine⟨λi d ed=>?_,by show(a01 x).length=_;simp[a01]⟩
   simp only[a01,bD,aR]at ed;obtain⟨c,ec,rfl⟩:=ed;refine⟨by show i<x.cps.size;have:=(ai.mp ec).1;simpa using this,λy H' q=>?_⟩
   obtain⟨rfl,c',ec',rfl⟩:=q;rw[ec]at ec';cases ec'
   exact⟨.refl _ _,.str _,hr2⟩
  |ref i =>
   simp only[R.bind,amm]at o
   cases ho:h1[i]? with
   |none=>rw[ho]at o;exact o.elim
   |some ob =>
    rw[ho]at o
    cases ob with
    |dK _=>exact o.elim
    |dT _=>exact o.elim
    |ins _ _=>exact o.elim
    |lst xs =>
     refine aie hl aA s Z H Rr I ⟨U,τ,h,S,Rh,?_⟩;rw[hf]
     intro U1 H1 v g1 r1 hr1
     cases r1 with
     |@ref a _ e =>
      obtain⟨vs,e1,rs⟩:=hr1.obj i a _ e ho;refine⟨a,rfl,⟨vs,SqL.of e1⟩,o U1 H1 _ g1 ?_ hr1⟩;refine aq7 (λU2 H2 h2 g2 hr2 c=>?_);obtain⟨us,e3,rs3⟩:=hr2.obj i a _ (g2.at e) c;exact⟨us,SqL.of e3,rs3⟩
  |_=>exact o.elim
def rng(lo:Int)(n:Nat):List D:=(List.range n).map λi=>D.int (lo+(i:Nat))
def B62(j:Int):Prop := -(2^62)<=j/\j<2^62
instance (j:Int):Decidable (B62 j):=by unfold B62;exact inferInstance
noncomputable def a5n(ds:List D)(h:Hd):R Itm:=match ds with
 |[.int j]=>if B62 j then .ok ⟨rng 0 j.toNat,λ_=>True⟩ h else .no
 |_=>.no
noncomputable def ac8(ds:List D)(h:Hd):R Itm:=match ds with
 |[.int i,.int j]=>if B62 i/\B62 j then .ok ⟨rng i (j-i).toNat,λ_=>True⟩ h else .no
 |_=>.no
def sRg(g:List D->Hd->R Itm)(k:SA):SI:=λτ h=>(k τ h).bind g
theorem aq8(lo:Int)(n:Nat):ani K U0 H0 (Itr lo n) ⟨rng lo n,λ_=>True⟩:=by
 intro U H h g hr _
 refine⟨λi d ed=>?_,by show n<=(rng lo n).length;simp[rng]⟩
 simp only[rng,bD,aR]at ed;obtain⟨j,ej,rfl⟩:=ed;obtain⟨hj,e⟩:=ai.mp ej;simp at e hj;subst e;refine⟨hj,λy H' q=>?_⟩;obtain⟨rfl,rfl⟩:=q;exact⟨.refl _ _,.int _,hr⟩
theorem aa4(hg:Gl X "range")(hm:X.mg "range" = none)(ha:MA X E [a] k)(hs:starEach [a] X.env=[(false,eval a X.env)]:=by rfl):MI X E tg (.Call (.Name "range" p) [a] [] pos) (sRg a5n k):=by
 rintro aA s Z H Rr I ⟨U,τ,h,S,Rh,o⟩
 refine aif hg hm ha hs aA s Z H Rr I ⟨U,τ,h,S,Rh,dj o λds h1 U1 H1 vs g1 r1 hr1 o1=>?_⟩;unfold a5n at o1
 split at o1
 .rename_i j
  cases r1 with
  |cons r rs =>
   cases r;cases rs
   by_cases hb:B62 j
   .rw[aJ hb]at o1;exact⟨j,rfl,hb.1,hb.2,o1 U1 H1 _ (.refl _ _) (aq8 0 j.toNat) hr1⟩
   .rw[ba hb]at o1;exact o1.elim
 .exact o1.elim
theorem asv(hg:Gl X "range")(hm:X.mg "range" = none)(ha:MA X E [a,b] k)(hs:starEach [a,b] X.env=[(false,eval a X.env),(false,eval b X.env)]:=by rfl)(hs2:starEach [b] X.env=[(false,eval b X.env)]:=by rfl):MI X E tg (.Call (.Name "range" p) [a,b] [] pos) (sRg ac8 k):=by
 rintro aA s Z H Rr I ⟨U,τ,h,S,Rh,o⟩
 refine aig hg hm ha hs hs2 aA s Z H Rr I ⟨U,τ,h,S,Rh,dj o λds h1 U1 H1 vs g1 r1 hr1 o1=>?_⟩;unfold ac8 at o1
 split at o1
 .rename_i i j
  cases r1 with
  |cons r rs =>
   cases r
   cases rs with
   |cons r rs =>
   cases r;cases rs
   by_cases hb:B62 i/\B62 j
   .rw[aJ hb]at o1;exact⟨i,j,rfl,⟨hb.1.1,hb.1.2,hb.2.1,hb.2.2⟩,o1 U1 H1 _ (.refl _ _) (aq8 i _) hr1⟩
   .rw[ba hb]at o1;exact o1.elim
 .exact o1.elim
open Classical in
def forL(ck:Hd->Prop)(g:SG)(b:SS):List D->Sd->Hd->Fl
 |[],τ,h=>if ck h then .nx τ h else .no
 | x::xs,τ,h=>if ck h then (match g x τ h with
   |.nx τ1 h1=>(match b τ1 h1 with
    |.nx τ2 h2=>forL ck g b xs τ2 h2
    |.ct τ2 h2=>forL ck g b xs τ2 h2
    |.bk τ2 h2=>.nx τ2 h2
    |r=>r)
   |_=>.no) else .no
def a94(f:SI)(g:SG)(b:SS):SS:=λτ h=>(f τ h).fl λit h1=>forL it.ck g b it.xs τ h1
theorem asw(ir:ani K U0 H0 J it)(S:SRep K U0 H0 Z0 τ0)(Rh:HRep K U0 H0 h0)(o:amk K E U0 H0 (forL it.ck g b it.xs τ0 h0) N) :
  ∃W:Nat->Nat->St->Hp->Prop,(∃m,W 0 m Z0 H0)/\∀i m Z H,W i m Z H->
   (J.stop i H/\N.nx Z H)\/(J.go i H/\∃M:St->Hp->Prop,(∀Z' H',M Z' H'->∃m',m'<m/\W (i+1) m' Z' H')/\∀x H',J.yld i H x H'->asu K E g x Z H' λZ2 H2=>aa2 K E b {N with nx:=M,ct:=M,bk:=N.nx} Z2 H2):=by
 refine⟨λi m Z H=>m=it.xs.length-i/\i<=it.xs.length/\∃U τ h,Gr U0 H0 U H/\SRep K U H Z τ/\HRep K U H h/\amk K E U H (forL it.ck g b (it.xs.drop i) τ h) N,⟨_,rfl,bb _,U0,τ0,h0,.refl _ _,S,Rh,o⟩,?_⟩
 rintro i m Z H ⟨rfl,hi,U,τ,h,g0,S,Rh,o⟩
 by_cases hlt:i<it.xs.length
 .rw[dJ hlt,forL]at o
  by_cases hc:it.ck h
  .rw[aJ hc]at o;obtain⟨go,yl⟩:=(ir U H h g0 Rh hc).1 i _ (ag hlt);refine .inr ⟨go,λZ' H'=>it.xs.length-(i+1)<it.xs.length-i/\∃U τ h,Gr U0 H0 U H'/\SRep K U H' Z' τ/\HRep K U H' h/\amk K E U H' (forL it.ck g b (it.xs.drop (i+1)) τ h) N,λZ' H' q=>⟨_,q.1,rfl,hlt,q.2⟩,λx H' y=>?_⟩;obtain⟨g1,r1,hr1⟩:=yl x H' y;refine⟨U,τ,h,_,r1,S.mono g1,hr1,?_⟩;have o':=xu o g1
   cases hg:g it.xs[i] τ h with
   |nx τ1 h1 =>
    rw[hg]at o';dsimp only at o'
    intro U2 H2 Z2 g2 S2 R2
    refine⟨U2,τ1,h1,S2,R2,?_⟩;have o2:=xu o' g2;have gg:=(g0.trans g1).trans g2
    cases hb:b τ1 h1 with
    |nx τ2 h2=>rw[hb]at o2;exact λU3 H3 Z3 g3 S3 R3=>⟨by omega,U3,τ2,h2,gg.trans g3,S3,R3,xu o2 g3⟩
    |ct τ2 h2=>rw[hb]at o2;exact λU3 H3 Z3 g3 S3 R3=>⟨by omega,U3,τ2,h2,gg.trans g3,S3,R3,xu o2 g3⟩
    |bk τ2 h2=>rw[hb]at o2;exact o2
    |rt d h2=>rw[hb]at o2;exact o2
    |ex c h2=>rw[hb]at o2;exact o2
    |no=>rw[hb]at o2;exact o2.elim
   |_=>rw[hg]at o';exact o'.elim
  .rw[ba hc]at o;exact o.elim
 .have e:i=it.xs.length:=by omega
  subst e;rw[cD (aw _),forL]at o
  by_cases hc:it.ck h
  .rw[aJ hc]at o;exact .inl ⟨(ir U H h g0 Rh hc).2,o U H Z (.refl _ _) S Rh⟩
  .rw[ba hc]at o;exact o.elim
theorem a0e{X:Cx}(hp:PassesOwn (model X.prog X.w) X.A X.env X.xe)(hc:X.calm=true)(hi:MI X E tg aF f)(hg:MG X E tg g)(hb:MSs X E body b)(hs:∀x,foldedSetIterable aF X.env x=pure x:=by intro _;rfl):MS X E (.For tg aF body [] pos) (a94 f g b):=by
 refine PS.weak (awo hp hc hi hg hb hs) ?_
 rintro N Z H ⟨U,τ,h,S,Rh,o⟩
 exact⟨U,τ,h,S,Rh,xj o λit h1 U1 H1 J g1 r1 hr1 o1=>asw r1 (S.mono g1) hr1 o1⟩
end MI
namespace MI
open L2
theorem R.bind_assoc{α β γ:Type}(r:R α)(f:α->Hd->R β)(g:β->Hd->R γ):(r.bind f).bind g=r.bind λa h=>(f a h).bind g:=by cases r<;>rfl
open Classical in
def mapR(ck:Hd->Prop)(f:D->Hd->R D):List D->Hd->R (List D)
 |[],h=>if ck h then .ok [] h else .no
 |x::xs,h=>if ck h then (f x h).bind λy h1=>(mapR ck f xs h1).bind λys h2=>.ok (y::ys) h2 else .no
open Classical in
def amn(ck:Hd->Prop)(f:D->Hd->R (Option D)):List D->Hd->R (List D)
 |[],h=>if ck h then .ok [] h else .no
 |x::xs,h=>if ck h then (f x h).bind λy h1=>(amn ck f xs h1).bind λys h2=>.ok (y.toList++ys) h2 else .no
def frs'(ix:List Nat)(τ:Sd):Sd:=ix.map λi=>(τ[i]?).join
def t1(d:D):Option Sd:=some [some d]
noncomputable def tN(n:Nat)(d:D):Option Sd:=match d with|.tup ds=>if ds.length=n then some (ds.map some) else none|_=>none
noncomputable def aa5(t:D->Option Sd)(fe:SE)(aG:Sd)(x:D)(h:Hd):R D:=match t x with|some ts=>fe (ts++aG) h|none=>.no
noncomputable def aca(t:D->Option Sd)(c:ST)(fe:SE)(aG:Sd)(x:D)(h:Hd):R (Option D):=match t x with
 |some ts=>(c (ts++aG) h).bind λb h1=>if b=true then (fe (ts++aG) h1).bind λy h2=>.ok (some y) h2 else .ok none h1
 |none=>.no
def abg(yd zs:List D)(h:Hd):R D:=.ok (.ref h.length) (h++[.lst (yd++zs)])
theorem axh(r:R D)(m:Hd->R (List D))(yd:List D):(r.bind λy h1=>(m h1).bind λys h2=>.ok (y::ys) h2).bind (abg yd)=r.bind λy h1=>(m h1).bind (abg (yd++[y])):=by
 cases r with
 |ok y h1 =>
  show((m h1).bind _).bind _=(m h1).bind _
  cases m h1 with
  |ok ys h2=>simp[R.bind,abg]
  |_=>rfl
 |_=>rfl
theorem b2q(r:R (Option D))(m:Hd->R (List D))(yd:List D):(r.bind λy h1=>(m h1).bind λys h2=>.ok (y.toList++ys) h2).bind (abg yd)=r.bind λy h1=>(m h1).bind (abg (yd++y.toList)):=by
 cases r with
 |ok y h1 =>
  show((m h1).bind _).bind _=(m h1).bind _
  cases m h1 with
  |ok ys h2=>simp[R.bind,abg]
  |_=>rfl
 |_=>rfl
def a0w(fi:SI)(t:D->Option Sd)(fe:SE)(ix:List Nat):SE:=λτ h=>(fi τ h).bind λit h1=>if it.xs.length<=LINE then (mapR it.ck (aa5 t fe (frs' ix τ)) it.xs h1).bind (abg []) else .no
def a02(fi:SI)(t:D->Option Sd)(c:ST)(fe:SE)(ix:List Nat):SE:=λτ h=>(fi τ h).bind λit h1=>if it.xs.length<=LINE then (amn it.ck (aca t c fe (frs' ix τ)) it.xs h1).bind (abg []) else .no
def aja(K:Fg)(n:Nat)(g:TG)(t:D->Option Sd):Prop:=∀U H v d ts (r:St) (Q:St->Hp->Prop),Rep K U H v d->t d=some ts->(∀us:St,us.length=n->SRep K U H us ts->Q (us++r) H)->g v (List.replicate n none++r) H Q
theorem aa6:SRep K U H [] []:=⟨rfl,λi d e=>by simp at e⟩
theorem a0f(r:Rep K U H v d)(s:SRep K U H Z τ):SRep K U H (some v::Z) (some d::τ):=by
 refine⟨by simp[s.len],λi d' e=>?_⟩
 cases i with
 |zero=>simp at e;subst e;exact⟨v,rfl,r⟩
 |succ i=>simpa using s.val i d' (by simpa using e)
theorem a6r(s:SRep K U H Z τ)(s':SRep K U H Z' τ'):SRep K U H (Z++Z') (τ++τ'):=by
 refine⟨by simp[s.len,s'.len],λi d e=>?_⟩
 by_cases hi:i<τ.length
 .rw[aV hi]at e;rw[aV (by rw[s.len];exact hi)]
  exact s.val i d e
 .rw[aK (by omega)]at e
  rw[aK (by rw[s.len];omega),s.len]
  exact s'.val _ d e
theorem a4t(s:SRep K U H Z τ)(ix:List Nat):SRep K U H (ix.map λi=>(Z[i]?).join) (frs' ix τ):=by
 refine⟨by simp[frs'],λj d e=>?_⟩
 simp only[frs',bD,aR]at e;obtain⟨i,hi,e⟩:=e;have:τ[i]? = some (some d):=by
  cases q:τ[i]? with
  |none=>rw[q]at e;cases e
  |some o=>rw[q]at e;simp at e;rw[e]
 obtain⟨v,h1,h2⟩:=s.val i d this;exact⟨v,by simp[hi,h1],h2⟩
theorem a2t:aja K 1 (a05 0) t1:=λU H v d ts r Q hr e q=>by
 cases e
 exact q [some v] rfl (a0f hr aa6)
theorem axi{α:Type}{xs:List α}(h:xs.length=n+1):∃x ys,xs=x::ys:=by cases xs with|nil=>cases h|cons x ys=>exact⟨x,ys,rfl⟩
theorem aq9{vs:List V}{d:D}{ds:List D}(r:Reps K U H vs (d::ds)):∃v us,vs=v::us/\Rep K U H v d/\Reps K U H us ds:=by cases r with|cons r rs=>exact⟨_,_,rfl,r,rs⟩
theorem axj:aja K 2 (L2.yj K 2 (amv (a05 0) (amv (a05 1) b3p))) (tN 2):=λU H v d ts r Q hr e q=>by
 unfold tN at e
 cases hr with
 |@tup a vs xs h rs =>
  simp only at e
  split at e
  .rename_i hl;cases e
   obtain⟨x1,xs,rfl⟩:=axi hl;obtain⟨x2,xs,rfl⟩:=axi (j3 hl);obtain rfl:=da.mp (j3 (j3 hl));obtain⟨v1,vs,rfl,r1,rs⟩:=aq9 rs;obtain⟨v2,vs,rfl,r2,rs⟩:=aq9 rs;cases rs
   exact⟨a,_,rfl,SqT.of h,rfl,_,_,rfl,_,_,rfl,rfl,q [some _,some _] rfl (a0f r1 (a0f r2 aa6))⟩
  .cases e
 |_=>cases e
theorem ajb{us:St}(h:us.length=n):L2.Ext (List.replicate n none++r) (us++r):=by
 refine⟨by simp[h],λi v e=>?_⟩
 by_cases hi:i<n
 .rw[aV (by simpa using hi),dZ,aJ hi]at e
  cases e
 .rw[aK (by simpa using hi),cJ]at e
  rw[aK (by omega),h]
  exact e
theorem afd(ir:ani K U0 H0 J it)(tg:aja K n g t)(S:SRep K U0 H0 r rd)(Rh:HRep K U0 H0 h0)(hl:it.xs.length<=LINE)
  (o:out K E (zj K) U0 H0 ((mapR it.ck (aa5 t fe rd) it.xs h0).bind (abg [])) Q):asn J (List.replicate n none++r) g (lift K E (zj K) fe) Q H0:=by
 refine⟨λi m ys H=>m=it.xs.length-i/\i<=it.xs.length/\ys.length<=i/\∃U h yd,Gr U0 H0 U H/\HRep K U H h/\Reps K U H ys yd/\out K E (zj K) U H ((mapR it.ck (aa5 t fe rd) (it.xs.drop i) h).bind (abg yd)) Q,
  ⟨_,rfl,bb _,bb _,U0,h0,[],.refl _ _,Rh,.nil,o⟩,?_⟩
 rintro i m ys H ⟨rfl,hi,hy,U,h,yd,g0,Rh,ry,o⟩
 by_cases hlt:i<it.xs.length
 .rw[dJ hlt,mapR]at o
  by_cases hc:it.ck h
  .rw[aJ hc,axh]at o;obtain⟨go,yl⟩:=(ir U H h g0 Rh hc).1 i _ (ag hlt);refine .inr ⟨go,fV hy (aT hlt (ll hl)),λx H' y=>?_⟩;obtain⟨g1,r1,hr1⟩:=yl x H' y;have o':=a3k o g1
   cases ht:t it.xs[i] with
   |none=>simp only[aa5,ht]at o';exact o'.elim
   |some ts =>
    simp only[aa5,ht]at o';refine tg U H' x _ ts r _ r1 ht λus hus su=>⟨ajb hus,U,ts++rd,h,a6r su (S.mono (g0.trans g1)),hr1,dj o' λd2 h2 U2 H2 u g2 r2 hr2 o2=>?_⟩;refine⟨it.xs.length-(i+1),by omega,rfl,hlt,by simp;omega,U2,h2,yd++[d2],(g0.trans g1).trans g2,hr2,((ry.mono g1).mono g2).snoc r2,o2⟩
  .rw[ba hc]at o;exact o.elim
 .have e:i=it.xs.length:=by omega
  subst e;rw[cD (aw _),mapR]at o
  by_cases hc:it.ck h
  .rw[aJ hc]at o;refine .inl ⟨(ir U H h g0 Rh hc).2,vf (E:=E) ry Rh ?_⟩;simpa[R.bind,abg] using o
  .rw[ba hc]at o;exact o.elim
theorem acb(ir:ani K U0 H0 J it)(tg:aja K n g t)(S:SRep K U0 H0 r rd)(Rh:HRep K U0 H0 h0)(hl:it.xs.length<=LINE)
  (o:out K E (zj K) U0 H0 ((amn it.ck (aca t c fe rd) it.xs h0).bind (abg [])) Q):adw J (List.replicate n none++r) g (lift K E adl c) (lift K E (zj K) fe) Q H0:=by
 refine⟨λi m ys H=>m=it.xs.length-i/\i<=it.xs.length/\ys.length<=i/\∃U h yd,Gr U0 H0 U H/\HRep K U H h/\Reps K U H ys yd/\out K E (zj K) U H ((amn it.ck (aca t c fe rd) (it.xs.drop i) h).bind (abg yd)) Q,
  ⟨_,rfl,bb _,bb _,U0,h0,[],.refl _ _,Rh,.nil,o⟩,?_⟩
 rintro i m ys H ⟨rfl,hi,hy,U,h,yd,g0,Rh,ry,o⟩
 by_cases hlt:i<it.xs.length
 .rw[dJ hlt,amn]at o
  by_cases hc:it.ck h
  .rw[aJ hc,b2q]at o;obtain⟨go,yl⟩:=(ir U H h g0 Rh hc).1 i _ (ag hlt);refine .inr ⟨go,fV hy (aT hlt (ll hl)),λx H' y=>?_⟩;obtain⟨g1,r1,hr1⟩:=yl x H' y;have o':=a3k o g1
   cases ht:t it.xs[i] with
   |none=>simp only[aca,ht]at o';exact o'.elim
   |some ts =>
    simp only[aca,ht]at o';rw[R.bind_assoc]at o';refine tg U H' x _ ts r _ r1 ht λus hus su=>⟨ajb hus,U,ts++rd,h,a6r su (S.mono (g0.trans g1)),hr1,dj o' λb h1 U1 H1 b' g2 rb hrb ob=>?_⟩;have su1:SRep K U1 H1 (us++r) (ts++rd):=(a6r su (S.mono (g0.trans g1))).mono g2;cases rb
    cases b with
    |true =>
     rw[aJ rfl]at ob ⊢;rw[R.bind_assoc]at ob;refine⟨U1,ts++rd,h1,su1,hrb,dj ob λd2 h2 U2 H2 u g3 r2 hr2 o2=>?_⟩;refine⟨it.xs.length-(i+1),by omega,rfl,hlt,by simp;omega,U2,h2,yd++[d2],((g0.trans g1).trans g2).trans g3,hr2,(((ry.mono g1).mono g2).mono g3).snoc r2,?_⟩
     simpa[R.bind] using o2
    |false =>
     rw[ba aX]at ob ⊢;refine⟨it.xs.length-(i+1),by omega,rfl,hlt,by omega,U1,h1,yd,(g0.trans g1).trans g2,hrb,(ry.mono g1).mono g2,?_⟩
     simpa[R.bind] using ob
  .rw[ba hc]at o;exact o.elim
 .have e:i=it.xs.length:=by omega
  subst e;rw[cD (aw _),amn]at o
  by_cases hc:it.ck h
  .rw[aJ hc]at o;refine .inl ⟨(ir U H h g0 Rh hc).2,vf (E:=E) ry Rh ?_⟩;simpa[R.bind,abg] using o
  .rw[ba hc]at o;exact o.elim
section
variable{X:Cx}{E:XD}{aD tg aF cnd:Expr}{aB:Scope}{pos:Pos}{cl:List (Str×Addr)}{ts fr:List Str}{ix:List Nat}{fi:SI}{g:TG}{t:D->Option Sd}{fe:SE}{fc:ST}
theorem a7o(hc:X.calm=true)(S:CSc X aB cl ts fr ix)(hi:MI X E tg aF fi)(hg:∀C fp s H,PG (cxC X (ts++fr) aB cl C fp s H) tg g)(ht:aja X.K ts.length g t)(he:∀C fp s H,ME (cxC X (ts++fr) aB cl C fp s H) E aD fe)
  (hs:∀x,foldedSetIterable aF X.env x=pure x:=by intro _;rfl):ME X E (.ListComp aD [⟨tg,aF,[],0⟩] aB pos) (a0w fi t fe ix):=by
 refine PE.weak (anb (te:=lift X.K E (zj X.K) fe) hc S hi hg he hs) ?_
 rintro Z H Q ⟨U,τ,h,Sr,Rh,o⟩
 refine⟨U,τ,h,Sr,Rh,dj o λit h1 U1 H1 J g1 r1 hr1 o1=>?_⟩
 by_cases hl:it.xs.length<=LINE
 .rw[aJ hl]at o1;exact afd r1 ht (a4t (Sr.mono g1) ix) hr1 hl o1
 .rw[ba hl]at o1;exact o1.elim
theorem aa7(hc:X.calm=true)(S:CSc X aB cl ts fr ix)(hi:MI X E tg aF fi)(hg:∀C fp s H,PG (cxC X (ts++fr) aB cl C fp s H) tg g)(ht:aja X.K ts.length g t)(he:∀C fp s H,ME (cxC X (ts++fr) aB cl C fp s H) E aD fe)
  (hq:∀C fp s H,MT (cxC X (ts++fr) aB cl C fp s H) E cnd fc)
  (hs:∀x,foldedSetIterable aF X.env x=pure x:=by intro _;rfl):ME X E (.ListComp aD [⟨tg,aF,[cnd],0⟩] aB pos) (a02 fi t fc fe ix):=by
 refine PE.weak (ah5 (te:=lift X.K E (zj X.K) fe) (tc:=lift X.K E adl fc) hc S hi hg he hq hs) ?_
 rintro Z H Q ⟨U,τ,h,Sr,Rh,o⟩
 refine⟨U,τ,h,Sr,Rh,dj o λit h1 U1 H1 J g1 r1 hr1 o1=>?_⟩
 by_cases hl:it.xs.length<=LINE
 .rw[aJ hl]at o1;exact acb r1 ht (a4t (Sr.mono g1) ix) hr1 hl o1
 .rw[ba hl]at o1;exact o1.elim
end
mutual
def clo(n:Nat):D->Prop
 |.tup xs=>clos n xs
 |.rol xs=>clos n xs
 |.rod _ xs=>clos n xs
 |.scr xs=>clos n xs
 |.rdT _ xs=>clos n xs
 |.ins _ _ xs=>clos n xs
 |.ref i=>i<n
 |_=>True
def clos(n:Nat):List D->Prop
 |[]=>True
 |x::xs=>clo n x/\clos n xs
end
mutual
theorem Rep.clo:∀{v:V} {d:D},Rep K U H v d->clo U.length d
 |_,_,.non=>by simp[MI.clo]
 |_,_,.bl b=>by simp[MI.clo]
 |_,_,.int i=>by simp[MI.clo]
 |_,_,.str x=>by simp[MI.clo]
 |_,_,.ty n=>by simp[MI.clo]
 |_,_,.tup h r=>by simp only[MI.clo];exact Reps.clo r
 |_,_,.rol h r=>by simp only[MI.clo];exact Reps.clo r
 |_,_,.ref h=>by simp only[MI.clo];exact(ai.mp h).1
 |_,_,.rod h e r=>by simp only[MI.clo];exact Reps.clo r
 |_,_,.scr h r=>by simp only[MI.clo];exact Reps.clo r
 |_,_,.rdT h e r=>by simp only[MI.clo];exact Reps.clo r
 |_,_,.exc h hc hn=>by simp[MI.clo]
 |_,_,.ins h hn e r=>by simp only[MI.clo];exact Reps.clo r
theorem Reps.clo:∀{vs:List V} {ds:List D},Reps K U H vs ds->clos U.length ds
 |_,_,.nil=>by simp[MI.clos]
 |_,_,.cons r rs=>by simp only[MI.clos];exact⟨Rep.clo r,Reps.clo rs⟩
end
mutual
theorem Rep.cut:∀{v:V} {d:D},Rep K U H v d->clo n d->Rep K (U.take n) H v d
 |_,_,.non,_=>.non
 |_,_,.bl b,_=>.bl b
 |_,_,.int i,_=>.int i
 |_,_,.str x,_=>.str x
 |_,_,.ty n,_=>.ty n
 |_,_,.tup h r,c=>.tup h (Reps.cut r (by simpa only[MI.clo] using c))
 |_,_,.rol h r,c=>.rol h (Reps.cut r (by simpa only[MI.clo] using c))
 |_,_,.ref h,c=>.ref (by simp only[MI.clo]at c;rw[fW,aJ c];exact h)
 |_,_,.rod h e r,c=>.rod h e (Reps.cut r (by simpa only[MI.clo] using c))
 |_,_,.scr h r,c=>.scr h (Reps.cut r (by simpa only[MI.clo] using c))
 |_,_,.rdT h e r,c=>.rdT h e (Reps.cut r (by simpa only[MI.clo] using c))
 |_,_,.exc h hc hn,_=>.exc h hc hn
 |_,_,.ins h hn e r,c=>.ins h hn e (Reps.cut r (by simpa only[MI.clo] using c))
theorem Reps.cut:∀{vs:List V} {ds:List D},Reps K U H vs ds->clos n ds->Reps K (U.take n) H vs ds
 |_,_,.nil,_=>.nil
 |_,_,.cons r rs,c=>by simp only[MI.clos]at c;exact .cons (Rep.cut r c.1) (Reps.cut rs c.2)
end
def uv(n:Nat):O->Prop
 |.lst xs=>clos n xs
 |.dK kvs=>clos n (kvs.map (·.2))
 |.dT kvs=>clos n (kvs.map (·.2))
 |.ins _ fs=>clos n (fs.map (·.2))
def axk(n:Nat)(h:Hd):Prop:=∀o∈h,uv n o
theorem ORep.clo(r:ORep K U H a o):uv U.length o:=by
 cases o with
 |lst xs=>obtain⟨vs,_,r⟩:=r;exact r.clo
 |dK kvs=>obtain⟨us,_,_,r⟩:=r;exact r.clo
 |dT kvs=>obtain⟨us,_,_,r⟩:=r;exact r.clo
 |ins _ _=>obtain⟨_,_,us,_,_,_,r⟩:=r;exact r.clo
theorem ORep.cut(r:ORep K U H a o)(c:uv n o):ORep K (U.take n) H a o:=by
 cases o with
 |lst xs=>obtain⟨vs,h,r⟩:=r;exact⟨vs,h,r.cut c⟩
 |dK kvs=>obtain⟨us,h,e,r⟩:=r;exact⟨us,h,e,r.cut c⟩
 |dT kvs=>obtain⟨us,h,e,r⟩:=r;exact⟨us,h,e,r.cut c⟩
 |ins _ _=>obtain⟨C,dx,us,h,hn,e,r⟩:=r;exact⟨C,dx,us,h,hn,e,r.cut c⟩
theorem HRep.clo(r:HRep K U H h):axk h.length h:=λo ho=>by
 obtain⟨i,hi⟩:=cL ho;obtain⟨a,_,q⟩:=r.addr hi;rw[<-r.len];exact q.clo
theorem HRep.cut(r:HRep K U H (h++g))(c:axk h.length h):HRep K (U.take h.length) H h:=by
 refine⟨r.nd.sublist (ic _ _),?_,λi a o e1 e2=>?_⟩
 .have:=r.len
  rw[ah]at this;rw[aQ];omega
 .have hi:i<h.length:=(ai.mp e2).1;rw[fW,aJ hi]at e1;exact(r.obj i a o e1 (by rw[aV hi];exact e2)).cut (c o (bG e2))
def X0:XD:=λ_ _ _ _=>False
abbrev SF:=List D->Hd->R D
noncomputable def ug(K:Fg)(n:Nat)(F:SF):Sp:=λvs H Q _=>vs.length=n/\∃U ds h,Reps K U H vs ds/\HRep K U H h/\out K X0 (zj K) U H (F ds h) Q
def a7p(n:Nat)(ds:List D):Sd:=ds.map some++List.replicate (n-ds.length) none
noncomputable def n8(b:SS)(n:Nat)(ds:List D)(h:Hd):R D:=match b (a7p n ds) h with
 |.rt d h1=>.ok d h1
 |.nx _ h1=>.ok .non h1
 |.ex c h1=>.ex c h1
 |_=>.no
def Rf(n:Nat)(r' r:R D):Prop:=match r with
 |.no=>True
 |.ok d h1=>∃g,r'=.ok d (h1++g)/\(g=[]\/(n<=h1.length/\clo h1.length d/\axk h1.length h1))
 |.ex c h1=>∃g,r'=.ex c (h1++g)/\(g=[]\/(n<=h1.length/\axk h1.length h1))
theorem Rf.same(h:r'=r):Rf n r' r:=by
 subst h
 cases r' with
 |ok d h1=>exact⟨[],by simp,.inl rfl⟩
 |ex c h1=>exact⟨[],by simp,.inl rfl⟩
 |no=>exact True.intro
theorem ah9(r:Reps K U H vs ds):SRep K U H (start N vs) (a7p N.length ds):=by
 refine a6r ?_ ?_
 .clear N
  induction r using Reps.rec (motive_1:=λ_ _ _=>True) with
  |nil=>exact aa6
  |cons r rs _ ih=>exact a0f r ih
  |_=>trivial
 .rw[r.len];exact⟨by simp,λi d e=>by rw[dZ]at e;split at e<;>cases e⟩
theorem aqa(g:Gr U H U' H')(hn:U.length<=n):Gr U H (U'.take n) H':=by
 obtain⟨m,rfl,hm⟩:=g.pre;exact⟨⟨m.take (n-U.length),by rw[List.take_append,cC hn],λa ha=>hm a (eM ha)⟩,g.tup,g.frz,g.oth,g.kp⟩
section
variable{P:Program}{w:World}{K:Fg}{mg:Str->Option Value}{base:Heap}
theorem axl(Fu:Fun K x qual st f fd)(S:FnScope N ps (dh st))
  (hb:∀(cdv:Value) (A:Around) (outer:List Env) (s:Shared) (H:Hp) (E:XK),Room k (A.deeper (PyProof.Rows.envOfC qual (dh st) s.heap.objs.size f cdv))->MSs (air CX0 P w K mg base N qual (dh st) f cdv A outer s H E).nox X0 (xr st) b)
  (hF:∀ds h,ds.length=ps.length->clos h.length ds->axk h.length h->Rf h.length (n8 b N.length ds h) (F ds h)):FnOk P w K mg base CX0 (k+1) f fd ps (ug K ps.length F):=by
 refine Fu.ok S (λvs H Q E h=>h.1) λcdv A outer s H vs Q E hr h=>⟨_,hb cdv A outer s H E hr,?_⟩;obtain⟨hl,U,ds,h,r,hr',o⟩:=h;refine⟨U,a7p N.length ds,h,ah9 r,hr',?_⟩;have q:=hF ds h (by rw[<-r.len];exact hl) (by rw[<-hr'.len];exact r.clo) hr'.clo
 unfold n8 at q
 cases hFd:F ds h with
 |no=>rw[hFd]at o;exact o.elim
 |ex c h1 =>
  rw[hFd]at q o;obtain⟨g,e,cl⟩:=q;have fin:∀U' H',Gr U H U' H'->HRep K U' H' (h1++g)->X0 c U' H' (h1++g):=λU' H' g1 hr1=>by
   rcases cl with rfl|⟨hn,c2⟩
   .rw[bE]at hr1;exact o U' H' g1 hr1
   .exact o (U'.take h1.length) H' (aqa g1 (by rw[hr'.len];exact hn)) (hr1.cut c2)
  cases hbd:b (a7p N.length ds) h with
  |ex c' h' =>
   rw[hbd]at e
   injection e with e1 e2
   subst e1 e2;exact fin
  |_=>rw[hbd]at e;cases e
 |ok d h1 =>
  rw[hFd]at q o;obtain⟨g,e,cl⟩:=q;have fin:∀U' H' v,Gr U H U' H'->Rep K U' H' v d->HRep K U' H' (h1++g)->Q v H':=λU' H' v g1 r1 hr1=>by
   rcases cl with rfl|⟨hn,c1,c2⟩
   .rw[bE]at hr1;exact o U' H' v g1 r1 hr1
   .exact o (U'.take h1.length) H' v (aqa g1 (by rw[hr'.len];exact hn)) (r1.cut c1) (hr1.cut c2)
  cases hbd:b (a7p N.length ds) h with
  |rt d' h' =>
   rw[hbd]at e
   injection e with e1 e2
   subst e1 e2;exact fin
  |nx τ' h' =>
   rw[hbd]at e
   injection e with e1 e2
   subst e1 e2;exact λU' H' Z' g1 S1 hr1=>fin U' H' .non g1 .non hr1
  |_=>rw[hbd]at e;cases e
end
section
variable{K:Fg}{E:XD}{U:List Addr}{H:Hp}{h:Hd}{Q:VK}
theorem ans(o:out K E (zj K) U H (.ok d h) Q)(r:Rep K U H v d)(hr:HRep K U H h):Q v H:=o U H v (.refl _ _) r hr
theorem HRep.lst(hr:HRep K U H h){i:Nat}{a:Addr}{xs:List D}(e:U[i]? = some a)(hi:h[i]? = some (.lst xs)):∃vs,H a=some (.lst vs)/\Reps K U H vs xs:=hr.obj i a _ e hi
end
noncomputable def b5c:D->D->Hd->R D
 |.int i,.int j,h=>.ok (.int (i+j)) h
 |.str x,.str y,h=>if x.length+y.length<=LINE then .ok (.str (x++y)) h else .no
 |.tup xs,.tup ys,h=>if xs≠[]/\xs.length+ys.length<=LINE then .ok (.tup (xs++ys)) h else .no
 |.ref i,.ref j,h=>match h[i]?,h[j]? with
  |some (.lst xs),some (.lst ys)=>if xs.length+ys.length<=LINE then .ok (.ref h.length) (h++[.lst (xs++ys)]) else .no
  |_,_=>.no
 |_,_,_=>.no
def a77:D->D->Hd->R D
 |.int i,.int j,h=>.ok (.int (i-j)) h
 |_,_,_=>.no
open Classical in
def axm:D->D->Hd->R D
 |.int i,.int j,h=>if CMul i j then .ok (.int (i*j)) h else .no
 |.ref i,.int k,h=>match h[i]? with
  |some (.lst xs)=>if (-(2^63)<=k/\k<2^63)/\xs.length*k.toNat<=LINE then .ok (.ref h.length) (h++[.lst (List.replicate k.toNat xs).flatten]) else .no
  |_=>.no
 |_,_,_=>.no
def a6b:D->D->Hd->R D
 |.int i,.int j,h=>if 0<j then .ok (.int (i%j)) h else .no
 |_,_,_=>.no
noncomputable def a8n:D->D->Hd->R D
 |.int i,.int j,h=>if 0<j/\j<1073741824 then .ok (.int (i / j)) h else .no
 |_,_,_=>.no
noncomputable def a95:D->D->Hd->R D
 |.int i,.int j,h=>if 0<=j/\j<=1000000/\i.natAbs<2^64 then .ok (.int (i^j.toNat)) h else .no
 |_,_,_=>.no
section
variable{X:Cx}{K:Fg}
theorem ae0:a1w K a77 (rI0 λi j=>.int (i-j)):=by
 intro E U H h x y dx dy Q rx ry hr o
 cases rx with
 |int i =>
  cases ry with
  |int j=>exact⟨i,j,rfl,rfl,ans o (.int _) hr⟩
  |_=>exact o.elim
 |_=>exact o.elim
theorem asx:a1w K a6b (rI (λ_ j=>0<j) λi j=>.int (i%j)):=by
 intro E U H h x y dx dy Q rx ry hr o
 cases rx with
 |int i =>
  cases ry with
  |int j =>
   by_cases hc:0<j
   .simp only[a6b,aJ hc]at o;exact⟨i,j,rfl,rfl,hc,ans o (.int _) hr⟩
   .simp only[a6b,ba hc]at o;exact o.elim
  |_=>exact o.elim
 |_=>exact o.elim
theorem ajc:a1w K a8n (rI b28 λi j=>.int (i / j)):=by
 intro E U H h x y dx dy Q rx ry hr o
 cases rx with
 |int i =>
  cases ry with
  |int j =>
   by_cases hc:0<j/\j<1073741824
   .simp only[a8n,aJ hc]at o;exact⟨i,j,rfl,rfl,hc,ans o (.int _) hr⟩
   .simp only[a8n,ba hc]at o;exact o.elim
  |_=>exact o.elim
 |_=>exact o.elim
theorem asy:a1w K a95 (rI b3r λi j=>.int (i^j.toNat)):=by
 intro E U H h x y dx dy Q rx ry hr o
 cases rx with
 |int i =>
  cases ry with
  |int j =>
   by_cases hc:0<=j/\j<=1000000/\i.natAbs<2^64
   .simp only[a95,aJ hc]at o;exact⟨i,j,rfl,rfl,hc,ans o (.int _) hr⟩
   .simp only[a95,ba hc]at o;exact o.elim
  |_=>exact o.elim
 |_=>exact o.elim
theorem ajd:a1w K axm (λx y H Q=>rI CMul (λi j=>.int (i*j)) x y H Q\/ax6 x y H Q):=by
 intro E U H h x y dx dy Q rx ry hr o
 cases rx with
 |int i =>
  cases ry with
  |int j =>
   by_cases hc:CMul i j
   .simp only[axm,aJ hc]at o;exact .inl ⟨i,j,rfl,rfl,hc,ans o (.int _) hr⟩
   .simp only[axm,ba hc]at o;exact o.elim
  |_=>exact o.elim
 |@ref a i ha =>
  cases ry with
  |int k =>
   simp only[axm]at o
   split at o
   .rename_i xs hx;obtain⟨vs,h3,h4⟩:=hr.lst ha hx
    split at o
    .rename_i hc;exact .inr ⟨a,k,vs,rfl,rfl,h3,hc.1.1,hc.1.2,ll (by rw[h4.len];exact hc.2),vf (h4.flat _) hr o⟩
    .exact o.elim
   .exact o.elim
  |_=>exact o.elim
 |_=>exact o.elim
variable{E:XD}{a b e:Expr}{es:List Expr}{fa fb:SE}{ka:SA}{pos:Pos}
theorem a7q(ha:ME X E a fa)(hb:ME X E b fb):ME X E (.BinOp a .Sub b pos) (s2 a77 fa fb):=ac2 awq ae0 ha hb
theorem a96(ha:ME X E a fa)(hb:ME X E b fb):ME X E (.BinOp a .Mod b pos) (s2 a6b fa fb):=ac2 awr asx ha hb
theorem aje(ha:ME X E a fa)(hb:ME X E b fb):ME X E (.BinOp a .FloorDiv b pos) (s2 a8n fa fb):=ac2 as3 ajc ha hb
theorem ajf(ha:ME X E a fa)(hb:ME X E b fb):ME X E (.BinOp a .Pow b pos) (s2 a95 fa fb):=ac2 aws asy ha hb
def a97:D->Hd->R D
 |.int i,h=>.ok (.int (-i)) h
 |_,_=>.no
theorem a6c(ha:ME X E a fa):ME X E (.UnaryOp .USub a pos) (s1 a97 fa):=b2n awt (λE U H h x dx Q rx hr o=>by
 cases rx with
 |int i=>exact⟨i,rfl,ans o (.int _) hr⟩
 |_=>exact o.elim) ha
noncomputable def gLt:D->D->Hd->R D
 |.int i,.int j,h=>.ok (.bl (decide (i<j))) h
 |.str i,.str j,h=>.ok (.bl (decide (i.cps.toList<j.cps.toList))) h
 |_,_,_=>.no
noncomputable def gLe:D->D->Hd->R D
 |.int i,.int j,h=>.ok (.bl (decide (i<=j))) h
 |.str i,.str j,h=>.ok (.bl (!decide (j.cps.toList<i.cps.toList))) h
 |_,_,_=>.no
def gGt:D->D->Hd->R D
 |.int i,.int j,h=>.ok (.bl (decide (j<i))) h
 |_,_,_=>.no
def gGe:D->D->Hd->R D
 |.int i,.int j,h=>.ok (.bl (decide (j<=i))) h
 |_,_,_=>.no
theorem a3x:a1w K gLt (λx y H Q=>rI0 (λi j=>.bl (decide (i<j))) x y H Q\/∃i j,x=.str i/\y=.str j/\Q (.bl (decide (i.cps.toList<j.cps.toList))) H):=by
 intro E U H h x y dx dy Q rx ry hr o
 cases rx with
 |int i =>
  cases ry with
  |int j=>exact .inl ⟨i,j,rfl,rfl,ans o (.bl _) hr⟩
  |_=>exact o.elim
 |str i =>
  cases ry with
  |str j=>exact .inr ⟨i,j,rfl,rfl,ans o (.bl _) hr⟩
  |_=>exact o.elim
 |_=>exact o.elim
theorem aqb:a1w K gLe (λx y H Q=>rI0 (λi j=>.bl (decide (i<=j))) x y H Q\/∃i j,x=.str i/\y=.str j/\Q (.bl (!decide (j.cps.toList<i.cps.toList))) H):=by
 intro E U H h x y dx dy Q rx ry hr o
 cases rx with
 |int i =>
  cases ry with
  |int j=>exact .inl ⟨i,j,rfl,rfl,ans o (.bl _) hr⟩
  |_=>exact o.elim
 |str i =>
  cases ry with
  |str j=>exact .inr ⟨i,j,rfl,rfl,ans o (.bl _) hr⟩
  |_=>exact o.elim
 |_=>exact o.elim
theorem afe:a1w K gGt (rI0 λi j=>.bl (decide (j<i))):=by
 intro E U H h x y dx dy Q rx ry hr o
 cases rx with
 |int i =>
  cases ry with
  |int j=>exact⟨i,j,rfl,rfl,ans o (.bl _) hr⟩
  |_=>exact o.elim
 |_=>exact o.elim
theorem aqc:a1w K gGe (rI0 λi j=>.bl (decide (j<=i))):=by
 intro E U H h x y dx dy Q rx ry hr o
 cases rx with
 |int i =>
  cases ry with
  |int j=>exact⟨i,j,rfl,rfl,ans o (.bl _) hr⟩
  |_=>exact o.elim
 |_=>exact o.elim
def a8o:D->Bool
 |.non=>true
 |_=>false
theorem asz(r:Rep K U H x .non):x=.non:=by cases r;rfl
theorem aqd{b:Bool}(r:Rep K U H x (.bl b)):x=.bl b:=by cases r;rfl
theorem ajg{i:Int}(r:Rep K U H x (.int i)):x=.int i:=by cases r;rfl
theorem anj(r:Rep K U H x d):decide (x=.non)=a8o d:=by cases r<;>simp[a8o]
noncomputable def gIs(x y:D)(h:Hd):R D:=match y with
 |.non=>.ok (.bl (a8o x)) h
 |.bl j=>(match x with|.bl i=>.ok (.bl (i == j)) h|_=>.no)
 |_=>.no
noncomputable def acd(x y:D)(h:Hd):R D:=match y with
 |.non=>.ok (.bl (!a8o x)) h
 |.bl j=>(match x with|.bl i=>.ok (.bl (i != j)) h|_=>.no)
 |_=>.no
theorem ace:a1w K acd (λx y H Q=>(y=.non/\Q (.bl (!decide (x=.non))) H)\/∃i j,x=.bl i/\y=.bl j/\Q (.bl (i != j)) H):=by
 intro E U H h x y dx dy Q rx ry hr o
 cases dy with
 |non=>exact .inl ⟨asz ry,by rw[anj rx];exact ans o (.bl _) hr⟩
 |bl j =>
  cases dx with
  |bl i=>exact .inr ⟨i,j,aqd rx,aqd ry,ans o (.bl _) hr⟩
  |_=>exact o.elim
 |_=>exact o.elim
def a0g:D->Bool
 |.non=>true|.bl _=>true|.int _=>true|.str _=>true
 |_=>false
noncomputable def fvD:D->Option V
 |.non=>some .non|.bl b=>some (.bl b)|.int i=>some (.int i)|.str x=>some (.str x)
 |_=>none
theorem ank{d:D}(r:Rep K U H x d)(f:a0g d=true):fvD d=some x:=by
 cases r<;>first|rfl|(cases f;done)
theorem fvs{d e:D}{P:D->V->D->V->Prop}(h:∀d x e y,fvD d=some x->fvD e=some y->P d x e y)(r:Rep K U H x d)(q:Rep K U H y e)(f:a0g d=true)(g:a0g e=true):P d x e y:=h d x e y (ank r f) (ank q g)
noncomputable def eqF:D->D->Bool
 |.non,.non=>true
 |.bl i,.bl j=>i == j
 |.int i,.int j=>i == j
 |.str i,.str j=>i == j
 |.int i,.bl j=>i == (if j then 1 else 0)
 |.bl i,.int j=>(if i then 1 else 0) == j
 |_,_=>false
end
section
variable{X:Cx}{K:Fg}{E:XD}{a b e o:Expr}{es:List Expr}{fa fb:SE}{ka:SA}{pos:Pos}
noncomputable def a0u(d:D)(h:Hd):Option (List D):=match d with
 |.tup xs=>some xs
 |.rol xs=>some xs
 |.ref i=>match h[i]? with|some (.lst xs)=>some xs|_=>none
 |_=>none
noncomputable def gIx(x y:D)(h:Hd):R D:=match y with
 |.int i=>(match x with
  |.str z=>if z.length<=LINE then (match atI z.cps.toList i with|some c=>.ok (.str ⟨#[c]⟩) h|none=>.no) else .no
  |x=>match a0u x h with
   |some xs=>(match atI xs i with|some d=>.ok d h|none=>.no)
   |none=>.no)
 |_=>.no
theorem afg(r:Reps K U H vs xs)(e:atI xs i=some d):∃v,atI vs i=some v/\Rep K U H v d:=by
 unfold atI at e ⊢;rw[r.len]
 cases hx:ixN xs.length i with
 |none=>rw[hx]at e;cases e
 |some j=>rw[hx]at e;exact r.get e
theorem axn:a1w K gIx (rIx K):=by
 intro E U H h x y dx dy Q rx ry hr o
 cases ry with
 |int i =>
  have go:∀{p:Addr} {vs:List V} {xs:List D},Reps K U H vs xs->out K E (zj K) U H (match atI xs i with|some d=>.ok d h|none=>.no) Q->∃v,atI vs i=some v/\Q v H:=λ{p vs xs} r o=>by
   cases he:atI xs i with
   |none=>rw[he]at o;exact o.elim
   |some d =>
    rw[he]at o;obtain⟨v,h1,h2⟩:=afg r he;exact⟨v,h1,ans o h2 hr⟩
  cases rx with
  |str z =>
   by_cases hc:z.length<=LINE
   .simp only[gIx,aJ hc]at o
    cases he:atI z.cps.toList i with
    |none=>rw[he]at o;exact o.elim
    |some c=>rw[he]at o;exact .inr (.inr ⟨z,i,c,rfl,rfl,ll hc,he,ans o (.str _) hr⟩)
   .simp only[gIx,ba hc]at o;exact o.elim
  |@tup p vs xs hp r =>
   simp only[gIx,a0u]at o;obtain⟨v,h1,h2⟩:=go (p:=p) r o;exact .inr (.inl ⟨p,vs,i,v,rfl,rfl,SqT.of hp,h1,h2⟩)
  |@rol p vs xs hp r =>
   simp only[gIx,a0u]at o;obtain⟨v,h1,h2⟩:=go (p:=p) r o;exact .inl ⟨p,vs,i,v,rfl,rfl,hp.l,h1,h2⟩
  |@ref p j hp =>
   obtain⟨ob,e1,e2⟩:=hr.at hp
   cases ob with
   |lst xs =>
    simp only[gIx,a0u,e1]at o;obtain⟨vs,h3,h4⟩:=e2;obtain⟨v,h1,h2⟩:=go (p:=p) h4 o;exact .inl ⟨p,vs,i,v,rfl,rfl,SqL.of h3,h1,h2⟩
   |dK _=>simp only[gIx,a0u,e1]at o;exact o.elim
   |dT _=>simp only[gIx,a0u,e1]at o;exact o.elim
   |ins _ _=>simp only[gIx,a0u,e1]at o;exact o.elim
  |_=>exact o.elim
 |_=>exact o.elim
theorem a5o(ha:ME X E a fa)(hb:ME X E b fb)(hp:a9y b):ME X E (.Subscript a b pos) (s2 gIx fa fb):=b2o ax4 axn ha hb hp
abbrev SO:=Sd->Hd->R (Option Int)
abbrev MO(X:Cx)(E:XD)(e:Option Expr)(f:SO):Prop:=PO X e (lift X.K E b5a f)
def oN:SO:=λ_ h=>.ok none h
def oS(f:SE):SO:=λτ h=>(f τ h).bind λd h1=>match d with|.int i=>.ok (some i) h1|_=>.no
theorem PO.weak{e:Option Expr}{t t':St->Hp->(Option Int->Hp->Prop)->Prop}(h:PO X e t)(i:∀Z H Q,t' Z H Q->t Z H Q):PO X e t':=λaA s Z H Q I q=>h aA s Z H Q I (i _ _ _ q)
theorem nj:MO X E none oN:=PO.weak ase λZ H Q ⟨U,τ,h,S,Rh,o⟩=>o U H none (.refl _ _) rfl Rh
theorem nq(he:ME X E e fa):MO X E (some e) (oS fa):=by
 refine PO.weak (asf he) ?_
 rintro Z H Q ⟨U,τ,h,S,Rh,o⟩
 refine⟨U,τ,h,S,Rh,dj o λd h1 U1 H1 v g1 r1 hr1 o1=>?_⟩
 cases r1 with
 |int i=>exact⟨i,rfl,o1 U1 H1 _ (.refl _ _) rfl hr1⟩
 |_=>exact o1.elim
def whole(n:Nat)(lo hi:Option Int):Prop:=HT.sIx n 0 lo=0/\HT.sIx n n hi=n
instance (n:Nat) (lo hi:Option Int):Decidable (whole n lo hi):=by unfold whole;exact inferInstance
noncomputable def gSl(d:D)(lo hi:Option Int)(h:Hd):R D:=match d with
 |.str z=>if z.length<=LINE then .ok (.str ⟨(a5i z.cps.toList lo hi).toArray⟩) h else .no
 |.tup xs=>if ¬ whole xs.length lo hi then .ok (.tup (a5i xs lo hi)) h else .no
 |.rol xs=>.ok (.ref h.length) (h++[.lst (a5i xs lo hi)])
 |.scr xs=>.ok (.ref h.length) (h++[.lst (a5i xs lo hi)])
 |.ref i=>match h[i]? with|some (.lst xs)=>.ok (.ref h.length) (h++[.lst (a5i xs lo hi)])|_=>.no
 |_=>.no
theorem a4u(r:Reps K U H vs xs)(lo hi:Option Int):Reps K U H (apy vs lo hi) (a5i xs lo hi):=by
 unfold apy a5i;rw[r.len];exact(r.drop _).take _
theorem afh(rx:Rep K U H x d)(hr:HRep K U H h)(o:out K E (zj K) U H (gSl d lo hi h) Q):b2j x lo hi H Q\/b2e K x lo hi H Q\/b2g K x lo hi H Q:=by
 cases rx with
 |str z =>
  by_cases hc:z.length<=LINE
  .simp only[gSl,aJ hc]at o;exact .inl ⟨z,rfl,ll hc,ans o (.str _) hr⟩
  .simp only[gSl,ba hc]at o;exact o.elim
 |@tup p vs xs hp r =>
  by_cases hc:¬ whole xs.length lo hi
  .simp only[gSl,aJ hc]at o;exact .inr (.inl ⟨p,vs,rfl,SqT.of hp,by rw[r.len];exact hc,a1h (a4u r lo hi) hr o⟩)
  .simp only[gSl,ba hc]at o;exact o.elim
 |@rol p vs xs hp r=>exact .inr (.inr ⟨p,vs,rfl,hp.l,vf (a4u r lo hi) hr o⟩)
 |@scr p vs xs hp r=>exact .inr (.inr ⟨p,vs,rfl,hp.l,vf (a4u r lo hi) hr o⟩)
 |@ref p j hp =>
  obtain⟨ob,e1,e2⟩:=hr.at hp
  cases ob with
  |lst xs =>
   simp only[gSl,e1]at o;obtain⟨vs,h3,h4⟩:=e2;exact .inr (.inr ⟨p,vs,rfl,SqL.of h3,vf (a4u h4 lo hi) hr o⟩)
  |dK _=>simp only[gSl,e1]at o;exact o.elim
  |dT _=>simp only[gSl,e1]at o;exact o.elim
  |ins _ _=>simp only[gSl,e1]at o;exact o.elim
 |_=>exact o.elim
theorem ajh(r:Rep K U H x d)(f:a0g d=true):a4d x=true:=by cases r<;>first|rfl|cases f
theorem axo(r:Rep K U H x d)(q:Rep K U H y c):a0g d=true->a0g c=true->eqV x y=eqF d c:=λf g=>by
 refine fvs (P:=λd x c y=>eqV x y=eqF d c) (λd x e y h h'=>?_) r q f g
 cases d<;>first|(cases h;done)|(cases h;cases e<;>first|(cases h';done)|(cases h';rfl))
def inD(x:D)(xs:List D):Bool:=xs.any λy=>eqF y x
theorem anl(r:Reps K U H vs xs)(f:xs.all a0g=true):vs.all a4d=true:=by
 induction r using Reps.rec (motive_1:=λ_ _ _=>True) with
 |nil=>rfl
 |cons r rs _ ih =>
  rw[fS,bM]at f ⊢;exact⟨ajh r f.1,ih f.2⟩
 |_=>trivial
theorem axp(rx:Rep K U H x d)(fx:a0g d=true)(r:Reps K U H vs xs)(f:xs.all a0g=true):inV x vs=inD d xs:=by
 unfold inV inD
 induction r using Reps.rec (motive_1:=λ_ _ _=>True) with
 |nil=>rfl
 |cons r rs _ ih =>
  rw[fS,bM]at f;rw[gO,gO,ih f.2,axo r rx f.1 fx]
 |_=>trivial
noncomputable def gIn(neg:Bool)(x y:D)(h:Hd):R D:=match y with
 |.str T=>(match x with
  |.str z=>(match z.cps.toList with|[c]=>.ok (.bl (if neg then !decide (c∈T.cps.toList) else decide (c∈T.cps.toList))) h|_=>.no)
  |_=>.no)
 |y=>match a0u y h with
  |some xs=>if a0g x=true/\xs.all a0g=true then .ok (.bl (if neg then !inD x xs else inD x xs)) h else .no
  |none=>.no
theorem one_sign{z:Str}(h:z.cps.toList=[c]):z=⟨#[c]⟩:=by
 obtain⟨cps⟩:=z
 congr
 exact Array.ext' (by simpa using h)
theorem aqe(neg:Bool){r1:R2}(h1:∀c T H (Q:VK),Q (.bl (if neg then !decide (c∈T.cps.toList) else decide (c∈T.cps.toList))) H->r1 (.str ⟨#[c]⟩) (.str T) H Q):a1w K (gIn neg) (λx y H Q=>r1 x y H Q\/rIn K neg x y H Q):=by
 intro E U H h x y dx dy Q rx ry hr o
 have go:∀{p:Addr} {vs:List V} {xs:List D},(SqL K H p vs\/SqT K H p vs)->Reps K U H vs xs->out K E (zj K) U H (if a0g dx=true/\xs.all a0g=true then .ok (.bl (if neg then !inD dx xs else inD dx xs)) h else .no) Q->rIn K neg x (.ref p) H Q:=λ{p vs xs} sq r o=>by
  split at o
  .rename_i hc;exact⟨p,vs,rfl,sq,ajh rx hc.1,anl r hc.2,by rw[axp rx hc.1 r hc.2];exact ans o (.bl _) hr⟩
  .exact o.elim
 cases ry with
 |str T =>
  cases rx with
  |str z =>
   simp only[gIn]at o
   split at o
   .rename_i c hz;rw[one_sign hz];exact .inl (h1 c T H Q (ans o (.bl _) hr))
   .exact o.elim
  |_=>exact o.elim
 |@tup p vs xs hp r=>simp only[gIn,a0u]at o;exact .inr (go (.inr (SqT.of hp)) r o)
 |@rol p vs xs hp r=>simp only[gIn,a0u]at o;exact .inr (go (.inl hp.l) r o)
 |@ref p j hp =>
  obtain⟨ob,e1,e2⟩:=hr.at hp
  cases ob with
  |lst xs =>
   simp only[gIn,a0u,e1]at o;obtain⟨vs,h3,h4⟩:=e2;exact .inr (go (.inl (SqL.of h3)) h4 o)
  |dK _=>simp only[gIn,a0u,e1]at o;exact o.elim
  |dT _=>simp only[gIn,a0u,e1]at o;exact o.elim
  |ins _ _=>simp only[gIn,a0u,e1]at o;exact o.elim
 |_=>exact o.elim
theorem a4h:a1w K (gIn false) (λx y H Q=>(∃c T,x=.str ⟨#[c]⟩/\y=.str T/\Q (.bl (decide (c∈T.cps.toList))) H)\/rIn K false x y H Q):=aqe false λc T H Q q=>⟨c,T,rfl,rfl,q⟩
theorem aa8:a1w K (gIn true) (λx y H Q=>(∃c T,x=.str ⟨#[c]⟩/\y=.str T/\Q (.bl (!decide (c∈T.cps.toList))) H)\/rIn K true x y H Q):=aqe true λc T H Q q=>⟨c,T,rfl,rfl,q⟩
noncomputable def vg:List D->Hd->R D
 |[.str z],h=>if z.length<=LINE then .ok (.int z.length) h else .no
 |[x],h=>(match a0u x h with|some xs=>.ok (.int xs.length) h|none=>.no)
 |_,_=>.no
theorem at5:af9 K vg (λxs H Q=>(∃p ys,xs=[.ref p]/\(SqL K H p ys\/SqT K H p ys)/\Q (.int ys.length) H)\/∃z,xs=[.str z]/\z.length<=sizeLine/\Q (.int z.length) H):=by
 intro E U H h xs ds Q r hr o
 cases r with
 |nil=>exact o.elim
 |cons r rs =>
  cases rs with
  |cons _ _=>exact(show False by cases r<;>exact o).elim
  |nil =>
   cases r with
   |str z =>
    by_cases hc:z.length<=LINE
    .simp only[vg,aJ hc]at o;exact .inr ⟨z,rfl,ll hc,ans o (.int _) hr⟩
    .simp only[vg,ba hc]at o;exact o.elim
   |@tup p vs xs hp r=>simp only[vg,a0u]at o;exact .inl ⟨p,vs,rfl,.inr (SqT.of hp),by rw[r.len];exact ans o (.int _) hr⟩
   |@rol p vs xs hp r=>simp only[vg,a0u]at o;exact .inl ⟨p,vs,rfl,.inl hp.l,by rw[r.len];exact ans o (.int _) hr⟩
   |@ref p j hp =>
    obtain⟨ob,e1,e2⟩:=hr.at hp
    cases ob with
    |lst xs =>
     simp only[vg,a0u,e1]at o;obtain⟨vs,h3,h4⟩:=e2;exact .inl ⟨p,vs,rfl,.inl (SqL.of h3),by rw[h4.len];exact ans o (.int _) hr⟩
    |dK _=>simp only[vg,a0u,e1]at o;exact o.elim
    |dT _=>simp only[vg,a0u,e1]at o;exact o.elim
    |ins _ _=>simp only[vg,a0u,e1]at o;exact o.elim
   |_=>exact o.elim
def b18:List D->Hd->R D
 |[.int i],h=>.ok (.int (if i<0 then -i else i)) h
 |_,_=>.no
theorem at6:af9 K b18 (λxs H Q=>∃i,xs=[.int i]/\Q (.int (if i<0 then -i else i)) H):=by
 intro E U H h xs ds Q r hr o
 unfold b18 at o
 split at o
 .cases r with|cons r rs=>cases r;cases rs;exact⟨_,rfl,ans o (.int _) hr⟩
 .exact o.elim
def acf:List D->Hd->R D
 |[.int i,.int j],h=>.ok (.int (if j > i then j else i)) h
 |_,_=>.no
def acg:List D->Hd->R D
 |[.int i,.int j],h=>.ok (.int (if j<i then j else i)) h
 |_,_=>.no
theorem anm:af9 K acf (λxs H Q=>∃i j,xs=[.int i,.int j]/\Q (.int (if j > i then j else i)) H):=by
 intro E U H h xs ds Q r hr o
 unfold acf at o
 split at o
 .cases r with|cons r rs=>cases rs with|cons q rs=>cases r;cases q;cases rs;exact⟨_,_,rfl,ans o (.int _) hr⟩
 .exact o.elim
theorem ano:af9 K acg (λxs H Q=>∃i j,xs=[.int i,.int j]/\Q (.int (if j<i then j else i)) H):=by
 intro E U H h xs ds Q r hr o
 unfold acg at o
 split at o
 .cases r with|cons r rs=>cases rs with|cons q rs=>cases r;cases q;cases rs;exact⟨_,_,rfl,ans o (.int _) hr⟩
 .exact o.elim
noncomputable def at7:List D->Hd->R D
 |[.int i],h=>.ok (.int i) h
 |[.bl k],h=>.ok (.int (if k then 1 else 0)) h
 |_,_=>.no
theorem at8:af9 K at7 (λxs H Q=>(∃i,xs=[.int i]/\Q (.int i) H)\/∃k,xs=[.bl k]/\Q (.int (if k then 1 else 0)) H):=by
 intro E U H h xs ds Q r hr o
 unfold at7 at o
 split at o
 .cases r with|cons r rs=>cases r;cases rs;exact .inl ⟨_,rfl,ans o (.int _) hr⟩
 .cases r with|cons r rs=>cases r;cases rs;exact .inr ⟨_,rfl,ans o (.int _) hr⟩
 .exact o.elim
noncomputable def tyD(d:D)(h:Hd):Option String:=match d with
 |.non=>some "NoneType" |.bl _=>some "bool" |.int _=>some "int" |.str _=>some "str" |.tup _=>some "tuple" |.rol _=>some "list"
 |.ref i=>(match h[i]? with|some (.lst _)=>some "list" |some (.dK _)=>some "dict" |_=>none)
 |_=>none
noncomputable def avr(t T:String):Option Bool :=
 if t∈["NoneType","bool","int","str","tuple","list","dict"]/\T∈["bool","int","str","tuple","list","dict"] then some (t == T || (t == "bool" && T == "int")) else none
theorem aji{t T:String}{b:Bool}(e:avr t T=some b):PySem.W.kitOne K (.type t) (.type T)=some b:=by
 unfold avr at e
 split at e
 .rename_i h;obtain⟨h1,h2⟩:=h;simp only[aL,bg,cW]at h1 h2
  rcases h1 with rfl|rfl|rfl|rfl|rfl|rfl|rfl<;>rcases h2 with rfl|rfl|rfl|rfl|rfl|rfl<;>(cases e;rfl)
 .cases e
noncomputable def b19:List D->Hd->R D
 |[x,.ty T],h=>(match tyD x h with|some t=>(match avr t T with|some b=>.ok (.bl b) h|none=>.no)|none=>.no)
 |_,_=>.no
theorem axq(r:Rep K U H x d)(hr:HRep K U H h)(e:tyD d h=some t):TyOf K H x (.type t):=by
 cases r with
 |non=>cases e;exact .non
 |bl b=>cases e;exact .bl b
 |int b=>cases e;exact .int b
 |str b=>cases e;exact .str b
 |ty _=>cases e
 |tup hp r=>cases e;exact .tup hp
 |rol hp r=>cases e;obtain⟨o,hp⟩:=hp;exact .frz hp
 |scr _ _=>cases e
 |rod _ _ _=>cases e
 |rdT _ _ _=>cases e
 |exc _ _ _=>cases e
 |ins _ _ _ _=>cases e
 |ref hp =>
  obtain⟨ob,e1,e2⟩:=hr.at hp
  cases ob with
  |lst xs=>simp only[tyD,e1]at e;cases e;obtain⟨vs,h3,h4⟩:=e2;exact .lst h3
  |dK _=>simp only[tyD,e1]at e;cases e;obtain⟨vs,h3,h4⟩:=e2;exact .dK h3
  |dT _=>simp only[tyD,e1]at e;cases e
  |ins _ _=>simp only[tyD,e1]at e;cases e
theorem at9:af9 K b19 (λxs H Q=>∃x T t b,xs=[x,.ty T]/\TyOf K H x t/\PySem.W.kitOne K t (.type T)=some b/\Q (.bl b) H):=by
 intro E U H h xs ds Q r hr o
 unfold b19 at o
 split at o
 .rename_i d T
  cases r with
  |cons r rs =>
   cases rs with
   |cons q rs =>
    cases q;cases rs
    cases ht:tyD d h with
    |none=>rw[ht]at o;exact o.elim
    |some t =>
     rw[ht]at o
     cases hb:avr t T with
     |none=>simp only[hb]at o;exact o.elim
     |some b =>
      simp only[hb]at o;exact⟨_,T,.type t,b,rfl,axq r hr ht,aji hb,ans o (.bl _) hr⟩
 .exact o.elim
end
section
variable{X:Cx}{K:Fg}{E:XD}{a b e o:Expr}{es:List Expr}{fa fb fo:SE}{ka:SA}{pos apos cpos:Pos}{name:Str}{idn:String}
def axr(K:Fg)(g:D->List D->Hd->R D)(r:V->List V->Hp->VK->Prop):Prop:=∀(E:XD) U H h x dx xs ds Q,Rep K U H x dx->Reps K U H xs ds->HRep K U H h->out K E (zj K) U H (g dx ds h) Q->r x xs H Q
noncomputable def isL(d:D)(h:Hd):Bool:=match d with|.ref i=>(match h[i]? with|some (.lst _)=>true|_=>false)|.rol _=>true|_=>false
noncomputable def sML(g:D->List D->Hd->R D)(f:SE)(k:SA):SE:=λτ h=>(f τ h).bind λd h1=>if isL d h1=true then (k τ h1).bind λds h2=>g d ds h2 else .no
theorem axs(r:Rep K U H x d)(hr:HRep K U H h)(e:isL d h=true):tyV K "list" x H:=by
 cases r with
 |rol hp _=>exact .inl ⟨rfl,_,hp.l⟩
 |ref hp =>
  obtain⟨ob,e1,e2⟩:=hr.at hp
  cases ob with
  |lst xs=>obtain⟨vs,h3,_⟩:=e2;exact .inl ⟨rfl,_,SqL.of h3⟩
  |dK _=>simp[isL,e1]at e
  |dT _=>simp[isL,e1]at e
  |ins _ _=>simp[isL,e1]at e
 |_=>cases e
theorem a7r(slot:Slot "list" name idn)(hty:typeOf (.builtin idn)=pure (.type "method_descriptor"))(hm:MtR X idn r)(hs:axr X.K g r)(ho:ME X E o fo)(ha:MA X E (e::es) ka)
  (hbase:attributeBase o name X.env (eval o X.env)=eval o X.env:=by rfl)
  (hfew:((backTo cpos (starEach (e::es) X.env)).all (λx => !x.1) && (backToKw cpos (keywordEach [] X.env)).all (λx=>x.1.isSome)
   && decide ((e::es).length+([]:List Keyword).length+(if ([]:List Keyword).isEmpty then 0 else 1)<30))=true:=by rfl)
  (hline:(apos.endLine == cpos.line)=true:=by rfl) (hst:starEach (e::es) X.env=(false,eval e X.env)::starEach es X.env:=by rfl) (hplain:(backTo cpos (starEach es X.env)).any (·.1)=false:=by rfl) :
  ME X E (.Call (.Attribute o name apos) (e::es) [] cpos) (sML g fo ka):=by
 refine PE.weak (b2h PySem.F.plainAttrs_list slot hty hm ho ha hbase hfew hline hst hplain) ?_
 rintro Z H Q ⟨U,τ,h,S,Rh,o⟩
 refine⟨U,τ,h,S,Rh,dj o λd h1 U1 H1 v g1 r1 hr1 o1=>?_⟩
 by_cases hc:isL d h1=true
 .rw[aJ hc]at o1;refine⟨axs r1 hr1 hc,U1,τ,h1,S.mono g1,hr1,dj o1 λds h2 U2 H2 vs g2 r2 hr2 o2=>?_⟩;exact hs E U2 H2 h2 v d vs ds Q (r1.mono g2) r2 hr2 o2
 .rw[ba hc]at o1;exact o1.elim
noncomputable def ae1:D->List D->Hd->R D
 |.ref i,[y],h=>(match h[i]? with|some (.lst xs)=>if xs.length<LINE then .ok .non (h.set i (.lst (xs++[y]))) else .no|_=>.no)
 |_,_,_=>.no
theorem a4i:axr K ae1 aiy:=by
 intro E U H h x dx xs ds Q rx r hr o
 unfold ae1 at o
 split at o
 .rename_i i y
  cases rx with
  |@ref p _ hp =>
   cases r with
   |cons r1 rs =>
    cases rs
    split at o
    .rename_i xs hx;obtain⟨vs,h3,h4⟩:=hr.lst hp hx
     split at o
     .rename_i hc;exact⟨p,vs,_,rfl,rfl,h3,by rw[h4.len,b2k];exact hc,adz (h4.snoc r1) hr hp .non o⟩
     .exact o.elim
    .exact o.elim
 .exact o.elim
noncomputable def sMS(g:D->List D->Hd->R D)(f:SE)(k:SA):SE:=λτ h=>(f τ h).bind λd h1=>match d with|.str z=>(k τ h1).bind λds h2=>g (.str z) ds h2|_=>.no
theorem axt(slot:Slot "str" name idn)(hty:typeOf (.builtin idn)=pure (.type "method_descriptor"))(hm:MtR X idn r)(hs:axr X.K g r)(ho:ME X E o fo)(ha:MA X E (e::es) ka)
  (hbase:attributeBase o name X.env (eval o X.env)=eval o X.env:=by rfl)
  (hfew:((backTo cpos (starEach (e::es) X.env)).all (λx => !x.1) && (backToKw cpos (keywordEach [] X.env)).all (λx=>x.1.isSome)
   && decide ((e::es).length+([]:List Keyword).length+(if ([]:List Keyword).isEmpty then 0 else 1)<30))=true:=by rfl)
  (hline:(apos.endLine == cpos.line)=true:=by rfl) (hst:starEach (e::es) X.env=(false,eval e X.env)::starEach es X.env:=by rfl) (hplain:(backTo cpos (starEach es X.env)).any (·.1)=false:=by rfl) :
  ME X E (.Call (.Attribute o name apos) (e::es) [] cpos) (sMS g fo ka):=by
 refine PE.weak (b2m slot hty hm ho ha hbase hfew hline hst hplain) ?_
 rintro Z H Q ⟨U,τ,h,S,Rh,o⟩
 refine⟨U,τ,h,S,Rh,dj o λd h1 U1 H1 v g1 r1 hr1 o1=>?_⟩
 cases r1 with
 |str z=>exact⟨⟨z,rfl⟩,U1,τ,h1,S.mono g1,hr1,dj o1 λds h2 U2 H2 vs g2 r2 hr2 o2=>hs E U2 H2 h2 _ _ vs ds Q (.str z) r2 hr2 o2⟩
 |_=>exact o1.elim
def a8p:List D->Option (List Str)
 |[]=>some []
 |.str z::r=>(a8p r).map (z::·)
 |_::_=>none
theorem aa9:∀{vs:List V} {xs:List D} {zs:List Str},Reps K U H vs xs->a8p xs=some zs->vs=zs.map V.str
 |_,_,_,.nil,e=>by cases e;rfl
 |_,_,zs,.cons (d:=d) r rs,e=>by
  cases r with
  |str z =>
   simp only[a8p,aR]at e;obtain⟨ws,h1,rfl⟩:=e;rw[aa9 rs h1];rfl
  |_=>cases e
noncomputable def ach:D->List D->Hd->R D
 |.str sep,[.ref i],h=>(match h[i]? with|some (.lst xs)=>(match a8p xs with|some zs=>if (zs.map (·.length)).sum+zs.length*sep.length<=16777216 then .ok (.str (Txt.join sep zs)) h else .no|none=>.no)|_=>.no)
 |.str sep,[.rol xs],h=>(match a8p xs with|some zs=>if (zs.map (·.length)).sum+zs.length*sep.length<=16777216 then .ok (.str (Txt.join sep zs)) h else .no|none=>.no)
 |_,_,_=>.no
theorem afi:axr K ach (λx xs H Q=>∃sep p zs,x=.str sep/\xs=[.ref p]/\SqL K H p (zs.map V.str)/\(zs.map (·.length)).sum+zs.length*sep.length<=16777216/\Q (.str (Txt.join sep zs)) H):=by
 intro E U H h x dx xs ds Q rx r hr o
 unfold ach at o
 split at o
 .rename_i sep i;cases rx
  cases r with
  |cons r1 rs =>
   cases rs
   cases r1 with
   |@ref p _ hp =>
    split at o
    .rename_i xs hx;obtain⟨vs,h3,h4⟩:=hr.lst hp hx
     split at o
     .rename_i zs hz
      split at o
      .rename_i hc;exact⟨sep,p,zs,rfl,rfl,SqL.of (by rw[h3,aa9 h4 hz]),hc,ans o (.str _) hr⟩
      .exact o.elim
     .exact o.elim
    .exact o.elim
 .rename_i sep xs;cases rx
  cases r with
  |cons r1 rs =>
   cases rs
   cases r1 with
   |@rol p vs xs hp r =>
    split at o
    .rename_i zs hz
     split at o
     .rename_i hc;exact⟨sep,p,zs,rfl,rfl,by rw[<-aa9 r hz];exact hp.l,hc,ans o (.str _) hr⟩
     .exact o.elim
    .exact o.elim
 .exact o.elim
noncomputable def a6l:List D->Hd->R D
 |[.str z],h=>if z.length<=LINE then .ok (.ref h.length) (h++[.lst (a01 z)]) else .no
 |[x],h=>(match a0u x h with|some xs=>.ok (.ref h.length) (h++[.lst xs])|none=>.no)
 |_,_=>.no
theorem a5p(z:Str):Reps K U H (a00 z) (a01 z):=by
 unfold a00 a01
 induction z.cps.toList with
 |nil=>exact .nil
 |cons c cs ih=>exact .cons (.str _) ih
theorem anp:af9 K a6l (λxs H Q=>(∃p ys,xs=[.ref p]/\(SqL K H p ys\/SqT K H p ys)/\∀l,H l=none->Q (.ref l) (upd H l (.lst ys)))\/∃z,xs=[.str z]/\z.length<=sizeLine/\∀l,H l=none->Q (.ref l) (upd H l (.lst (a00 z)))):=by
 intro E U H h xs ds Q r hr o
 cases r with
 |nil=>exact o.elim
 |cons r rs =>
  cases rs with
  |cons _ _=>exact(show False by cases r<;>exact o).elim
  |nil =>
   cases r with
   |str z =>
    by_cases hc:z.length<=LINE
    .simp only[a6l,aJ hc]at o;exact .inr ⟨z,rfl,ll hc,vf (a5p z) hr o⟩
    .simp only[a6l,ba hc]at o;exact o.elim
   |@tup p vs xs hp r=>simp only[a6l,a0u]at o;exact .inl ⟨p,vs,rfl,.inr (SqT.of hp),vf r hr o⟩
   |@rol p vs xs hp r=>simp only[a6l,a0u]at o;exact .inl ⟨p,vs,rfl,.inl hp.l,vf r hr o⟩
   |@ref p j hp =>
    obtain⟨ob,e1,e2⟩:=hr.at hp
    cases ob with
    |lst xs =>
     simp only[a6l,a0u,e1]at o;obtain⟨vs,h3,h4⟩:=e2;exact .inl ⟨p,vs,rfl,.inl (SqL.of h3),vf h4 hr o⟩
    |dK _=>simp only[a6l,a0u,e1]at o;exact o.elim
    |dT _=>simp only[a6l,a0u,e1]at o;exact o.elim
    |ins _ _=>simp only[a6l,a0u,e1]at o;exact o.elim
   |_=>exact o.elim
noncomputable def vy:List D->Hd->R D
 |[.str z],h=>if z.length<=LINE then .ok (.tup (a01 z)) h else .no
 |[x],h=>(match a0u x h with|some xs=>.ok (.tup xs) h|none=>.no)
 |_,_=>.no
theorem a0h:af9 K vy (λxs H Q=>(∃p ys,xs=[.ref p]/\((SqL K H p ys/\∀l,H l=none->Q (.ref l) (upd H l (.tup ys)))\/(SqT K H p ys/\Q (.ref p) H)))\/∃z,xs=[.str z]/\z.length<=sizeLine/\∀l,H l=none->Q (.ref l) (upd H l (.tup (a00 z)))):=by
 intro E U H h xs ds Q r hr o
 cases r with
 |nil=>exact o.elim
 |cons r rs =>
  cases rs with
  |cons _ _=>exact(show False by cases r<;>exact o).elim
  |nil =>
   cases r with
   |str z =>
    by_cases hc:z.length<=LINE
    .simp only[vy,aJ hc]at o;exact .inr ⟨z,rfl,ll hc,a1h (a5p z) hr o⟩
    .simp only[vy,ba hc]at o;exact o.elim
   |@tup p vs xs hp r=>simp only[vy,a0u]at o;exact .inl ⟨p,vs,rfl,.inr ⟨SqT.of hp,ans o (.tup hp r) hr⟩⟩
   |@rol p vs xs hp r=>simp only[vy,a0u]at o;exact .inl ⟨p,vs,rfl,.inl ⟨hp.l,a1h r hr o⟩⟩
   |@ref p j hp =>
    obtain⟨ob,e1,e2⟩:=hr.at hp
    cases ob with
    |lst xs =>
     simp only[vy,a0u,e1]at o;obtain⟨vs,h3,h4⟩:=e2;exact .inl ⟨p,vs,rfl,.inl ⟨SqL.of h3,a1h h4 hr o⟩⟩
    |dK _=>simp only[vy,a0u,e1]at o;exact o.elim
    |dT _=>simp only[vy,a0u,e1]at o;exact o.elim
    |ins _ _=>simp only[vy,a0u,e1]at o;exact o.elim
   |_=>exact o.elim
def anq:List D->Option (List Bool)
 |[]=>some []
 |.bl z::r=>(anq r).map (z::·)
 |_::_=>none
def a5q:List D->Option (List Int)
 |[]=>some []
 |.int z::r=>(a5q r).map (z::·)
 |_::_=>none
theorem ae2:∀{vs:List V} {xs:List D} {zs:List Bool},Reps K U H vs xs->anq xs=some zs->vs=zs.map V.bl
 |_,_,_,.nil,e=>by cases e;rfl
 |_,_,zs,.cons (d:=d) r rs,e=>by
  cases r with
  |bl z =>
   simp only[anq,aR]at e;obtain⟨ws,h1,rfl⟩:=e;rw[ae2 rs h1];rfl
  |_=>cases e
theorem a3l:∀{vs:List V} {xs:List D} {zs:List Int},Reps K U H vs xs->a5q xs=some zs->vs=zs.map V.int
 |_,_,_,.nil,e=>by cases e;rfl
 |_,_,zs,.cons (d:=d) r rs,e=>by
  cases r with
  |int z =>
   simp only[a5q,aR]at e;obtain⟨ws,h1,rfl⟩:=e;rw[a3l rs h1];rfl
  |_=>cases e
theorem anr(bs:List Bool):anq (bs.map D.bl)=some bs:=by
 induction bs with
 |nil=>rfl
 |cons b bs ih=>simp[anq,ih]
noncomputable def ajj:List D->Hd->R D
 |[.ref i],h=>(match h[i]? with|some (.lst xs)=>(match a5q xs with|some bs=>.ok (.int bs.sum) h|none=>.no)|_=>.no)
 |[.rol xs],h=>(match a5q xs with|some bs=>.ok (.int bs.sum) h|none=>.no)
 |_,_=>.no
theorem ae3:af9 K ajj (λxs H Q=>∃(p:Addr) (ns:List Int),xs=[.ref p]/\SqL K H p (ns.map V.int)/\Q (.int ns.sum) H):=by
 intro E U H h xs ds Q r hr o
 unfold ajj at o
 split at o
 .cases r with
  |cons r rs =>
   cases rs
   cases r with
   |@ref p _ hp =>
    split at o
    .rename_i xs hx;obtain⟨vs,h3,h4⟩:=hr.lst hp hx
     split at o
     .rename_i bs hb;exact⟨p,bs,rfl,SqL.of (by rw[h3,a3l h4 hb]),ans o (.int _) hr⟩
     .exact o.elim
    .exact o.elim
 .cases r with
  |cons r rs =>
   cases rs
   cases r with
   |@rol p vs xs hp r =>
    split at o
    .rename_i bs hb;exact⟨p,bs,rfl,by rw[<-a3l r hb];exact hp.l,ans o (.int _) hr⟩
    .exact o.elim
 .exact o.elim
end
end MI
theorem L2.Room.u(r:L2.Room k A):A.units+64<PySem.cLine:=r.units
namespace MI
open L2
mutual
def eqD:D->D->Bool
 |.non,.non=>true
 |.bl a,.bl b=>a == b
 |.bl a,.int b=>(if a then 1 else 0) == b
 |.int a,.bl b=>a == (if b then 1 else 0)
 |.int a,.int b=>a == b
 |.str a,.str b=>a == b
 |.tup xs,.tup ys=>adn xs ys
 |_,_=>false
def adn:List D->List D->Bool
 |[],[]=>true
 |x::xs,y::ys=>eqD x y && adn xs ys
 |_,_=>false
end
noncomputable def pur:Nat->D->Bool
 |_,.non=>true
 |_,.bl _=>true
 |_,.int _=>true
 |_,.str _=>true
 |n+1,.tup xs=>xs.all (pur n)
 |_,_=>false
def pairE(xs ys:List D)(j:Nat):Bool:=match xs[j]?,ys[j]? with|some x,some y=>eqD x y|_,_=>false
theorem a4v:∀xs ys:List D,((List.range (min xs.length ys.length)).all (pairE xs ys) && xs.length == ys.length)=adn xs ys
 |[],[]=>by simp[adn]
 |[],_::_=>by simp[adn]
 |_::_,[]=>by simp[adn]
 |x::xs,y::ys=>by
  have ih:=a4v xs ys;rw[show min (x::xs).length (y::ys).length=min xs.length ys.length+1 by simp only[aN];omega,List.range_succ_eq_map]
  rw[fS,List.all_map];have e:(pairE (x::xs) (y::ys) ∘ Nat.succ)=pairE xs ys:=by funext j;simp[pairE]
  rw[e];simp only[adn];rw[<-ih];have e2:((x::xs).length == (y::ys).length)=(xs.length == ys.length):=by simp
  rw[e2,Bool.and_assoc];rfl
section
variable{K:Fg}{U:List Addr}{H:Hp}
theorem aaa{xs:List D}(r:Rep K U H v (.tup xs)):∃a vs,v=.ref a/\H a=some (.tup vs)/\Reps K U H vs xs:=by cases r with|@tup a vs _ h rs=>exact⟨a,vs,rfl,h,rs⟩
theorem aqf(r:Rep K U H v d)(q:Rep K U H v e)(f:a0g d=true)(g:a0g e=true):eqD d e=true:=by
 have h:=ank r f;have h':=ank q g
 cases d<;>first|(cases h;done)|(cases h;cases e<;>first|(cases h';done)|(cases h';simp[eqD]))
theorem a1o(r:Rep K U H v d)(p:pur n d=true):(∃xs,d=.tup xs)\/(a4d v=true/\a0g d=true):=by
 cases r<;>first|exact .inr ⟨rfl,rfl⟩|exact .inl ⟨_,rfl⟩|(cases n<;>cases p)
theorem aab(r:Rep K U H x d)(q:Rep K U H y e)(f:a0g d=true)(g:a0g e=true):eqV x y=eqD d e:=by
 refine fvs (P:=λd x c y=>eqV x y=eqD d c) (λd x e y h h'=>?_) r q f g
 cases d<;>first|(cases h;done)|(cases h;cases e<;>first|(cases h';done)|(cases h';first|rfl|(simp[eqV,eqD];done)))
theorem ant:∀(n:Nat) {v:V} {d e:D},Rep K U H v d->Rep K U H v e->pur n d=true->pur n e=true->eqD d e=true:=by
 intro n
 induction n with
 |zero =>
  intro v d e r q p1 p2
  rcases a1o r p1 with⟨xs,rfl⟩|⟨f1,g1⟩
  .cases p1
  rcases a1o q p2 with⟨xs,rfl⟩|⟨f2,g2⟩
  .cases p2
  exact aqf r q g1 g2
 |succ n ih =>
  intro v d e r q p1 p2
  rcases a1o r p1 with⟨xs,rfl⟩|⟨f1,g1⟩
  .rcases a1o q p2 with⟨ys,rfl⟩|⟨f2,g2⟩
   .obtain⟨a,vs,rfl,h,rs⟩:=aaa r;obtain⟨b,us,z,h',qs⟩:=aaa q;cases z
    rw[h]at h';cases h'
    simp only[eqD];simp only[pur,bN]at p1 p2
    clear h r q
    induction rs using Reps.rec (motive_1:=λ_ _ _=>True) generalizing ys with
    |nil=>cases qs;rfl
    |cons r rs _ ih2 =>
     cases qs with
     |cons q qs =>
      simp only[adn,bM];exact⟨ih r q (p1 _ (bB ..)) (p2 _ (bB ..)),ih2 _ qs (λx hx=>p1 x (aW _ hx)) (λx hx=>p2 x (aW _ hx))⟩
    |_=>trivial
   .obtain⟨a,vs,rfl,h,rs⟩:=aaa r;cases f2
  .rcases a1o q p2 with⟨ys,rfl⟩|⟨f2,g2⟩
   .obtain⟨a,vs,rfl,h,rs⟩:=aaa q;cases f1
   .exact aqf r q g1 g2
open SeqAt in
theorem aqg{s:Shared}(hok:HOk P w H s.heap):∀(n:Nat) (A:Around) {x y:V} {u v:Value} {d e:D},Rep K U H x d->Rep K U H y e->RelV x u->RelV y v->pur n d=true->pur n e=true->A.units+n<cLine->EqAt A s u v (eqD d e):=by
 intro n
 induction n with
 |zero =>
  intro A x y u v d e r q rx ry p1 p2 hu
  rcases a1o r p1 with⟨xs,rfl⟩|⟨f1,f2⟩
  .cases p1
  .rcases a1o q p2 with⟨xs,rfl⟩|⟨g1,g2⟩
   .cases p2
   .rw[<-aab r q f2 g2];exact aix rx ry f1 g1
 |succ n ih =>
  intro A x y u v d e r q rx ry p1 p2 hu
  rcases a1o r p1 with⟨xs,rfl⟩|⟨f1,f2⟩
  .cases r with
   |@tup a vs _ ha rs =>
    cases rx
    obtain⟨_,its,r1,t1⟩:=(Rd.of ha).ok hok
    rcases a1o q p2 with⟨ys,rfl⟩|⟨g1,g2⟩
    .cases q with
     |@tup b us _ hb qs =>
      cases ry
      obtain⟨_,its2,r2,t2⟩:=(Rd.of hb).ok hok
      by_cases hab:a=b
      .subst hab;rw[ant (n+1) (.tup ha rs) (.tup hb qs) p1 p2];exact EqAt.same _
      .have l1:its.toArray.size=xs.length:=by rw[ay,<-r1.length,rs.len]
       have l2:its2.toArray.size=ys.length:=by rw[ay,<-r2.length,qs.len]
       have:=RcAt.tuples (A:=A) (s:=s) (e:=pairE xs ys) t1 t2 (by omega) (λj h1 h2=>by
        have j1:j<xs.length:=by omega
        have j2:j<ys.length:=by omega
        obtain⟨v1,e1,q1⟩:=rs.get (ag j1);obtain⟨v2,e2,q2⟩:=qs.get (ag j2);obtain⟨u1,e3,q3⟩:=r1.get e1;obtain⟨u2,e4,q4⟩:=r2.get e2;have f1:its.toArray[j]=u1:=by simpa using (ai.mp e3).2
        have f2:its2.toArray[j]=u2:=by simpa using (ai.mp e4).2
        have pe:pairE xs ys j=eqD xs[j] ys[j]:=by simp[pairE,ag j1,ag j2]
        rw[f1,f2,pe];simp only[pur,bN]at p1 p2;exact ih A.in1 q1 q2 q3 q4 (p1 _ (bW j1)) (p2 _ (bW j2)) (by rw[iR];omega))
       rw[l1,l2,a4v]at this;exact EqAt.of_refs hab this
    .have e0:eqD (.tup xs) e=false:=by cases e<;>first|rfl|(cases g2;done)
     rw[e0]
     cases y with
     |non=>cases ry;exact EqAt.tuple_none t1 (by omega)
     |bl b=>cases ry;exact EqAt.tuple_bool b t1 (by omega)
     |int b=>obtain⟨t,rfl⟩:=ry;exact EqAt.tuple_int b t t1 (by omega)
     |str b=>obtain⟨t,rfl⟩:=ry;exact EqAt.tuple_str b t t1 (by omega)
     |_=>cases g1
  .rcases a1o q p2 with⟨ys,rfl⟩|⟨g1,g2⟩
   .cases q with
    |@tup b us _ hb qs =>
     cases ry
     obtain⟨_,its2,r2,t2⟩:=(Rd.of hb).ok hok;have e0:eqD d (.tup ys)=false:=by cases d<;>first|rfl|(cases f2;done)
     rw[e0]
     cases x with
     |non=>cases rx;exact EqAt.none_tuple t2 (by omega)
     |bl b=>cases rx;exact EqAt.bool_tuple b t2 (by omega)
     |int b=>obtain⟨t,rfl⟩:=rx;exact EqAt.int_tuple b t t2 (by omega)
     |str b=>obtain⟨t,rfl⟩:=rx;exact EqAt.str_tuple b t t2 (by omega)
     |_=>cases f1
   .rw[<-aab r q f2 g2];exact aix rx ry f1 g1
open SeqAt in
theorem axu(ry:RelV y u)(rx:RelV x v)(fy:a4d y=true)(fx:a4d x=true):RcAt A s u v (eqV y x):=by
 cases y with
 |non =>
  cases ry
  cases x with
  |non=>cases rx;exact RcAt.none_none
  |bl b=>cases rx;exact RcAt.none_bool b
  |int b=>obtain⟨t,rfl⟩:=rx;exact RcAt.none_int b t
  |str b=>obtain⟨t,rfl⟩:=rx;exact RcAt.none_str b t
  |_=>cases fx
 |bl a =>
  cases ry
  cases x with
  |non=>cases rx;exact RcAt.bool_none a
  |bl b=>cases rx;exact RcAt.bool_bool a b
  |int b=>obtain⟨t,rfl⟩:=rx;exact RcAt.bool_int a b t
  |str b=>obtain⟨t,rfl⟩:=rx;exact RcAt.bool_str a b t
  |_=>cases fx
 |int a =>
  obtain⟨t',rfl⟩:=ry
  cases x with
  |non=>cases rx;exact RcAt.int_none a t'
  |bl b=>cases rx;exact RcAt.int_bool a t' b
  |int b=>obtain⟨t,rfl⟩:=rx;exact RcAt.int_int a t' b t
  |str b=>obtain⟨t,rfl⟩:=rx;exact RcAt.int_str a t' b t
  |_=>cases fx
 |str a =>
  obtain⟨t',rfl⟩:=ry
  cases x with
  |non=>cases rx;exact RcAt.str_none a t'
  |bl b=>cases rx;exact RcAt.str_bool a t' b
  |int b=>obtain⟨t,rfl⟩:=rx;exact RcAt.str_int a t' b t
  |str b=>obtain⟨t,rfl⟩:=rx;exact RcAt.str_str a t' b t
  |_=>cases fx
 |_=>cases fy
open SeqAt in
theorem anu(ry:RelV y u)(rx:RelV x v)(fy:a4d y=true)(fx:a4d x=true):RcNeAt A s u v (!eqV y x):=by
 cases y with
 |non =>
  cases ry
  cases x with
  |non=>cases rx;exact RcNeAt.none_none
  |bl b=>cases rx;exact RcNeAt.none_bool b
  |int b=>obtain⟨t,rfl⟩:=rx;exact RcNeAt.none_int b t
  |str b=>obtain⟨t,rfl⟩:=rx;exact RcNeAt.none_str b t
  |_=>cases fx
 |bl a =>
  cases ry
  cases x with
  |non=>cases rx;exact RcNeAt.bool_none a
  |bl b=>cases rx;exact RcNeAt.bool_bool a b
  |int b=>obtain⟨t,rfl⟩:=rx;exact RcNeAt.bool_int a b t
  |str b=>obtain⟨t,rfl⟩:=rx;exact RcNeAt.bool_str a b t
  |_=>cases fx
 |int a =>
  obtain⟨t',rfl⟩:=ry
  cases x with
  |non=>cases rx;exact RcNeAt.int_none a t'
  |bl b=>cases rx;exact RcNeAt.int_bool a t' b
  |int b=>obtain⟨t,rfl⟩:=rx;exact RcNeAt.int_int a t' b t
  |str b=>obtain⟨t,rfl⟩:=rx;exact RcNeAt.int_str a t' b t
  |_=>cases fx
 |str a =>
  obtain⟨t',rfl⟩:=ry
  cases x with
  |non=>cases rx;exact RcNeAt.str_none a t'
  |bl b=>cases rx;exact RcNeAt.str_bool a t' b
  |int b=>obtain⟨t,rfl⟩:=rx;exact RcNeAt.str_int a t' b t
  |str b=>obtain⟨t,rfl⟩:=rx;exact RcNeAt.str_str a t' b t
  |_=>cases fx
 |_=>cases fy
open SeqAt in
theorem tops{s:Shared}{A:Around}(hok:HOk P w H s.heap)(r:Rep K U H x d)(q:Rep K U H y e)(rx:RelV x u)(ry:RelV y v)(p1:pur 60 d=true)(p2:pur 60 e=true)(hu:A.units+64<cLine) :
  RcAt A s u v (eqD d e)/\RcNeAt A s u v (!eqD d e):=by
 rcases a1o r p1 with⟨xs,rfl⟩|⟨f1,f2⟩
 .cases r with
  |@tup a vs _ ha rs =>
   cases rx
   obtain⟨_,its,r1,t1⟩:=(Rd.of ha).ok hok
   rcases a1o q p2 with⟨ys,rfl⟩|⟨g1,g2⟩
   .cases q with
    |@tup b us _ hb qs =>
     cases ry
     obtain⟨_,its2,r2,t2⟩:=(Rd.of hb).ok hok;have l1:its.toArray.size=xs.length:=by rw[ay,<-r1.length,rs.len]
     have l2:its2.toArray.size=ys.length:=by rw[ay,<-r2.length,qs.len]
     have step:∀j (h1:j<its.toArray.size) (h2:j<its2.toArray.size),EqAt A.in1 s its.toArray[j] its2.toArray[j] (pairE xs ys j):=λj h1 h2=>by
      have j1:j<xs.length:=by omega
      have j2:j<ys.length:=by omega
      obtain⟨v1,e1,q1⟩:=rs.get (ag j1);obtain⟨v2,e2,q2⟩:=qs.get (ag j2);obtain⟨u1,e3,q3⟩:=r1.get e1;obtain⟨u2,e4,q4⟩:=r2.get e2;have f1:its.toArray[j]=u1:=by simpa using (ai.mp e3).2
      have f2:its2.toArray[j]=u2:=by simpa using (ai.mp e4).2
      have pe:pairE xs ys j=eqD xs[j] ys[j]:=by simp[pairE,ag j1,ag j2]
      rw[f1,f2,pe];simp only[pur,bN]at p1 p2;exact aqg hok 59 A.in1 q1 q2 q3 q4 (p1 _ (bW j1)) (p2 _ (bW j2)) (by rw[iR];omega)
     have c1:=RcAt.tuples (A:=A) (s:=s) (e:=pairE xs ys) t1 t2 (by omega) step
     have c2:=RcNeAt.tuples (A:=A) (s:=s) (e:=pairE xs ys) t1 t2 (by omega) step
     rw[l1,l2,a4v]at c1 c2;exact⟨c1,c2⟩
   .have e0:eqD (.tup xs) e=false:=by cases e<;>first|rfl|(cases g2;done)
    rw[e0]
    cases y with
    |non=>cases ry;exact⟨RcAt.tuple_none t1 (by omega),RcNeAt.tuple_none t1 (by omega)⟩
    |bl b=>cases ry;exact⟨RcAt.tuple_bool b t1 (by omega),RcNeAt.tuple_bool b t1 (by omega)⟩
    |int b=>obtain⟨t,rfl⟩:=ry;exact⟨RcAt.tuple_int b t t1 (by omega),RcNeAt.tuple_int b t t1 (by omega)⟩
    |str b=>obtain⟨t,rfl⟩:=ry;exact⟨RcAt.tuple_str b t t1 (by omega),RcNeAt.tuple_str b t t1 (by omega)⟩
    |_=>cases g1
 .rcases a1o q p2 with⟨ys,rfl⟩|⟨g1,g2⟩
  .cases q with
   |@tup b us _ hb qs =>
    cases ry
    obtain⟨_,its2,r2,t2⟩:=(Rd.of hb).ok hok;have e0:eqD d (.tup ys)=false:=by cases d<;>first|rfl|(cases f2;done)
    rw[e0]
    cases x with
    |non=>cases rx;exact⟨RcAt.none_tuple t2 (by omega),RcNeAt.none_tuple t2 (by omega)⟩
    |bl b=>cases rx;exact⟨RcAt.bool_tuple b t2 (by omega),RcNeAt.bool_tuple b t2 (by omega)⟩
    |int b=>obtain⟨t,rfl⟩:=rx;exact⟨RcAt.int_tuple b t t2 (by omega),RcNeAt.int_tuple b t t2 (by omega)⟩
    |str b=>obtain⟨t,rfl⟩:=rx;exact⟨RcAt.str_tuple b t t2 (by omega),RcNeAt.str_tuple b t t2 (by omega)⟩
    |_=>cases f1
  .rw[<-aab r q f2 g2];exact⟨axu rx ry f1 g1,anu rx ry f1 g1⟩
noncomputable def b3x(K:Fg):R2:=λx y H Q=>∃U d e,Rep K U H x d/\Rep K U H y e/\pur 60 d=true/\pur 60 e=true/\Q (.bl (eqD d e)) H
noncomputable def b3y(K:Fg):R2:=λx y H Q=>∃U d e,Rep K U H x d/\Rep K U H y e/\pur 60 d=true/\pur 60 e=true/\Q (.bl (!eqD d e)) H
theorem a98{X:Cx}(hu:X.A.units+64<cLine):OpR X (compareOp .Eq) (b3x X.K):=by
 intro aA s Z H x y v u Q I rx ry h
 obtain⟨U,d,e,r,q,p1,p2,hq⟩:=h;exact(tops (A:=X.A) I.hok r q rx ry p1 p2 hu).1 X.prog X.w X.xe _ ⟨.bl _,H,I,rfl,hq⟩
theorem aqh{X:Cx}(hu:X.A.units+64<cLine):OpR X (compareOp .NotEq) (b3y X.K):=by
 intro aA s Z H x y v u Q I rx ry h
 obtain⟨U,d,e,r,q,p1,p2,hq⟩:=h;exact(tops (A:=X.A) I.hok r q rx ry p1 p2 hu).2 X.prog X.w X.xe _ ⟨.bl _,H,I,rfl,hq⟩
def hEq(x y:D)(h:Hd):R D:=if pur 60 x=true/\pur 60 y=true then .ok (.bl (eqD x y)) h else .no
def hNe(x y:D)(h:Hd):R D:=if pur 60 x=true/\pur 60 y=true then .ok (.bl (!eqD x y)) h else .no
theorem a5r:a1w K hEq (b3x K):=by
 intro E U H h x y dx dy Q rx ry hr o
 unfold hEq at o
 split at o
 .rename_i hc;exact⟨U,dx,dy,rx,ry,hc.1,hc.2,ans o (.bl _) hr⟩
 .exact o.elim
theorem ajk:a1w K hNe (b3y K):=by
 intro E U H h x y dx dy Q rx ry hr o
 unfold hNe at o
 split at o
 .rename_i hc;exact⟨U,dx,dy,rx,ry,hc.1,hc.2,ans o (.bl _) hr⟩
 .exact o.elim
end
section
variable{X:Cx}{E:XD}{K:Fg}
def anv:SE:=λ_ h=>.ok (.ref h.length) (h++[.dK []])
theorem ajl:ME X E (.Dict [] [] pos) anv:=by
 refine PE.weak ana λZ H Q ⟨U,τ,h,S,Rh,o⟩=>λp hp=>?_;exact o (U++[p]) _ _ (ac0 hp _) (.ref (by rw[aK (by rw[Rh.len];exact aw _),Rh.len];simp)) (Rh.add hp ⟨[],qw,rfl,.nil⟩)
noncomputable def a2u:D->D->Hd->R D
 |.int i,.int j,h=>.ok (.int (i+j)) h
 |.str x,.str y,h=>if x.length+y.length<=LINE then .ok (.str (x++y)) h else .no
 |_,_,_=>.no
theorem a4w:a1w K a2u (λx y H Q=>rI0 (λi j=>.int (i+j)) x y H Q\/∃i j,x=.str i/\y=.str j/\i.length+j.length<=sizeLine/\Q (.str (i++j)) H):=by
 intro E U H h x y dx dy Q rx ry hr o
 cases rx with
 |int i =>
  cases ry with
  |int j=>exact .inl ⟨i,j,rfl,rfl,ans o (.int _) hr⟩
  |_=>exact o.elim
 |str i =>
  cases ry with
  |str j =>
   by_cases hc:i.length+j.length<=LINE
   .simp only[a2u,aJ hc]at o;exact .inr ⟨i,j,rfl,rfl,ll hc,ans o (.str _) hr⟩
   .simp only[a2u,ba hc]at o;exact o.elim
  |_=>exact o.elim
 |_=>exact o.elim
theorem axv:bootBuiltins "max" = some (.builtin "max"):=by first|exact PySem.boot_max|exact PyProof.Rows.boot_max
theorem axw:bootBuiltins "min" = some (.builtin "min"):=by first|exact PySem.boot_min|exact PyProof.Rows.boot_min
theorem ae4:bootBuiltins "bool" = some (.type "bool"):=by first|exact PySem.boot_bool|exact PyProof.Rows.boot_bool
theorem ajm:bootBuiltins "sum" = some (.builtin "sum"):=by first|exact PySem.boot_sum|exact PyProof.Rows.boot_sum
theorem uy(h1:MG X E e g)(h2:MGs X E es ks)(hs:(assignEach (e::es) X.env).map (·.2)=assign e X.env::(assignEach es X.env).map (·.2):=by rfl):MGs X E (e::es) (a07 g ks) :=
 PGs.weak (a9u h1 h2 hs) λvs Z H Q q=>anh q
end
end MI
namespace ZP
open PySem.Builtin PySem.Builtin.SmallTypes
section
variable{prog:Program}{w:World}{A:Around}{E:Value->Shared->Prop}{s:Shared}
theorem ata{α:Type}{Q:α->Shared->Prop}(hh:A.handled=none)(q:∀h' e,(∀b o,s.heap.get? b=some o->h'.get? b=some o)->(∃o,h'.get? e=some o/\o.cls=.type "StopIteration")->E (.ref e) {s with heap:=h' }) :
  wpAny (model prog w) A (stopIteration:Sem α) Q E s:=by
 have none_first:firstArgMember (.type "StopIteration") []=pure Value.none:=by first|rfl|(simp only[firstArgMember];rfl)
 rw[stopIteration]
 apply ae
 rw[newExc,newTuple]
 apply ae
 apply bV _ (by size_fits)
 rw[none_first,pure_bind]
 apply bV _ (by size_fits)
 apply wpAny_raiseNew_none hh
 exact q _ _ (λb o z=>af _ (af _ z)) ⟨_,aO _ rfl,rfl⟩
theorem anw(hi:s.heap.IsTupleIter it t i)(ht:s.heap.IsTuple t aC)(hx:aC[i]? = some x)
  (q:∀h',h'.IsTupleIter it t (i+1)->Heap.SameBut it s.heap h'->Q x {s with heap:=h' }):wpAny (model prog w) A (nextOf (.ref it)) Q E s:=by
 have ty:=hi.typeIs;obtain⟨o,e1,e2,e3⟩:=id hi;obtain⟨p,f1,f2,n,f3⟩:=ht;rw[nextOf]
 apply ae
 apply bY (name:=Str.ofString "__next__") ty eC
 apply cm eC ty gV _ (gP _)
 change wpAny (model prog w) A.in1 (field (.ref it) 0>>=_) _ _ _
 apply ae;apply dD e1 e3 (x:=.ref t) rfl
 change wpAny (model prog w) A.in1 (field (.ref it) 1>>=_) _ _ _
 apply ae;apply dD e1 e3 (x:=.int i 0) rfl
 change wpAny (model prog w) A.in1 (seqItems? (.ref t)>>=_) _ _ _
 apply ae;apply fF f1 f3
 dsimp only;rw[ee,hx]
 apply ae
 obtain⟨c,dd,dt,sl⟩:=o;simp only at e2 e3;subst e2 e3
 apply wpAny_setField e1 rfl (eW 1)
 apply av
 exact⟨x,rfl,av (q _ ⟨_,dP _ e1 rfl,rfl,rfl⟩ (dE ..))⟩
theorem atb{it t:Addr}{i:Nat}{aC:Array Value}{Q:Value->Shared->Prop}(hh:A.handled=none)(hi:s.heap.IsTupleIter it t i)(ht:s.heap.IsTuple t aC)(hx:aC[i]? = none)
  (q:∀h' e,Heap.ExtBut it s.heap h'->(∃o,h'.get? e=some o/\o.cls=.type "StopIteration")->E (.ref e) {s with heap:=h' }):wpAny (model prog w) A (nextOf (.ref it)) Q E s:=by
 have ty:=hi.typeIs;obtain⟨o,e1,e2,e3⟩:=id hi;obtain⟨p,f1,f2,n,f3⟩:=ht;rw[nextOf]
 apply ae
 apply bY (name:=Str.ofString "__next__") ty eC
 apply cm eC ty gV _ (gP _)
 change wpAny (model prog w) A.in1 (field (.ref it) 0>>=_) _ _ _
 apply ae;apply dD e1 e3 (x:=.ref t) rfl
 change wpAny (model prog w) A.in1 (field (.ref it) 1>>=_) _ _ _
 apply ae;apply dD e1 e3 (x:=.int i 0) rfl
 change wpAny (model prog w) A.in1 (seqItems? (.ref t)>>=_) _ _ _
 apply ae;apply fF f1 f3
 dsimp only;rw[ee,hx];dsimp only;obtain⟨c,dd,dt,sl⟩:=o;simp only at e2 e3;subst e2 e3
 apply ae;apply fQ
 apply ae;apply wpAny_setField e1 rfl (dQ 1)
 apply ata (show A.in1.handled=none from hh)
 exact λh' e k z=>q h' e (λb o nb eb=>k b o ((dE ..).extBut b o nb eb)) z
theorem ajn{A:Around}(hh:A.handled=none)(it t:Addr)(ne:t≠it)(aC:Array Value):Draws prog w A it [it,t] aC.size (λi v=>aC[i]? = some v) (λi h=>h.IsTupleIter it t i/\h.IsTuple t aC) where
 live:=λ_ _ st=>let ⟨o,e,_⟩:=st.1; ⟨o,e⟩
 frame:=λ_ _ _ st k=>⟨let ⟨o,e,r⟩:=st.1; ⟨o,k it (by simp) o e,r⟩,let ⟨o,e,r⟩:=st.2; ⟨o,k t (by simp) o e,r⟩⟩
 item:=λi s Q E hi st q=>anw st.1 st.2 (bO hi) λh' a b=>q _ h' s.toks (bO hi) ⟨a,st.2.extBut b.extBut ne⟩ b
 done:=λs Q E st q=>atb hh st.1 st.2 (by simp) q
end
structure Ap (z TI TO i1 i2:Addr) (p q:List Addr):Prop where
 m1:i1∈p
 m2:i2∈q
 z1:z∉p
 z2:z∉q
 o1:TO∉p
 o2:TO∉q
 oz:TO≠z
 x1:i1∉q
 x2:i2∉p
section
variable{prog:Program}{w:World}{A:Around}{E:Value->Shared->Prop}{s:Shared}{z TI TO i1 i2:Addr}{p q:List Addr}{n1 n2 k:Nat}{P1 P2:Nat->Value->Prop}{S1 S2:Nat->Heap->Prop}{a b:Value}
theorem far{D:Draws prog w A i1 p n1 P1 S1}(sb:Heap.SameBut c h h')(nc:c∉p)(st:S1 k h):S1 k h':=D.frame _ _ _ st λx hx o e=>sb.extBut x o (λy=>nc (y ▸ hx)) e
theorem ajo(hz:IsZip s.heap z TI TO .none)(hi:IsPair s.heap TI (.ref i1) (.ref i2))(ho:IsPair s.heap TO a b)(oz:TO≠z)
  (go:∀h1,IsZip h1 z TI TO .ellipsis->Heap.SameBut z s.heap h1->wpAny (model prog w) A (nextOf (.ref i1))
   (λx s2=>IsPair s2.heap TO a b/\∀h3,IsPair h3 TO x b->Heap.SameBut TO s2.heap h3->wpAny (model prog w) A (nextOf (.ref i2))
    (λy s4=>IsPair s4.heap TO x b/\∀h5,IsPair h5 TO x y->Heap.SameBut TO s4.heap h5->IsZip h5 z TI TO .ellipsis/\∀h8,IsZip h8 z TI TO (rawInt h5.objs.size)->IsPair h8 h5.objs.size x y->h8.objs.size=h5.objs.size+1->
     (∀c o,c≠z->h5.get? c=some o->h8.get? c=some o)->Q (.done (.ret (.ref h5.objs.size))) {s4 with heap:=h8})
    (λe s4=>wpAny (model prog w) A (setField (.ref z) 0 .none) (λ_ s5=>E e s5) E s4) {s2 with heap:=h3})
   (λe s2=>wpAny (model prog w) A (setField (.ref z) 0 .none) (λ_ s3=>E e s3) E s2) {s with heap:=h1}) :
  wpAny (model prog w) A (Builtin.«zip.__next__» ⟨[.ref z],[]⟩) Q E s:=by
 change wpAny (model prog w) A (field (.ref z) 2>>=_) _ _ _
 apply ae;apply dD hz rfl (x:=.bool false) rfl
 change wpAny (model prog w) A (field (.ref z) 3>>=_) _ _ _
 apply ae;apply dD hz rfl (x:=.ref TI) rfl
 apply ae;apply fF hi rfl
 change wpAny (model prog w) A (ownedTupleIsFree (.ref z)>>=_) _ _ _
 apply ae
 rw[ownedTupleIsFree]
 apply ae;apply dD hz rfl (x:=.none) rfl
 apply av
 rw[aJ rfl]
 apply ae;apply fQ
 apply ae;apply dD hz rfl (x:=.ref TO) rfl
 apply ae;apply fg hz (dQ _)
 intro h1 z1 b1
 apply ae
 simp only[List.zipIdx_cons,List.zipIdx_nil,List.forIn_cons,List.forIn_nil]
 apply ae;apply ae;apply iJ
 change wpAny (model prog w) A (nextOf (.ref i1)>>=_) _ _ _
 apply ae
 apply bL (go h1 z1 b1) _ λ_ _ r=>r
 rintro x s2 ⟨o2,g2⟩
 apply av
 apply ae;apply fF o2 rfl
 apply ae;apply wpAny_updateSeq_pair o2
 intro h3 o3 b3
 apply ae;apply wpAny_letGo;apply av
 apply ae;apply ae;apply iJ
 change wpAny (model prog w) A (nextOf (.ref i2)>>=_) _ _ _
 apply ae
 apply bL (g2 h3 o3 b3) _ λ_ _ r=>r
 rintro y s4 ⟨o4,g4⟩
 apply av
 apply ae;apply fF o4 rfl
 apply ae;apply wpAny_updateSeq_pair o4
 intro h5 o5 b5
 obtain⟨z5,g5⟩:=g4 h5 o5 b5
 apply ae;apply wpAny_letGo;apply av;apply av
 apply ae;apply fF o5 rfl
 apply ae;refine wpAny_newTuple ?_ (by show 2<=sizeLine;decide)
 change wpAny (model prog w) A (ownedTupleHandOut (.ref z) (.ref h5.objs.size)>>=_) _ _ _
 apply ae
 rw[ownedTupleHandOut];have z6:IsZip (h5.push {cls:=.type "tuple",data:=.seq #[x,y]}) z TI TO .ellipsis:=af _ z5;have lt:z<h5.objs.size:=aP z5
 apply ae;apply fg z6 (dQ _)
 intro h7 z7 b7
 apply fg z7 (by show 1<5;decide)
 intro h8 z8 b8
 apply av
 refine g5 h8 z8 (b8.extBut _ _ (iV lt) (b7.extBut _ _ (iV lt) (aO _ rfl))) ?_ λc o nc e=>b8.extBut _ _ nc (b7.extBut _ _ nc (af _ e));rw[b8.1,b7.1,cB]
theorem anx{Q:Value->Shared->Prop}(D1:Draws prog w A i1 p n1 P1 S1)(D2:Draws prog w A i2 q n2 P2 S2)(ap:Ap z TI TO i1 i2 p q)(hz:IsZip s.heap z TI TO .none)(hi:IsPair s.heap TI (.ref i1) (.ref i2))(ho:IsPair s.heap TO a b)
  (s1:S1 k s.heap) (s2:S2 k s.heap) (k1:k<n1) (k2:k<n2)
  (hQ:∀x y h' tk,P1 k x->P2 k y->IsZip h' z TI TO (rawInt s.heap.objs.size)->IsPair h' TO x y->S1 (k+1) h'->S2 (k+1) h'->IsPair h' s.heap.objs.size x y->h'.objs.size=s.heap.objs.size+1->
   (∀c o,c≠z->c≠TO->c≠i1->c≠i2->s.heap.get? c=some o->h'.get? c=some o)->Q (.ref s.heap.objs.size) {s with heap:=h',toks:=tk}) :
  wpAny (model prog w) A (Builtin.«zip.__next__» ⟨[.ref z],[]⟩) (λfin s'=>∃v,fin=.done (.ret v)/\Q v s') E s:=by
 have ni1:i1≠z:=λe=>ap.z1 (e ▸ ap.m1);have ni2:i2≠z:=λe=>ap.z2 (e ▸ ap.m2);have no1:TO≠i1:=λe=>ap.o1 (e ▸ ap.m1);have no2:TO≠i2:=λe=>ap.o2 (e ▸ ap.m2);refine ajo hz hi ho ap.oz λh1 z1 b1=>?_;refine D1.item k _ _ _ k1 (far (D:=D1) b1 ap.z1 s1) λx h2 t2 px st2 b2=>?_;refine⟨b2.extBut _ _ no1 (b1.extBut _ _ ap.oz ho),λh3 o3 b3=>?_⟩;refine D2.item k _ _ _ k2 (far (D:=D2) b3 ap.o2 (far (D:=D2) b2 ap.x1 (far (D:=D2) b1 ap.z2 s2))) λy h4 t4 py st4 b4=>?_;refine⟨b4.extBut _ _ no2 o3,λh5 o5 b5=>⟨b5.extBut _ _ ap.oz.symm (b4.extBut _ _ ni2.symm (b3.extBut _ _ ap.oz.symm (b2.extBut _ _ ni1.symm z1))),λh8 z8 t8 l8 k8=>⟨_,rfl,?_⟩⟩⟩
 have sz:h5.objs.size=s.heap.objs.size:=by rw[b5.1,b4.1,b3.1,b2.1,b1.1]
 have g1:S1 (k+1) h8:=D1.frame _ _ _ (far (D:=D1) b5 ap.o1 (far (D:=D1) b4 ap.x2 (far (D:=D1) b3 ap.o1 st2))) λc hc o e=>k8 c o (λy=>ap.z1 (y ▸ hc)) e;have g2:S2 (k+1) h8:=D2.frame _ _ _ (far (D:=D2) b5 ap.o2 st4) λc hc o e=>k8 c o (λy=>ap.z2 (y ▸ hc)) e;rw[sz]at z8 t8 l8 ⊢;exact hQ x y h8 t4 px py z8 (k8 _ _ ap.oz o5) g1 g2 t8 l8 λc o c1 c2 c3 c4 e=>k8 c o c1 (b5.extBut _ _ c2 (b4.extBut _ _ c4 (b3.extBut _ _ c2 (b2.extBut _ _ c3 (b1.extBut _ _ c1 e)))))
theorem atc(D1:Draws prog w A i1 p n1 P1 S1)(D2:Draws prog w A i2 q n2 P2 S2)(ap:Ap z TI TO i1 i2 p q)(hz:IsZip s.heap z TI TO .none)(hi:IsPair s.heap TI (.ref i1) (.ref i2))(ho:IsPair s.heap TO a b)
  (s1:S1 k s.heap) (s2:S2 k s.heap) (kk:k=n1\/(k<n1/\k=n2))
  (hE:∀h' tk e,(∀c o,c≠z->c≠TO->c≠i1->c≠i2->s.heap.get? c=some o->h'.get? c=some o)->(∃o,h'.get? e=some o/\o.cls=.type "StopIteration")->E (.ref e) {s with heap:=h',toks:=tk}) :
  wpAny (model prog w) A (Builtin.«zip.__next__» ⟨[.ref z],[]⟩) Q E s:=by
 have ni1:i1≠z:=λe=>ap.z1 (e ▸ ap.m1);have ni2:i2≠z:=λe=>ap.z2 (e ▸ ap.m2);have no1:TO≠i1:=λe=>ap.o1 (e ▸ ap.m1);have stop:∀{h:Heap} {e:Addr},(∃o,h.get? e=some o/\o.cls=.type "StopIteration")->IsZip h z TI TO .ellipsis->e≠z:=λ{h e} ⟨o,eo,ec⟩ zz y=>by
  subst y;rw[zz]at eo;cases eo;simp at ec
 refine ajo hz hi ho ap.oz λh1 z1 b1=>?_
 rcases kk with rfl|⟨k1,rfl⟩
 .refine D1.done _ _ _ (far (D:=D1) b1 ap.z1 s1) λh2 e x2 st=>?_;have z2:IsZip h2 z TI TO .ellipsis:=x2 _ _ ni1.symm z1;have ne:=stop st z2;obtain⟨oe,f1,f2⟩:=st;refine fg z2 (dQ _) λh3 _ b3=>?_;exact hE h3 _ e (λc o c1 _ c3 _ y=>b3.extBut _ _ c1 (x2 _ _ c3 (b1.extBut _ _ c1 y))) ⟨oe,b3.extBut _ _ ne f1,f2⟩
 .refine D1.item k _ _ _ k1 (far (D:=D1) b1 ap.z1 s1) λx h2 t2 px st2 b2=>?_;refine⟨b2.extBut _ _ no1 (b1.extBut _ _ ap.oz ho),λh3 o3 b3=>?_⟩;refine D2.done _ _ _ (far (D:=D2) b3 ap.o2 (far (D:=D2) b2 ap.x1 (far (D:=D2) b1 ap.z2 s2))) λh4 e x4 st=>?_;have z4:IsZip h4 z TI TO .ellipsis:=x4 _ _ ni2.symm (b3.extBut _ _ ap.oz.symm (b2.extBut _ _ ni1.symm z1));have ne:=stop st z4;obtain⟨oe,f1,f2⟩:=st;refine fg z4 (dQ _) λh5 _ b5=>?_;exact hE h5 _ e (λc o c1 c2 c3 c4 y=>b5.extBut _ _ c1 (x4 _ _ c4 (b3.extBut _ _ c2 (b2.extBut _ _ c3 (b1.extBut _ _ c1 y))))) ⟨oe,b5.extBut _ _ ne f1,f2⟩
theorem next_item{Q:Option Value->Shared->Prop}(D1:Draws prog w A.in1 i1 p n1 P1 S1)(D2:Draws prog w A.in1 i2 q n2 P2 S2)(ap:Ap z TI TO i1 i2 p q)(hz:IsZip s.heap z TI TO .none)(hi:IsPair s.heap TI (.ref i1) (.ref i2))(ho:IsPair s.heap TO a b)
  (s1:S1 k s.heap) (s2:S2 k s.heap) (k1:k<n1) (k2:k<n2)
  (hQ:∀x y h' tk,P1 k x->P2 k y->IsZip h' z TI TO (rawInt s.heap.objs.size)->IsPair h' TO x y->S1 (k+1) h'->S2 (k+1) h'->IsPair h' s.heap.objs.size x y->h'.objs.size=s.heap.objs.size+1->
   (∀c o,c≠z->c≠TO->c≠i1->c≠i2->s.heap.get? c=some o->h'.get? c=some o)->Q (some (.ref s.heap.objs.size)) {s with heap:=h',toks:=tk}):wpAny (model prog w) A (pyNext (.ref z)) Q E s:=by
 have ty:s.TypeIs (.ref z) "zip":=⟨_,hz,rfl⟩;rw[pyNext]
 apply ae;apply iK
 apply bY (name:=Str.ofString "__next__") ty gW
 apply cm gW ty F.entry_zip_next _ (F.args_zip_next_1 _)
 exact anx D1 D2 ap hz hi ho s1 s2 k1 k2 λx y h' tk c1 c2 c3 c4 c5 c6 c7 c8 c9=>av (hQ x y h' tk c1 c2 c3 c4 c5 c6 c7 c8 c9)
theorem next_end(D1:Draws prog w A.in1 i1 p n1 P1 S1)(D2:Draws prog w A.in1 i2 q n2 P2 S2)(ap:Ap z TI TO i1 i2 p q)(hz:IsZip s.heap z TI TO .none)(hi:IsPair s.heap TI (.ref i1) (.ref i2))(ho:IsPair s.heap TO a b)
  (s1:S1 k s.heap) (s2:S2 k s.heap) (kk:k=n1\/(k<n1/\k=n2))
  (hQ:∀h' tk,(∀c o,c≠z->c≠TO->c≠i1->c≠i2->s.heap.get? c=some o->h'.get? c=some o)->Q none {s with heap:=h',toks:=tk}):wpAny (model prog w) A (pyNext (.ref z)) Q E s:=by
 have ty:s.TypeIs (.ref z) "zip":=⟨_,hz,rfl⟩;rw[pyNext]
 apply ae;apply iK
 apply bY (name:=Str.ofString "__next__") ty gW
 apply cm gW ty F.entry_zip_next _ (F.args_zip_next_1 _)
 refine atc D1 D2 ap hz hi ho s1 s2 kk ?_
 rintro h' tk e kp ⟨o,f1,f2⟩
 refine ae (wpAny_isInstance (b:=true) (T := "StopIteration") ⟨o,f1,f2⟩ isSubtype_stop (av (hQ h' tk kp)))
end
end ZP
namespace ZP
open PySem.Builtin PySem.Builtin.SmallTypes L2
inductive Srk where
 |tup (a:Addr)|lst (a:Addr)|str (x:Str)
def Srk.v:Srk->V
 |.tup a=>.ref a
 |.lst a=>.ref a
 |.str x=>.str x
noncomputable def its(H:Hp):Srk->Option (List V)
 |.tup a=>match H a with|some (.tup vs)=>some vs|_=>none
 |.lst a=>match H a with|some (.lst vs)=>some vs|some (.frz _ (.lst vs))=>some vs|_=>none
 |.str x=>some (a00 x)
def own(it:Addr)(t:Tok):Srk->Nat->Heap->Prop
 |.tup a,i,h=>h.IsTupleIter it a i
 |.lst a,i,h=>h.IsListIter it a i
 |.str x,i,h=>h.IsStrIter it (strIterType x) x t i
noncomputable def iob(t:Tok):Srk->Obj
 |.tup a=>{cls:=.type "tuple_iterator",data:=.fields #[.ref a,.int 0 0]}
 |.lst a=>{cls:=.type "list_iterator",data:=.fields #[.ref a,.int 0 0]}
 |.str x=>{cls:=.type (strIterType x),data:=.fields #[.str x t,.int 0 0]}
def val(t:Tok):Srk->Value
 |.tup a=>.ref a
 |.lst a=>.ref a
 |.str x=>.str x t
def cont(h:Heap):Srk->List Value->Prop
 |.tup a,us=>h.IsTuple a us.toArray
 |.lst a,us=>h.IsList a us.toArray
 |.str x,us=>True
theorem b3z{h:Heap}(e:h.get? it=some (iob t k)):own it t k 0 h:=by
 cases k with
 |tup a=>exact⟨_,e,rfl,rfl⟩
 |lst a=>exact⟨_,e,rfl,rfl⟩
 |str x=>exact⟨_,e,rfl,rfl⟩
theorem aac(o:own it t k i h):∃ob,h.get? it=some ob/\∀v,ob.data≠.cell v:=by
 cases k with
 |tup a=>obtain⟨ob,e,_,d⟩:=o;exact⟨ob,e,λv z=>by rw[d]at z;cases z⟩
 |lst a=>obtain⟨ob,e,_,d⟩:=o;exact⟨ob,e,λv z=>by rw[d]at z;cases z⟩
 |str x=>obtain⟨ob,e,_,d⟩:=o;exact⟨ob,e,λv z=>by rw[d]at z;cases z⟩
theorem a6s{h':Heap}(o:own it t k i h)(kk:∀ob,h.get? it=some ob->h'.get? it=some ob):own it t k i h':=by
 cases k with
 |tup a=>obtain⟨ob,e,r⟩:=o;exact⟨ob,kk _ e,r⟩
 |lst a=>obtain⟨ob,e,r⟩:=o;exact⟨ob,kk _ e,r⟩
 |str x=>obtain⟨ob,e,r⟩:=o;exact⟨ob,kk _ e,r⟩
section
variable{P:Program}{w:World}{H:Hp}{s:Shared}
theorem aad(I:Inv X aA Z H s)(e:its H k=some xs):∃us,cont s.heap k us/\((∀x,k≠.str x)->Vals xs us):=by
 cases k with
 |tup a =>
  cases q:H a with
  |none=>simp[its,q]at e
  |some o =>
   cases o with
   |tup vs =>
    simp[its,q]at e;subst e
    obtain⟨us,r,t,_⟩:=I.tuple (SqT.of q);exact⟨us,t,λ_=>r⟩
   |_=>simp[its,q]at e
 |lst a =>
  cases q:H a with
  |none=>simp[its,q]at e
  |some o =>
   cases o with
   |lst vs =>
    simp[its,q]at e;subst e
    obtain⟨us,r,t,_⟩:=I.list (SqL.of q);exact⟨us,t.isList,λ_=>r⟩
   |frz ob u =>
    cases u with
    |lst vs =>
     simp[its,q]at e;subst e
     obtain⟨us,r,t,_⟩:=I.list (.inl (.inr ⟨_,q⟩));exact⟨us,t.isList,λ_=>r⟩
    |_=>simp[its,q]at e
   |_=>simp[its,q]at e
 |str x=>exact⟨[],True.intro,λn=>absurd rfl (n x)⟩
theorem aae(I:Inv X aA Z H s)(e:its H k=some xs)(hn:H it=none) :
  ∃(cs:List Addr) (P1:Nat->Value->Prop) (S1:Nat->Heap->Prop),(∀A:Around,A.handled=none->Draws X.prog X.w A it (it::cs) xs.length P1 S1)/\(∀i,own it t k i s.heap->S1 i s.heap)/\(∀i h,S1 i h->own it t k i h)/\(∀c∈cs,H c≠none) /\
   ∀i v,P1 i v->∃x,xs[i]? = some x/\RelV x v:=by
 cases k with
 |tup a =>
  obtain⟨us,c,r⟩:=aad I e;have r:=r (by intro x z;cases z)
  have ha:H a≠none:=λz=>by simp[its,z]at e
  have l:us.toArray.size=xs.length:=by rw[ay,r.length]
  refine⟨[a],λi v=>us.toArray[i]? = some v,λi h=>h.IsTupleIter it a i/\h.IsTuple a us.toArray,λA hA=>?_,λi o=>⟨o,c⟩,λi h z=>z.1,λc hc=>by rw[ax.mp hc];exact ha,λi v z=>?_⟩
  .have:=ajn (prog:=X.prog) (w:=X.w) hA it a (λy=>ha (y ▸ hn)) us.toArray
   rw[l]at this;exact this
  .have z':us[i]? = some v:=by simpa using z
   have hi:i<xs.length:=by rw[r.length];exact(ai.mp z').1
   obtain⟨u,e1,e2⟩:=r.get (ag hi);rw[z']at e1;cases e1
   exact⟨_,ag hi,e2⟩
 |lst a =>
  obtain⟨us,c,r⟩:=aad I e;have r:=r (by intro x z;cases z)
  have ha:H a≠none:=λz=>by simp[its,z]at e
  have l:us.toArray.size=xs.length:=by rw[ay,r.length]
  refine⟨[a],λi v=>us.toArray[i]? = some v,λi h=>h.IsListIter it a i/\h.IsList a us.toArray,λA hA=>?_,λi o=>⟨o,c⟩,λi h z=>z.1,λc hc=>by rw[ax.mp hc];exact ha,λi v z=>?_⟩
  .have:=Draws.list (prog:=X.prog) (w:=X.w) hA it a (λy=>ha (y ▸ hn)) us.toArray
   rw[l]at this;exact this
  .have z':us[i]? = some v:=by simpa using z
   have hi:i<xs.length:=by rw[r.length];exact(ai.mp z').1
   obtain⟨u,e1,e2⟩:=r.get (ag hi);rw[z']at e1;cases e1
   exact⟨_,ag hi,e2⟩
 |str x =>
  cases e
  have l:(a00 x).length=x.cps.size:=by simp[a00]
  refine⟨[],λi v=>∃c u,x.cps[i]? = some c/\v=.str ⟨#[c]⟩ u,λi h=>h.IsStrIter it (strIterType x) x t i,λA hA=>?_,λi o=>o,λi h z=>z,λc hc=>(by cases hc),λi v z=>?_⟩
  .rw[l]
   cases ha:x.cps.all (· < 128)
   .have:=Draws.strWide (prog:=X.prog) (w:=X.w) hA it x t
    simpa[strIterType,ha] using this
   .have:=Draws.strAscii (prog:=X.prog) (w:=X.w) hA it x t
    simpa[strIterType,ha] using this
  .obtain⟨c,u,e1,rfl⟩:=z;exact⟨.str ⟨#[c]⟩,by simp[a00,e1],⟨_,rfl⟩⟩
end
noncomputable def ItZ(k1 k2:Srk):It where
 go:=λi H=>∃xs ys x y,its H k1=some xs/\its H k2=some ys/\xs[i]? = some x/\ys[i]? = some y
 yld:=λi H v H'=>∃xs ys x y p,its H k1=some xs/\its H k2=some ys/\xs[i]? = some x/\ys[i]? = some y/\H p=none/\v=.ref p/\H'=upd H p (.tup [x,y])
 stop:=λi H=>∃xs ys,its H k1=some xs/\its H k2=some ys/\(i=xs.length\/(i<xs.length/\i=ys.length))
def tnZ(z TI TO i1 i2:Addr)(t1 t2:Tok)(k1 k2:Srk)(i:Nat)(h:Heap):Prop :=
 IsZip h z TI TO .none/\IsPair h TI (.ref i1) (.ref i2)/\(∃a b,IsPair h TO a b)/\own i1 t1 k1 i h/\own i2 t2 k2 i h
structure Far (z TI TO i1 i2:Addr):Prop where
 a:TI≠z
 b:TO≠z
 c:i1≠z
 d:i2≠z
 e:TI≠TO
 f:TI≠i1
 g:TI≠i2
 h:TO≠i1
 i:TO≠i2
 j:i1≠i2
theorem ajp{X:Cx}{aA:List (Addr×Obj)}{Z:St}{H:Hp}{s:Shared}{h':Heap}{t':Nat}{ch:List Addr}(I:Inv X aA Z H s)(hf:∀b∈ch,FpOk X aA H b)(k:∀b o,b∉ch->s.heap.get? b=some o->h'.get? b=some o) :
  Inv X aA Z H {s with heap:=h',toks:=t' }:=by
 have nit:∀b u,H b=some u->b∉ch:=λb u e z=>by rw[(hf b z).1]at e;cases e
 refine I.step (g':=s.gens) (d':=s.drawn) (ch:=ch) (λb hb=>?_) (λb o _ _ hc e _=>k b o hc e) (λb o _ _ hc e _=>⟨o.slots,k b o hc e⟩) (λ_ _ _ _ n=>n) (λb o hc e=>⟨o,k b o hc e⟩) (λ_ _ e=>e) (λ_ _ _ e=>e)
  (λb ps e=>⟨#[],by rw[e];simp⟩) (λm hm=>?_) (λb u e=>?_) I.bare
 .obtain⟨_,f1,_,f3,f4,f5⟩:=hf b hb;exact⟨f3,f1,f4,f5⟩
 .obtain⟨o,es,ep,ho,r⟩:=hm;exact⟨o,es,ep,k _ o (λz=>(hf _ z).2.1 rfl) ho,r⟩
 .refine(I.hok b u e).stay (λc v hc q=>k c v ?_ q) (λ_ q=>q) λ_ _ q=>q
  rcases hc with z|z
  .rw[z];exact nit b u e
  .exact nit c _ z
theorem anz{P:Program}{w:World}{K:Fg}{elts:List Expr}{x1:Nat}{pos:Pos}{z TI TO i1 i2:Addr}{t1 t2:Tok}{k1 k2:Srk}(f:Far z TI TO i1 i2):Turn P w K (.Tuple elts x1 pos) (ItZ k1 k2) [z,TI,TO,i1,i2] z (tnZ z TI TO i1 i2 t1 t2 k1 k2) where
 mem:=by simp
 obj:=λi h st b hb=>by
  obtain⟨h1,h2,⟨a,b',h3⟩,h4,h5⟩:=st;simp only[aL,bg,cW]at hb
  rcases hb with rfl|rfl|rfl|rfl|rfl
  .exact⟨_,h1,λv z=>(by cases z)⟩
  .exact⟨_,h2,λv z=>(by cases z)⟩
  .exact⟨_,h3,λv z=>(by cases z)⟩
  .exact aac h4
  .exact aac h5
 keep:=λi h h' st k=>by
  obtain⟨h1,h2,⟨a,b',h3⟩,h4,h5⟩:=st;exact⟨k z (by simp) _ h1,k TI (by simp) _ h2,⟨a,b',k TO (by simp) _ h3⟩,a6s h4 λob e=>k i1 (by simp) ob e,a6s h5 λob e=>k i2 (by simp) ob e⟩
 item:=by
  intro X hP hw hK hc i aA s Z H E I hf st hg
  subst hP hw hK;obtain⟨xs,ys,x,y,e1,e2,g1,g2⟩:=hg;obtain⟨h1,h2,⟨a,b,h3⟩,h4,h5⟩:=st;have n:∀c∈[z,TI,TO,i1,i2],H c=none:=λc hc=>(hf c hc).1;obtain⟨cs,P1,S1,D1,a1,b1,c1,d1⟩:=aae I (t:=t1) e1 (n i1 (by simp))
  obtain⟨ds,P2,S2,D2,a2,b2,c2,d2⟩:=aae I (t:=t2) e2 (n i2 (by simp))
  have hd:=I.ok.hd hc;have out1:∀c,H c=none->c∉cs:=λc e z=>c1 c z e;have out2:∀c,H c=none->c∉ds:=λc e z=>c2 c z e;have ap:Ap z TI TO i1 i2 (i1::cs) (i2::ds):=⟨by simp,by simp,by simp[f.c.symm,out1 z (n z (by simp))],by simp[f.d.symm,out2 z (n z (by simp))],by simp[f.h,out1 TO (n TO (by simp))],by simp[f.i,out2 TO (n TO (by simp))],f.b,by simp[f.j,out2 i1 (n i1 (by simp))],by simp[f.j.symm,out1 i2 (n i2 (by simp))]⟩
  refine next_item (D1 X.A.in1 hd) (D2 X.A.in1 hd) ap h1 h2 h3 (a1 i h4) (a2 i h5) (ai.mp g1).1 (ai.mp g2).1 λu v h' tk pu pv z' to' s1' s2' pr sz kp=>?_;obtain⟨x',q1,r1⟩:=d1 i u pu;obtain⟨y',q2,r2⟩:=d2 i v pv;rw[g1]at q1;cases q1
  rw[g2]at q2;cases q2
  refine⟨_,rfl,wpAny_letOwnedTupleGo_zip z' λh2' z2' sb=>?_⟩;have hp:H s.heap.objs.size=none:=I.hok.fresh (aw _);have lt:∀c∈[z,TI,TO,i1,i2],c<s.heap.objs.size:=λc hc=>by
   simp only[aL,bg,cW]at hc
   rcases hc with rfl|rfl|rfl|rfl|rfl
   .exact aP h1
   .exact aP h2
   .exact aP h3
   .obtain⟨_,e,_⟩:=aac h4;exact aP e
   .obtain⟨_,e,_⟩:=aac h5;exact aP e
  have all:∀c o,c∉[z,TI,TO,i1,i2]->s.heap.get? c=some o->h2'.get? c=some o:=λc o nc e=>by
   simp only[aL,bg,cW,not_or]at nc;exact(sb.2 c nc.1).trans (kp c o nc.1 nc.2.2.1 nc.2.2.2.1 nc.2.2.2.2 e)
  have nT:∀c∈[z,TI,TO,i1,i2],c≠s.heap.objs.size:=λc hc=>br (lt c hc);have I0:Inv X aA Z (upd H s.heap.objs.size (.tup [x,y])) {s with heap:=s.heap.push {cls:=.type "tuple",data:=.seq #[u,v]} } :=
   I.laid (t':=s.toks) (o:=.tup [x,y]) (λb o e=>af _ e) (aw _) ⟨by show 2<=sizeLine;decide,[u,v],.cons r1 (.cons r2 .nil),⟨_,aO _ rfl,rfl,_,rfl⟩⟩
  have I1:Inv X aA Z (upd H s.heap.objs.size (.tup [x,y])) {s with heap:=h2',toks:=tk}:=by
   refine ajp (s:={s with heap:=s.heap.push {cls:=.type "tuple",data:=.seq #[u,v]} }) (ch:=[z,TI,TO,i1,i2]) I0 (λb hb=>?_) λc o nc e=>?_
   .obtain⟨f0,f1⟩:=hf b hb;exact⟨by rw[je (nT b hb)];exact f0,f1⟩
   .rcases Heap.get?_push_cases e with⟨rfl,rfl⟩|e
    .exact(sb.2 _ (nT z (by simp)).symm).trans pr
    .exact all c o nc e
  refine⟨.ref s.heap.objs.size,_,I1,rfl,⟨xs,ys,x,y,_,e1,e2,g1,g2,hp,rfl,rfl⟩,⟨z2',?_,⟨u,v,(sb.2 _ f.b).trans to'⟩,a6s (b1 _ _ s1') λob e=>(sb.2 _ f.c).trans e,a6s (b2 _ _ s2') λob e=>(sb.2 _ f.d).trans e⟩,λb hb=>?_⟩
  .exact(sb.2 _ f.a).trans (kp TI _ f.a f.e f.f f.g h2)
  .rw[je (nT b hb)];exact n b hb
 done:=by
  intro X hP hw hK hc i aA s Z H E I hf st hg
  subst hP hw hK;obtain⟨xs,ys,e1,e2,g⟩:=hg;obtain⟨h1,h2,⟨a,b,h3⟩,h4,h5⟩:=st;have n:∀c∈[z,TI,TO,i1,i2],H c=none:=λc hc=>(hf c hc).1;obtain⟨cs,P1,S1,D1,a1,b1,c1,d1⟩:=aae I (t:=t1) e1 (n i1 (by simp))
  obtain⟨ds,P2,S2,D2,a2,b2,c2,d2⟩:=aae I (t:=t2) e2 (n i2 (by simp))
  have hd:=I.ok.hd hc;have out1:∀c,H c=none->c∉cs:=λc e z=>c1 c z e;have out2:∀c,H c=none->c∉ds:=λc e z=>c2 c z e;have ap:Ap z TI TO i1 i2 (i1::cs) (i2::ds):=⟨by simp,by simp,by simp[f.c.symm,out1 z (n z (by simp))],by simp[f.d.symm,out2 z (n z (by simp))],by simp[f.h,out1 TO (n TO (by simp))],by simp[f.i,out2 TO (n TO (by simp))],f.b,by simp[f.j,out2 i1 (n i1 (by simp))],by simp[f.j.symm,out1 i2 (n i2 (by simp))]⟩
  refine next_end (D1 X.A.in1 hd) (D2 X.A.in1 hd) ap h1 h2 h3 (a1 i h4) (a2 i h5) g λh' tk kp=>⟨rfl,ajp I hf λc o nc e=>?_⟩;simp only[aL,bg,cW,not_or]at nc;exact kp c o nc.1 nc.2.2.1 nc.2.2.2.1 nc.2.2.2.2 e
 self:=λ_ _ _ _ _ st h=>wpAny_pyIter_zip st.1 h
theorem ajq(c:cont h k us)(o:Obj):cont (h.push o) k us:=by
 cases k with
 |tup a=>obtain⟨ob,e,r⟩:=c;exact⟨ob,af _ e,r⟩
 |lst a=>obtain⟨ob,e,r⟩:=c;exact⟨ob,af _ e,r⟩
 |str x=>trivial
theorem afj{s:Shared}(c:cont s.heap k us)(q:Q (.ref s.heap.objs.size) {s with heap:=s.heap.push (iob t k)}) :
  wpAny (model prog w) A (pyIter (val t k)) Q E s:=by
 cases k with
 |tup a=>exact hU c q
 |lst a=>exact gu c q
 |str x=>exact wpAny_pyIter_strU q
def mk2(h:Heap)(t1 t2:Tok)(k1 k2:Srk):Heap:=(h.push (iob t1 k1)).push (iob t2 k2)
noncomputable def mk5(h:Heap)(t1 t2:Tok)(k1 k2:Srk):Heap :=
 (((mk2 h t1 t2 k1 k2).push {cls:=.type "tuple",data:=.seq #[.ref h.objs.size,.ref (h.objs.size+1)]}).push {cls:=.type "tuple",data:=.seq #[.none,.none]}).push
  {cls:=.type "zip",data:=.fields #[.none,.bool false,.bool false,.ref (h.objs.size+2),.ref (h.objs.size+3)]}
theorem ao0(t1 t2:Tok)(k1 k2:Srk)(us1 us2:List Value):Meets (Builtin.«zip.__new__» ⟨[.type "zip",val t1 k1,val t2 k2],[]⟩)
  (λ_ R s=>cont s.heap k1 us1/\cont s.heap k2 us2/\R (.ok (.ret (.ref (s.heap.objs.size+4)))) {s with heap:=mk5 s.heap t1 t2 k1 k2}) :=
 .of_wp λprog w A R s h=>by
  obtain⟨hp,g,d,tk,os⟩:=s;obtain⟨c1,c2,h⟩:=h;have sub:=sub_zip;have c1':cont (Shared.heap ⟨hp,g,d,tk,os⟩) k1 us1:=c1;have c2':cont (Shared.heap ⟨hp.push (iob t1 k1),g,d,tk,os⟩) k2 us2:=ajq c2 _
  wp_walk using afj (t:=t1) c1',afj (t:=t2) c2'
  refine⟨_,rfl,?_⟩;simpa[mk5,mk2,cB,ownedTupleFields,cT] using h
theorem b2r(n:Nat):Far (n+4) (n+2) (n+3) n (n+1):=by
 refine⟨?_,?_,?_,?_,?_,?_,?_,?_,?_,?_⟩<;>(intro z;have z:(_:Nat)=_:=z;omega)
theorem b5d(n b:Nat)(h:b∈[n+4,n+2,n+3,n,n+1]):n<=b:=by
 simp only[aL,bg,cW]at h;omega
section
variable{X:Cx}{elts:List Expr}{x1:Nat}{tpos:Pos}
noncomputable def b5e(ta:TA):TI:=λZ H R=>ta Z H λvs H1=>∃k1 k2 xs ys,vs=[Srk.v k1,Srk.v k2]/\its H1 k1=some xs/\its H1 k2=some ys/\R (ItZ k1 k2) H1
theorem aqi{k:Srk}(r:RelV k.v u):∃t,u=val t k:=by
 cases k with
 |tup a=>cases r;exact⟨0,rfl⟩
 |lst a=>cases r;exact⟨0,rfl⟩
 |str x=>obtain⟨t,rfl⟩:=r;exact⟨t,rfl⟩
theorem axx(hg:Gl X "zip")(hm:X.mg "zip" = none)(hb:bootBuiltins "zip" = some (.type "zip"))(ha:PA X [e1,e2] ta)
  (h1:starEach [e1,e2] X.env=[(false,eval e1 X.env),(false,eval e2 X.env)]:=by rfl) (h2:starEach [e2] X.env=[(false,eval e2 X.env)]:=by rfl):PI X (.Tuple elts x1 tpos) (.Call (.Name "zip" p) [e1,e2] [] pos) (b5e ta):=by
 intro aA s Z H R I h
 refine eE (a66 I hg hm hb ?_ (by decide) (by decide))
 refine cH (thn (ha pos aA s Z H _ I h) λus s1 ⟨vs,H1,I1,r1,q1⟩=>?_) (by rw[h1,h2]) (by rw[h2];rfl)
 obtain⟨k1,k2,xs,ys,rfl,e1,e2,q⟩:=q1;obtain⟨v1,v2,rfl,rv1,rv2⟩:=vals2 r1;obtain⟨t1,rfl⟩:=aqi rv1;obtain⟨t2,rfl⟩:=aqi rv2;obtain⟨us1,c1,_⟩:=aad I1 e1;obtain⟨us2,c2,_⟩:=aad I1 e2;refine callType_new F.called_zip (by decide) (F.typeCall_zip_2 _ _) (F.newCall_zip_2 _ _) (λobj=>F.args_object_init_3 obj _ _) F.entry_zip_new (ao0 t1 t2 k1 k2 us1 us2) ⟨c1,c2,?_⟩
 have z2:(mk2 s1.heap t1 t2 k1 k2).objs.size=s1.heap.objs.size+2:=by simp[mk2,cB]
 have at0:(mk5 s1.heap t1 t2 k1 k2).get? s1.heap.objs.size=some (iob t1 k1):=by
  unfold mk5 mk2;exact af _ (af _ (af _ (af _ (aO _ (by cases k1<;>rfl)))))
 have at1:(mk5 s1.heap t1 t2 k1 k2).get? (s1.heap.objs.size+1)=some (iob t2 k2):=by
  unfold mk5 mk2;have:=aO (o:=iob t2 k2) (s1.heap.push (iob t1 k1)) (by cases k2<;>rfl)
  rw[cB]at this;exact af _ (af _ (af _ this))
 have at2:IsPair (mk5 s1.heap t1 t2 k1 k2) (s1.heap.objs.size+2) (.ref s1.heap.objs.size) (.ref (s1.heap.objs.size+1)):=by
  unfold mk5;rw[<-z2];exact af _ (af _ (aO _ rfl))
 have at3:IsPair (mk5 s1.heap t1 t2 k1 k2) (s1.heap.objs.size+3) .none .none:=by
  unfold mk5;have:=aO (o:={cls:=.type "tuple",data:=.seq #[.none,.none]}) ((mk2 s1.heap t1 t2 k1 k2).push {cls:=.type "tuple",data:=.seq #[.ref s1.heap.objs.size,.ref (s1.heap.objs.size+1)]}) rfl;rw[cB,z2]at this;exact af _ this
 have at4:IsZip (mk5 s1.heap t1 t2 k1 k2) (s1.heap.objs.size+4) (s1.heap.objs.size+2) (s1.heap.objs.size+3) .none:=by
  unfold mk5;have:=aO (o:={cls:=.type "zip",data:=.fields #[.none,.bool false,.bool false,.ref (s1.heap.objs.size+2),.ref (s1.heap.objs.size+3)]}) (((mk2 s1.heap t1 t2 k1 k2).push {cls:=.type "tuple",data:=.seq #[.ref s1.heap.objs.size,.ref (s1.heap.objs.size+1)]}).push {cls:=.type "tuple",data:=.seq #[.none,.none]}) rfl;rw[cB,cB,z2]at this;exact this
 have keepA:∀b o,s1.heap.get? b=some o->(mk5 s1.heap t1 t2 k1 k2).get? b=some o:=λb o e=>by
  unfold mk5 mk2;exact af _ (af _ (af _ (af _ (af _ e))))
 have I2:Inv X aA Z H1 {s1 with heap:=mk5 s1.heap t1 t2 k1 k2}:=I1.kept (t':=s1.toks) keepA
 refine⟨⟨_,at4,rfl⟩,?_⟩;refine wpAny_pyIter_zip (s:={s1 with heap:=mk5 s1.heap t1 t2 k1 k2}) at4 ?_
 refine⟨s1.heap.objs.size+4,[s1.heap.objs.size+4,s1.heap.objs.size+2,s1.heap.objs.size+3,s1.heap.objs.size,s1.heap.objs.size+1],tnZ _ _ _ _ _ t1 t2 k1 k2,ItZ k1 k2,H1,rfl,I2,anz (b2r s1.heap.objs.size),
  ⟨at4,at2,⟨_,_,at3⟩,b3z at0,b3z at1⟩,λb hb=>?_,q⟩
 have:s1.heap.objs.size<=b:=b5d _ b hb
 exact I1.fpOk this (I1.hok.fresh this)
end
end ZP
namespace MI
open L2 ZP
def srcOf(d:D)(h:Hd):Option (List D×(Hd->Prop)):=match d with
 |.tup xs=>some (xs,λ_=>True)
 |.rol xs=>some (xs,λ_=>True)
 |.str x=>some (a01 x,λ_=>True)
 |.ref i=>(match h[i]? with|some (.lst xs)=>some (xs,λh=>h[i]? = some (.lst xs))|_=>none)
 |_=>none
noncomputable def b1a(x y:D)(h:Hd):R Itm:=match srcOf x h,srcOf y h with
 |some (xs,c1),some (ys,c2)=>.ok ⟨(xs.zip ys).map λp=>.tup [p.1,p.2],λh=>c1 h/\c2 h⟩ h
 |_,_=>.no
def atd(f g:SE):SI:=λτ h=>(f τ h).bind λx h1=>(g τ h1).bind λy h2=>b1a x y h2
theorem aqj(r:Rep K U H v d)(hr:HRep K U H h)(e:srcOf d h=some (xs,ck)) :
  ∃k:Srk,v=k.v/\ck h/\∀U' H' h',Gr U H U' H'->HRep K U' H' h'->ck h'->∃vs,its H' k=some vs/\Reps K U' H' vs xs:=by
 cases r with
 |@tup a vs ys ha rs =>
  cases e
  exact⟨.tup a,rfl,True.intro,λU' H' h' g _ _=>⟨vs,by simp[its,g.tup _ _ ha],rs.mono g⟩⟩
 |@rol a vs ys ha rs =>
  cases e
  refine⟨.lst a,rfl,True.intro,λU' H' h' g _ _=>⟨vs,?_,rs.mono g⟩⟩;obtain⟨o,q⟩:=ha.mono g;simp[its,q]
 |str x =>
  cases e
  exact⟨.str x,rfl,True.intro,λU' H' h' g _ _=>⟨_,rfl,a5p x⟩⟩
 |@ref a i ha =>
  obtain⟨ob,e1,e2⟩:=hr.at ha
  cases ob with
  |lst zs =>
   simp only[srcOf,e1]at e;cases e
   refine⟨.lst a,rfl,e1,λU' H' h' g hr' c=>?_⟩;obtain⟨us,q1,q2⟩:=hr'.obj i a _ (g.at ha) c;exact⟨us,by simp[its,q1],q2⟩
  |dK _=>simp only[srcOf,e1]at e;cases e
  |dT _=>simp only[srcOf,e1]at e;cases e
  |ins _ _=>simp only[srcOf,e1]at e;cases e
 |_=>cases e
theorem aqk(hg:Gl X "zip")(hm:X.mg "zip" = none)(hb:bootBuiltins "zip" = some (.type "zip"))(ha:ME X E e1 f)(hb':ME X E e2 g)
  (h1:starEach [e1,e2] X.env=[(false,eval e1 X.env),(false,eval e2 X.env)]:=by rfl) (h2:starEach [e2] X.env=[(false,eval e2 X.env)]:=by rfl) :
  MI X E (.Tuple elts x1 tpos) (.Call (.Name "zip" p) [e1,e2] [] pos) (atd f g):=by
 rintro aA s Z H Rr I ⟨U,τ,h,S,Rh,o⟩
 refine axx hg hm hb (a7c ha (a7c hb' af4 (by rw[h2];rfl)) (by rw[h1,h2])) h1 h2 aA s Z H Rr I ?_
 refine⟨U,τ,h,S,Rh,dj o λd h1 U1 H1 v g1 r1 hr1 o1=>?_⟩;refine⟨U1,τ,h1,S.mono g1,hr1,dj o1 λd2 h2 U2 H2 u g2 r2 hr2 o2=>?_⟩;unfold b1a at o2
 split at o2
 .rename_i xs c1 ys c2 q1 q2;obtain⟨k1,rfl,k1c,k1f⟩:=aqj (r1.mono g2) hr2 q1;obtain⟨k2,rfl,k2c,k2f⟩:=aqj r2 hr2 q2;obtain⟨vs1,w1,w2⟩:=k1f U2 H2 h2 (.refl _ _) hr2 k1c;obtain⟨vs2,w3,w4⟩:=k2f U2 H2 h2 (.refl _ _) hr2 k2c;refine⟨k1,k2,vs1,vs2,rfl,w1,w3,o2 U2 H2 _ (.refl _ _) ?_ hr2⟩
  intro U3 H3 h3 g3 hr3 c
  obtain⟨us1,a1,a2⟩:=k1f U3 H3 h3 g3 hr3 c.1;obtain⟨us2,a3,a4⟩:=k2f U3 H3 h3 g3 hr3 c.2;refine⟨λi d ed=>?_,us1,us2,a1,a3,?_⟩
  .simp only[bD,aR]at ed;obtain⟨⟨x,y⟩,ez,rfl⟩:=ed;obtain⟨ex,ey⟩:=fE.mp ez;obtain⟨v1,b1,b2⟩:=a2.get ex;obtain⟨v2,b3,b4⟩:=a4.get ey;refine⟨⟨us1,us2,v1,v2,a1,a3,b1,b3⟩,λx H' yl=>?_⟩;obtain⟨xs',ys',x',y',p,c1,c2,c3,c4,c5,rfl,rfl⟩:=yl;rw[a1]at c1;cases c1
   rw[a3]at c2;cases c2
   rw[b1]at c3;cases c3
   rw[b3]at c4;cases c4
   exact⟨a2n c5 _,.tup qw (.cons (b2.mono (a2n c5 _)) (.cons (b4.mono (a2n c5 _)) .nil)),hr3.aside c5 _⟩
  .rw[ar,List.length_zip,a2.len,a4.len];omega
 .exact o2.elim
theorem aql:bootBuiltins "zip" = some (.type "zip"):=by first|exact PySem.boot_zip|exact PyProof.Rows.boot_zip|rfl
end MI
namespace MI
open L2
section
variable{P:Program}{w:World}{K:Fg}{mg:Str->Option Value}{base:Heap}
theorem aha:FnOk P w K mg base CX0 k f fd ps (ug K ps.length λ_ _=>.no) :=
 ⟨λvs H Q E h=>h.1,λA outer s H args us vs Q E hr he hb hv hs=>by obtain⟨_,U,ds,h,_,_,o⟩:=hs;exact o.elim⟩
end
def FrzOf(L:List Addr)(H H2:Hp):Prop:=∀a,(a∉L->H2 a=H a)/\(a∈L->∃o u,H a=some u/\H2 a=some (.frz o u))
def ahb(H:Hp)(L:List Addr):Prop:=∀a∈L,(∃xs,H a=some (.lst xs))\/(∃kvs,H a=some (.dK kvs))\/(∃kvs,H a=some (.dT kvs))\/∃C dx fs,H a=some (.ins C dx fs)
def still:HO->Prop
 |.lst _=>False|.dK _=>False|.dT _=>False|.ins _ _ _=>False
 |_=>True
theorem FrzOf.still(f:FrzOf L H H2)(ab:ahb H L)(e:H a=some u)(st:MI.still u):H2 a=some u:=by
 rw[(f a).1 λz=>?_]
 .exact e
 .rcases ab a z with⟨_,q⟩|⟨_,q⟩|⟨_,q⟩|⟨_,_,_,q⟩<;>(rw[e]at q;cases q;exact st)
theorem Inv.frz{X:Cx}{aA:List (Addr×Obj)}{Z:St}{H:Hp}{s:Shared}{L:List Addr}(I:Inv X aA Z H s)(ab:ahb H L):∃H2,FrzOf L H H2/\Inv X aA Z H2 s:=by
 have obj:∀a∈L,∀u,H a=some u->∃o,s.heap.get? a=some o:=λa ha u e=>by
  rcases ab a ha with⟨_,q⟩|⟨_,q⟩|⟨_,q⟩|⟨_,_,_,q⟩
  .obtain⟨_,_,_,_,z⟩:=I.hok a _ q;exact⟨_,z⟩
  .obtain⟨_,_,_,_,z⟩:=I.hok a _ q;obtain⟨o,_,_,z,_⟩:=z;exact⟨o,z⟩
  .obtain⟨_,_,_,_,o,_,_,z,_⟩:=I.hok a _ q;exact⟨o,z⟩
  .obtain⟨_,_,_,z,_⟩:=I.hok a _ q;exact⟨_,z⟩
 let H2:Hp:=λa=>if a∈L then (match s.heap.get? a,H a with|some o,some u=>some (.frz o u)|_,w=>w) else H a
 have f:FrzOf L H H2:=λa=>⟨λh=>by simp[H2,h],λh=>by
  obtain⟨u,e⟩:∃u,H a=some u:=by
   rcases ab a h with⟨_,q⟩|⟨_,q⟩|⟨_,q⟩|⟨_,_,_,q⟩<;>exact⟨_,q⟩
  obtain⟨o,eo⟩:=obj a h u e;exact⟨o,u,e,by simp[H2,h,e,eo]⟩⟩
 refine⟨H2,f,?_⟩;have mv:∀a u,ObjOk X.prog X.w H s.heap a u->ObjOk X.prog X.w H2 s.heap a u:=λa u x=>x.stay (λb v _ q=>q) (λc q=>f.still ab q True.intro) λc xs q=>f.still ab q True.intro;have ok:HOk X.prog X.w H2 s.heap:=λa u e=>by
  by_cases hl:a∈L
  .obtain⟨u0,e0⟩:∃u,H a=some u:=by
    rcases ab a hl with⟨_,q⟩|⟨_,q⟩|⟨_,q⟩|⟨_,_,_,q⟩<;>exact⟨_,q⟩
   obtain⟨o,eo⟩:=obj a hl u0 e0;have e':H2 a=some (.frz o u0):=by simp[H2,hl,e0,eo]
   rw[e']at e;cases e
   exact⟨eo,mv a u0 (I.hok a u0 e0)⟩
  .rw[(f a).1 hl]at e;exact mv a u (I.hok a u e)
 have fn:∀b,H b=none->H2 b=none:=λb n=>by
  rw[(f b).1 λz=>?_]
  .exact n
  .rcases ab b z with⟨_,q⟩|⟨_,q⟩|⟨_,q⟩|⟨_,_,_,q⟩<;>(rw[n]at q;cases q)
 have un:Un X.fs [] H H2 s.heap s.heap:=⟨λb o q _ _ _=>q,λb o q _ _ _=>⟨o.slots,q⟩,λb o _ n _=>fn b n,λb o q _=>⟨o,q⟩,λb xs q=>f.still ab q True.intro,λb o u q=>f.still ab q True.intro,λb ps q=>⟨#[],by rw[f.still ab q True.intro];simp⟩⟩
 exact I.un (t':=s.toks) un ok
theorem ajr(h:PE X e t):PE X e (λZ H Q=>t Z H λv H1=>∃L,ahb H1 L/\∀H2,FrzOf L H1 H2->Q v H2):=λaA s Z H Q I q =>
 thn (h aA s Z H _ I q) λu s' ⟨v,H1,I1,r,L,ab,k⟩=>let ⟨H2,f,I2⟩:=Inv.frz I1 ab; ⟨v,H2,I2,r,k H2 f⟩
noncomputable def a1u{α β:Type}(f:α->Option β):List α->Option (List β)
 |[]=>some []
 |x::xs=>match f x,a1u f xs with|some y,some ys=>some (y::ys)|_,_=>none
open Classical in
def a2v(n:Nat)(h:Hd):Nat->D->Option D
 |0,_=>none
 |k+1,d=>if clo n d then some d else match d with
  |.tup xs=>(a1u (a2v n h k) xs).map .tup
  |.rol xs=>(a1u (a2v n h k) xs).map .rol
  |.scr xs=>(a1u (a2v n h k) xs).map .scr
  |.rod ks xs=>(a1u (a2v n h k) xs).map (.rod ks)
  |.rdT ks xs=>(a1u (a2v n h k) xs).map (.rdT ks)
  |.ins c ks xs=>(a1u (a2v n h k) xs).map (.ins c ks)
  |.ref i=>match h[i]? with
   |some (.lst xs)=>(a1u (a2v n h k) xs).map .rol
   |some (.dK kvs)=>(a1u (a2v n h k) (kvs.map (·.2))).map (.rod (kvs.map (·.1)))
   |some (.dT kvs)=>(a1u (a2v n h k) (kvs.map (·.2))).map (.rdT (kvs.map (·.1)))
   |some (.ins c kvs)=>(a1u (a2v n h k) (kvs.map (·.2))).map (.ins c (kvs.map (·.1)))
   |none=>none
  |_=>none
open Classical in
def axy(n:Nat)(h:Hd)(k:Nat)(o:O):Option O:=if uv n o then some o else match o with
 |.lst xs=>(a1u (a2v n h k) xs).map .lst
 |.dK kvs=>(a1u (a2v n h k) (kvs.map (·.2))).map λys=>.dK ((kvs.map (·.1)).zip ys)
 |.dT kvs=>(a1u (a2v n h k) (kvs.map (·.2))).map λys=>.dT ((kvs.map (·.1)).zip ys)
 |.ins c kvs=>(a1u (a2v n h k) (kvs.map (·.2))).map λys=>.ins c ((kvs.map (·.1)).zip ys)
abbrev FU:Nat:=20
def aaf(n:Nat):R D->R D
 |.ok d h1=>match a2v n h1 FU d,a1u (axy n h1 FU) (h1.take n) with|some d',some g=>.ok d' g|_,_=>.no
 |_=>.no
open Classical in
def avs(n:Nat):R D->R D
 | .ok (.ref i) h1=>(match h1[i]? with
   |some o=>if n<=i/\uv n o/\∀u∈h1.take n,uv n u then .ok (.ref n) (h1.take n++[o]) else .no
   |none=>.no)
 |_=>.no
section
variable{K:Fg}{U U':List Addr}{H H' H2:Hp}{h1:Hd}{n:Nat}{L:List Addr}
theorem afk(f:FrzOf L H' H2)(ab:ahb H' L)(κ:List Addr):Gw κ H' κ H2:=⟨⟨[],by simp⟩,λa vs e=>f.still ab e True.intro,λa o u e=>f.still ab e True.intro⟩
theorem oh(ih:∀{v d d'},Rep K U H v d->f d=some d'->Rep K κ H2 v d'):∀{vs:List V} {ds ds':List D},Reps K U H vs ds->a1u f ds=some ds'->Reps K κ H2 vs ds'
 |_,_,_,.nil,e=>by cases e;exact .nil
 |_,x::xs,_,.cons r rs,e=>by
  unfold a1u at e
  split at e
  .rename_i y ys h1 h2;cases e
   exact .cons (ih r h1) (oh ih rs h2)
  .cases e
theorem a7s(hr:HRep K U' H' h1)(hL:∀(i:Nat) a,U'[i]? = some a->n<=i->a∈L)(f:FrzOf L H' H2)(ab:ahb H' L):∀(k:Nat) {v:V} {d d':D},Rep K U' H' v d->a2v n h1 k d=some d'->Rep K (U'.take n) H2 v d':=by
 intro k
 induction k with
 |zero=>intro v d d' r e;cases e
 |succ k ih =>
  intro v d d' r e
  unfold a2v at e
  split at e
  .rename_i c;cases e
   exact(r.cut c).monoW (afk f ab _)
  .rename_i c
   cases r with
   |tup h rs =>
    simp only[aR]at e;obtain⟨ys,e1,rfl⟩:=e;exact .tup (f.still ab h True.intro) (oh (λr e=>ih r e) rs e1)
   |rol h rs =>
    simp only[aR]at e;obtain⟨ys,e1,rfl⟩:=e;exact .rol (h.monoW (afk f ab U')) (oh (λr e=>ih r e) rs e1)
   |scr h rs =>
    simp only[aR]at e;obtain⟨ys,e1,rfl⟩:=e;exact .scr (h.monoW (afk f ab U')) (oh (λr e=>ih r e) rs e1)
   |rod h ek rs =>
    simp only[aR]at e;obtain⟨ys,e1,rfl⟩:=e;exact .rod (f.still ab h True.intro) ek (oh (λr e=>ih r e) rs e1)
   |rdT h ek rs =>
    simp only[aR]at e;obtain⟨ys,e1,rfl⟩:=e;exact .rdT (f.still ab h True.intro) ek (oh (λr e=>ih r e) rs e1)
   |@ref a i ha =>
    have hi:n<=i:=by
     simp only[clo]at c;omega
    obtain⟨o,u,e1,e2⟩:=(f a).2 (hL i a ha hi);obtain⟨ob,h3,h4⟩:=hr.at ha;simp only[h3]at e
    cases ob with
    |lst xs =>
     simp only[aR]at e;obtain⟨ys,e3,rfl⟩:=e;obtain⟨vs,h5,h6⟩:=h4;rw[e1]at h5;cases h5
     exact .rol ⟨o,e2⟩ (oh (λr e=>ih r e) h6 e3)
    |dK kvs =>
     simp only[aR]at e;obtain⟨ys,e3,rfl⟩:=e;obtain⟨us,h5,h6,h7⟩:=h4;rw[e1]at h5;cases h5
     exact .rod e2 h6 (oh (λr e=>ih r e) h7 e3)
    |dT kvs =>
     simp only[aR]at e;obtain⟨ys,e3,rfl⟩:=e;obtain⟨us,h5,h6,h7⟩:=h4;rw[e1]at h5;cases h5
     exact .rdT e2 h6 (oh (λr e=>ih r e) h7 e3)
    |ins c kvs =>
     simp only[aR]at e;obtain⟨ys,e3,rfl⟩:=e;obtain⟨C,dx,us,h5,hn,h6,h7⟩:=h4;rw[e1]at h5;cases h5
     exact .ins e2 hn h6 (oh (λr e=>ih r e) h7 e3)
   |non=>simp only[clo,eP]at c
   |exc _ _ _=>simp only[clo,eP]at c
   |ins h hn ek rs =>
    simp only[aR]at e;obtain⟨ys,e1,rfl⟩:=e;exact .ins (f.still ab h True.intro) hn ek (oh (λr e=>ih r e) rs e1)
   |bl b=>simp only[clo,eP]at c
   |int b=>simp only[clo,eP]at c
   |str b=>simp only[clo,eP]at c
   |ty b=>simp only[clo,eP]at c
theorem a6t{κ:Type}{H:Hp}{us:List (κ×V)}{ks:List κ}{ys:List D}(e:us.map (·.1)=ks)(r:Reps K U H (us.map (·.2)) ys):KRep K U H us (ks.zip ys):=by
 have l:ks.length=ys.length:=by rw[<-e,ar,<-r.len,ar]
 refine⟨?_,?_⟩
 .rw[List.map_fst_zip (by omega)];exact e
 .rw[List.map_snd_zip (by omega)];exact r
theorem ate(hr:HRep K U' H' h1)(hL:∀(i:Nat) a,U'[i]? = some a->n<=i->a∈L)(f:FrzOf L H' H2)(ab:ahb H' L){k:Nat}(na:a∉L)(r:ORep K U' H' a o)(e:axy n h1 k o=some o'):ORep K (U'.take n) H2 a o':=by
 have same:H2 a=H' a:=(f a).1 na;unfold axy at e
 split at e
 .rename_i c;cases e
  exact(r.cut c).monoW (afk f ab _) same
 .cases o with
  |lst xs =>
   simp only[aR]at e;obtain⟨ys,e1,rfl⟩:=e;obtain⟨vs,h3,h4⟩:=r;exact⟨vs,by rw[same];exact h3,oh (λr e=>a7s hr hL f ab k r e) h4 e1⟩
  |dK kvs =>
   simp only[aR]at e;obtain⟨ys,e1,rfl⟩:=e;obtain⟨us,h3,h4,h5⟩:=r;exact⟨us,by rw[same];exact h3,a6t h4 (oh (λr e=>a7s hr hL f ab k r e) h5 e1)⟩
  |dT kvs =>
   simp only[aR]at e;obtain⟨ys,e1,rfl⟩:=e;obtain⟨us,h3,h4,h5⟩:=r;exact⟨us,by rw[same];exact h3,a6t h4 (oh (λr e=>a7s hr hL f ab k r e) h5 e1)⟩
  |ins c kvs =>
   simp only[aR]at e;obtain⟨ys,e1,rfl⟩:=e;obtain⟨C,dx,us,h3,hn,h4,h5⟩:=r;exact⟨C,dx,us,by rw[same];exact h3,hn,a6t h4 (oh (λr e=>a7s hr hL f ab k r e) h5 e1)⟩
theorem a3m{α β:Type}{f:α->Option β}:∀{xs:List α} {ys:List β},a1u f xs=some ys->xs.length=ys.length/\∀(i:Nat) y,ys[i]? = some y->∃x,xs[i]? = some x/\f x=some y
 |[],_,e=>by cases e;exact⟨rfl,λi y e=>by simp at e⟩
 |x::xs,ys,e=>by
  unfold a1u at e
  split at e
  .rename_i y ys h1 h2;cases e
   obtain⟨l,g⟩:=a3m h2;refine⟨by simp[l],λi z e=>?_⟩
   cases i with
   |zero=>simp at e;subst e;exact⟨x,rfl,h1⟩
   |succ i=>simpa using g i z (by simpa using e)
  .cases e
theorem ajs(hr:HRep K U' H' h1)(M:List Addr)(hM:∀a∈M,a∈U'):ahb H' M:=λa ha=>by
 obtain⟨i,hi⟩:=cL (hM a ha);obtain⟨o,_,q⟩:=hr.at hi
 cases o with
 |lst xs=>obtain⟨vs,h,_⟩:=q;exact .inl ⟨_,h⟩
 |dK xs=>obtain⟨vs,h,_⟩:=q;exact .inr (.inl ⟨_,h⟩)
 |dT xs=>obtain⟨vs,h,_⟩:=q;exact .inr (.inr (.inl ⟨_,h⟩))
 |ins _ _=>obtain⟨C,dx,vs,h,_⟩:=q;exact .inr (.inr (.inr ⟨_,_,_,h⟩))
theorem a7t{α:Type}{l:List α}(nd:l.Nodup){i j:Nat}{a:α}(h1:l[i]? = some a)(h2:l[j]? = some a):i=j:=by
 obtain⟨l1,e1⟩:=ai.mp h1;obtain⟨l2,e2⟩:=ai.mp h2
 rcases Nat.lt_trichotomy i j with l|l|l
 .exact absurd (e1.trans e2.symm) (cR.mp nd i j l1 l2 l)
 .exact l
 .exact absurd (e2.trans e1.symm) (cR.mp nd j i l2 l1 l)
theorem axz(g:Gr U H U' H')(f:FrzOf L H' H2)(ab:ahb H' L)(hL:∀a∈L,H a=none)(hm:∀a∈m,H a=none):Gr U H (U++m) H2:=by
 refine⟨⟨m,rfl,hm⟩,λa vs e=>f.still ab (g.tup a vs e) True.intro,λa o u e=>f.still ab (g.frz a o u e) True.intro,λa u e hn=>?_,λa u e=>?_⟩
 .rw[(f a).1 λz=>by rw[hL a z]at e;cases e]
  exact g.oth a u e hn
 .obtain⟨u',e'⟩:=g.kp a u e;rw[(f a).1 λz=>by rw[hL a z]at e;cases e]
  exact⟨u',e'⟩
theorem ajt{d d':D}{v:V}{g':Hd}(g:Gr U H U' H')(rb:Rep K U' H' v d)(hr:HRep K U' H' h1)(e:aaf U.length (.ok d h1)=.ok d' g') :
  ∃L,ahb H' L/\∀H2,FrzOf L H' H2->Gr U H U H2/\Rep K U H2 v d'/\HRep K U H2 g':=by
 obtain⟨m,rfl,hm⟩:=g.pre;have tk:(U++m).take U.length=U:=by simp
 have ab:ahb H' m:=ajs hr m λa ha=>aS _ ha;have hL:∀(i:Nat) a,(U++m)[i]? = some a->U.length<=i->a∈m:=λi a e hi=>by
  rw[aK hi]at e;exact bG e
 refine⟨m,ab,λH2 f=>?_⟩;unfold aaf at e;simp only at e
 split at e
 .rename_i dd gg e1 e2;cases e
  refine⟨by simpa using axz g f ab hm (m:=[]) (by simp),by have:=a7s hr hL f ab FU rb e1;rwa[tk]at this,?_⟩
  obtain⟨l,gt⟩:=a3m e2;have hl:=hr.len;have ln:U.length<=h1.length:=by rw[<-hl];simp
  refine⟨(cK.mp hr.nd).1,by rw[<-l,aQ];omega,λi a o q1 q2=>?_⟩
  obtain⟨x,hx,fx⟩:=gt i o q2;have hi:i<U.length:=(ai.mp q1).1;rw[fW,aJ hi]at hx;have q3:(U++m)[i]? = some a:=by rw[aV hi];exact q1
  have na:a∉m:=λz=>(cK.mp hr.nd).2.2 a (bG q1) a z rfl;have:=ate hr hL f ab na (hr.obj i a x q3 hx) fx
  rwa[tk]at this
 .cases e
theorem ao1(g:Gr U H U' H')(rb:Rep K U' H' v d)(hr:HRep K U' H' h1)(e:avs U.length (.ok d h1)=.ok d' g') :
  ∃b,H b=none/\Gr U H (U++[b]) H'/\Rep K (U++[b]) H' v d'/\HRep K (U++[b]) H' g':=by
 obtain⟨m,rfl,hm⟩:=g.pre;have tk:(U++m).take U.length=U:=by simp
 have up:∀b,Gw U H' (U++[b]) H':=λb=>⟨⟨[b],rfl⟩,λ_ _ h=>h,λ_ _ _ h=>h⟩
 cases rb with
 |@ref b i hb =>
  unfold avs at e;simp only at e
  split at e
  .rename_i ob ho
   split at e
   .rename_i hc;obtain⟨hi,c1,c2⟩:=hc;cases e
    have hb':=hb;rw[aK hi]at hb';have bm:b∈m:=bG hb';obtain⟨nd1,nd2,nd3⟩:=cK.mp hr.nd;have hl:=hr.len;have ln:U.length<=h1.length:=by rw[<-hl];simp
    have lt:(h1.take U.length).length=U.length:=by rw[aQ];omega
    refine⟨b,hm b bm,⟨⟨[b],rfl,by simpa using hm b bm⟩,g.tup,g.frz,g.oth,g.kp⟩,.ref (by simp),?_⟩
    refine⟨cK.mpr ⟨nd1,by simp,λa ha c hc z=>nd3 a ha c (by rw[ax.mp hc];exact bm) z⟩,by simp[lt],λj a o q1 q2=>?_⟩
    by_cases hj:j<U.length
    .rw[aV hj]at q1;rw[aV (by omega)]at q2
     have q2':=q2;rw[fW,aJ hj]at q2';have:=(hr.obj j a o (by rw[aV hj];exact q1) q2').cut (c2 o (bG q2))
     rw[tk]at this;exact this.monoW (up b) rfl
    .have hj2:j<(U++[b]).length:=(ai.mp q1).1;have:j=U.length:=by simp at hj2;omega
     subst this;rw[aK (aw _)]at q1;rw[aK (by omega),lt]at q2
     simp at q1 q2
     subst q1 q2;have:=(hr.obj i b ob hb ho).cut c1;rw[tk]at this;exact this.monoW (up b) rfl
   .cases e
  .cases e
 |_=>cases e
end
def sZ(f:SE):SE:=λτ h=>aaf h.length (f τ h)
abbrev b5f(Q:VK):VK:=λv H1=>∃L,ahb H1 L/\∀H2,FrzOf L H1 H2->Q v H2
theorem b1b(q:lift K E (zj K) (sZ fa) Z H Q):lift K E (zj K) fa Z H (b5f Q):=by
 obtain⟨U,τ,h,S,Rh,o⟩:=q;refine⟨U,τ,h,S,Rh,?_⟩;unfold sZ at o;rw[<-Rh.len]at o
 cases hf:fa τ h with
 |ok d h1 =>
  rw[hf]at o
  intro U' H' v g r hr
  cases hz:aaf U.length (.ok d h1) with
  |ok d' g' =>
   rw[hz]at o;obtain⟨L,ab,k⟩:=ajt g r hr hz;refine⟨L,ab,λH2 f=>?_⟩;obtain⟨k1,k2,k3⟩:=k H2 f;exact o U H2 v k1 k2 k3
  |ex c hx=>unfold aaf at hz;simp only at hz;split at hz<;>cases hz
  |no=>rw[hz]at o;exact o.elim
 |ex c h1=>rw[hf]at o;exact o.elim
 |no=>rw[hf]at o;exact o.elim
theorem vh(ha:ME X E e fa):ME X E e (sZ fa):=PE.weak (ajr ha) λZ H Q q=>b1b q
def refOf:D->Option Nat
 |.ref i=>some i
 |_=>none
def a1x(ds:List D):List Nat:=ds.filterMap refOf
noncomputable def a1i:Nat->List D->List D
 |_,[]=>[]
 |k,d::ds=>match d with
  |.ref _=>.ref k::a1i (k+1) ds
  |d=>d::a1i k ds
def xm:Hd->List Nat->List O->Hd
 |h,i::is,o::os=>xm (h.set i o) is os
 |h,_,_=>h
def isRef(d:D):Prop:=∃i,d=.ref i
open Classical in
def atf(m:Bool)(F:SF)(ds:List D)(h:Hd):R D:=match a1u (λi=>h[i]?) (a1x ds) with
 |none=>.no
 | some os=>if (a1x ds).Nodup/\(∀d∈ds,clo 0 d\/isRef d)/\(∀o∈os,uv 0 o) then
   (match (if m then avs os.length (F (a1i 0 ds) os) else aaf os.length (F (a1i 0 ds) os)) with
   | .ok d h1=>if ∀o∈h1,uv 0 o then
     (if m then .ok (.ref h.length) (xm h (a1x ds) h1++h1.drop os.length)
      else if clo 0 d then .ok d (xm h (a1x ds) h1) else .no) else .no
   |_=>.no)
  else .no
def jx(m:Bool)(n:Nat)(F:SF):SF:=λds h=>if ds.length=n then atf m F ds h else .no
section
variable{K:Fg}{U U':List Addr}{H H' H2:Hp}{h h1:Hd}{n:Nat}
theorem aqm(κ:List Addr):Gw [] H κ H:=⟨⟨κ,rfl⟩,λ_ _ h=>h,λ_ _ _ h=>h⟩
theorem Rep.any(r:Rep K U H v d)(c:MI.clo 0 d)(κ:List Addr):Rep K κ H v d:=by
 have:=r.cut c
 rw[i8]at this;exact this.monoW (aqm κ)
theorem ORep.any(r:ORep K U H a o)(c:uv 0 o)(κ:List Addr):ORep K κ H a o:=by
 have:=r.cut c
 rw[i8]at this;exact this.monoW (aqm κ) rfl
theorem aci{α:Type}(l:List α):∀{is:List Nat},(∀i∈is,i<l.length)->∃ys,a1u (λi=>l[i]?) is=some ys
 |[],_=>⟨[],rfl⟩
 |i::is,hi=>by
  obtain⟨ys,e⟩:=aci l (is:=is) λj hj=>hi j (aW _ hj);have:=hi i bB;exact⟨l[i]::ys,by unfold a1u;rw[e,ag this]⟩
theorem a5s:∀{ds:List D} {vs:List V} {pre κ:List Addr},Reps K U H vs ds->(∀d∈ds,clo 0 d\/isRef d)->a1u (λi=>U[i]?) (a1x ds)=some κ->Reps K (pre++κ) H vs (a1i pre.length ds)
 |[],_,_,_,.nil,_,_=>.nil
 |d::ds,_,pre,κ,.cons r rs,hc,e=>by
  have hc':∀d∈ds,clo 0 d\/isRef d:=λx hx=>hc x (aW _ hx)
  by_cases hd:isRef d
  .obtain⟨i,rfl⟩:=hd;have e':a1u (λi=>U[i]?) (i::a1x ds)=some κ:=e;unfold a1u at e'
   split at e'
   .rename_i a κ' h1 h2
    cases e'
    cases r with
    |ref ha =>
     rw[ha]at h1;cases h1
     have:=a5s (pre:=pre++[a]) rs hc' h2
     simp only[cA,List.singleton_append,ah,aM]at this;refine .cons (.ref ?_) this;rw[aK (aw _)];simp
   .cases e'
  .have c:=(hc d bB).resolve_right hd;have e1:a1x (d::ds)=a1x ds:=by
    unfold a1x
    cases d<;>first|rfl|exact absurd ⟨_,rfl⟩ hd
   have e2:a1i pre.length (d::ds)=d::a1i pre.length ds:=by
    cases d<;>first|rfl|exact absurd ⟨_,rfl⟩ hd
   rw[e1]at e;rw[e2];exact .cons (r.any c _) (a5s rs hc' e)
theorem a1p:∀{is:List Nat} {os:List O} {h:Hd},(xm h is os).length=h.length
 |[],_,_=>by simp[xm]
 |_::_,[],_=>by simp[xm]
 |i::is,o::os,h=>by rw[xm,a1p,iY]
theorem a5t:∀{is:List Nat} {os:List O} {h:Hd},i∉is->(xm h is os)[i]? = h[i]?
 |[],_,_,_=>by simp[xm]
 |_::_,[],_,_=>by simp[xm]
 |j::is,o::os,h,n=>by
  rw[xm,a5t λz=>n (aW _ z),eL λz=>n (by rw[z];exact bB)]
theorem acj:∀{is:List Nat} {os:List O} {h:Hd} {j:Nat},is.Nodup->is[j]? = some i->os[j]? = some o->i<h.length->(xm h is os)[i]? = some o
 |[],_,_,_,_,e,_,_=>by simp at e
 |_::_,[],_,_,_,_,e,_=>by simp at e
 |k::is,o'::os,h,j,nd,e1,e2,hl=>by
  cases j with
  |zero =>
   simp at e1 e2
   subst e1 e2;rw[xm,a5t (fh.mp nd).1,cQ hl]
  |succ j =>
   rw[xm];exact acj (j:=j) (fh.mp nd).2 (by simpa using e1) (by simpa using e2) (by simpa using hl)
theorem ack{α:Type}{l:List α}(nl:l.Nodup){is:List Nat}{ys:List α}(e:a1u (λi=>l[i]?) is=some ys)(ni:is.Nodup):ys.Nodup:=by
 obtain⟨le,g⟩:=a3m e;refine cR.mpr λi j hi hj lt z=>?_;obtain⟨x,h1,h2⟩:=g i _ (ag hi);obtain⟨y,h3,h4⟩:=g j _ (ag hj);rw[<-z]at h4;have:=a7t nl h2 h4;subst this;have:=a7t ni h1 h3;omega
theorem afl{is:List Nat}{κ m:List Addr}{g:Hd}(hr:HRep K U H h)(e1:a1u (λi=>U[i]?) is=some κ)(nd:is.Nodup)(gr:Gr κ H (κ++m) H2)(hg:HRep K (κ++m) H2 g)(cg:∀o∈g,uv 0 o)(hm:m.length<=1) :
  Gr U H (U++m) H2/\HRep K (U++m) H2 (xm h is g++g.drop κ.length):=by
 obtain⟨l1,g1⟩:=a3m e1;have mn:∀a∈m,H a=none:=by
  obtain⟨m',e,hm'⟩:=gr.pre;rw[List.append_cancel_left e];exact hm'
 have sub:∀a∈κ,a∈U:=λa ha=>by
  obtain⟨j,hj⟩:=cL ha;obtain⟨i,_,q⟩:=g1 j a hj;exact bG q
 have some_of:∀a∈U,∃u,H a=some u:=λa ha=>by
  obtain⟨i,hi⟩:=cL ha;obtain⟨o,_,q⟩:=hr.at hi;obtain⟨u,q,_⟩:=q.some;exact⟨u,q⟩
 have G:Gr U H (U++m) H2:=⟨⟨m,rfl,mn⟩,gr.tup,gr.frz,λa u e n=>gr.oth a u e λz=>n (sub a z),gr.kp⟩;have lg:=hg.len;rw[ah]at lg;refine⟨G,?_,?_,λj a o q1 q2=>?_⟩
 .refine cK.mpr ⟨hr.nd,(cK.mp hg.nd).2.1,λa ha b hb z=>?_⟩;obtain⟨u,q⟩:=some_of a ha;rw[z,mn b hb]at q;cases q
 .rw[ah,ah,a1p,aY,hr.len];omega
 .by_cases hj:j<U.length
  .rw[aV hj]at q1;rw[aV (by rw[a1p,<-hr.len];exact hj)]at q2
   by_cases hp:j∈is
   .obtain⟨k,hk⟩:=cL hp;have hkl:k<κ.length:=by rw[<-l1];exact(ai.mp hk).1
    obtain⟨i,h3,h4⟩:=g1 k _ (ag hkl);rw[hk]at h3;cases h3
    rw[q1]at h4;have hkg:k<g.length:=by omega
    have e5:=acj (h:=h) nd hk (ag hkg) (by rw[<-hr.len];exact hj)
    rw[e5]at q2;cases q2
    have ea:(κ++m)[k]? = some a:=by rw[aV hkl,ag hkl];exact h4.symm
    exact(hg.obj k a _ ea (ag hkg)).any (cg _ (bW hkg)) _
   .rw[a5t hp]at q2;have r:=hr.obj j a o q1 q2;obtain⟨u,hu,_⟩:=r.some;have na:a∉κ:=λz=>by
     obtain⟨k,hk⟩:=cL z;obtain⟨i,h3,h4⟩:=g1 k a hk;have:=a7t hr.nd q1 h4;subst this;exact hp (bG h3)
    exact r.mono G (by rw[hu];exact gr.oth a u hu na)
  .have q1':=q1;rw[aK (by omega)]at q1
   rw[aK (by rw[a1p,<-hr.len];omega),a1p,<-hr.len,hZ]at q2
   have ea:(κ++m)[κ.length+(j-U.length)]? = some a:=by rw[aK (by omega)];simpa using q1
   exact(hg.obj _ a o ea q2).any (cg o (bG q2)) _
theorem aju{m:Bool}{F:SF}{vs:List V}{ds:List D}{Q:VK}(r:Reps K U H vs ds)(hr:HRep K U H h)(o:out K X0 (zj K) U H (jx m n F ds h) Q)(E:XK) :
  ug K n F vs H (λv H1=>∃L,ahb H1 L/\∀H2,FrzOf L H1 H2->Q v H2) E:=by
 unfold jx at o
 split at o
 .rename_i hl;refine⟨by rw[r.len];exact hl,?_⟩
  unfold atf at o
  split at o
  .exact o.elim
  .rename_i os hos
   split at o
   .rename_i hc;obtain⟨nd,hd,hcl⟩:=hc;obtain⟨l0,g0⟩:=a3m hos;obtain⟨κ,e1⟩:=aci U (is:=a1x ds) λi hi=>by
     obtain⟨j,hj⟩:=cL hi;have hjl:j<os.length:=by rw[<-l0];exact(ai.mp hj).1
     obtain⟨x,h3,h4⟩:=g0 j _ (ag hjl);rw[hj]at h3;cases h3
     rw[hr.len];exact(ai.mp h4).1
    obtain⟨l1,g1⟩:=a3m e1;have lk:κ.length=os.length:=by omega
    have R0:Reps K κ H vs (a1i 0 ds):=by simpa using a5s (pre:=[]) r hd e1
    have H0:HRep K κ H os:=by
     refine⟨ack hr.nd e1 nd,lk,λj a ob q1 q2=>?_⟩;obtain⟨i,h3,h4⟩:=g1 j a q1;obtain⟨i',h5,h6⟩:=g0 j ob q2;rw[h3]at h5;cases h5
     exact(hr.obj i a ob h4 h6).any (hcl ob (bG q2)) _
    refine⟨κ,a1i 0 ds,os,R0,H0,?_⟩
    cases hF:F (a1i 0 ds) os with
    |no=>rw[hF]at o;cases m<;>exact o.elim
    |ex c hx=>rw[hF]at o;cases m<;>exact o.elim
    |ok d h1 =>
     rw[hF]at o
     intro U' H' v g rb hr1
     rw[<-lk]at o
     cases m with
     |false =>
      simp only[cP,fR]at o
      cases hz:aaf κ.length (.ok d h1) with
      |ok d' g' =>
       rw[hz]at o;simp only at o;obtain⟨L,ab,k⟩:=ajt g rb hr1 hz;refine⟨L,ab,λH2 f=>?_⟩;obtain⟨k1,k2,k3⟩:=k H2 f
       split at o
       .rename_i cg
        split at o
        .rename_i cd;have q:=afl (m:=[]) hr e1 nd (by simpa using k1) (by simpa using k3) cg (by simp)
         have lg:=k3.len;have dr:g'.drop κ.length=[]:=cD (by omega)
         rw[dr,bE,bE]at q;exact o U H2 v q.1 (k2.any cd _) q.2
        .exact o.elim
       .exact o.elim
      |ex c hx=>rw[hz]at o;exact o.elim
      |no=>rw[hz]at o;exact o.elim
     |true =>
      simp only[dO]at o
      cases hz:avs κ.length (.ok d h1) with
      |ok d' g' =>
       rw[hz]at o;simp only at o;obtain⟨b,hb,k1,k2,k3⟩:=ao1 g rb hr1 hz;refine⟨[],λa ha=>(by simp at ha),λH2 f=>?_⟩
       have e2:H2=H':=by funext a;exact(f a).1 (by simp)
       subst e2
       split at o
       .rename_i cg;have q:=afl (m:=[b]) hr e1 nd k1 k3 cg (by simp)
        refine o (U++[b]) H2 v q.1 ?_ q.2;have hd':d'=.ref κ.length:=by
         unfold avs at hz
         split at hz
         .rename_i i h2 hh
          injection hh with z1 z2
          split at hz
          .split at hz
           .injection hz with z3 z4;exact z3.symm
           .cases hz
          .cases hz
         .cases hz
        subst hd'
        cases k2 with
        |ref hk =>
         rw[aK (aw _)]at hk;simp at hk;subst hk;exact .ref (by rw[<-hr.len];simp)
       .exact o.elim
      |ex c hx=>rw[hz]at o;exact o.elim
      |no=>rw[hz]at o;exact o.elim
   .exact o.elim
 .exact o.elim
end
theorem afm(m:Bool){X:Cx}(G:Dn X.prog X.w X.K X.mg X.base k x ps (ug X.K n F) f fd)(hr:Room k X.A)(hg:Gl X x)(ha:MA X X0 (e::es) ka)
  (hdb:(x == ("__debug__" : Str))=false:=by decide) (he:starEach (e::es) X.env=(false,eval e X.env)::starEach es X.env:=by rfl) (hpl:(backTo pos (starEach es X.env)).any (·.1)=false:=by rfl):ME X X0 (.Call (.Name x p) (e::es) [] pos) (sA (jx m n F) ka):=by
 refine PE.weak (ajr (as9 G.ok hr hg G.m G.kp G.b .nil asm ha hdb he hpl)) ?_
 rintro Z H Q ⟨U,τ,h,S,Rh,o⟩
 refine⟨U,τ,h,S,Rh,dj o λds h1 U1 H1 vs g1 r1 hr1 o1=>?_⟩;rw[bE];exact aju r1 hr1 o1 _
theorem ajv(m:Bool){X:Cx}(G:Dn X.prog X.w X.K X.mg X.base k x ps (ug X.K n F) f fd)(hr:Room k X.A)(hg:Gl X x)(hdb:(x == ("__debug__" : Str))=false:=by decide) :
  ME X X0 (.Call (.Name x p) [] [] pos) (sA (jx m n F) di):=by
 refine PE.weak (ajr (an4 G.ok hr hg G.m G.kp G.b .nil asm hdb)) ?_
 rintro Z H Q ⟨U,τ,h,S,Rh,o⟩
 exact aju (vs:=[]) .nil Rh o E0
def ay0:SS:=λ_ _=>.no
section
variable{X:Cx}{E:XD}
theorem ajw:MSs X E st ay0:=λ_ _ _ _ _ _ ⟨_,_,_,_,_,o⟩=>o.elim
end
theorem ajx(h:PS X st t):PS X st (λD Z H=>t {D with nx:=λZ' H1=>∃L,ahb H1 L/\∀H2,FrzOf L H1 H2->D.nx Z' H2} Z H):=λaA s Z H D I q =>
 thn (h aA s Z H _ I q) λf s' k=>by
  cases f with
  |next =>
   obtain⟨Z',H1,I1,L,ab,k⟩:=k;obtain⟨H2,f,I2⟩:=Inv.frz I1 ab;exact⟨Z',H2,I2,k H2 f⟩
  |brk=>exact k
  |cont=>exact k
  |ret u=>exact k
theorem ajy(q:aa2 K E (jz i f) N Z H):lift K E (zj K) f Z H (λv H1=>N.nx (Z.set i (some v)) H1):=by
 obtain⟨U,τ,h,S,Rh,o⟩:=q;exact⟨U,τ,h,S,Rh,xj o λd h1 U1 H1 v g1 r1 hr1 o1=>o1 U1 H1 _ (.refl _ _) ((S.mono g1).set r1 i) hr1⟩
theorem atg(ht:aja K n g t)(q:lift K E (zj K) (a0w fi t fe ix) Z H Q):aj1 (lift K E (aq6 K) fi) (my n ix) g (lift K E (zj K) fe) Z H Q:=by
 obtain⟨U,τ,h,Sr,Rh,o⟩:=q;refine⟨U,τ,h,Sr,Rh,dj o λit h1 U1 H1 J g1 r1 hr1 o1=>?_⟩
 by_cases hl:it.xs.length<=LINE
 .rw[aJ hl]at o1;exact afd r1 ht (a4t (Sr.mono g1) ix) hr1 hl o1
 .rw[ba hl]at o1;exact o1.elim
theorem afn(ht:aja K n g t)(q:lift K E (zj K) (a02 fi t fc fe ix) Z H Q):a1v (lift K E (aq6 K) fi) (my n ix) g (lift K E adl fc) (lift K E (zj K) fe) Z H Q:=by
 obtain⟨U,τ,h,Sr,Rh,o⟩:=q;refine⟨U,τ,h,Sr,Rh,dj o λit h1 U1 H1 J g1 r1 hr1 o1=>?_⟩
 by_cases hl:it.xs.length<=LINE
 .rw[aJ hl]at o1;exact acb r1 ht (a4t (Sr.mono g1) ix) hr1 hl o1
 .rw[ba hl]at o1;exact o1.elim
section
variable{X:Cx}{E:XD}{aD tg aF cnd:Expr}{aB:Scope}{pos spos pos':Pos}{cl:List (Str×Addr)}{ts fr:List Str}{ix:List Nat}{fi:SI}{g:TG}{t:D->Option Sd}{fe:SE}{fc:ST}{i:Nat}{x:Str}
theorem afo(hN:X.N.Nodup)(hi':X.N[i]? = some x)(hx:Loc X.env.scope x)(hc:X.calm=true)(S:CSc X aB cl ts fr ix)(hi:MI X E tg aF fi)(hg:∀C fp s H,PG (cxC X (ts++fr) aB cl C fp s H) tg g)(ht:aja X.K ts.length g t)(he:∀C fp s H,ME (cxC X (ts++fr) aB cl C fp s H) E aD fe)
  (hs:∀x,foldedSetIterable aF X.env x=pure x:=by intro _;rfl) (hsw:swapsWith (.ListComp aD [⟨tg,aF,[],0⟩] aB pos) (some (.Name x pos')) spos.line X.env=pure true:=by rfl) (hf:Hf X x:=by first|exact .inl rfl|exact .inr rfl|assumption) :
  MS X E (.Assign [.Name x pos'] (.ListComp aD [⟨tg,aF,[],0⟩] aB pos) spos) (jz i (sZ (a0w fi t fe ix))) :=
 PS.weak (ajx (anc (te:=lift X.K E (zj X.K) fe) hN hi' hx hc S hi hg he hs hsw hf)) λN Z H q=>atg ht (b1b (ajy q))
theorem ao2(hN:X.N.Nodup)(hi':X.N[i]? = some x)(hx:Loc X.env.scope x)(hc:X.calm=true)(S:CSc X aB cl ts fr ix)(hi:MI X E tg aF fi)(hg:∀C fp s H,PG (cxC X (ts++fr) aB cl C fp s H) tg g)(ht:aja X.K ts.length g t)(he:∀C fp s H,ME (cxC X (ts++fr) aB cl C fp s H) E aD fe)
  (hq:∀C fp s H,MT (cxC X (ts++fr) aB cl C fp s H) E cnd fc)
  (hs:∀x,foldedSetIterable aF X.env x=pure x:=by intro _;rfl) (hsw:swapsWith (.ListComp aD [⟨tg,aF,[cnd],0⟩] aB pos) (some (.Name x pos')) spos.line X.env=pure true:=by rfl) (hf:Hf X x:=by first|exact .inl rfl|exact .inr rfl|assumption) :
  MS X E (.Assign [.Name x pos'] (.ListComp aD [⟨tg,aF,[cnd],0⟩] aB pos) spos) (jz i (sZ (a02 fi t fc fe ix))) :=
 PS.weak (ajx (ah6 (te:=lift X.K E (zj X.K) fe) (tc:=lift X.K E adl fc) hN hi' hx hc S hi hg he hq hs hsw hf)) λN Z H q=>afn ht (b1b (ajy q))
end
theorem a4x(Fu:Fun K x qual st f fd)(S:FnScope N ps (dh st))
  (hb:∀(cdv:Value) (A:Around) (outer:List Env) (s:Shared) (H:Hp) (E:XK),Room k (A.deeper (PyProof.Rows.envOfC qual (dh st) s.heap.objs.size f cdv))->MSs (air CX0 P w K mg base N qual (dh st) f cdv A outer s H E).nox X0 (xr st) b) :
  FnOk P w K mg base CX0 (k+1) f fd ps (ug K ps.length (n8 b N.length)):=axl Fu S hb λds h _ _ _=>Rf.same rfl
end MI
namespace MI
open L2 HT
theorem ahc{s:Shared}(ht:PyProof.Rows.IsTup s.heap t aC)(hs:s.heap.IsSliceOf sl vl vu .none)(pl:IsPart vl lo)(pu:IsPart vu hi)
  (hw:HT.sIx aC.size 0 lo=0/\HT.sIx aC.size aC.size hi=aC.size) (h:Q (.ref t) s):wpAny (model prog w) A (getItem (.ref t) (.ref sl)) Q E s:=by
 obtain⟨os,f1,f2,f3⟩:=id hs;have ty:s.TypeIs (.ref sl) "slice":=⟨os,f1,f2⟩;have tt:s.TypeIs (.ref t) "tuple":=ht.typeIs;rw[getItem]
 try apply cX
 first|(apply ae;apply av)|skip
 apply ae;apply ip tt (by decide)
 apply ae
 apply bY (name:=Str.ofString "__getitem__") tt bJ
 apply cm bJ tt g9 _ (gz _ _)
 change wpAny (model prog w) A.in1 (Builtin.Tuple.tupleItemsOf (.ref t)>>=_) _ _ s
 apply ae;apply hG ht
 apply ae;apply gF ty
 rw[aJ (by decide)]
 apply ae;apply HT.a2m hs pl pu
 rw[hw.1,hw.2];dsimp only;rw[aJ (by simp)]
 apply ae
 rw[Builtin.Tuple.tupleIsExact]
 apply ae;apply gF tt
 apply av
 rw[aJ (by decide)]
 apply ae;apply fQ
 apply av
 exact⟨_,rfl,av h⟩
def b40(K:Fg):V->Option Int->Option Int->Hp->VK->Prop:=λx lo hi H Q=>∃a xs,x=.ref a/\SqT K H a xs/\whole xs.length lo hi/\Q (.ref a) H
theorem ao3:SlR X (b40 X.K):=by
 intro aA s Z H x v vl vu lo hi sl Q I rx hs pl pu h
 obtain⟨a,xs,rfl,hx,hw,q⟩:=h;cases rx
 obtain⟨its,r,ht,hz⟩:=I.tuple hx;have aH:its.toArray.size=xs.length:=by rw[ay];exact r.length.symm
 exact⟨"tuple",_,bJ.lookup,ht.typeIs,ahc ht hs pl pu (by rw[aH];exact hw) ⟨.ref a,H,I,rfl,q⟩⟩
noncomputable def ado(d:D)(lo hi:Option Int)(h:Hd):R D:=match d with
 |.tup xs=>if whole xs.length lo hi then .ok (.tup xs) h else .ok (.tup (a5i xs lo hi)) h
 |d=>gSl d lo hi h
noncomputable def a1l(f:SE)(l u:SO):SE:=λτ h=>(f τ h).bind λd h1=>(l τ h1).bind λlo h2=>(u τ h2).bind λhi h3=>ado d lo hi h3
theorem ath(rx:Rep K U H x d)(hr:HRep K U H h)(o:out K E (zj K) U H (ado d lo hi h) Q):(b2j x lo hi H Q\/b2e K x lo hi H Q\/b2g K x lo hi H Q)\/b40 K x lo hi H Q:=by
 cases rx with
 |@tup p vs xs hp r =>
  by_cases hc:whole xs.length lo hi
  .simp only[ado,aJ hc]at o;exact .inr ⟨p,vs,rfl,SqT.of hp,by rw[r.len];exact hc,ans o (.tup hp r) hr⟩
  .simp only[ado,ba hc]at o;exact .inl (.inr (.inl ⟨p,vs,rfl,SqT.of hp,by rw[r.len];exact hc,a1h (a4u r lo hi) hr o⟩))
 |non=>exact o.elim
 |bl _=>exact o.elim
 |int _=>exact o.elim
 |ty _=>exact o.elim
 |str z=>exact .inl (afh (.str z) hr o)
 |rol a b=>exact .inl (afh (.rol a b) hr o)
 |scr a b=>exact .inl (afh (.scr a b) hr o)
 |rod a b c=>exact o.elim
 |rdT a b c=>exact o.elim
 |exc a b c=>exact o.elim
 |ins _ _ _ _=>exact o.elim
 |ref a=>exact .inl (afh (.ref a) hr o)
theorem ji(he:ME X E e fa)(hl:MO X E lo l)(hu:MO X E hi u):ME X E (.Subscript e (.Slice lo hi none p2) pos) (a1l fa l u):=by
 refine PE.weak (an7 ((axb.or (ax1.or asj)).or ao3) he hl hu) ?_
 rintro Z H Q ⟨U,τ,h,S,Rh,o⟩
 refine⟨U,τ,h,S,Rh,dj o λd h1 U1 H1 v g1 r1 hr1 o1=>?_⟩;refine⟨U1,τ,h1,S.mono g1,hr1,dj o1 λlo h2 U2 H2 lv g2 r2 hr2 o2=>?_⟩;refine⟨U2,τ,h2,(S.mono g1).mono g2,hr2,dj o2 λhi h3 U3 H3 hv g3 r3 hr3 o3=>?_⟩
 cases r2;cases r3
 exact ath ((r1.mono g2).mono g3) hr3 o3
end MI
namespace TPM
open PySem.W L2 HT MI
theorem zu:fillsNumberSlot (.type "tuple") "mul" = pure false :=
 fillsNumberSlot_seq (id := "tuple.__mul__") (r:=some (.builtin "tuple.__rmul__")) fI.lookup (by decide +kernel) F.slot_tuple_rmul.lookup (by decide +kernel)
theorem ajz(t:Addr)(aC:Array Value)(n:Nat)(dd:Option Addr)(sl:Array (Option Value))(x:Int)(u:Tok)(h0:aC.isEmpty=false)(h2:2<=x)(h3:x<2^63)(hz:aC.size*x.toNat<=sizeLine) :
  Meets (Builtin.«tuple.__mul__» ⟨[.ref t,.int x u],[]⟩) (λ_ R s=>s.heap.get? t=some {cls:=.type "tuple",dict:=dd,data:=.seq aC n,slots:=sl}/\R (.ok (.ret (.ref s.heap.objs.size))) {s with heap:=s.heap.push {cls:=.type "tuple",data:=.seq (List.foldl (λx1 x2=>x1++x2) #[] (List.replicate x.toNat aC))} }) :=
 .of_wp λprog w A R s h=>by
  obtain⟨hp,g,d,tk,os⟩:=s;obtain⟨hl,h⟩:=h;have c1:¬ (decide (x < -2^63) || decide (x≥2^63))=true:=by
   rw[bS,eh,eh];omega
  have c2:¬ (aC.isEmpty || x == 1)=true:=by
   rw[h0,jG];simp;omega
  have c3:¬ (decide (x<=0) || aC.isEmpty)=true:=by
   rw[h0,Bool.or_false,eh];omega
  have ex:((aC.size:Nat):Int)*x=((aC.size*x.toNat:Nat):Int):=by
   rw[ja,Int.toNat_of_nonneg (by omega)]
  have sl':(sizeLine:Nat)<=(2^63-1) / 8:=by decide
  have c4:¬ (aC.size:Int)*x > (2^63-1) / 8:=by rw[ex];omega
  have c5:¬ Builtin.Tuple.tupleTooMany ((aC.size:Int)*x)=true:=by
   rw[ex];simp only[Builtin.Tuple.tupleTooMany,eh];omega
  wp_walk
  rw[ba c1]
  wp_walk
  rw[ba c2]
  wp_walk
  rw[ba c3]
  wp_walk
  rw[ba c4]
  wp_walk
  rw[ba c5]
  wp_walk
  have fs:¬ (List.foldl (λx1 x2=>x1++x2) #[] (List.replicate x.toNat aC)).size > sizeLine:=by
   have:=foldl_rep aC.toList x.toNat []
   rw[eA,Array.toArray_toList]at this;rw[show(#[]:Array Value)=([]:List Value).toArray from rfl,this,ay,len_rep,bp,fO]
   omega
  rw[ba fs]
  wp_walk
  exact⟨_,rfl,h⟩
theorem a2w(a:Int)(t:Tok)(l:Addr)(aC:Array Value)(n:Nat)(dd:Option Addr)(sl:Array (Option Value)) :
  Meets (Builtin.«int.__rmul__» ⟨[.int a t,.ref l],[]⟩) (λ_ R s=>s.heap.get? l=some {cls:=.type "tuple",dict:=dd,data:=.seq aC n,slots:=sl}/\R (.ok (.ret Value.notImplemented)) s):=by
 refine .of_wp λprog w A R s h=>?_;obtain⟨hp,g,d,tk,os⟩:=s;obtain⟨hl,h⟩:=h
 wp_walk
 exact⟨_,rfl,h⟩
theorem a7u:seqRepeat? (.type "tuple")=pure (some (.builtin "tuple.__mul__")):=by
 unfold seqRepeat?;rw[seqSlot_of (T := "tuple") (name := "__mul__") (id := "tuple.__mul__") fI.lookup (by decide +kernel),seqSlot_of (T := "tuple") (name := "__rmul__") (id := "tuple.__rmul__") F.slot_tuple_rmul.lookup (by decide +kernel)]
 rfl
noncomputable def ao4(K:Fg):R2:=λx y H Q=>∃a k xs,x=.ref a/\y=.int k/\SqT K H a xs/\xs≠[]/\2<=k/\k<2^63/\xs.length*k.toNat<=sizeLine/\∀p,H p=none->Q (.ref p) (upd H p (.tup (List.replicate k.toNat xs).flatten))
theorem ati:OpR X (binaryOp .Mult) (ao4 X.K):=by
 intro aA s Z H x y v u Q I rx ry h
 obtain⟨a,k,xs,rfl,rfl,ha,hx,h1,h2,hz,q⟩:=h;cases rx
 obtain⟨t,rfl⟩:=ry;obtain⟨its,r1,p1,_⟩:=I.tuple ha;obtain⟨⟨cls,dd,data,sl⟩,ho,hc,n,hd⟩:=id p1;simp only at hc hd;subst hc hd;have he:its.toArray.isEmpty=false:=by
  cases its with
  |nil=>exact(hx (r1.nil_iff.mp rfl)).elim
  |cons _ _=>rfl
 have hz2:its.toArray.size*k.toNat<=sizeLine:=by rw[ay,<-r1.length];exact hz
 have hnew:List.foldl (λx1 x2=>x1++x2) #[] (List.replicate k.toNat its.toArray)=(List.replicate k.toNat its).flatten.toArray:=by
  have:=foldl_rep its k.toNat []
  rw[eA]at this;exact this
 refine dI (T := "tuple") (U := "int") (by decide) ⟨_,ho,rfl⟩ (λs'=>eY s' k t) zu fT cY a7u fG.lookup
  (dW cY (eY s k t) fH (fq _ _) (a2w k t a its.toArray n dd sl)
   ⟨ho,rfl,⟨_,ho,rfl⟩,dW fI ⟨_,ho,rfl⟩ iB (i4 _ _) (ajz a its.toArray n dd sl k t he h1 h2 hz2) ⟨ho,?_⟩⟩)
 rw[hnew];refine⟨.ref s.heap.objs.size,_,I.laid (t':=s.toks) (o:=.tup (List.replicate k.toNat xs).flatten) (λb ob q=>af _ q) (aw _) ?_,rfl,q _ (I.hok.fresh (aw _))⟩;exact⟨by rw[len_rep,fO];exact hz,_,r1.rep k.toNat,gi _ _⟩
end TPM
namespace MI
open L2 TPM
open Classical in
def ak0(x y:D)(h:Hd):R D:=match x,y with
 |.tup xs,.int k=>if (xs≠[]/\2<=k/\k<2^63)/\xs.length*k.toNat<=LINE then .ok (.tup (List.replicate k.toNat xs).flatten) h else .no
 |x,y=>axm x y h
theorem aag:a1w K ak0 (λx y H Q=>(rI CMul (λi j=>.int (i*j)) x y H Q\/ax6 x y H Q)\/ao4 K x y H Q):=by
 intro E U H h x y dx dy Q rx ry hr o
 cases rx with
 |@tup a vs xs ha rs =>
  cases ry with
  |int k =>
   simp only[ak0]at o
   split at o
   .rename_i hc;refine .inr ⟨a,k,vs,rfl,rfl,SqT.of ha,λz=>?_,hc.1.2.1,hc.1.2.2,ll (by rw[rs.len];exact hc.2),a1h (rs.flat _) hr o⟩
    subst z;cases rs
    exact hc.1.1 rfl
   .exact o.elim
  |_=>exact o.elim
 |int i=>exact .inl (ajd _ _ _ _ _ _ _ _ _ (.int i) ry hr o)
 |ref e=>exact .inl (ajd _ _ _ _ _ _ _ _ _ (.ref e) ry hr o)
 |_=>exact o.elim
end MI
namespace L2
open PyProof.Rows
theorem ao5:b3q X (b16 X.K):=by
 intro aA s Z H o i ov iv Q I ro ri h
 obtain⟨p,xs,k,z,rfl,rfl,hq,he,q⟩:=h;cases ro
 obtain⟨t,rfl⟩:=ri;obtain⟨its,r,pl,hz⟩:=I.list hq;obtain⟨j,h1,h2,h3,h4,h5⟩:=a9x he;obtain⟨w,ew,rw'⟩:=r.get h2;have len:=r.length;have l63:=a68;have done:EP X aA Z Q w s:=⟨z,H,I,rw',q⟩
 by_cases neg:k<0
 .have ej:(k+(its.toArray.size:Int)).toNat=j:=by
   rw[iX neg h4]at h1;rw[ay,<-len];exact bP h1
  exact wpAny_getItem_list_neg pl.isList neg (by rw[ay];omega) (by omega) (by rw[ej];simpa using ew) done
 .have ej:k.toNat=j:=by
   rw[jD (by omega) h5]at h1
   exact bP h1
  exact wpAny_getItem_list pl.isList (by omega) (by omega) (by rw[ej];simpa using ew) done
theorem acl(bs:List Bool):((List.range bs.length).any λi=>(bs[i]?).getD true)=bs.any id:=by
 have e:(List.range bs.length).map (λi=>(bs[i]?).getD true)=bs:=by
  apply iS (by simp)
  intro i h1 h2
  simp[h2]
 have f:((List.range bs.length).map λi=>(bs[i]?).getD true).any id=bs.any id:=by rw[e]
 rw[<-f,List.any_map];rfl
theorem ae5{X:Cx}(hc:X.calm=true):CallR X (.builtin "any") (λxs H Q=>∃(p:Addr) (bs:List Bool),xs=[.ref p]/\SqL X.K H p (bs.map V.bl)/\Q (.bl (bs.any id)) H):=by
 intro aA s Z H xs us Q I r h
 obtain⟨p,bs,rfl,hq,q⟩:=h;obtain⟨u,rfl,rx⟩:=vals1 r;cases rx
 obtain⟨its,r',pl,hz⟩:=I.list hq;have hl:=r'.length;rw[ar]at hl;have hlt:p<s.heap.objs.size:=by obtain⟨_,e,_⟩:=pl.isList;exact aP e
 refine call_any_walk (gu pl.isList ?_);refine⟨s.heap.objs.size,[s.heap.objs.size,p],[s.heap.objs.size],its.toArray.size,_,_,λi=>(bs[i]?).getD true,rfl,Walks.list (A:=X.A.in1) (I.ok.hd hc) _ p (br hlt) its.toArray,
  ⟨⟨_,aO _ rfl,rfl,rfl⟩,pl.isList.push _⟩,λi v s' Q' E' hP hQ=>?_,λh' tk hk=>?_⟩
 .have hP':its[i]? = some v:=by simpa using hP
  have hi:i<bs.length:=by
   have:=(ai.mp hP').1
   omega
  obtain⟨u,e,ru⟩:=r'.get (i:=i) (x:=.bl bs[i]) (by simp[hi])
  rw[hP']at e;cases e
  cases ru
  simp only[ag hi,Option.getD_some]at hQ;exact cU hQ
 .have e:((List.range its.toArray.size).any λi=>(bs[i]?).getD true)=bs.any id:=by
   rw[ay,<-hl];exact acl bs
  rw[e];exact⟨.bl _,H,I.kept λb x e=>hk b x (λhm=>by rw[ax.mp hm]at e;exact bU _ (aP e)) (af _ e),rfl,q⟩
end L2
namespace MI
open L2
noncomputable def amo(x y:D)(h:Hd):R D:=match x,y with
 |.ref p,.int i=>(match h[p]? with|some (.lst xs)=>(match atI xs i with|some d=>.ok d h|none=>.no)|_=>.no)
 |_,_=>.no
theorem atj:a1w K amo (b16 K):=by
 intro E U H h x y dx dy Q rx ry hr o
 cases rx with
 |@ref p i hp =>
  cases ry with
  |int k =>
   simp only[amo]at o
   split at o
   .rename_i xs hx;obtain⟨vs,h3,h4⟩:=hr.lst hp hx
    split at o
    .rename_i d he;obtain⟨v,h1,h2⟩:=afg h4 he;exact⟨p,vs,k,v,rfl,rfl,SqL.of h3,h1,ans o h2 hr⟩
    .exact o.elim
   .exact o.elim
  |_=>exact o.elim
 |_=>exact o.elim
noncomputable def a2x(g:D->D->Hd->R D)(fo fi fe:SE):SS:=λτ h=>(fo τ h).fl λo h1=>(fi τ h1).fl λi h2=>(amo o i h2).fl λx h3=>(fe τ h3).fl λy h4=>(g x y h4).fl λz h5=>match put o i z h5 with|some h6=>.nx τ h6|none=>.no
section
variable{X:Cx}{E:XD}{e o i:Expr}{fa fb fc:SE}{pos:Pos}
theorem aah(ho:ME X E o fa)(hi:ME X E i fb)(he:ME X E e fc)(hp:OpR X (inplaceOp op) r)(hs:a1w X.K gg r)
  (ha:∀ov iv new,augStore i ov iv new=(do holding [new,ov,iv] (setItem ov iv new);release [new,ov,iv] [];pure .next):=by intros;rfl):MS X E (.AugAssign (.Subscript o i tpos) op e pos) (a2x gg fa fb fc):=by
 refine PS.weak (arz ho hi ao5 he hp set_list ha) ?_
 rintro N Z H ⟨U,τ,h,S,Rh,oo⟩
 refine⟨U,τ,h,S,Rh,xj oo λd h1 U1 H1 v g1 r1 hr1 o1=>?_⟩;refine⟨U1,τ,h1,S.mono g1,hr1,xj o1 λd2 h2 U2 H2 u g2 r2 hr2 o2=>?_⟩;refine atj E U2 H2 h2 v u d d2 _ (r1.mono g2) r2 hr2 (xj o2 λd3 h3 U3 H3 w g3 r3 hr3 o3=>?_);have S3:=((S.mono g1).mono g2).mono g3;refine⟨U3,τ,h3,S3,hr3,xj o3 λd4 h4 U4 H4 y g4 r4 hr4 o4=>?_⟩;refine hs E U4 H4 h4 w y d3 d4 _ (r3.mono g4) r4 hr4 (xj o4 λd5 h5 U5 H5 z g5 r5 hr5 o5=>?_)
 cases hq:put d d2 d5 h5 with
 |none=>rw[hq]at o5;exact o5.elim
 |some h6 =>
  rw[hq]at o5;exact aj7 ((((r1.mono g2).mono g3).mono g4).mono g5) (((r2.mono g3).mono g4).mono g5) r5 hr5 hq λH' g6 hr6=>o5 U5 H' Z g6 (((S3.mono g4).mono g5).mono g6) hr6
end
noncomputable def ay1:List D->Hd->R D
 |[.ref i],h=>(match h[i]? with|some (.lst xs)=>(match anq xs with|some bs=>.ok (.bl (bs.any id)) h|none=>.no)|_=>.no)
 |[.rol xs],h=>(match anq xs with|some bs=>.ok (.bl (bs.any id)) h|none=>.no)
 |_,_=>.no
theorem atk:af9 K ay1 (λxs H Q=>∃(p:Addr) (bs:List Bool),xs=[.ref p]/\SqL K H p (bs.map V.bl)/\Q (.bl (bs.any id)) H):=by
 intro E U H h xs ds Q r hr o
 unfold ay1 at o
 split at o
 .cases r with
  |cons r rs =>
   cases rs
   cases r with
   |@ref p _ hp =>
    split at o
    .rename_i xs hx;obtain⟨vs,h3,h4⟩:=hr.lst hp hx
     split at o
     .rename_i bs hb;exact⟨p,bs,rfl,SqL.of (by rw[h3,ae2 h4 hb]),ans o (.bl _) hr⟩
     .exact o.elim
    .exact o.elim
 .cases r with
  |cons r rs =>
   cases rs
   cases r with
   |@rol p vs xs hp r =>
    split at o
    .rename_i bs hb;exact⟨p,bs,rfl,by rw[<-ae2 r hb];exact hp.l,ans o (.bl _) hr⟩
    .exact o.elim
 .exact o.elim
end MI
namespace TPM
open PySem.W L2 HT MI
theorem ahd(t b:Addr)(items2:Array Value)(n n2:Nat)(dd dd2:Option Addr)(sl sl2:Array (Option Value)) :
  Meets (Builtin.«tuple.__add__» ⟨[.ref t,.ref b],[]⟩) (λ_ R s=>s.heap.get? t=some {cls:=.type "tuple",dict:=dd,data:=.seq #[] n,slots:=sl}/\s.heap.get? b=some {cls:=.type "tuple",dict:=dd2,data:=.seq items2 n2,slots:=sl2}/\R (.ok (.ret (.ref b))) s):=by
 refine .of_wp λprog w A R s h=>?_;obtain⟨hp,g,d,tk,os⟩:=s;obtain⟨hl,hb,h⟩:=h
 wp_walk
 refine fK sub_tuple_self ?_
 wp_walk
 exact⟨_,rfl,h⟩
noncomputable def ay2(K:Fg):R2:=λx y H Q=>∃a b ys,x=.ref a/\y=.ref b/\SqT K H a []/\SqT K H b ys/\Q (.ref b) H
theorem atl:OpR X (binaryOp .Add) (ay2 X.K):=by
 intro aA s Z H x y v u Q I rx ry h
 obtain⟨a,b,ys,rfl,rfl,ha,hb,q⟩:=h;cases rx
 cases ry
 obtain⟨its,r1,p1,_⟩:=I.tuple ha;obtain⟨its2,r2,p2,_⟩:=I.tuple hb;cases r1
 obtain⟨⟨cls,dd,data,sl⟩,ho,hc,n,hd⟩:=id p1;obtain⟨⟨cls2,dd2,data2,sl2⟩,ho2,hc2,n2,hd2⟩:=id p2;simp only at hc hd hc2 hd2;subst hc hd hc2 hd2;exact concat_meets ⟨_,ho,rfl⟩ ⟨_,ho2,rfl⟩ iN seq_tuple_add F.slot_tuple_add F.entry_tuple_add (F.args_tuple_add_2 _ _) (ahd a b its2.toArray n n2 dd dd2 sl sl2) ⟨ho,ho2,⟨.ref b,H,I,rfl,q⟩⟩
end TPM
namespace TPM
open PySem.W L2 HT MI PyProof.Rows
theorem ae6(n:Nat):Builtin.Slice.slicePlaces ((n:Int)-1) (-1) (-1)=n:=by
 unfold Builtin.Slice.slicePlaces;rw[ba (by decide)]
 by_cases z:n=0
 .subst z;rfl
 .rw[aJ (by omega),show(- -1:Int)=1 from rfl,Int.ediv_one];omega
theorem ak1{α β:Type}{f:α->Option β}{g:α->β}:∀{l:List α},(∀k∈l,f k=some (g k))->l.filterMap f=l.map g
 |[],_=>rfl
 |x::l,h=>by rw[dC,h x (bB ..),aZ,ak1 λk hk=>h k (aW _ hk)]
end TPM
namespace MI
open L2 TPM
theorem aai:∀{vs:List V} {xs:List D} {ws:List V} {ys:List D},Reps K U H vs xs->Reps K U H ws ys->Reps K U H (vs.reverse++ws) (xs.reverse++ys)
 |_,_,_,_,.nil,r2=>r2
 |_,_,_,_,.cons r rs,r2=>by
  rw[eO,eO,cA,cA];exact aai rs (.cons r r2)
end MI
namespace L2
open PyProof.Rows
section
variable{X:Cx}
theorem Inv.lstR(I:Inv X aA Z H s)(hH:Rd H l (.lst xs)):xs.length<=sizeLine/\∃(its:List Value) (n:Nat),Vals xs its/\xs.length=its.length/\s.heap.get? l=some {cls:=.type "list",data:=.seq its.toArray n}:=by
 obtain⟨z,its,n,r,e⟩:=hH.ok I.hok;exact⟨z,its,n,r,r.length,e⟩
noncomputable def ay3:R2:=λx y H Q=>∃l b xs zs,x=.ref l/\y=.ref b/\Rd H l (.lst xs)/\Rd H b (.lst zs)/\xs.length+zs.length<=sizeLine/\∀p,H p=none->Q (.ref p) (upd H p (.lst (xs++zs)))
theorem atm:OpR X (binaryOp .Add) ay3:=λaA s Z H x y v u Q I rx ry ⟨l,b,xs,zs,ex,ey,h1,h2,hz,q⟩=>by
 subst ex ey;cases rx
 cases ry
 obtain⟨_,as,_,va,la,ea⟩:=I.lstR h1;obtain⟨_,bs,_,vb,lb,eb⟩:=I.lstR h2;have app:as.toArray++bs.toArray=(as++bs).toArray:=by simp
 refine PySem.P.add_list ea eb ?_ (by simp;omega)
 rw[app];exact⟨.ref _,_,I.lnew (t':=s.toks) (va.append vb) (by simpa using hz),rfl,q _ I.fresh⟩
def ay4:V->List V->Hp->VK->Prop:=λx vs H Q=>∃l b xs zs,x=.ref l/\vs=[.ref b]/\H l=some (.lst xs)/\Rd H b (.lst zs)/\xs.length+zs.length<=sizeLine/\Q .non (upd H l (.lst (xs++zs)))
theorem a3n:MtM X "list.extend" ay4:=λaA s Z H x vs v us Q I rx rv ⟨l,b,xs,zs,ex,ev,h1,h2,hz,q⟩=>by
 subst ex ev;cases rx
 obtain⟨u,rfl,ru⟩:=rv.one;cases ru
 obtain⟨_,as,n,va,la,ea⟩:=I.lstM h1;obtain⟨_,bs,m,vb,lb,eb⟩:=I.lstR h2;have few:as.toArray.size+bs.toArray.size<=sizeLine:=by simp;omega
 have long:¬ (!as.toArray.isEmpty && Builtin.List.listTooLong (as.toArray.size+bs.toArray.size))=true:=by rw[a6p few,i7];exact aX
 exact dW F.slot_list_extend ⟨_,ea,rfl⟩ F.entry_list_extend (F.args_list_extend_2 _ _) (AutoSeq1.list_extend_list_list_0 l as.toArray n b bs.toArray m long (by simp;omega) (by omega))
  ⟨ea,eb,.non,_,I.lset (its':=as++bs) h1 ea (by simp) (va.append vb) (by simpa using hz),rfl,q⟩
noncomputable def ay5:R2:=λx y H Q=>∃l k xs,x=.ref l/\y=.int k/\Rd H l (.lst xs) /\ -(2^63)<=k/\k<2^63/\xs.length*k.toNat<=sizeLine/\∀p,H p=none->Q (.ref p) (upd H p (.lst (List.replicate k.toNat xs).flatten))
theorem atn(its:List Value)(k:Nat):List.foldl (λx1 x2=>x1++x2) #[] (List.replicate (if its.toArray.isEmpty=true then 0 else k) its.toArray)=(List.replicate k its).flatten.toArray:=by
 have g:∀m:Nat,List.foldl (λx1 x2=>x1++x2) #[] (List.replicate m its.toArray)=(List.replicate m its).flatten.toArray:=λm=>by simpa using foldl_rep its m []
 cases its with
 |nil=>simp
 |cons a r=>rw[ba (by simp),g]
theorem ato:OpR X (binaryOp .Mult) ay5:=λaA s Z H x y v u Q I rx ry ⟨l,k,xs,ex,ey,h1,k1,k2,hz,q⟩=>by
 subst ex ey;cases rx
 obtain⟨t,rfl⟩:=ry;obtain⟨_,as,n,va,la,ea⟩:=I.lstR h1;have few:as.toArray.size*k.toNat<=sizeLine:=by rw[ay,<-la];exact hz
 have top:(sizeLine:Nat)<=(2^63-1) / 8:=by decide
 refine dI (T := "list") (U := "int") (by decide) ⟨_,ea,rfl⟩ (λs'=>eY s' k t) noFill_list_mul fT cY repeat_list fG.lookup
  (dW cY (eY s k t) fH (fq _ _) (int___rmul___int_list k t l as.toArray n)
   ⟨ea,rfl,⟨_,ea,rfl⟩,dW F.slot_list_mul ⟨_,ea,rfl⟩ F.entry_list_mul (F.args_list_mul_2 _ _)
    (fU l as.toArray n k t (by rw[fitsIndex_both k1 k2];exact aX) (by omega) (by rw[a6p few];exact aX)) ⟨ea,?_⟩⟩)
 rw[atn];exact⟨.ref _,_,I.lnew (t':=s.toks) (va.rep k.toNat) (by rw[len_rep,fO];exact hz),rfl,q _ I.fresh⟩
end
end L2
namespace MI
open L2 TPM
noncomputable def a0i(d:D)(h:Hd):Option (List D):=match d with
 |.rol xs=>some xs
 |.ref i=>(match h[i]? with|some (.lst xs)=>some xs|_=>none)
 |_=>none
section
variable{K:Fg}{U:List Addr}{H:Hp}{h:Hd}
theorem a1y(r:Rep K U H x d)(hr:HRep K U H h)(e:a0i d h=some xs):∃a vs,x=.ref a/\Rd H a (.lst vs)/\Reps K U H vs xs:=by
 cases r with
 |@rol a vs ys hp rs=>cases e;exact⟨a,vs,rfl,.inr hp,rs⟩
 |@ref a i hp =>
  obtain⟨ob,e1,e2⟩:=hr.at hp;simp only[a0i,e1]at e
  cases ob with
  |lst ys=>cases e;obtain⟨vs,h3,h4⟩:=e2;exact⟨a,vs,rfl,.inl h3,h4⟩
  |_=>cases e
 |_=>cases e
noncomputable def ie:D->D->Hd->R D
 |.int i,.int j,h=>.ok (.int (i+j)) h
 |.str x,.str y,h=>if x.length+y.length<=LINE then .ok (.str (x++y)) h else .no
 |.tup [],.tup ys,h=>.ok (.tup ys) h
 |.tup (x::xs),.tup ys,h=>if (x::xs).length+ys.length<=LINE then .ok (.tup (x::xs++ys)) h else .no
 |x,y,h=>match a0i x h,a0i y h with
  |some xs,some ys=>if xs.length+ys.length<=LINE then .ok (.ref h.length) (h++[.lst (xs++ys)]) else .no
  |_,_=>.no
theorem ae7(e1:a0i x h=some xs)(e2:a0i y h=some ys):ie x y h=if xs.length+ys.length<=LINE then .ok (.ref h.length) (h++[.lst (xs++ys)]) else .no:=by
 cases x<;>first|(cases e1;done)|(cases y<;>first|(cases e2;done)|(simp only[ie,e1,e2]))
theorem atp(x y:D)(h:Hd):(∃i j,x=.int i/\y=.int j)\/(∃i j,x=.str i/\y=.str j)\/(∃xs ys,x=.tup xs/\y=.tup ys)\/(∃xs ys,a0i x h=some xs/\a0i y h=some ys)\/ie x y h=.no:=by
 cases e1:a0i x h with
 |some xs =>
  cases e2:a0i y h with
  |some ys=>exact .inr (.inr (.inr (.inl ⟨xs,ys,rfl,rfl⟩)))
  |none =>
   refine .inr (.inr (.inr (.inr ?_)))
   cases x<;>first|(cases e1;done)|(simp only[ie,e1,e2])
 |none =>
  cases x with
  |int i=>cases y<;>first|exact .inl ⟨_,_,rfl,rfl⟩|exact .inr (.inr (.inr (.inr rfl)))
  |str i=>cases y<;>first|exact .inr (.inl ⟨_,_,rfl,rfl⟩)|exact .inr (.inr (.inr (.inr rfl)))
  |tup i=>cases y<;>first|exact .inr (.inr (.inl ⟨_,_,rfl,rfl⟩))|(cases i<;>exact .inr (.inr (.inr (.inr rfl))))
  |_=>refine .inr (.inr (.inr (.inr ?_)));simp only[ie,e1]
theorem ao6:a1w K ie (λx y H Q=>(rI0 (λi j=>.int (i+j)) x y H Q\/(∃i j,x=.str i/\y=.str j/\i.length+j.length<=sizeLine/\Q (.str (i++j)) H)\/ax2 K x y H Q\/ay3 x y H Q)\/ay2 K x y H Q):=by
 intro E U H h x y dx dy Q rx ry hr o
 rcases atp dx dy h with⟨i,j,rfl,rfl⟩|⟨i,j,rfl,rfl⟩|⟨xs,ys,rfl,rfl⟩|⟨xs,ys,e1,e2⟩|e
 .cases rx;cases ry
  exact .inl (.inl ⟨i,j,rfl,rfl,ans o (.int _) hr⟩)
 .cases rx;cases ry
  simp only[ie]at o
  split at o
  .rename_i hc;exact .inl (.inr (.inl ⟨i,j,rfl,rfl,ll hc,ans o (.str _) hr⟩))
  .exact o.elim
 .cases rx with
  |@tup a vs _ ha r1 =>
  cases ry with
  |@tup b us _ hb r2 =>
  cases xs with
  |nil=>cases r1;exact .inr ⟨a,b,us,rfl,rfl,SqT.of ha,SqT.of hb,ans o (.tup hb r2) hr⟩
  |cons z xs =>
   simp only[ie]at o
   split at o
   .rename_i hc;refine .inl (.inr (.inr (.inl ⟨a,b,vs,us,rfl,rfl,SqT.of ha,SqT.of hb,λz=>(by subst z;cases r1),ll (by rw[r1.len,r2.len];exact hc),λz=>?_,λ_=>?_⟩)))
    .subst z;cases r2
     rw[bE]at o;exact ans o (.tup ha r1) hr
    .exact a1h (r1.app r2) hr o
   .exact o.elim
 .rw[ae7 e1 e2]at o;obtain⟨a,vs,rfl,h1,h2⟩:=a1y rx hr e1;obtain⟨b,us,rfl,h3,h4⟩:=a1y ry hr e2
  split at o
  .rename_i hc;exact .inl (.inr (.inr (.inr ⟨a,b,vs,us,rfl,rfl,h1,h3,ll (by rw[h2.len,h4.len];exact hc),vf (h2.app h4) hr o⟩)))
  .exact o.elim
 .rw[e]at o;exact o.elim
theorem gm(ha:ME X E a fa)(hb:ME X E b fb):ME X E (.BinOp a .Add b pos) (s2 ie fa fb) :=
 ac2 (OpR.or (awp.or (agx.or (ash.or atm))) atl) ao6 ha hb
open Classical in
def zx(x y:D)(h:Hd):R D:=match y with
 |.int k=>(match x with
  |.int i=>if CMul i k then .ok (.int (i*k)) h else .no
  |_=>match a0i x h with
   |some xs=>if (-(2^63)<=k/\k<2^63)/\xs.length*k.toNat<=LINE then .ok (.ref h.length) (h++[.lst (List.replicate k.toNat xs).flatten]) else .no
   |none=>.no)
 |_=>.no
theorem ao7:a1w K zx (λx y H Q=>rI CMul (λi j=>.int (i*j)) x y H Q\/ay5 x y H Q):=by
 intro E U H h x y dx dy Q rx ry hr o
 cases dy with
 |int k =>
  obtain rfl:=ajg ry
  cases hx:a0i dx h with
  |some xs =>
   obtain⟨a,vs,rfl,h1,h2⟩:=a1y rx hr hx;have o':out K E (zj K) U H (if (-(2^63)<=k/\k<2^63)/\xs.length*k.toNat<=LINE then .ok (.ref h.length) (h++[.lst (List.replicate k.toNat xs).flatten]) else .no) Q:=by
    cases dx<;>first|(cases hx;done)|(simp only[zx,hx]at o;exact o)
   split at o'
   .rename_i hc;exact .inr ⟨a,k,vs,rfl,rfl,h1,hc.1.1,hc.1.2,ll (by rw[h2.len];exact hc.2),vf (h2.flat _) hr o'⟩
   .exact o'.elim
  |none =>
   cases dx with
   |int i =>
    obtain rfl:=ajg rx
    by_cases hc:CMul i k
    .simp only[zx,aJ hc]at o;exact .inl ⟨i,k,rfl,rfl,hc,ans o (.int _) hr⟩
    .simp only[zx,ba hc]at o;exact o.elim
   |_=>simp only[zx,hx]at o;exact o.elim
 |_=>exact o.elim
theorem a4j(ha:ME X E a fa)(hb:ME X E b fb):ME X E (.BinOp a .Mult b pos) (s2 zx fa fb):=ac2 (apw.or ato) ao7 ha hb
noncomputable def a7v:D->List D->Hd->R D
 |.ref i,[.tup ys],h=>(match h[i]? with|some (.lst xs)=>if xs.length+ys.length<=LINE then .ok .non (h.set i (.lst (xs++ys))) else .no|_=>.no)
 |.ref i,[y],h=>(match h[i]?,a0i y h with|some (.lst xs),some ys=>if xs.length+ys.length<=LINE then .ok .non (h.set i (.lst (xs++ys))) else .no|_,_=>.no)
 |_,_,_=>.no
theorem a6u:axr K a7v (λx vs H Q=>ay4 x vs H Q\/af8 K x vs H Q):=by
 intro E U H h x dx xs ds Q rx r hr o
 unfold a7v at o
 split at o
 .rename_i i ys
  cases rx with
  |@ref p _ hp =>
   cases r with
   |cons r1 rs =>
    cases rs
    cases r1 with
    |@tup b us zs hb rb =>
     split at o
     .rename_i xs hx;obtain⟨vs,h3,h4⟩:=hr.lst hp hx
      split at o
      .rename_i hc;exact .inr ⟨p,b,vs,us,rfl,rfl,h3,SqT.of hb,ll (by rw[h4.len,rb.len];exact hc),adz (h4.app rb) hr hp .non o⟩
      .exact o.elim
     .exact o.elim
 .rename_i i y _
  cases rx with
  |@ref p _ hp =>
   cases r with
   |cons r1 rs =>
    cases rs
    split at o
    .rename_i xs ys hx hy;obtain⟨vs,h3,h4⟩:=hr.lst hp hx;obtain⟨b,us,rfl,h5,h6⟩:=a1y r1 hr hy
     split at o
     .rename_i hc;exact .inl ⟨p,b,vs,us,rfl,rfl,h3,h5,ll (by rw[h4.len,h6.len];exact hc),adz (h4.app h6) hr hp .non o⟩
     .exact o.elim
    .exact o.elim
 .exact o.elim
end
end MI
namespace MI
open L2
noncomputable def ak2(d:D)(h:Hd):Option (List Int):=match d with
 |.ref i=>(match h[i]? with|some (.lst xs)=>a5q xs|_=>none)
 |.rol xs=>a5q xs
 |_=>none
theorem ak3(r:Rep K U H v d)(hr:HRep K U H h)(e:ak2 d h=some ns):∃p,v=.ref p/\SqL K H p (ns.map V.int):=by
 unfold ak2 at e
 split at e
 .cases r with
  |@ref p _ hp =>
   split at e
   .rename_i xs hx;obtain⟨vs,h3,h4⟩:=hr.lst hp hx;exact⟨p,rfl,SqL.of (by rw[h3,a3l h4 e])⟩
   .cases e
 .cases r with
  |@rol p vs xs hp r=>exact⟨p,rfl,by rw[<-a3l r e];exact hp.l⟩
 .cases e
end MI
namespace L2
open PyProof.Rows
noncomputable def ixI(n:Int):List Int->Option Nat
 |[]=>none
 |a::l=>if a=n then some 0 else (ixI n l).map (·+1)
end L2
namespace MI
open L2
def b41:D->Option Key
 |.int i=>some (.inl i)
 |.str x=>some (.inr x)
 |_=>none
def b5i:D->Option (List Key)
 |.tup xs=>a1u b41 xs
 |_=>none
noncomputable def putD{κ:Type}[DecidableEq κ](kvs:List (κ×D))(k:κ)(d:D):List (κ×D):=if (kvs.any λkv=>decide (kv.1=k))=true then kvs.map λkv=>if kv.1=k then (kv.1,d) else kv else kvs++[(k,d)]
section
variable{K:Fg}{U:List Addr}{H:Hp}{h:Hd}
variable{X:Cx}{E:XD}{a b e o i:Expr}{fa fb fc:SE}{pos:Pos}
noncomputable def b5j(o k v:D)(h:Hd):Option Hd:=match o with
 |.ref i=>(match h[i]? with
  |some (.dK kvs)=>(match b41 k with|some kk=>if kvs.length<LINE then some (h.set i (.dK (putD kvs kk v))) else none|none=>none)
  |some (.dT kvs)=>(match b5i k with|some kk=>if kvs.length<LINE then some (h.set i (.dT (putD kvs kk v))) else none|none=>none)
  |_=>none)
 |_=>none
noncomputable def ao8(fe fo fi:SE):SS:=λτ h=>(fe τ h).fl λv h1=>(fo τ h1).fl λo h2=>(fi τ h2).fl λk h3=>match b5j o k v h3 with|some h4=>.nx τ h4|none=>.no
end
end MI
namespace MI
open L2 ZP
noncomputable def atq(x:D)(h:Hd):R Itm:=match srcOf x h with
 |some (xs,c)=>.ok ⟨((List.range xs.length).zip xs).map λp=>.tup [.int (p.1:Nat),p.2],c⟩ h
 |none=>.no
def ay6(f:SE):SI:=λτ h=>(f τ h).bind atq
end MI
namespace L2
open PyProof.Rows
def Itd(lo:Int)(n:Nat):It:=⟨λi _=>i<n,λi H x H'=>H'=H/\x=.int (lo-i),λi _=>n<=i⟩
theorem ak4{P:Program}{w:World}{K:Fg}{tg:Expr}(it:Addr)(lo:Int)(n:Nat):Turn P w K tg (Itd lo n) [it] it (λi h=>IsRangeIter h it (lo-(i:Nat)) ((n:Int)-(i:Nat)) (-1)) where
 mem:=by simp
 obj:=λi h st b hb=>by
  cases ax.mp hb
  exact⟨_,st,λv z=>nomatch (show Data.fields _=Data.cell v from z)⟩
 keep:=λi h h' st k=>k it (by simp) _ st
 item:=by
  intro X hP hw hK hc i aA s Z H E I hf st hg
  subst hP hw hK;obtain⟨f0,f1,f2,f3,f4,f5⟩:=hf it (by simp)
  have hg:i<n:=hg;refine wpAny_pyNext_range_item st (by omega) λh' st' sb=>?_
  have I1:Inv X aA Z H {s with heap:=h',toks:=s.toks+1}:=I.turned (λb o hb e=>sb.extBut b o hb e) f0 f1 f3 f4 f5
  have e1:lo-(i:Nat) + -1=lo-((i+1:Nat):Int):=by omega
  have e2:(n:Int)-(i:Nat)-1=(n:Int)-((i+1:Nat):Int):=by omega
  have st2:IsRangeIter h' it (lo-((i+1:Nat):Int)) ((n:Int)-((i+1:Nat):Int)) (-1):=by rw[<-e1,<-e2];exact st'
  exact⟨_,rfl,aic (s:={s with heap:=h',toks:=s.toks+1}) (n := "range_iterator") st' rfl rfl (by decide) ⟨.int (lo-i),H,I1,⟨_,rfl⟩,⟨rfl,rfl⟩,st2,λb hb=>(hf b hb).1⟩⟩
 done:=by
  intro X hP hw hK hc i aA s Z H E I hf st hg
  subst hP hw hK;obtain⟨f0,f1,f2,f3,f4,f5⟩:=hf it (by simp)
  exact wpAny_pyNext_range_end (I.ok.hd hc) st (by have:n<=i:=hg;omega) λh' eb=>⟨rfl,I.turned (t':=s.toks) (λb o hb e=>eb b o hb e) f0 f1 f3 f4 f5⟩
 self:=λ_ _ _ _ _ st h=>gc st h
end L2
namespace MI
open L2
def ao9(lo:Int)(n:Nat):List D:=(List.range n).map λi=>D.int (lo-(i:Nat))
noncomputable def ay7(ds:List D)(h:Hd):R Itm:=match ds with
 |[.int i,.int j,.int k]=>if k = -1/\B62 i/\B62 j then .ok ⟨ao9 i (i-j).toNat,λ_=>True⟩ h else .no
 |_=>.no
theorem ay8(lo:Int)(n:Nat):ani K U0 H0 (Itd lo n) ⟨ao9 lo n,λ_=>True⟩:=by
 intro U H h g hr _
 refine⟨λi d ed=>?_,by show n<=(ao9 lo n).length;simp[ao9]⟩
 simp only[ao9,bD,aR]at ed;obtain⟨j,ej,rfl⟩:=ed;obtain⟨hj,e⟩:=ai.mp ej;simp at e hj;subst e;refine⟨hj,λy H' q=>?_⟩;obtain⟨rfl,rfl⟩:=q;exact⟨.refl _ _,.int _,hr⟩
theorem ay9:bootBuiltins "any" = some (.builtin "any"):=by decide +kernel
theorem cj{α β:Type}(a:α)(h:Hd)(k:α->Hd->R β):(R.ok a h).bind k=k a h:=rfl
theorem a2y{α:Type}(a:α)(h:Hd)(k:α->Hd->Fl):(R.ok a h).fl k=k a h:=rfl
noncomputable def thn(r:Fl)(g:SS):Fl:=match r with|.nx τ h=>g τ h|r=>r
theorem yw(f g:SS)(τ:Sd)(h:Hd):iy f g τ h=thn (f τ h) g:=by unfold iy thn;cases f τ h<;>rfl
theorem a99(τ:Sd)(h:Hd)(g:SS):thn (.nx τ h) g=g τ h:=rfl
theorem afp(d:D)(h:Hd)(g:SS):thn (.rt d h) g=.rt d h:=rfl
noncomputable def toR(r:Fl):R D:=match r with|.rt d h1=>.ok d h1|.nx _ h1=>.ok .non h1|.ex c h1=>.ex c h1|_=>.no
theorem ig(b:SS)(n:Nat)(ds:List D)(h:Hd):n8 b n ds h=toR (b (a7p n ds) h):=by unfold n8 toR;cases b (a7p n ds) h<;>rfl
theorem acn(d:D)(h:Hd):toR (.rt d h)=.ok d h:=rfl
theorem afq(τ:Sd)(h:Hd):toR (.nx τ h)=.ok .non h:=rfl
theorem jo:∀{xs:List D},clos n xs↔∀x∈xs,clo n x
 |[]=>by simp[clos]
 |x::xs=>by simp[clos,jo (xs:=xs)]
theorem cz(i:Int):clo n (.int i):=by simp[clo]
theorem dz(i:Str):clo n (.str i):=by simp[clo]
theorem lr(i:Bool):clo n (.bl i):=by simp[clo]
theorem rm:clo n .non:=by simp[clo]
theorem gh:clos n []:=by simp[clos]
theorem bu(a:clo n x)(b:clos n xs):clos n (x::xs):=by simp only[clos];exact⟨a,b⟩
theorem gj(h:clos n xs):clo n (.tup xs):=by simpa[clo] using h
theorem jh(h:clos n xs):clo n (.rol xs):=by simpa[clo] using h
theorem dq{α:Type}{n:Nat}{f:α->D}{l:List α}(h:∀a∈l,clo n (f a)):clos n (l.map f):=by
 rw[jo]
 intro x hx
 obtain⟨a,ha,rfl⟩:=cf.mp hx;exact h a ha
mutual
theorem afr(hm:n<=m):∀{d:D},clo n d->clo m d
 |.non,_=>by simp[clo]
 |.bl _,_=>by simp[clo]
 |.int _,_=>by simp[clo]
 |.str _,_=>by simp[clo]
 |.ty _,_=>by simp[clo]
 |.tup xs,h=>by simp only[clo]at h ⊢;exact xx hm h
 |.rol xs,h=>by simp only[clo]at h ⊢;exact xx hm h
 |.scr xs,h=>by simp only[clo]at h ⊢;exact xx hm h
 |.rod _ xs,h=>by simp only[clo]at h ⊢;exact xx hm h
 |.rdT _ xs,h=>by simp only[clo]at h ⊢;exact xx hm h
 |.exc _,_=>by simp[clo]
 |.ins _ _ xs,h=>by simp only[clo]at h ⊢;exact xx hm h
 |.ref i,h=>by simp only[clo]at h ⊢;omega
theorem xx(hm:n<=m):∀{xs:List D},clos n xs->clos m xs
 |[],_=>by simp[clos]
 |x::xs,h=>by simp only[clos]at h ⊢;exact⟨afr hm h.1,xx hm h.2⟩
end
theorem a1j(hm:n<=m)(h:uv n o):uv m o:=by
 cases o with
 |lst xs=>exact xx hm h
 |dK kvs=>exact xx hm h
 |dT kvs=>exact xx hm h
 |ins _ _=>exact xx hm h
theorem aaj{α:Type}{f:α->Option α}:∀{xs:List α},(∀x∈xs,f x=some x)->a1u f xs=some xs
 |[],_=>rfl
 |x::xs,h=>by
  unfold a1u;rw[h x bB,aaj λy hy=>h y (aW _ hy)]
theorem a6v(c:clo n d):a2v n h (k+1) d=some d:=by unfold a2v;rw[aJ c]
theorem aoa(c:uv n o):axy n h k o=some o:=by unfold axy;rw[aJ c]
theorem a4y{n k i:Nat}{h:Hd}{xs:List D}(hi:n<=i)(e:h[i]? = some (.lst xs))(c:clos n xs):a2v n h (k+2) (.ref i)=some (.rol xs):=by
 unfold a2v;rw[ba (by simp only[clo];omega)]
 simp only[e];rw[aaj λx hx=>a6v (jo.mp c x hx)];rfl
theorem a7w{n:Nat}{d d':D}{h1:Hd}(e:a2v n h1 FU d=some d')(c:∀o∈h1.take n,uv n o):aaf n (.ok d h1)=.ok d' (h1.take n):=by
 unfold aaf;simp only[e];rw[aaj λo ho=>aoa (c o ho)]
theorem jd{h1:Hd}(e:clo n d)(c:∀o∈h1.take n,uv n o):aaf n (.ok d h1)=.ok d (h1.take n):=a7w (a6v e) c
theorem a4z(hi:n<=i)(e:h1[i]? = some (.lst xs))(cx:clos n xs)(c:∀o∈h1.take n,uv n o):aaf n (.ok (.ref i) h1)=.ok (.rol xs) (h1.take n):=a7w (a4y hi e cx) c
theorem aob(e:f τ h=.ok (.ref h.length) (h++[.lst xs]))(cx:clos h.length xs)(c:∀o∈h,uv h.length o):sZ f τ h=.ok (.rol xs) h:=by
 unfold sZ;rw[e,a4z (aw _) (by simp) cx (by simpa using c)]
 simp
def Pu(F:SF)(n:Nat)(ds:List D)(d:D):Prop:=∀h,jx false n F ds h=.ok d h
def Dr(F:SF)(n:Nat)(ds:List D)(o:O)(d:D)(o':O):Prop:=∀p h,h[p]? = some o->jx false n F (.ref p::ds) h=.ok d (h.set p o')
theorem a5a:∀{ds:List D},(∀d∈ds,clo 0 d)->a1x ds=[]/\a1i 0 ds=ds/\∀k,a1i k ds=ds
 |[],_=>⟨rfl,rfl,λ_=>rfl⟩
 |d::ds,h=>by
  obtain⟨a,b,c⟩:=a5a (ds:=ds) λx hx=>h x (aW _ hx);have hd:=h d bB;have nr:refOf d=none:=by cases d<;>first|rfl|(simp only[clo]at hd;omega)
  refine⟨?_,?_,λk=>?_⟩
  .simpa[a1x,nr] using a
  .cases d<;>first|(simp only[clo]at hd;omega)|(simp only[a1i,b])
  .cases d<;>first|(simp only[clo]at hd;omega)|(simp only[a1i,c])
theorem Pu.of{ds:List D}(hn:ds.length=n)(cd:∀x∈ds,clo 0 x)(e:F ds []=r)(z:aaf 0 r=.ok d [])(c:clo 0 d):Pu F n ds d:=λh=>by
 obtain⟨p1,p2,_⟩:=a5a cd;unfold jx;rw[aJ hn];unfold atf;rw[p1];simp only[a1u,bK,cP,fR];rw[aJ ⟨i9,λx hx=>.inl (cd x hx),λo ho=>by simp at ho⟩,p2,e,z]
 simp[c,xm]
theorem Dr.of{ds:List D}(hn:ds.length+1=n)(cd:∀x∈ds,clo 0 x)(co:uv 0 o)(e:F (.ref 0::ds) [o]=r)(z:aaf 1 r=.ok d [o'])(c:clo 0 d)(co':uv 0 o'):Dr F n ds o d o':=λp h hp=>by
 obtain⟨p1,_,p3⟩:=a5a cd;have e1:a1x (.ref p::ds)=[p]:=by
  have:a1x (.ref p::ds)=p::a1x ds:=rfl
  rw[this,p1]
 have e2:a1i 0 (.ref p::ds)=.ref 0::ds:=by
  have:a1i 0 (.ref p::ds)=.ref 0::a1i 1 ds:=rfl
  rw[this,p3]
 unfold jx;rw[aJ (by simpa using hn)]
 unfold atf;rw[e1];simp only[a1u,hp,aM,cP,fR];have all:∀x∈(D.ref p::ds),clo 0 x\/isRef x:=λx hx=>by
  rcases aL.mp hx with rfl|hx
  .exact .inr ⟨p,rfl⟩
  .exact .inl (cd x hx)
 rw[aJ ⟨by simp,all,λu hu=>by rw[ax.mp hu];exact co⟩,e2,e,z]
 simp[c,co',xm]
theorem aya{ds:List D}(hn:ds.length=n)(cd:∀x∈ds,clo 0 x)(e:F ds []=.ok (.ref i) h1)(ho:h1[i]? = some o)(co:uv 0 o)(h:Hd):jx true n F ds h=.ok (.ref h.length) (h++[o]):=by
 obtain⟨p1,p2,_⟩:=a5a cd;unfold jx;rw[aJ hn];unfold atf;rw[p1];simp only[a1u,bK,dO];rw[aJ ⟨i9,λx hx=>.inl (cd x hx),λo ho=>by simp at ho⟩,p2,e]
 unfold avs;simp only[ho];rw[aJ ⟨bb _,co,by simp⟩]
 simp[co,xm]
theorem a1z(g:SG)(b:SS)(τ:Sd)(h:Hd):forL (λ_=>True) g b [] τ h=.nx τ h:=by rw[forL,aJ True.intro]
noncomputable def trn(r:Fl)(k:Sd->Hd->Fl):Fl:=match r with|.nx τ h=>k τ h|.ct τ h=>k τ h|.bk τ h=>.nx τ h|r=>r
theorem a1q(g:SG)(b:SS)(x:D)(xs:List D)(τ τ1:Sd)(h h1:Hd)(e:g x τ h=.nx τ1 h1):forL (λ_=>True) g b (x::xs) τ h=trn (b τ1 h1) (forL (λ_=>True) g b xs):=by
 rw[forL,aJ True.intro,e];dsimp only;unfold trn
 cases b τ1 h1<;>rfl
theorem aqn(τ:Sd)(h:Hd)(k:Sd->Hd->Fl):trn (.nx τ h) k=k τ h:=rfl
theorem aqo(d:D)(h:Hd)(k:Sd->Hd->Fl):trn (.rt d h) k=.rt d h:=rfl
theorem aak{g:SG}{b:SS}{α:Type}(f:α->D)(I:List α->Sd->Hd->Prop)(Rt:D->Hd->Prop):∀(xs pre:List α) (τ:Sd) (h:Hd),
  (∀pre' x post τ h,pre++xs=pre'++x::post->I pre' τ h->∃τ1 h1,g (f x) τ h=.nx τ1 h1/\((∃τ2 h2,b τ1 h1=.nx τ2 h2/\I (pre'++[x]) τ2 h2)\/∃d h2,b τ1 h1=.rt d h2/\Rt d h2))->I pre τ h->
  (∃τ' h',forL (λ_=>True) g b (xs.map f) τ h=.nx τ' h'/\I (pre++xs) τ' h')\/∃d h',forL (λ_=>True) g b (xs.map f) τ h=.rt d h'/\Rt d h'
 |[],pre,τ,h,_,i0=>.inl ⟨τ,h,a1z ..,by simpa using i0⟩
 |x::xs,pre,τ,h,st,i0=>by
  obtain⟨τ1,h1,e1,q⟩:=st pre x xs τ h rfl i0;rw[aZ,a1q _ _ _ _ _ _ _ _ e1]
  rcases q with⟨τ2,h2,e2,i2⟩|⟨d,h2,e2,r⟩
  .rw[e2,aqn];have:=aak f I Rt xs (pre++[x]) τ2 h2 (λpre' y post τ h e=>st pre' y post τ h (by simpa using e)) i2
   simpa using this
  .rw[e2,aqo];exact .inr ⟨d,h2,rfl,r⟩
theorem a0z{g:SG}{b:SS}{α:Type}(f:α->D)(I:List α->Sd->Hd->Prop)(xs:List α)(τ:Sd)(h:Hd)
  (st:∀pre x post τ h,xs=pre++x::post->I pre τ h->∃τ1 h1,g (f x) τ h=.nx τ1 h1/\∃τ2 h2,b τ1 h1=.nx τ2 h2/\I (pre++[x]) τ2 h2) (i0:I [] τ h) :
  ∃τ' h',forL (λ_=>True) g b (xs.map f) τ h=.nx τ' h'/\I xs τ' h':=by
 rcases aak f I (λ_ _=>False) xs [] τ h (λpre' x post τ h e i=>let ⟨τ1,h1,a,b⟩:=st pre' x post τ h e i; ⟨τ1,h1,a,.inl b⟩) i0 with⟨τ',h',a,b⟩|⟨_,_,_,z⟩
 .exact⟨τ',h',a,b⟩
 .exact z.elim
theorem afs{f:D->Hd->R D}{α:Type}(g:α->D)(I:List α->List D->Hd->Prop):∀(xs pre:List α) (ys:List D) (h:Hd),
  (∀pre' x post ys h,pre++xs=pre'++x::post->I pre' ys h->∃y h',f (g x) h=.ok y h'/\I (pre'++[x]) (ys++[y]) h')->I pre ys h->∃zs h',mapR (λ_=>True) f (xs.map g) h=.ok zs h'/\I (pre++xs) (ys++zs) h'
 |[],pre,ys,h,_,i0=>⟨[],h,by rw[cM,mapR,aJ True.intro],by simpa using i0⟩
 |x::xs,pre,ys,h,st,i0=>by
  obtain⟨y,h1,e1,i1⟩:=st pre x xs ys h rfl i0;obtain⟨zs,h',e2,i2⟩:=afs g I xs (pre++[x]) (ys++[y]) h1 (λpre' z post ys h e=>st pre' z post ys h (by simpa using e)) i1
  refine⟨y::zs,h',?_,by simpa using i2⟩
  rw[aZ,mapR,aJ True.intro,e1];show(mapR _ f (xs.map g) h1).bind _=_;rw[e2];rfl
theorem aco{f:D->Hd->R D}{α:Type}(g F:α->D){h:Hd}:∀{xs:List α},(∀x∈xs,f (g x) h=.ok (F x) h)->mapR (λ_=>True) f (xs.map g) h=.ok (xs.map F) h
 |[],_=>by rw[cM,mapR,aJ True.intro];rfl
 |x::xs,st=>by
  rw[aZ,mapR,aJ True.intro,st x bB];show(mapR _ f (xs.map g) h).bind _=_;rw[aco g F λy hy=>st y (aW _ hy)];rfl
theorem acp{f:D->Hd->R (Option D)}{α:Type}(g:α->D)(F:α->Option D){h:Hd}:∀{xs:List α},(∀x∈xs,f (g x) h=.ok (F x) h)->amn (λ_=>True) f (xs.map g) h=.ok (xs.filterMap F) h
 |[],_=>by rw[cM,amn,aJ True.intro];rfl
 |x::xs,st=>by
  rw[aZ,amn,aJ True.intro,st x bB];show(amn _ f (xs.map g) h).bind _=_;rw[acp g F λy hy=>st y (aW _ hy)];show R.ok ((F x).toList++xs.filterMap F) h=_
  cases e:F x<;>simp[dC,e]
theorem b2s(I:Nat->Sd->Hd->Prop)(N:Sd->Hd->Prop)(Rt:D->Hd->Prop)
  (st:∀m τ h,I m τ h->(∃h1,c τ h=.ok false h1/\N τ h1)\/∃h1,c τ h=.ok true h1/\((∃τ2 h2 m',f τ h1=.nx τ2 h2/\m'<m/\I m' τ2 h2)\/∃d h2,f τ h1=.rt d h2/\Rt d h2)) :
  ∀(m n:Nat) (τ:Sd) (h:Hd),m<n->I m τ h->(∃τ' h',sWh c f n τ h=.nx τ' h'/\N τ' h')\/∃d h',sWh c f n τ h=.rt d h'/\Rt d h':=by
 intro m
 induction m using Nat.strongRecOn with
 |ind m ih =>
  intro n τ h hn i0
  cases n with
  |zero=>omega
  |succ n =>
   rcases st m τ h i0 with⟨h1,e1,q⟩|⟨h1,e1,q⟩
   .exact .inl ⟨τ,h1,by rw[sWh,e1];rfl,q⟩
   .rcases q with⟨τ2,h2,m',e2,lt,i2⟩|⟨d,h2,e2,r⟩
    .have e3:sWh c f (n+1) τ h=sWh c f n τ2 h2:=by
      rw[sWh,e1,a2y,aJ rfl,e2]
     rw[e3];exact ih m' lt n τ2 h2 (by omega) i2
    .refine .inr ⟨d,h2,?_,r⟩;rw[sWh,e1,a2y,aJ rfl,e2]
structure KD (P:Program) (w:World) (K:Fg) (a:Addr) (kvs:List (Str×Str)):Prop where
 sys:(a == sysModules)=false
 ex:∃(o:Obj) (vs:List (Key×Value)),K.lookup a=some o/\KV (kvs.map λp=>((.inr p.1:Key),V.str p.2)) vs/\∀h:Heap,h.get? a=some o->h.DictOf (a76 P w) a vs
section
variable{X:Cx}{E:XD}{e:Expr}{fa:SE}{pos p:Pos}{a:Addr}{kvs:List (Str×Str)}{x:Str}
theorem KD.at(kd:KD X.prog X.w X.K a kvs)(I:Inv X aA Z H s):∃vs,KV (kvs.map λp=>((.inr p.1:Key),V.str p.2)) vs/\s.heap.DictOf (a76 X.prog X.w) a vs:=by
 obtain⟨o,vs,l,r,d⟩:=kd.ex;exact⟨vs,r,d _ (I.bk _ _ (I.mod.kin _ _ l))⟩
end
mutual
def toPy:D->Option PyData
 |.non=>some .none
 |.bl b=>some (.bool b)
 |.int i=>some (.int i)
 |.str x=>some (.str x)
 |.tup xs=>(ak5 xs).map .tuple
 |.rol xs=>(ak5 xs).map .list
 |.rod [] []=>some (.dict [])
 |_=>none
def ak5:List D->Option (List PyData)
 |[]=>some []
 |x::xs=>match toPy x,ak5 xs with|some p,some ps=>some (p::ps)|_,_=>none
end
mutual
def noL:D->Bool
 |.rol _=>false
 |.tup xs=>b1c xs
 |_=>true
def b1c:List D->Bool
 |[]=>true
 |x::xs=>noL x && b1c xs
end
section
variable{P:Program}{w:World}{K:Fg}{U:List Addr}{H:Hp}{h:Heap}
mutual
theorem ak6(ok:HOk P w H h):∀(d:D) {v:V} {u:Value} {p:PyData},Rep K U H v d->RelV v u->toPy d=some p->∃as,Reads h u p as/\(noL d=true->sysModules∉as)
 |.non=>by
  rename_i v u p
  intro rp r e
  cases rp;cases e
  obtain rfl:u=Value.none:=r
  exact⟨_,.none,λ_=>by simp⟩
 |.bl b=>by
  rename_i v u p
  intro rp r e
  cases rp;cases e
  obtain rfl:u=Value.bool b:=r
  exact⟨_,.bool b,λ_=>by simp⟩
 |.int i=>by
  rename_i v u p
  intro rp r e
  cases rp;cases e
  obtain⟨t,rfl⟩:=r;exact⟨_,.int i t,λ_=>by simp⟩
 |.str x=>by
  rename_i v u p
  intro rp r e
  cases rp;cases e
  obtain⟨t,rfl⟩:=r;exact⟨_,.str x t,λ_=>by simp⟩
 |.tup xs=>by
  rename_i v u p
  intro rp r e
  cases rp with
  |@tup a _ _ hp rs =>
  simp only[toPy,aR]at e;obtain⟨ps,e,rfl⟩:=e;obtain rfl:u=Value.ref a:=r;obtain⟨_,its,vr,o,e1,e2,n,e3⟩:=(show ObjOk P w H h a (.tup _) from ok a _ hp)
  obtain⟨as,q,s⟩:=aal ok xs rs vr e;exact⟨as,.tuple e1 e2 e3 q,λz=>s (by simpa[noL] using z)⟩
 |.rol xs=>by
  rename_i v u p
  intro rp r e
  cases rp with
  |@rol a _ _ hp rs =>
  simp only[toPy,aR]at e;obtain⟨ps,e,rfl⟩:=e;obtain rfl:u=Value.ref a:=r;obtain⟨o,hp⟩:=hp;obtain⟨_,_,its,n,vr,e1⟩:=(show ObjOk P w H h a (.frz o (.lst _)) from ok a _ hp)
  obtain⟨as,q,s⟩:=aal ok xs rs vr e;exact⟨a::as,.list e1 rfl rfl q,λz=>by simp[noL]at z⟩
 |.rod ks xs=>by
  rename_i v u p
  intro rp r e
  cases ks with
  |cons k ks=>simp[toPy]at e
  |nil =>
   cases xs with
   |cons x xs=>simp[toPy]at e
   |nil =>
    cases rp with
    |@rod a _ us _ _ hp ek rs =>
    simp only[toPy,gA]at e;subst e;obtain rfl:u=Value.ref a:=r;obtain⟨_,_,sy,vs,kv,o,es,ep,e1,e2,e3,_,pr,_⟩:=(show ObjOk P w H h a (.frz _ (.dK _)) from ok a _ hp)
    have us0:=List.map_eq_nil_iff.mp ek;subst us0;cases kv
    have:es.toList=[]:=by cases hh:es.toList with|nil=>rfl|cons x y=>rw[hh]at pr;cases pr
    refine⟨_,.dict (kvs:=[]) e1 e2.1 e3 (by rw[this];exact .nil) (by rw[this];exact .nil),λ_=>?_⟩
    intro z
    simp at z
    subst z;simp at sy
 |.ty _=>by intro rp r e;simp[toPy]at e
 |.scr _=>by intro rp r e;simp[toPy]at e
 |.ref _=>by intro rp r e;simp[toPy]at e
 |.rdT _ _=>by intro rp r e;simp[toPy]at e
 |.exc _=>by intro rp r e;simp[toPy]at e
 |.ins _ _ _=>by intro rp r e;simp[toPy]at e
theorem aal(ok:HOk P w H h):∀(ds:List D) {vs:List V} {us:List Value} {ps:List PyData},Reps K U H vs ds->Vals vs us->ak5 ds=some ps->∃as,ReadsAll h us ps as/\(b1c ds=true->sysModules∉as)
 |[]=>by
  intro rs qs e
  cases rs;cases qs;cases e
  exact⟨[],.nil,λ_=>by simp⟩
 |d::ds=>by
  intro rs qs e
  cases rs with
  |cons r rs =>
  cases qs with
  |cons q qs =>
  simp only[ak5]at e
  split at e
  .rename_i p ps' e1 e2;cases e
   obtain⟨as,a1,s1⟩:=ak6 ok d r q e1;obtain⟨bs,a2,s2⟩:=aal ok ds rs qs e2;refine⟨as++bs,.cons a1 a2,λz=>?_⟩;simp only[b1c,bM]at z
   intro m
   rcases bq.mp m with m|m
   .exact s1 z.1 m
   .exact s2 z.2 m
  .cases e
end
theorem atr(ok:HOk P w H h){v:V}{d:D}{u:Value}{p:PyData}(rp:Rep K U H v d)(r:RelV v u)(e:toPy d=some p):∃as,Reads h u p as/\(noL d=true->sysModules∉as):=ak6 ok d rp r e
end
def okR(d:D)(p:PyData):Prop:=(p.hasDict=true->noL d=true)/\p.showable=true/\p.depth<=60/\p.shown.length<=sizeLine
open Classical in
theorem uw:CallR X (.builtin "isinstance") (λxs H Q=>∃a o us T b,xs=[.ref a,.ty T]/\H a=some (.frz o (.dK us))/\PySem.W.kitOne X.K (.type "dict") (.type T)=some b/\Q (.bl b) H):=by
 intro aA s Z H xs us Q I r h
 obtain⟨a,o,kv,T,b,rfl,ea,e,q⟩:=h;obtain⟨u,w',rfl,rx,rt⟩:=vals2 r;cases rt
 obtain rfl:u=Value.ref a:=rx
 obtain⟨_,_,_,vs,_,p⟩:=(show ObjOk X.prog X.w H s.heap a (.frz o (.dK kv)) from I.hok a _ ea)
 obtain⟨o',es,ep,h1,h2,_⟩:=p;exact cI ib I.kIn ⟨o',h1,h2.1⟩ e (λz=>nomatch z) λtk=>⟨.bl b,H,I.tok tk,rfl,q⟩
noncomputable def a2p:List D->Hd->R D
 |[.rod ks xs,.ty T],h=>(match avr "dict" T with|some b=>.ok (.bl b) h|none=>.no)
 |ds,h=>b19 ds h
theorem a2a:af9 K a2p (λxs H Q=>(∃x T t b,xs=[x,.ty T]/\TyOf K H x t/\PySem.W.kitOne K t (.type T)=some b/\Q (.bl b) H)\/∃a o us T b,xs=[.ref a,.ty T]/\H a=some (.frz o (.dK us))/\PySem.W.kitOne K (.type "dict") (.type T)=some b/\Q (.bl b) H):=by
 intro E U H h xs ds Q r hr o
 unfold a2p at o
 split at o
 .split at o
  .rename_i b hb
   cases r with
   |cons r1 rs =>
    cases rs with
    |cons r2 rs2 =>
     cases rs2
     cases r2
     cases r1 with
     |rod hp ek rr=>exact .inr ⟨_,_,_,_,b,rfl,hp,aji hb,ans o (.bl _) hr⟩
  .exact o.elim
 .exact .inl (at9 E U H h xs _ Q r hr o)
end MI
namespace SRC
open L2 MI
def a0j:SE :=
 (s2 ie (s2 zx (sI 2) (sA b18 (aj (sV 0) di))) (sA at7 (aj (s2 gLt (sV 0) (sI 0)) di)))
def a1a:SS :=
 (iy (jz 1 (sZ (a0w (sIt (sZ (a1l (sV 0) oN (oS (sI 63))))) t1 a0j [])))
 (pq (sA xq (aj (sV 1) (aj (sI 0) (aj (sI 0) (aj (sI 0) (aj (s2 a6b (sA ajj (aj (sV 1) di)) (sI 2147483647)) di))))))))
def a3o:SS :=
 (iy (a2x a2u (sV 0) (sI 3) (sI 1))
 (iy (sIf (adm (sT (s2 hEq (s2 gIx (sV 0) (sI 2)) (sI 0))) (sT (s2 gLt (s2 gIx (sV 0) (sI 1)) (sA vg (aj (s2 gIx (sV 0) (sI 0)) di)))))
 (iy (jz 2 (s2 gIx (s2 gIx (sV 0) (sI 0)) (s2 gIx (sV 0) (sI 1))))
 (iy (a2x a2u (sV 0) (sI 1) (sI 1))
 (sIf (sT (s2 gGe (sV 2) (s2 a95 (sI 10) (sI 18))))
 (ah7 (sV 2) (sV 0) (sI 2))
 (ah7 (s2 a6b (s2 ie (s2 zx (s2 gIx (sV 0) (sI 4)) (sI 31)) (sV 2)) (sI 2147483647)) (sV 0) (sI 4)))))
 sNx)
 (iy (sIf (sT (s2 gGt (s2 gIx (sV 0) (sI 2)) (sI 0)))
 (iy (jz 3 (s2 a6b (s2 gIx (sV 0) (sI 2)) (sV 1)))
 (iy (a2x a8n (sV 0) (sI 2) (sV 1))
 (pq (sV 3))))
 sNx)
 (iy (jz 3 (s2 a6b (s2 a95 (s2 ie (s2 ie (s2 gIx (sV 0) (sI 4)) (sI 1)) (s2 zx (s2 gIx (sV 0) (sI 3)) (sI 7919))) (sI 3)) (sI 2147483647)))
 (pq (s2 a6b (s2 a8n (s2 a6b (s2 a95 (s2 ie (s2 zx (sV 3) (sI 48271)) (s2 gIx (sV 0) (sI 3))) (sI 2)) (sI 2147483629)) (sI 64)) (sV 1)))))))
def a0k:SS :=
 (iy (jz 0 (sC (.str " !\"#$&'()*+,-./0123456789:;<=>?@ABCDEFGHIJKLMNOPQRSTUVWXYZ[\\]^_`")))
 (pq (s2 ie (sV 0) (sC (.str "abcdefghijklmnopqrstuvwxyz{|}~\n")))))
def a0l(au:SF)(m7:SF):SS :=
 (iy (jz 4 (sA (jx false 2 au) (aj (sV 0) (aj (sA vg (aj (sV 1) di)) di))))
 (iy (ai7 2 a2u (s2 gIx (sV 1) (sV 4)))
 (jz 1 (s2 ie (a1l (sV 1) oN (oS (sV 4))) (a1l (sV 1) (oS (s2 ie (sV 4) (sI 1))) oN)))))
def a1b(au:SF)(m7:SF):SS :=
 (iy (jz 1 (sA (jx false 0 m7) di))
 (iy (jz 2 (sC (.str "")))
 (iy (a94 (sRg a5n (aj (s2 ie (sI 1) (sA (jx false 2 au) (aj (sV 0) (aj (sI 6) di)))) di)) (kN 3) (a0l au m7))
 (pq (sV 2)))))
end SRC
namespace L2
open PySem.W PyProof.Rows Builtin Builtin.ObjectAttr Builtin.Getset_descriptor
section
variable{prog:Program}{w:World}{A:Around}{E:Value->Shared->Prop}{s:Shared}{K:Frag}{x D:Addr}{ox:Obj}{odo:Option Obj}
structure XKit (K:Frag) (D:Addr):Prop where
 ga:findIn K (.ref D) "__getattribute__" = some (some (.builtin "BaseException.__getattribute__"))
 gn:findIn K (.ref D) "__getattr__" = some none
 cl:(clsIn K D).isSome=true
 ca:findIn K (.ref D) "__class__" = some (some (.builtin "object.__class__"))
 sp:specialIn K (.builtin "object.__class__") "__get__" = some (some (.builtin "getset_descriptor.__get__"))
 tk:takesIn K (.builtin "object.__class__")=some true
 ob:mroIn K D (.type "object")=some true
 be:subIn K (.ref D) (.type "BaseException")=some true
 kc:kitCls K (.ref D) (.ref D)=some true
abbrev ExAt(x D:Addr)(h:Heap):Prop:=∃o,h.get? x=some o/\o.cls=.ref D
theorem ExAt.ty(I:ExAt x D h):Looks M h (typeOf (.ref x)) (.ref D):=by
 obtain⟨o,q,c⟩:=I;exact c ▸ (Looks.ld q).andThen .now
theorem XKit.at(Z:XKit K D):∃c o cd sl,K.lookup D=some ⟨c,o,.cls cd,sl⟩:=by
 have:=Z.cl
 unfold clsIn at this
 split at this
 .exact⟨_,_,_,_, ‹_›⟩
 .cases this
theorem XKit.no(Z:XKit K D){its:List Value}(X:K.In h)(q:h.get? tp=some ⟨.type "tuple",dd,.seq its.toArray n,sl⟩):(Value.ref D == .ref tp)=false :=
 bQ.mpr λe=>by
  obtain⟨_,_,_,_,lo⟩:=Z.at;rw[Value.ref.inj e]at lo;have:=X _ _ lo;rw[q]at this;cases this
end
end L2
namespace AT
open L2
theorem aoc{α:Type}(x0:α)(xs:List α):atI (x0::xs) 0=some x0:=yr (j:=0) rfl
theorem aod{α:Type}(x0 x1:α)(xs:List α):atI (x0::x1::xs) 1=some x1:=yr (j:=1) rfl
theorem aoe{α:Type}(x0 x1 x2:α)(xs:List α):atI (x0::x1::x2::xs) 2=some x2:=yr (j:=2) rfl
theorem aog{α:Type}(x0 x1 x2 x3:α)(xs:List α):atI (x0::x1::x2::x3::xs) 3=some x3:=yr (j:=3) rfl
theorem aoh{α:Type}(x0 x1 x2 x3 x4:α)(xs:List α):atI (x0::x1::x2::x3::x4::xs) 4=some x4:=yr (j:=4) rfl
theorem aoi{α:Type}(x0 x1 x2 x3 x4 x5:α)(xs:List α):atI (x0::x1::x2::x3::x4::x5::xs) 5=some x5:=yr (j:=5) rfl
theorem aoj{α:Type}(x0 x1 x2 x3 x4 x5 x6:α)(xs:List α):atI (x0::x1::x2::x3::x4::x5::x6::xs) 6=some x6:=yr (j:=6) rfl
theorem aok{α:Type}(x0 x1 x2 x3 x4 x5 x6 x7:α)(xs:List α):atI (x0::x1::x2::x3::x4::x5::x6::x7::xs) 7=some x7:=yr (j:=7) rfl
theorem x10:ixN 1 0=some 0:=rfl
theorem x20:ixN 2 0=some 0:=rfl
theorem x21:ixN 2 1=some 1:=rfl
theorem x30:ixN 3 0=some 0:=rfl
theorem x31:ixN 3 1=some 1:=rfl
theorem x32:ixN 3 2=some 2:=rfl
theorem x40:ixN 4 0=some 0:=rfl
theorem x41:ixN 4 1=some 1:=rfl
theorem x42:ixN 4 2=some 2:=rfl
theorem x43:ixN 4 3=some 3:=rfl
theorem x50:ixN 5 0=some 0:=rfl
theorem x51:ixN 5 1=some 1:=rfl
theorem x52:ixN 5 2=some 2:=rfl
theorem x53:ixN 5 3=some 3:=rfl
theorem x54:ixN 5 4=some 4:=rfl
theorem x60:ixN 6 0=some 0:=rfl
theorem x61:ixN 6 1=some 1:=rfl
theorem x62:ixN 6 2=some 2:=rfl
theorem x63:ixN 6 3=some 3:=rfl
theorem x64:ixN 6 4=some 4:=rfl
theorem x65:ixN 6 5=some 5:=rfl
theorem x70:ixN 7 0=some 0:=rfl
theorem x71:ixN 7 1=some 1:=rfl
theorem x72:ixN 7 2=some 2:=rfl
theorem x73:ixN 7 3=some 3:=rfl
theorem x74:ixN 7 4=some 4:=rfl
theorem x75:ixN 7 5=some 5:=rfl
theorem x76:ixN 7 6=some 6:=rfl
def b42(x:Int):Int:=if x<0 then -x else x
theorem ak7(x:Int)(h:MI.Hd):MI.b18 [.int x] h=.ok (.int (b42 x)) h:=rfl
theorem p18(h:MI.Hd):MI.a95 (.int 10) (.int 18) h=.ok (.int 1000000000000000000) h:=by rw[MI.a95,aJ (by decide)];rfl
theorem ayb{i:Int}(c:0<=j/\j<=1000000/\i.natAbs<2^64):MI.a95 (.int i) (.int j) h=.ok (.int (i^j.toNat)) h:=by rw[MI.a95,aJ c]
end AT
namespace MI
open L2 SeqAt
noncomputable def b2t(neg:Bool)(K:Fg):R2:=λx y H Q=>∃(U:List Addr) (p q:Addr) (vs us:List V) (xs ys:List D),x=.ref p/\y=.ref q/\Rd H p (.lst vs)/\Rd H q (.lst us)/\Reps K U H vs xs/\Reps K U H us ys/\xs.all (pur 59)=true/\ys.all (pur 59)=true/\Q (.bl (if neg then !adn xs ys else adn xs ys)) H
theorem aft(I:Inv X aA Z H s)(hu:X.A.units+64<cLine)(h1:Rd H p (.lst vs))(h2:Rd H q (.lst us))(rs:Reps X.K U H vs xs)(qs:Reps X.K U H us ys)(p1:xs.all (pur 59)=true)(p2:ys.all (pur 59)=true) :
  RcAt X.A s (.ref p) (.ref q) (adn xs ys)/\RcNeAt X.A s (.ref p) (.ref q) (!adn xs ys):=by
 obtain⟨its,r1,pl1,z1⟩:=I.list (.inl h1);obtain⟨its2,r2,pl2,z2⟩:=I.list (.inl h2);have l1:its.toArray.size=xs.length:=by rw[ay,<-r1.length,rs.len]
 have l2:its2.toArray.size=ys.length:=by rw[ay,<-r2.length,qs.len]
 by_cases hl:xs.length=ys.length
 .have step:∀j (h1:j<its.toArray.size) (h2:j<its2.toArray.size),EqAt X.A.in1 s its.toArray[j] its2.toArray[j] (pairE xs ys j):=λj h1 h2=>by
   have j1:j<xs.length:=by omega
   have j2:j<ys.length:=by omega
   obtain⟨v1,e1,q1⟩:=rs.get (ag j1);obtain⟨v2,e2,q2⟩:=qs.get (ag j2);obtain⟨u1,e3,q3⟩:=r1.get e1;obtain⟨u2,e4,q4⟩:=r2.get e2;have f1:its.toArray[j]=u1:=by simpa using (ai.mp e3).2
   have f2:its2.toArray[j]=u2:=by simpa using (ai.mp e4).2
   have pe:pairE xs ys j=eqD xs[j] ys[j]:=by simp[pairE,ag j1,ag j2]
   rw[f1,f2,pe];rw[bN]at p1 p2;exact aqg I.hok 59 X.A.in1 q1 q2 q3 q4 (p1 _ (bW j1)) (p2 _ (bW j2)) (by rw[iR];omega)
  have c1:=RcAt.lists (A:=X.A) (s:=s) (e:=pairE xs ys) pl1.isList pl2.isList (by omega) (by omega) step
  have c2:=RcNeAt.lists (A:=X.A) (s:=s) (e:=pairE xs ys) pl1.isList pl2.isList (by omega) (by omega) step
  have ea:=a4v xs ys;rw[hl,Nat.min_self,eX,Bool.and_true,<-hl]at ea;rw[l1,ea]at c1 c2;exact⟨c1,c2⟩
 .have ne:(its.toArray.size != its2.toArray.size)=true:=by rw[l1,l2];simpa using hl
  have ea:=a4v xs ys;rw[bQ.mpr hl,i7]at ea;rw[<-ea];exact⟨RcAt.lists_lengths pl1.isList pl2.isList ne (by omega),RcNeAt.lists_lengths pl1.isList pl2.isList ne (by omega)⟩
theorem ayc{X:Cx}(hu:X.A.units+64<cLine):OpR X (compareOp .Eq) (b2t false X.K):=by
 intro aA s Z H x y v u Q I rx ry h
 obtain⟨U,p,q,vs,us,xs,ys,rfl,rfl,h1,h2,r1,r2,p1,p2,hq⟩:=h
 cases rx;cases ry
 exact(aft I hu h1 h2 r1 r2 p1 p2).1 X.prog X.w X.xe _ ⟨.bl _,H,I,rfl,hq⟩
theorem ayd{X:Cx}(hu:X.A.units+64<cLine):OpR X (compareOp .NotEq) (b2t true X.K):=by
 intro aA s Z H x y v u Q I rx ry h
 obtain⟨U,p,q,vs,us,xs,ys,rfl,rfl,h1,h2,r1,r2,p1,p2,hq⟩:=h
 cases rx;cases ry
 exact(aft I hu h1 h2 r1 r2 p1 p2).2 X.prog X.w X.xe _ ⟨.bl _,H,I,rfl,hq⟩
noncomputable def atu(neg:Bool)(x y:D)(h:Hd):R D:=match a0i x h,a0i y h with
 |some xs,some ys=>if xs.all (pur 59)=true/\ys.all (pur 59)=true then .ok (.bl (if neg then !adn xs ys else adn xs ys)) h else .no
 |_,_=>.no
theorem ak8(neg:Bool):a1w K (atu neg) (b2t neg K):=by
 intro E U H h x y dx dy Q rx ry hr o
 unfold atu at o
 split at o
 .rename_i xs ys e1 e2
  split at o
  .rename_i hc;obtain⟨a,vs,rfl,h1,r1⟩:=a1y rx hr e1;obtain⟨b,us,rfl,h2,r2⟩:=a1y ry hr e2;exact⟨U,a,b,vs,us,xs,ys,rfl,rfl,h1,h2,r1,r2,hc.1,hc.2,ans o (.bl _) hr⟩
  .exact o.elim
 .exact o.elim
end MI
namespace TPM
open PySem.W L2 HT MI
theorem ahe(t:Addr)(aC:Array Value)(n:Nat)(dd:Option Addr)(sl:Array (Option Value))(u:Tok) :
  Meets (Builtin.«tuple.__mul__» ⟨[.ref t,.int 1 u],[]⟩) (λ_ R s=>s.heap.get? t=some {cls:=.type "tuple",dict:=dd,data:=.seq aC n,slots:=sl}/\R (.ok (.ret (.ref t))) s) :=
 .of_wp λprog w A R s h=>by
  obtain⟨hp,g,d,tk,os⟩:=s;obtain⟨hl,h⟩:=h
  wp_walk
  exact⟨_,rfl,h⟩
def atv(K:Fg):R2:=λx y H Q=>∃a xs,x=.ref a/\y=.int 1/\SqT K H a xs/\Q (.ref a) H
theorem atw:OpR X (binaryOp .Mult) (atv X.K):=by
 intro aA s Z H x y v u Q I rx ry h
 obtain⟨a,xs,rfl,rfl,ha,q⟩:=h;cases rx
 obtain⟨t,rfl⟩:=ry;obtain⟨its,r1,p1,_⟩:=I.tuple ha;obtain⟨⟨cls,dd,data,sl⟩,ho,hc,n,hd⟩:=id p1;simp only at hc hd;subst hc hd;exact dI (T := "tuple") (U := "int") (by decide) ⟨_,ho,rfl⟩ (λs'=>eY s' 1 t) zu fT cY a7u fG.lookup
  (dW cY (eY s 1 t) fH (fq _ _) (a2w 1 t a its.toArray n dd sl)
   ⟨ho,rfl,⟨_,ho,rfl⟩,dW fI ⟨_,ho,rfl⟩ iB (i4 _ _) (ahe a its.toArray n dd sl t) ⟨ho,.ref a,H,I,rfl,q⟩⟩)
end TPM
namespace MI
open L2 TPM
def ahf(x y:D)(h:Hd):R D:=match x,y with
 |.tup xs,.int k=>if k=1 then .ok (.tup xs) h else ak0 (.tup xs) (.int k) h
 |x,y=>ak0 x y h
theorem aam:a1w K ahf (λx y H Q=>((rI CMul (λi j=>.int (i*j)) x y H Q\/ax6 x y H Q)\/ao4 K x y H Q)\/atv K x y H Q):=by
 intro E U H h x y dx dy Q rx ry hr o
 cases rx with
 |@tup a vs xs ha rs =>
  cases ry with
  |int k =>
   simp only[ahf]at o
   split at o
   .rename_i hc;subst hc;exact .inr ⟨a,vs,rfl,rfl,SqT.of ha,ans o (.tup ha rs) hr⟩
   .exact .inl (aag _ _ _ _ _ _ _ _ _ (.tup ha rs) (.int k) hr o)
  |_=>exact o.elim
 |int i=>exact .inl (aag _ _ _ _ _ _ _ _ _ (.int i) ry hr o)
 |ref e=>exact .inl (aag _ _ _ _ _ _ _ _ _ (.ref e) ry hr o)
 |_=>exact o.elim
theorem b5l(ne:xs≠[])(k1:1<=k)(k2:k<=1000)(xl:xs.length<=1000):ahf (.tup xs) (.int (k:Nat)) h=.ok (.tup (List.replicate k xs).flatten) h:=by
 unfold ahf;dsimp only
 by_cases e:(k:Int)=1
 .rw[aJ e];have:k=1:=by omega
  subst this;simp
 .rw[ba e];unfold ak0;dsimp only;have hl:xs.length*(k:Int).toNat<=LINE:=by
   rw[ee];have:xs.length*k<=1000*1000:=dM xl k2;show xs.length*k<=16777216;omega
  exact(aJ ⟨⟨ne,by omega,by omega⟩,hl⟩).trans (by rw[ee])
end MI
namespace SETA
open PySem.SetTable
def ai9(xs:Array Nat):Prop:=∀i j (hi:i<xs.size) (hj:j<xs.size),i<j->xs[i]<xs[j]
theorem atx(xs:Array Nat)(ri:ai9 xs)(j:Nat):∀(fuel lo hi:Nat),hi-lo<=fuel->lo<=hi->hi<=xs.size->(∀i (h:i<xs.size),i<lo->xs[i]<j)->(∀i (h:i<xs.size),hi<=i->j<=xs[i])->
  lo<=below.go xs j fuel lo hi/\below.go xs j fuel lo hi<=hi/\(∀i (h:i<xs.size),i<below.go xs j fuel lo hi->xs[i]<j)/\∀i (h:i<xs.size),below.go xs j fuel lo hi<=i->j<=xs[i]:=by
 intro fuel
 induction fuel with
 |zero =>
  intro lo hi h1 h2 h3 a b
  have:lo=hi:=by omega
  subst this;exact⟨aw _,aw _,a,b⟩
 |succ fuel ih =>
  intro lo hi h1 h2 h3 a b
  unfold below.go
  split
  .rename_i c;have hm:(lo+hi) / 2<xs.size:=by omega
   have e:xs.getD ((lo+hi) / 2) j=xs[(lo+hi) / 2]:=by simp[Array.getD,hm]
   dsimp only;rw[e]
   split
   .rename_i q;have r:=ih ((lo+hi) / 2+1) hi (by omega) (by omega) h3 (λi h z=>by
     by_cases y:i=(lo+hi) / 2
     .subst y;exact q
     .exact Nat.lt_trans (ri i _ h hm (by omega)) q) b
    exact⟨by omega,r.2.1,r.2.2⟩
   .rename_i q;have r:=ih lo ((lo+hi) / 2) (by omega) (by omega) (by omega) a (λi h z=>by
     by_cases y:i=(lo+hi) / 2
     .subst y;omega
     .have:=ri _ i hm h (by omega);omega)
    exact⟨r.1,by omega,r.2.2⟩
  .have:lo=hi:=by omega
   subst this;exact⟨aw _,aw _,a,b⟩
theorem a1r(ri:ai9 xs)(j:Nat):below xs j<=xs.size/\(∀i (h:i<xs.size),i<below xs j->xs[i]<j)/\∀i (h:i<xs.size),below xs j<=i->j<=xs[i]:=by
 have:=atx xs ri j xs.size 0 xs.size (by omega) (by omega) (aw _) (λi _ z=>absurd z (gX i)) λi h z=>absurd h (by omega)
 exact⟨this.2.1,this.2.2⟩
theorem below_at(ri:ai9 xs)(hk:k<xs.size):below xs xs[k]=k:=by
 obtain⟨h1,h2,h3⟩:=a1r ri xs[k]
 apply eJ
 intro z
 rcases i3 z with c|c
 .have:=h3 (below xs xs[k]) (by omega) (aw _)
  have:=ri (below xs xs[k]) k (by omega) hk c
  omega
 .have:=h2 k hk c
  omega
theorem ahg(ri:ai9 xs)(hk:k<xs.size):below xs (xs[k]+1)=k+1:=by
 obtain⟨h1,h2,h3⟩:=a1r ri (xs[k]+1)
 apply eJ
 intro z
 rcases i3 z with c|c
 .have:=h3 k hk (by omega)
  omega
 .have:=h2 (k+1) (by omega) c
  have:=ri k (k+1) hk (by omega) (by omega)
  omega
theorem aty(ri:ai9 xs):below xs 0=0:=by
 obtain⟨h1,h2,h3⟩:=a1r ri 0
 apply eJ
 intro z
 have:=h2 0 (by omega) (by omega)
 omega
structure Gd (t:SetTable):Prop where
 ri:ai9 t.place
 dm:t.dummies = #[]
theorem ahh:ai9 #[]:=λi j hi=>absurd hi (by simp)
theorem aol(f m:Nat)(l:Bool):Gd (.fresh f m l):=⟨ahh,rfl⟩
theorem ahi(n:Nat):ai9 (Array.range n):=λi j hi hj h=>by simpa using h
theorem a7x{l:List Nat}(h:l.Pairwise (· < ·)):ai9 l.toArray:=λi j hi hj c=>by
 have:=cR.mp h i j (by simpa using hi) (by simpa using hj) c
 simpa using this
theorem acq(h:ai9 xs):xs.toList.Pairwise (· < ·):=cR.mpr λi j hi hj c=>by
 have:=h i j (by simpa using hi) (by simpa using hj) c
 simpa using this
theorem a9a(t:SetTable)(n:Nat):Gd (t.standIn n):=⟨ahi n,rfl⟩
theorem acr(g:Gd t)(n:Nat):Gd (t.orStandIn n):=by
 unfold SetTable.orStandIn
 split
 .exact g
 .exact a9a t n
theorem a7y(j:Nat):has #[] j=false:=by simp[has]
theorem ahj(g:Gd t)(h:t.slot j=.empty):∀k (hk:k<t.place.size),t.place[k]≠j:=λk hk e=>by
 subst e;unfold SetTable.slot at h;simp only[below_at g.ri hk]at h;rw[aJ (by simp[hk])]at h
 cases h
theorem aom(g:Gd t):∀(fuel:Nat) (p:Probe) (j:Nat) (d:Option Nat),p.dummy=none->SetTable.probe.go t ha h fuel p=some (.empty j d)->t.slot j=.empty/\d=none:=by
 intro fuel
 induction fuel with
 |zero=>intro p j d _ z;simp[SetTable.probe.go]at z
 |succ fuel ih =>
  intro p j d hp z
  unfold SetTable.probe.go at z
  cases e:t.slot p.j with
  |empty =>
   rw[e]at z;simp only[gA,Met.empty.injEq]at z;obtain⟨rfl,rfl⟩:=z;exact⟨e,hp⟩
  |dummy =>
   exfalso
   unfold SetTable.slot at e;rw[g.dm,a7y]at e;dsimp only at e
   split at e<;>simp at e
  |live i =>
   rw[e]at z;dsimp only at z
   split at z
   .cases z
   .refine ih _ j d ?_ z;unfold SetTable.advance
    split
    .exact hp
    .exact hp
theorem a7z(g:Gd t)(e:t.freeSlot h=some (j,b)):(∀k (hk:k<t.place.size),t.place[k]≠j)/\b=false:=by
 unfold SetTable.freeSlot at e
 split at e
 .rename_i j' d q;obtain⟨h1,h2⟩:=aom g _ _ _ _ rfl q;subst h2;simp only[iO,Option.isSome_none,gA,jH]at e;obtain⟨rfl,rfl⟩:=e;exact⟨ahj g h1,rfl⟩
 .cases e
theorem ae8(ri:ai9 xs)(h:∀k (hk:k<xs.size),xs[k]≠j):ai9 (SetTable.insertAt xs (below xs j) j):=by
 obtain⟨h1,h2,h3⟩:=a1r ri j;have e:(SetTable.insertAt xs (below xs j) j)=(xs.toList.take (below xs j)++j::xs.toList.drop (below xs j)).toArray:=by
  exact Array.ext' ((SetTable.toList_insertAt _ _ _).trans (by simp))
 rw[e];refine a7x ?_;have rl:=acq ri;rw[List.pairwise_append];refine⟨rl.sublist (ic _ _),List.pairwise_cons.mpr ⟨λa ha=>?_,rl.sublist (List.drop_sublist _ _)⟩,λa ha b hb=>?_⟩
 .obtain⟨i,hi,rfl⟩:=fA.mp ha;rw[List.getElem_drop];rw[aY,bp]at hi;have h4:=h3 (below xs j+i) (by omega) (by omega)
  have h5:=h (below xs j+i) (by omega)
  rw[gN];omega
 .obtain⟨i,hi,rfl⟩:=fA.mp ha;rw[List.getElem_take];rw[aQ,bp]at hi;have h4:=h2 i (by omega) (by omega)
  rw[gN]
  rcases aL.mp hb with rfl|hb
  .exact h4
  .obtain⟨k,hk,rfl⟩:=fA.mp hb;rw[List.getElem_drop];rw[aY,bp]at hk;have h6:=h3 (below xs j+k) (by omega) (by omega)
   rw[gN];omega
theorem aqp(g:Gd t)(h:∀k (hk:k<t.place.size),t.place[k]≠j):Gd (t.put j).1:=by
 refine⟨ae8 g.ri h,?_⟩;show(if has t.dummies j=true then _ else t.dummies) = #[]
 rw[g.dm,a7y];rfl
theorem ak9(g:Gd t)(es:Array (Int×Value))(h:Int)(x:Value):Gd (layNew t es h x).2.1/\(layNew t es h x).2.2.1=false:=by
 unfold layNew
 split
 .rename_i slot wd e;obtain⟨h1,h2⟩:=a7z g e;exact⟨acr (aqp g h1) _,h2⟩
 .exact⟨a9a _ _,rfl⟩
theorem aka{mask f m:Nat}{t:SetTable}(e:SetTable.laid mask f m l p hs=some (t,o)):Gd t/\t.led=l:=by
 unfold SetTable.laid at e
 cases q:layClean mask hs with
 |none=>rw[q]at e;cases e
 |some owner =>
  rw[q]at e;simp only[Option.bind_eq_bind,iT,Option.pure_def,gA,jH]at e;obtain⟨rfl,rfl⟩:=e;refine⟨⟨a7x ?_,rfl⟩,rfl⟩;have:∀l:List Nat,l.Pairwise (· < ·)->((l.filterMap λj=>(owner.getD j none).map (j, ·)).map (·.1)).Pairwise (· < ·):=λl hl=>by
   have sub:((l.filterMap λj=>(owner.getD j none).map (j, ·)).map (·.1)).Sublist l:=by
    clear hl
    induction l with
    |nil=>exact .slnil
    |cons a l ih =>
     cases q:owner.getD a none with
     |none =>
      rw[List.filterMap_cons_none (by rw[q];rfl)]
      exact .cons _ ih
     |some b =>
      rw[List.filterMap_cons_some (b:=(a,b)) (by rw[q];rfl),aZ]
      exact .cons₂ _ ih
   exact hl.sublist sub
  exact this _ List.pairwise_lt_range
theorem aan(t:SetTable)(n:Nat):(t.orStandIn n).led=t.led:=by
 unfold SetTable.orStandIn
 split<;>rfl
theorem ahk(t:SetTable)(es:Array (Int×Value))(h:Int)(x:Value):(layNew t es h x).2.1.led=t.led:=by
 unfold layNew
 split
 .exact aan _ _
 .rfl
theorem akb(t:SetTable)(es:Array (Int×Value))(n:Nat):(relayAll t es n).2.1.led=t.led:=by
 unfold relayAll
 split
 .rename_i t' o e;dsimp only
  split
  .exact(aka e).2
  .rfl
 .rfl
end SETA
namespace SETH
def it:Nat->Nat->Nat
 |0,x=>x
 |n+1,x=>it n (5*x+1)
theorem akc(m:Nat):∀(n x:Nat),it (n+m) x=it m (it n x)
 |0,x=>by rw[i5];rfl
 |n+1,x=>by rw[show n+1+m=(n+m)+1 by omega];exact akc m n _
theorem aqq:∀k:Nat,∃c,∀x,it (2^k) x=(4*(2^k*(2*c+1))+1)*x+2^k*(2*c+1)
 |0=>⟨0,λx=>by show 5*x+1=_;omega⟩
 |k+1=>by
  obtain⟨c,h⟩:=aqq k;refine⟨2*c*(2^k*(2*c+1))+c+2^k*(2*c+1),λx=>?_⟩;have e:2^(k+1)=2^k+2^k:=by rw[jv];omega
  rw[e,akc,h,h]
  generalize 2^k=P
  grind
theorem full:∀(k x y:Nat),∃n,n<2^k/\it n x%2^k=y%2^k
 |0,x,y=>⟨0,by decide,by rw[Nat.pow_zero,Nat.mod_one,Nat.mod_one]⟩
 |k+1,x,y=>by
  obtain⟨n,hn,e⟩:=full k x y;obtain⟨c,h⟩:=aqq k;have hp:0<2^k:=Nat.pow_pos (by decide)
  rw[jv]
  by_cases q:it n x / 2^k%2=y / 2^k%2
  .exact⟨n,by omega,by rw[jE,jE,e,q]⟩
  .refine⟨n+2^k,by omega,?_⟩
   rw[akc,h]
   generalize 2^k=P at *
   generalize it n x=z at *
   have:(4*(P*(2*c+1))+1)*z+P*(2*c+1)=(z+P)+P*2*(2*(2*c+1)*z+c):=by grind
   rw[this,Nat.add_mul_mod_self_left,jE,jE,Nat.add_mod_right,e,Nat.add_div_right _ hp]
   congr 2
   omega
def im(M:Nat):Nat->Nat->Nat
 |0,x=>x
 |n+1,x=>im M n ((x*5+1)%M)
theorem aye(M:Nat):∀(n x:Nat),im M n x%M=it n x%M
 |0,x=>rfl
 |n+1,x=>by
  show im M n _%M=it n _%M;rw[aye M n];have:∀n a b,a%M=b%M->it n a%M=it n b%M:=by
   intro n
   induction n with
   |zero=>exact λa b h=>h
   |succ n ih=>exact λa b h=>ih _ _ (by rw[Nat.add_mod,Nat.mul_mod,h,<-Nat.mul_mod,<-Nat.add_mod])
  exact this n _ _ (by rw[Nat.mod_mod,fO])
theorem ayf(hM:0<M):∀(n x:Nat),x<M->im M n x<M
 |0,x,h=>h
 |n+1,x,h=>ayf hM n _ (gB _ hM)
theorem atz(hx:x<2^k)(hy:y<2^k):∃n,n<2^k/\im (2^k) n x=y:=by
 obtain⟨n,hn,e⟩:=full k x y;refine⟨n,hn,?_⟩;rw[<-aye,Nat.mod_eq_of_lt hy,Nat.mod_eq_of_lt (ayf (by omega) n x hx)]at e
 exact e
open PySem.SetTable
def ls(mask:Nat):Nat->Nat×Nat->Nat×Nat
 |0,x=>x
 |n+1,x=>ls mask n (leap mask x.1 x.2)
theorem aqr(mask m:Nat):∀(n:Nat) (x:Nat×Nat),ls mask (n+m) x=ls mask m (ls mask n x)
 |0,x=>by rw[i5];rfl
 |n+1,x=>by rw[show n+1+m=(n+m)+1 by omega];exact aqr mask m n _
theorem a9b(mask:Nat):∀(n:Nat) (x:Nat×Nat),(ls mask n x).2=x.2 / 32^n
 |0,x=>by rw[Nat.pow_zero,Nat.div_one];rfl
 |n+1,x=>by
  show(ls mask n _).2=_;rw[a9b mask n,jv,fO,<-Nat.div_div_eq_div_mul];rfl
theorem ayg(mask:Nat):∀(n:Nat) (x:Nat×Nat),x.1<=mask->(ls mask n x).1<=mask
 |0,x,h=>h
 |n+1,x,h=>ayg mask n _ (ei (gB _ (dQ _)))
theorem ayh(mask:Nat):∀(n i:Nat),ls mask n (i,0)=(im (mask+1) n i,0)
 |0,i=>rfl
 |n+1,i=>by
  show ls mask n (leap mask i 0)=(im (mask+1) n _,0);rw[<-ayh mask n];rfl
theorem hit{mask k i p y:Nat}(hk:mask+1=2^k)(hi:i<=mask)(hp:p<2^64)(hy:y<=mask):∃m,m<mask+14/\(ls mask m (i,p)).1=y:=by
 have e:ls mask 13 (i,p)=((ls mask 13 (i,p)).1,0):=by
  refine Prod.ext rfl ?_;rw[a9b];show p / 32^13=0;exact Nat.div_eq_of_lt (by omega)
 have h13:=ayg mask 13 (i,p) hi;obtain⟨n,hn,en⟩:=atz (k:=k) (x:=(ls mask 13 (i,p)).1) (y:=y) (by omega) (by omega)
 refine⟨13+n,by omega,?_⟩
 rw[aqr,e,ayh];show im (mask+1) n _=y;rw[hk];exact en
end SETH
namespace SETH
open PySem.SetTable SETA
theorem a80(mask i:Nat):i<=runEnd mask i:=by unfold runEnd;split<;>omega
theorem a81{mask i:Nat}(h:i<=mask):runEnd mask i<=mask:=by unfold runEnd;split<;>omega
theorem afu(mask i:Nat):runEnd mask i-i<=9:=by unfold runEnd;split<;>omega
theorem acs{mask:Nat}{owner:Array (Option Nat)}:∀(fuel i p m:Nat),m<fuel->i<=mask->owner.getD (ls mask m (i,p)).1 (some 0)=none->∃j,layClean.free mask owner fuel i p=some j/\j<=mask/\owner.getD j (some 0)=none
 |0,i,p,m,h,_,_=>absurd h (gX _)
 |fuel+1,i,p,m,h,hi,e=>by
  unfold layClean.free;have ge:=a80 mask i;have le:=a81 hi
  split
  .rename_i k hk;refine⟨_,rfl,?_,?_⟩
   .have:=List.mem_of_find?_eq_some hk
    rw[dH]at this;omega
   .have:=List.find?_some hk
    exact ia.mp this
  .rename_i hk
   cases m with
   |zero =>
    have:=List.find?_eq_none.mp hk 0 (dH.mpr (by omega))
    exact absurd (ia.mpr e) this
   |succ m=>exact acs fuel _ _ m (by omega) (ei (gB _ (dQ _))) e
theorem a6d{t:SetTable}{p:Probe}(h:p.more > 0):t.advance p={p with j:=p.j+1,more:=p.more-1}:=by unfold advance;rw[aJ h]
theorem a6e{t:SetTable}{p:Probe}(h:p.more=0):t.advance p={p with j:=(leap t.mask p.i p.perturb).1,more:=runEnd t.mask (leap t.mask p.i p.perturb).1-(leap t.mask p.i p.perturb).1,i:=(leap t.mask p.i p.perturb).1,perturb:=(leap t.mask p.i p.perturb).2}:=by unfold advance;rw[ba (by omega)]
theorem ae9{t:SetTable}:∀(fuel m:Nat) (p:Probe),p.more+10*m+1<fuel->t.slot (ls t.mask (m+1) (p.i,p.perturb)).1=.empty->∃j d,probe.go t (λ_=>h+1) h fuel p=some (.empty j d)
 |0,m,p,hf,_=>absurd hf (gX _)
 |fuel+1,m,p,hf,e=>by
  have ne:(h+1 == h)=false:=by simpa using (by omega:h+1≠h)
  have next:∀d,∃j d',probe.go t (λ_=>h+1) h fuel (t.advance {p with dummy:=d})=some (.empty j d'):=λd=>by
   by_cases hm:p.more > 0
   .rw[a6d (by exact hm)]
    exact ae9 fuel m _ (by show p.more-1+10*m+1<fuel;omega) e
   .rw[a6e (by show p.more=0;omega)]
    cases m with
    |zero =>
     cases fuel with
     |zero=>omega
     |succ fuel =>
      have e:t.slot (leap t.mask p.i p.perturb).1=.empty:=e;unfold probe.go;simp only[e];exact⟨_,_,rfl⟩
    |succ m =>
     have:=afu t.mask (leap t.mask p.i p.perturb).1
     exact ae9 fuel m _ (by show runEnd t.mask (leap t.mask p.i p.perturb).1-(leap t.mask p.i p.perturb).1+10*m+1<fuel;omega) e
  unfold probe.go
  split
  .exact⟨_,_,rfl⟩
  .exact next _
  .rw[ne];exact next p.dummy
theorem akd{t:SetTable}(hd:t.dummies = #[])(hy:∀k (hk:k<t.place.size),t.place[k]≠y):t.slot y=.empty:=by
 unfold slot;dsimp only;rw[ba,hd,a7y]
 .rfl
 .intro c
  have c:t.place[below t.place y]? = some y:=by simpa using c
  obtain⟨hk,e⟩:=hJ.mp c;exact hy _ hk e
theorem aao{t:SetTable}(hk:t.mask+1=2^k)(hd:t.dummies = #[])(hy:y<=t.mask)(fr:∀k (hk:k<t.place.size),t.place[k]≠y)(h:Int):∃r,t.freeSlot h=some r:=by
 have sl:=akd hd fr;have hi:bits h%(t.mask+1)<=t.mask:=ei (gB _ (dQ _));have hb:bits h<2^64:=by unfold bits;omega
 obtain⟨m,hm,e⟩:=hit hk hi hb hy;have r9:=afu t.mask (bits h%(t.mask+1));have:∃j d,t.probe (λ_=>h+1) h (t.probeStart h)=some (.empty j d):=by
  unfold probe turns
  cases m with
  |zero =>
   have e:bits h%(t.mask+1)=y:=e;rw[show 10*(t.mask+15)=(10*(t.mask+15)-1)+1 by omega]
   unfold probe.go probeStart;simp only[e,sl];exact⟨_,_,rfl⟩
  |succ m=>exact ae9 _ m _ (by show runEnd t.mask (bits h%(t.mask+1))-bits h%(t.mask+1)+10*m+1<_;omega) (by rw[<-e]at sl;exact sl)
 obtain⟨j,d,x⟩:=this;unfold freeSlot;rw[x];exact⟨_,rfl⟩
theorem ake:∀l:List (Option Nat),(l.filterMap id).length<l.length->∃i,∃h:i<l.length,l[i]=none
 |[],h=>absurd h (bU _)
 |none::l,_=>⟨0,dQ _,rfl⟩
 |some x::l,h=>by
  obtain⟨i,hi,e⟩:=ake l (by simpa using h)
  exact⟨i+1,Nat.succ_lt_succ hi,e⟩
theorem afv(k:Nat):∀(l:List (Option Nat)) (i:Nat) (h:i<l.length),l[i]=none->((l.set i (some k)).filterMap id).Perm (k::l.filterMap id)
 |x::l,0,_,e=>by
  have e:x=none:=e;subst e;simp
 |x::l,i+1,h,e=>by
  have ih:=afv k l i (Nat.lt_of_succ_lt_succ h) e
  cases x with
  |none=>simpa using ih
  |some x =>
   simp only[List.set_cons_succ,dC,id];exact(ih.cons x).trans (List.Perm.swap ..)
structure Own (mask n:Nat) (o:Array (Option Nat)):Prop where
 size:o.size=mask+1
 all:(o.toList.filterMap id).Perm (List.range n)
theorem b2u(mask:Nat):Own mask 0 (Array.replicate (mask+1) none) where
 size:=by simp
 all:=by simp
theorem Own.free{mask n:Nat}{o:Array (Option Nat)}(w:Own mask n o)(hn:n<=mask):∃y,y<=mask/\o.getD y (some 0)=none:=by
 have:=w.all.length_eq
 rw[cV]at this;obtain⟨i,hi,e⟩:=ake o.toList (by rw[this,bp,w.size];omega)
 have hs:i<o.size:=by simpa using hi
 refine⟨i,by have:=w.size;omega,?_⟩
 simp only[Array.getD,hs,dif_pos];simpa using e
theorem Own.put{mask n j:Nat}{o:Array (Option Nat)}(w:Own mask n o)(hj:j<=mask)(e:o.getD j (some 0)=none):Own mask (n+1) (o.setIfInBounds j (some n)) where
 size:=by rw[Array.size_setIfInBounds];exact w.size
 all:=by
  have hs:j<o.size:=by have:=w.size;omega
  have e:o.toList[j]'(by simpa using hs)=none:=by
   simp only[Array.getD,hs,dif_pos]at e;simpa using e
  rw[Array.toList_setIfInBounds,List.range_succ];exact(afv n _ _ _ e).trans ((w.all.cons n).trans (List.perm_append_singleton n _).symm)
theorem afw{mask k:Nat}(hk:mask+1=2^k)
  (hF:∀o n h j,layClean.free mask o (turns mask) (bits h%(mask+1)) (bits h)=some j->F (some (o,n)) h=some (o.setIfInBounds j (some n),n+1)) :
  ∀(hs:List Int) (o:Array (Option Nat)) (n:Nat),Own mask n o->n+hs.length<=mask+1->∃o',hs.foldl F (some (o,n))=some (o',n+hs.length)/\Own mask (n+hs.length) o'
 |[],o,n,w,_=>⟨o,rfl,w⟩
 |h::hs,o,n,w,le=>by
  rw[aN]at le ⊢;obtain⟨y,hy,e⟩:=w.free (by omega)
  have hi:bits h%(mask+1)<=mask:=ei (gB _ (dQ _));obtain⟨m,hm,em⟩:=hit hk hi (p:=bits h) (by unfold bits;omega) hy
  obtain⟨j,ej,hj,fj⟩:=acs (turns mask) (bits h%(mask+1)) (bits h) m (by unfold turns;omega) hi (by rw[em];exact e)
  obtain⟨o',eo,wo⟩:=afw hk hF hs _ (n+1) (w.put hj fj) (by omega)
  refine⟨o',?_,by rw[show n+(hs.length+1)=n+1+hs.length by omega];exact wo⟩
  rw[gS,hF o n h j ej,eo,show n+(hs.length+1)=n+1+hs.length by omega]
theorem aon{mask k:Nat}(hk:mask+1=2^k)(hs:Array Int)(le:hs.size<=mask+1)
  (hF:∀o n h j,layClean.free mask o (turns mask) (bits h%(mask+1)) (bits h)=some j->F (some (o,n)) h=some (o.setIfInBounds j (some n),n+1)) :
  ∃o,(hs.toList.foldl F (some (Array.replicate (mask+1) none,0))).map (·.1)=some o/\Own mask hs.size o:=by
 obtain⟨o,e,w⟩:=afw hk hF hs.toList _ 0 (b2u mask) (by simpa using le)
 rw[e];exact⟨o,rfl,by simpa using w⟩
theorem ahl{mask k:Nat}(hk:mask+1=2^k)(hs:Array Int)(le:hs.size<=mask+1):∃o,layClean mask hs=some o/\Own mask hs.size o:=by
 unfold layClean;rw[<-Array.foldl_toList];refine aon hk hs le λo n h j ej=>?_;simp only[Option.bind_eq_bind,iT,ej];rfl
theorem aop{mask n:Nat}{o:Array (Option Nat)}(w:Own mask n o):((List.range (mask+1)).filterMap λj=>(o.getD j none).map (j, ·)).map (·.2)=o.toList.filterMap id:=by
 have e:o.toList=(List.range (mask+1)).map λj=>o.getD j none:=by
  refine iS (by simp[w.size]) λi h1 h2=>?_
  have hs:i<o.size:=by simpa using h1
  simp[Array.getD,hs]
 rw[e,hW,List.map_filterMap]
 congr 1
 funext j
 show _=o.getD j none
 cases o.getD j none<;>rfl
theorem akf{mask k f m:Nat}(hk:mask+1=2^k)(hs:Array Int)(le:hs.size<=mask+1):∃t o,laid mask f m l p hs=some (t,o)/\t.mask=mask/\t.dummies = #[]/\t.plain=p/\t.place.size=hs.size/\(∀i (h:i<t.place.size),t.place[i]<=mask)/\o.toList.Perm (List.range hs.size):=by
 obtain⟨o,e,w⟩:=ahl hk hs le;unfold laid;rw[e];have ls:=aop w;have len:((List.range (mask+1)).filterMap λj=>(o.getD j none).map (j, ·)).length=hs.size:=by
  have:=w.all.length_eq
  rw[<-ls,ar,cV]at this;exact this
 refine⟨_,_,rfl,rfl,rfl,rfl,by simpa using len,λi hi=>?_,?_⟩
 .have hm:=iC hi;simp only[List.mem_toArray,cf,hV,dH]at hm;obtain⟨⟨a,b⟩,⟨j,hj,x⟩,y⟩:=hm
  cases g:o.getD j none with
  |none=>rw[g]at x;cases x
  |some z =>
   rw[g]at x;cases x
   exact ei (y ▸ hj)
 .show List.Perm (List.map _ _) _;exact(ls ▸ w.all)
theorem afx(n:Nat):∀(fuel a:Nat),n<2^(a+fuel)->∃b,a<=b/\sizeAbove.go n fuel (2^a)=2^b/\n<2^b
 |0,a,h=>⟨a,aw _,rfl,h⟩
 |fuel+1,a,h=>by
  unfold sizeAbove.go
  split
  .obtain⟨b,h1,h2,h3⟩:=afx n fuel (a+1) (by rw[show a+1+fuel=a+(fuel+1) by omega];exact h)
   exact⟨b,by omega,h2,h3⟩
  .exact⟨a,aw _,rfl,by omega⟩
theorem above(h:n<2^67):∃b,3<=b/\sizeAbove n=2^b/\n<2^b:=afx n 64 3 h
theorem gap:∀(l:List Nat) (a:Nat),l.Pairwise (· < ·)->(∀x∈l,a<=x)->∃y,a<=y/\y<=a+l.length/\y∉l
 |[],a,_,_=>⟨a,aw _,aw _,bg⟩
 |x::l,a,p,g=>by
  obtain⟨p1,p2⟩:=List.pairwise_cons.mp p;have gx:=g x (bB ..);rw[aN]
  by_cases e:x=a
  .obtain⟨y,h1,h2,h3⟩:=gap l (a+1) p2 λz hz=>by have:=p1 z hz;omega
   exact⟨y,by omega,by omega,λc=>(aL.mp c).elim (λc=>by omega) h3⟩
  .exact⟨a,aw _,by omega,λc=>(aL.mp c).elim (λc=>e c.symm) λc=>by have:=p1 a c;omega⟩
structure Gs (t:SetTable):Prop where
 gd:Gd t
 pow:∃k,t.mask+1=2^k
 big:7<=t.mask
 le:∀i (h:i<t.place.size),t.place[i]<=t.mask
 plain:t.plain=true
theorem aoq(f m:Nat)(l:Bool):Gs (.fresh f m l):=⟨aol f m l,⟨3,rfl⟩,aw _,λi h=>absurd h (gX _),rfl⟩
theorem aap(g:Gd t):t.fill=t.place.size:=by unfold fill;rw[g.dm];rfl
theorem a9c{t:SetTable}{p:Probe}(h:p.j+p.more<=t.mask):(t.advance p).j+(t.advance p).more<=t.mask:=by
 by_cases hm:p.more > 0
 .rw[a6d hm];show p.j+1+(p.more-1)<=_;omega
 .rw[a6e (by omega)]
  have h1:(leap t.mask p.i p.perturb).1<=t.mask:=ei (gB _ (dQ _));have h2:=a81 h1;have h3:=a80 t.mask (leap t.mask p.i p.perturb).1;show(leap t.mask p.i p.perturb).1+(runEnd t.mask (leap t.mask p.i p.perturb).1-(leap t.mask p.i p.perturb).1)<=_;omega
theorem au0{t:SetTable}:∀(fuel:Nat) (p:Probe) (j:Nat) (d:Option Nat),p.j+p.more<=t.mask->probe.go t ha h fuel p=some (.empty j d)->j<=t.mask
 |0,p,j,d,_,e=>by cases e
 |fuel+1,p,j,d,hp,e=>by
  unfold probe.go at e
  split at e
  .cases e
   omega
  .exact au0 fuel _ j d (a9c (p:={p with dummy:=some p.j}) hp) e
  .split at e
   .cases e
   .exact au0 fuel _ j d (a9c hp) e
theorem au1{t:SetTable}(e:t.freeSlot h=some (j,b))(hb:b=false):j<=t.mask:=by
 unfold freeSlot at e
 split at e
 .rename_i j' d x;have:=au0 _ _ j' d (by
   have h1:bits h%(t.mask+1)<=t.mask:=ei (gB _ (dQ _));have h2:=a81 h1;have h3:=a80 t.mask (bits h%(t.mask+1));show bits h%(t.mask+1)+(runEnd t.mask (bits h%(t.mask+1))-bits h%(t.mask+1))<=t.mask;omega) x
  cases d with
  |none=>cases e;exact this
  |some d=>cases e;cases hb
 .cases e
theorem aqs{xs:Array Nat}(h:z∈xs.extract a b):z∈xs:=by
 obtain⟨i,hi,e⟩:=gH.mp h;rw[Array.getElem_extract]at e;exact e ▸ iC _
theorem a82{α:Type}(xs:Array α)(p:Nat)(x:α)(hp:p<=xs.size):(insertAt xs p x).size=xs.size+1:=by
 simp[insertAt]
 omega
theorem akg(g:Gs t)(es:Array (Int×Value))(hs:t.place.size=es.size)(aG:t.fill*5<t.mask*3)(h:Int)(x:Value) :
  Gs (layNew t es h x).2.1/\(layNew t es h x).2.2.2=false/\(layNew t es h x).2.1.fits (layNew t es h x).1.size=true/\(layNew t es h x).2.1.mask=t.mask/\(layNew t es h x).2.1.place.size=es.size+1:=by
 have big:=g.big;have fl:=aap g.gd;obtain⟨k,hk⟩:=g.pow;obtain⟨y,_,hy,ny⟩:=gap t.place.toList 0 (acq g.gd.ri) λ_ _=>bb _;rw[bp]at hy;obtain⟨⟨j,b⟩,e⟩:=aao hk g.gd.dm (y:=y) (by omega) (λi hi c=>ny (by rw[<-c];simp)) h
 obtain⟨f1,f2⟩:=a7z g.gd e;have hj:=au1 e f2;have bl:=(a1r g.gd.ri j).1;have sz1:(t.put j).1.place.size=es.size+1:=by
  show(insertAt t.place _ j).size=_;rw[a82 _ _ _ bl,hs]
 have sz2:(insertAt es (t.put j).2 (h,x)).size=es.size+1:=a82 _ _ _ (by show below t.place j<=_;omega)
 have gp:=aqp g.gd f1;have ft:(t.put j).1.fits (insertAt es (t.put j).2 (h,x)).size=true:=by
  unfold fits;rw[aap gp,sz1,sz2];have:es.size+1<=(t.put j).1.mask:=by show _<=t.mask;omega
  simp[this]
 have pl:∀z∈(t.put j).1.place,z<=t.mask:=λz hz=>by
  have hz:z∈insertAt t.place (below t.place j) j:=hz;simp only[insertAt,Array.mem_append,Array.mem_push]at hz
  rcases hz with(hz|hz)|hz
  .obtain⟨i,hi,e⟩:=gH.mp (aqs hz);exact e ▸ g.le i hi
  .omega
  .obtain⟨i,hi,e⟩:=gH.mp (aqs hz);exact e ▸ g.le i hi
 have gs:Gs (t.put j).1:=⟨gp,g.pow,g.big,λi hi=>pl _ (iC hi),g.plain⟩;have eq:layNew t es h x=(insertAt es (t.put j).2 (h,x),(t.put j).1,b,false):=by
  unfold layNew;rw[e];simp only[ft,orStandIn,dO,jI]
 rw[eq];exact⟨gs,rfl,ft,rfl,sz1⟩
theorem aqt{es:Array (Int×Value)}:∀l:List Nat,(∀x∈l,x<es.size)->(l.filterMap (es[·]?)).length=l.length
 |[],_=>rfl
 |x::l,h=>by
  rw[dC,bO (h x (bB ..))];exact aI (·+1) (aqt l λz hz=>h z (aW _ hz))
theorem aor(g:Gs t)(es:Array (Int×Value))(hn:n<2^67)(big:es.size*2<=n)(pos:0<es.size) :
  Gs (relayAll t es n).2.1/\(relayAll t es n).2.2=false/\(relayAll t es n).2.1.fits (relayAll t es n).1.size=true/\(relayAll t es n).2.1.fill*5<(relayAll t es n).2.1.mask*3:=by
 obtain⟨b,h3,eb,lb⟩:=above hn;have p8:2^3<=2^b:=Nat.pow_le_pow_right (by decide) h3
 have hk:sizeAbove n-1+1=2^b:=by omega
 obtain⟨t',o,e,hm,hd,hp,hs,hl,ho⟩:=akf (f:=t.finger) (m:=t.movedTo (sizeAbove n-1)) (l:=t.led) (p:=t.plain) hk (es.map (·.1)) (by rw[Array.size_map];omega)
 rw[Array.size_map]at hs ho;have gd':=(aka e).1;have cov:coversAll o es.size=true:=List.isPerm_iff.mpr ho;have sz:(o.filterMap (es[·]?)).size=es.size:=by
  rw[<-bp,Array.toList_filterMap,aqt _ λx hx=>dH.mp (ho.mem_iff.mp hx),ho.length_eq,cV]
 have fl:=aap gd';have ft:t'.fits (o.filterMap (es[·]?)).size=true:=by
  unfold fits;rw[fl,sz,hs];have:es.size<=t'.mask:=by omega
  simp[this]
 have eq:relayAll t es n=(o.filterMap (es[·]?),t',false):=by
  unfold relayAll relaid;rw[e];simp only[cov,ft,Bool.and_self,dO]
 rw[eq];exact⟨⟨gd',⟨b,by rw[hm];exact hk⟩,by rw[hm];omega,λi hi=>by rw[hm];exact hl i hi,hp.trans g.plain⟩,rfl,ft,by show t'.fill*5<t'.mask*3;omega⟩
end SETH
namespace SETB
open PyProof.Rows SETA
def kOf:Int×Value->Int
 |(_,.int k _)=>k
 |_=>0
def AllI(l:List (Int×Value)):Prop:=∀e∈l,∃k t,e=(hashInt k,Value.int k t)
def Gr(t:SetTable):Prop:=SETH.Gs t/\t.fill*5<t.mask*3
def SetI(b:Bool)(a:Addr)(ks:List Int)(h:Heap):Prop :=
 ∃o es ep t,h.get? a=some o/\o.ExactSet/\o.data=.set es ep t/\AllI es.toList/\(es.toList.map kOf).Perm ks/\es.size<scanBound/\t.fits es.size=true/\Gr t/\t.led=b
theorem SetI.keep{h':Heap}(x:SetI b a ks h)(k:∀o,h.get? a=some o->h'.get? a=some o):SetI b a ks h':=by
 obtain⟨o,es,ep,t,ho,r⟩:=x;exact⟨o,es,ep,t,k o ho,r⟩
theorem SetI.len(x:SetI b a ks h):ks.length<scanBound:=by
 obtain⟨o,es,ep,t,_,_,_,_,p,hb,_⟩:=x;have:=p.length_eq;rw[ar,bp]at this;omega
section
variable{prog:Program}{w:World}{E:Value->Shared->Prop}{A:Around}{s:Shared}
theorem AllI.el(h:AllI l):ElemsOf (intKind prog w) l:=λe he=>by
 obtain⟨k,t,rfl⟩:=h e he;exact⟨⟨k,by simp[intKind,Value.isInt],rfl⟩,rfl⟩
theorem b43(h:e=(hashInt j,Value.int j t)):(intKind prog w).is k e.2=decide (k=j):=by
 subst h
 by_cases q:k=j
 .subst q;simp[intKind,Value.isInt]
 .rw[bI q];show Value.isInt k (Value.int j t)=false;simp only[Value.isInt,bQ,ne_eq]
  first|exact q|exact λz=>q z.symm
theorem afy(h:AllI l):l.findIdx? (λe=>(intKind prog w).is k e.2)=none↔k∉l.map kOf:=by
 rw[List.findIdx?_eq_none_iff]
 constructor
 .intro n m
  obtain⟨e,he,q⟩:=cf.mp m;have:=n e he;obtain⟨j,t,rfl⟩:=h e he;rw[b43 rfl]at this;have:¬ k=j:=of_decide_eq_false this;exact this q.symm
 .intro n e he
  obtain⟨j,t,rfl⟩:=h e he;rw[b43 rfl];exact bI λz=>n (cf.mpr ⟨_,he,z.symm⟩)
theorem stored(prog:Program)(w:World){es':Array (Int×Value)}{t':SetTable}{h:Heap}(ho:h.get? a=some o)(hex:o.ExactSet)(hd:o.data=.set es ep t)(al:AllI es'.toList)(p:(es'.toList.map kOf).Perm ks)(sz:es'.size<scanBound)(f:t'.fits es'.size=true)(g:Gr t')(l:t'.led=b) :
  SetI b a ks (h.update a (Obj.putSet es' t')):=by
 have e:=SetOf_store (knd:=intKind prog w) (S':=λk=>es'.toList.any λe=>(intKind prog w).is k e.2) ho hex hd al.el (λk=>List.any_eq_true) sz f;exact⟨_,es',ep+1,t',e.1,hex,rfl,al,p,sz,f,g,l⟩
theorem held(prog:Program)(w:World){es':Array (Int×Value)}{t':SetTable}{h:Heap}(ho:h.get? a=some o)(hex:o.ExactSet)(hd:o.data=.set es ep t)(al:AllI es'.toList)(sz:es'.size<scanBound)(f:t'.fits es'.size=true) :
  ∃o1 ep1,(h.update a (Obj.putSet es' t')).get? a=some o1/\o1.ExactSet/\o1.data=.set es' ep1 t':=by
 have e:=SetOf_store (knd:=intKind prog w) (S':=λk=>es'.toList.any λe=>(intKind prog w).is k e.2) ho hex hd al.el (λk=>List.any_eq_true) sz f;exact⟨_,ep+1,e.1,hex,rfl⟩
theorem size_of{t:SetTable}(hf:t.fits n=true):t.place.size=n:=by
 simp only[SetTable.fits,bM,eD]at hf;exact hf.1
theorem au2{b:Bool}{a:Addr}{o:Obj}{es es1:Array (Int×Value)}{ep:Nat}{t t2:SetTable}{ks:List Int}{wd:Bool}{g:Bool->Sem Unit}{R:Option Bool->Shared->Prop}{rl:Array (Int×Value)×SetTable×Bool}
  (hrl:rl=relayAll t2 es1 (SetTable.grown es1.size))
  (hg:∀(c:Bool) (z:Shared) (R':Unit->Shared->Prop),R' () z->wpAny (model prog w) A (g c) R' E z)
  (ho:s.heap.get? a=some o) (hex:o.ExactSet) (hd:o.data=.set es ep t) (al:AllI es1.toList) (pm:(es1.toList.map kOf).Perm ks) (sz:es1.size<scanBound) (f:t2.fits es1.size=true) (gs:SETH.Gs t2) (ld:t2.led=b) (hwd:wd=false)
  (fin:∀h',Heap.SameBut a s.heap h'->SetI b a ks h'->R (some true) {s with heap:=h' }) :
  wpAny (model prog w) A (storeSet a es1 t2>>=λ_=>if (!wd && t2.tooFull)=true then (g rl.2.2>>=λ_=>storeSet a rl.1 rl.2.1>>=λ_=>pure (some true)) else pure (some true)) R E s:=by
 have fl:=SETH.aap gs.gd;have ps:=size_of f;have big:=gs.big;have sb:=dE s.heap a (Obj.putSet es1 t2);refine ae (wpAny_storeSet_of ho hd ?_ (fits_of_scanBound sz))
 split
 .rename_i full;have full:t2.fill*5≥t2.mask*3:=by
   rw[hwd]at full;simpa[SetTable.tooFull] using full
  have lt:es1.size<4096:=sz;have p2:=relayAll_perm t2 es1 (SetTable.grown es1.size);obtain⟨g2,_,f2,r2⟩:=SETH.aor gs es1 (n:=SetTable.grown es1.size) (by unfold SetTable.grown;split<;>omega) (by unfold SetTable.grown;split<;>omega) (by omega)
  have l2:=akb t2 es1 (SetTable.grown es1.size);rw[<-hrl]at p2 f2 g2 l2 r2
  clear hrl
  obtain⟨es2,t3,gv⟩:=rl;have z2:es2.size<scanBound:=by
   have:=p2.length_eq
   simp only[bp]at this;omega
  obtain⟨o1,p1,ho1,hex1,hd1⟩:=held prog w ho hex hd al sz f;refine ae (hg _ _ _ (ae (wpAny_storeSet_of ho1 hd1 (av (fin _ (sb.trans (dE _ a _)) ?_)) (fits_of_scanBound z2))));exact stored prog w ho1 hex1 hd1 (λe he=>al e (p2.mem_iff.mp he)) ((p2.map kOf).trans pm) z2 f2 ⟨g2,r2⟩ (l2.trans ld)
 .rename_i full;have full:t2.fill*5<t2.mask*3:=by
   rw[hwd]at full;simpa[SetTable.tooFull] using full
  exact av (fin _ sb (stored prog w ho hex hd al pm sz f ⟨gs,full⟩ ld))
theorem ahm{b:Bool}{a:Addr}{ks:List Int}{k:Int}{tk:Tok}{Q:Bool->Shared->Prop}(hS:SetI b a ks s.heap)(few:ks.length+1<scanBound)
  (q:∀(h':Heap) (r:Bool),Heap.SameBut a s.heap h'->SetI b a (L2.stepK ks k) h'->Q r {s with heap:=h' }):wpAny (model prog w) A (setAddHashed a (.int k tk) (hashInt k)) Q E s:=by
 obtain⟨o,es,ep,t,ho,hex,hd,al,pm,sz,ft,gd,ld⟩:=hS;have hk:(intKind prog w).is k (Value.int k tk)=true:=by simp[intKind,Value.isInt]
 have lk:es.size=ks.length:=by have:=pm.length_eq;rwa[ar,bp]at this
 unfold setAddHashed setAddHashedIn;refine cX (ae (dF ho hd ft ?_));dsimp only;rw[byScan_of (knd:=intKind prog w) rfl sz al.el,aJ rfl];unfold setAddByScan;refine ae (ae (fQ (ae (wpAny_setScan_of (knd:=intKind prog w) hk ho hd ft al.el ?_))))
 cases c:es.toList.findIdx? (λe=>(intKind prog w).is k e.2) with
 |some j =>
  have mem:k∈ks:=by
   apply eJ
   intro n
   have:=(afy (prog:=prog) (w:=w) al (k:=k)).mpr λm=>n (pm.mem_iff.mp m)
   rw[this]at c;cases c
  refine av (av ?_);have:=q s.heap false (Heap.SameBut.refl a s.heap) (by rw[show L2.stepK ks k=ks from aJ mem];exact⟨o,es,ep,t,ho,hex,hd,al,pm,sz,ft,gd,ld⟩)
  exact this
 |none =>
  have nm:k∉ks:=λm=>(afy (prog:=prog) (w:=w) al).mp c (pm.mem_iff.mpr m);have es1p:=layNew_perm t es (hashInt k) (.int k tk);have wd1:=(ak9 gd.1.gd es (hashInt k) (.int k tk)).2;obtain⟨gs1,_,ft1,_,_⟩:=SETH.akg gd.1 es (size_of ft) gd.2 (hashInt k) (.int k tk);have ld1:=ahk t es (hashInt k) (.int k tk)
  generalize layNew t es (hashInt k) (.int k tk)=L at es1p ft1 gs1 ld1 wd1 ⊢
  obtain⟨es1,t1,wd,gave⟩:=L;dsimp only at es1p ft1 gs1 ld1 wd1 ⊢;rw[Array.toList_push]at es1p;have al1:AllI es1.toList:=λe he=>by
   rcases bq.mp (es1p.mem_iff.mp he) with m|m
   .exact al e m
   .rw[ax]at m;exact⟨k,tk,m⟩
  have pm1:(es1.toList.map kOf).Perm (L2.stepK ks k):=by
   rw[show L2.stepK ks k=ks++[k] from ba nm]
   refine(es1p.map kOf).trans ?_;rw[bF];exact pm.append_right _
  have sz1:es1.size<scanBound:=by
   have:=es1p.length_eq
   rw[bp,ah,bp,aM]at this;omega
  have fin:∀h':Heap,Heap.SameBut a s.heap h'->SetI b a (L2.stepK ks k) h'->wpAny (model prog w) A (pure true) Q E {s with heap:=h' }:=λh' sb x=>av (q h' true sb x)
  have way:∀(c:Bool) (z:Shared) (R:Unit->Shared->Prop),R () z->wpAny (model prog w) A (match c with|true=>rule "set.scan.the-table-gave-way" |false=>pure ()) R E z:=λc z R h=>by
   cases c
   .exact av h
   .exact fQ h
  refine ae (way gave _ _ ?_)
  split
  .refine ae ?_;rw[hashByValue_scannable 8 (x:=.int k tk) rfl];refine av ?_;exact au2 rfl way ho hex hd al1 pm1 sz1 ft1 gs1 (ld1.trans ld) wd1 fin
  .rename_i z;exact absurd gs1.plain z
end
section
variable{prog:Program}{w:World}{E:Value->Shared->Prop}{A:Around}{s:Shared}
def a5b(b:Bool):Obj:={cls:=.type "set",dict:=none,data:=.set #[] 0 (.fresh 0 0 b)}
theorem au3{h:Heap}(e:h.get? a=some (a5b b)):SetI b a [] h :=
 ⟨_, #[],0,_,e,⟨rfl,rfl,rfl⟩,rfl,λe he=>by simp at he,by simp,by decide,by simp[SetTable.fits,SetTable.fresh,SetTable.fill],⟨SETH.aoq _ _ _,by show 0*5<7*3;decide⟩,rfl⟩
def byT(w:World):Bool:=w.params.followText "set-order"
theorem akh(q:Q (.ref s.heap.objs.size) {s with heap:=s.heap.push (a5b (!byT w))}):wpAny (model prog w) A (newSet (.type "set")) Q E s:=by
 unfold newSet setsByText;refine ae (ae (fJ (av ?_)));exact bV q
end
end SETB
set_option maxHeartbeats 1000000
namespace SETB
open PyProof.Rows SETA PySem.Builtin
noncomputable def itO(f:Value)(i:Nat)(a:Addr)(n ep:Nat):Obj:={cls:=.type "set_iterator",data:=.fields #[f,rawInt i,.ref a,rawInt n,rawInt ep]}
theorem slot_next:Slot "set_iterator" "__next__" "set_iterator.__next__" :=
 .of (owner := "set_iterator") (n := "__next__") (by rw[typeLookup_type,builtinLookup_eq_fast];kernel_rfl) (by decide +kernel) (by decide +kernel) (by decide +kernel)
  (Or.inl (by decide +kernel)) (by rw[gE];kernel_rfl)
theorem entry_next:entryFor table "set_iterator.__next__" = some Builtin.«set_iterator.__next__»:=entryFor_of_fast (by kernel_rfl)
theorem args_next(a:Value):argsOk "set_iterator.__next__" ⟨[a],[]⟩:=by unfold argsOk;kernel_rfl
theorem ahn:entryFor table "set.__iter__" = some Builtin.«frozenset.__iter__» :=
 entryFor_alias (id' := "frozenset.__iter__") (by kernel_rfl) rfl (by decide +kernel) (by kernel_rfl)
theorem aki(a:Value):argsOk "set.__iter__" ⟨[a],[]⟩:=by unfold argsOk;kernel_rfl
section
variable{prog:Program}{w:World}{E:Value->Shared->Prop}{A:Around}{s:Shared}
theorem aaq(q:Q (byT w) s):wpAny (model prog w) A setsByText Q E s:=by
 unfold setsByText;exact ae (fJ (av q))
theorem a83(ho:s.heap.get? a=some o)(hd:o.data=.set es ep t)(hf:t.fits es.size=true)(bt:byT w=false)(pl:t.plain=true\/es.size<=1)(ld:t.led=true)(hk:SetTable.below t.place slot=k)
  (hr:(∃h x j,es[k]? = some (h,x)/\t.place[k]? = some j/\r=some (x,j+1))\/(es[k]? = none/\r=none)) (q:Q r s):wpAny (model prog w) A (setNext a slot i ep') Q E s:=by
 subst hk;unfold setNext
 apply ae
 apply dF ho hd hf
 apply ae
 apply aaq
 simp only[bt,cP,fR]
 split
 .rename_i z;have z:(!t.plain && decide (es.size > 1))=true:=z
  rcases pl with p|p
  .rw[p]at z;cases z
  .rw[bI (by omega),i7]at z
   cases z
 have led:∀R:Unit->Shared->Prop,R () s->wpAny (model prog w) A (if (!t.led && !es.isEmpty)=true then unsupported "set:maker-not-led" else pure ()) R E s:=λR r=>by
  rw[ld];exact av r
 refine ae (led _ (av ?_))
 rcases hr with⟨h,x,j,e,f,rfl⟩|⟨e,rfl⟩
 .rw[e,f];exact q
 .rw[e];exact q
def Tells(w:World)(a:Addr)(slot i ep:Nat)(r:Option (Value×Nat))(s:Shared):Prop:=∀(prog:Program) (A:Around) (E:Value->Shared->Prop) (Q:Option (Value×Nat)->Shared->Prop),Q r s->wpAny (model prog w) A (setNext a slot i ep) Q E s
theorem next_item{o:Obj}{es:Array (Int×Value)}{ep i slot nx:Nat}{t:SetTable}(hi:s.heap.get? it=some (itO (rawInt slot) i a es.size ep))(ho:s.heap.get? a=some o)(hd:o.data=.set es ep t)(hf:t.fits es.size=true)(hn:Tells w a slot i ep (some (x,nx)) s)
  (q:∀h':Heap,h'.get? it=some (itO (rawInt nx) (i+1) a es.size ep)->Heap.SameBut it s.heap h'->Q (some x) {s with heap:=h' }):wpAny (model prog w) A (pyNext (.ref it)) Q E s:=by
 have hT:s.TypeIs (.ref it) "set_iterator":=⟨_,hi,rfl⟩;unfold pyNext;refine ae (iK (bY (name:=Str.ofString "__next__") hT slot_next (cm slot_next hT entry_next ?_ (args_next _))));unfold Builtin.«set_iterator.__next__»;have hn':∀{A:Around} {E:Value->Shared->Prop} {Q:Option (Value×Nat)->Shared->Prop},Q _ s->wpAny (model prog w) A (setNext a (slot:Int).toNat (i:Int).toNat (ep:Int).toNat) Q E s:=λ{A E Q} r=>hn prog A E Q r
 wp_walk using hn',dF ho hd hf
 exact⟨x,rfl,av (q _ (dP _ (dP _ hi rfl) rfl) ((dE ..).trans (dE ..)))⟩
theorem akj{o:Obj}{es:Array (Int×Value)}{ep i slot:Nat}{t:SetTable}(hh:A.handled=none)(hi:s.heap.get? it=some (itO (rawInt slot) i a es.size ep))(ho:s.heap.get? a=some o)(hd:o.data=.set es ep t)(hf:t.fits es.size=true)(hn:Tells w a slot i ep none s)
  (q:∀h':Heap,Heap.ExtBut it s.heap h'->Q none {s with heap:=h' }):wpAny (model prog w) A (pyNext (.ref it)) Q E s:=by
 have hT:s.TypeIs (.ref it) "set_iterator":=⟨_,hi,rfl⟩;unfold pyNext;refine ae (iK (bY (name:=Str.ofString "__next__") hT slot_next (cm slot_next hT entry_next ?_ (args_next _))));unfold Builtin.«set_iterator.__next__»;have hn':∀{A:Around} {E:Value->Shared->Prop} {Q:Option (Value×Nat)->Shared->Prop},Q _ s->wpAny (model prog w) A (setNext a (slot:Int).toNat (i:Int).toNat (ep:Int).toNat) Q E s:=λ{A E Q} r=>hn prog A E Q r
 wp_walk using hn',dF ho hd hf
 unfold raiseNew
 apply ae
 apply wpAny_handled
 rw[show A.in1.handled=_ from hh]
 wp_walk
 show wpAny (model prog w) A (isSubtype (.type "StopIteration") (.type "StopIteration")) _ _ _;rw[isSubtype_stop];exact av (av (q _ λb o hb e=>af _ (af _ ((dE s.heap it _).extBut b o hb e))))
end
end SETB
set_option maxHeartbeats 1000000
namespace SETB
open PyProof.Rows SETA PySem.Builtin
def slotAt(t:SetTable)(i:Nat):Nat:=if i=0 then 0 else t.place.getD (i-1) 0+1
theorem akk(g:Gd t)(h:i<=t.place.size):SetTable.below t.place (slotAt t i)=i:=by
 unfold slotAt
 split
 .rename_i z;subst z;exact aty g.ri
 .have hk:i-1<t.place.size:=by omega
  have e:t.place.getD (i-1) 0=t.place[i-1]:=by simp[Array.getD,hk]
  rw[e,ahg g.ri hk];omega
section
variable{prog:Program}{w:World}{E:Value->Shared->Prop}{A:Around}{s:Shared}{a:Addr}{o:Obj}{es:Array (Int×Value)}{ep i:Nat}{t:SetTable}
theorem aho(ho:s.heap.get? a=some o)(hd:o.data=.set es ep t)(hf:t.fits es.size=true)(bt:byT w=false)(pl:t.plain=true\/es.size<=1)(ld:t.led=true)(g:Gd t)(hi:i<es.size):Tells w a (slotAt t i) i ep (some (es[i].2,slotAt t (i+1))) s:=λprog A E Q q=>by
 have sz:=size_of hf;refine a83 ho hd hf bt pl ld (akk g (by omega)) (.inl ⟨_,_,_,bO hi,bO (by omega),rfl⟩) ?_
 have e:slotAt t (i+1)=t.place[i]'(by omega)+1:=by
  unfold slotAt;rw[ba (by omega)]
  simp[Array.getD,show i<t.place.size by omega]
 rw[e]at q;exact q
theorem ahp(ho:s.heap.get? a=some o)(hd:o.data=.set es ep t)(hf:t.fits es.size=true)(bt:byT w=false)(pl:t.plain=true\/es.size<=1)(ld:t.led=true)(g:Gd t):Tells w a (slotAt t es.size) es.size ep none s:=λprog A E Q q=>by
 have sz:=size_of hf;exact a83 ho hd hf bt pl ld (akk g (by omega)) (.inr ⟨Array.getElem?_eq_none (by omega),rfl⟩) q
theorem aos(ho:s.heap.get? a=some o)(hex:o.ExactSet)(hd:o.data=.set es ep t)(hf:t.fits es.size=true)(nd:byT w=true\/t.plain=true\/es.size<=1)
  (q:Q (.ref s.heap.objs.size) {s with heap:=s.heap.push (itO (rawInt 0) 0 a es.size ep)}):wpAny (model prog w) A (pyIter (.ref a)) Q E s:=by
 have ht:s.TypeIs (.ref a) "set":=⟨_,ho,hex.1⟩;refine wpAny_pyIter_slot ht F.slot_set_iter (cm F.slot_set_iter ht ahn ?_ (aki _));have dr:∀{A:Around} {E:Value->Shared->Prop} {Q:Bool->Shared->Prop},Q false s->wpAny (model prog w) A (setDrawn a) Q E s:=λ{A E Q} r=>by
  unfold setDrawn;refine ae (dF ho hd hf (ae (aaq (av ?_))));have:(!byT w && (!t.plain && decide (es.size > 1)))=false:=by
   rcases nd with z|z|z
   .rw[z];rfl
   .rw[z];simp
   .rw[bI (by omega)];simp
  rw[<-this]at r;exact r
 unfold Builtin.«frozenset.__iter__»
 wp_walk using dr,dF ho hd hf
 exact⟨_,rfl, "set_iterator",_,⟨_,aO _ rfl,rfl⟩,slot_next.lookup,q⟩
end
end SETB
set_option maxHeartbeats 1000000
namespace SETB
open PyProof.Rows SETA PySem.Builtin
theorem a9d{α:Type}:∀(l:List α) (i:Nat) (h:i<l.length),(l[i]::l.eraseIdx i).Perm l
 |x::l,0,_=>.refl _
 |x::l,i+1,h=>(List.Perm.swap ..).trans ((a9d l i (Nat.lt_of_succ_lt_succ h)).cons x)
theorem akl{α:Type}(nx:Nat->Nat):∀(n k:Nat) (l:List α) (out:Array α),l.length=n->(pickOrder.go nx n k l out).toList.Perm (out.toList++l)
 |0,k,l,out,e=>by
  cases l with
  |nil=>simp[pickOrder.go]
  |cons x l=>cases e
 |n+1,k,l,out,e=>by
  have hi:nx k%l.length<l.length:=gB _ (by omega)
  unfold pickOrder.go;rw[ag hi];refine(akl nx n (k+1) _ _ (by rw[List.length_eraseIdx_of_lt hi];omega)).trans ?_
  rw[Array.toList_push,cA];exact(a9d l _ hi).append_left _
theorem akm{α:Type}(nx:Nat->Nat)(xs:Array α):(pickOrder nx xs).toList.Perm xs.toList:=by
 have:=akl nx xs.size 0 xs.toList #[] (by simp)
 simpa[pickOrder] using this
noncomputable def afz(w:World)(a:Addr)(ep:Nat)(es:Array (Int×Value)):Array (Int×Value):=if byT w then pickOrder (w.params.setOrder a ep) es else es
theorem ag0(w:World)(a:Addr)(ep:Nat)(es:Array (Int×Value)):(afz w a ep es).toList.Perm es.toList:=by
 unfold afz
 split
 .exact akm _ _
 .exact .refl _
theorem a5c(w:World)(a:Addr)(ep:Nat)(es:Array (Int×Value)):(afz w a ep es).size=es.size:=by
 have:=(ag0 w a ep es).length_eq
 simpa using this
def aar(w:World)(t:SetTable)(i:Nat):Nat:=if byT w then 0 else slotAt t i
section
variable{prog:Program}{w:World}{E:Value->Shared->Prop}{A:Around}{s:Shared}{a:Addr}{o:Obj}{es:Array (Int×Value)}{ep i:Nat}{t:SetTable}
theorem acu(ho:s.heap.get? a=some o)(hd:o.data=.set es ep t)(hf:t.fits es.size=true)(bt:byT w=true)(q:Q (pickOrder (w.params.setOrder a ep) es) s):wpAny (model prog w) A (setWalk a) Q E s:=by
 unfold setWalk
 apply ae
 apply dF ho hd hf
 apply ae
 apply aaq
 simp only[bt,dO];exact ae (fJ (av q))
theorem acv(ho:s.heap.get? a=some o)(hd:o.data=.set es ep t)(hf:t.fits es.size=true)(bt:byT w=true)
  (q:Q (((pickOrder (w.params.setOrder a ep) es)[i]?).map λe=>(e.2,slot)) s):wpAny (model prog w) A (setNext a slot i ep) Q E s:=by
 unfold setNext
 apply ae
 apply dF ho hd hf
 apply ae
 apply aaq
 simp only[bt,dO,bne_self_eq_false,cP,fR]
 first
 |exact ae (acu ho hd hf bt (av q))
 |exact ae (av (ae (acu ho hd hf bt (av q))))
theorem au4(ho:s.heap.get? a=some o)(hd:o.data=.set es ep t)(hf:t.fits es.size=true)(nd:byT w=true\/t.plain=true\/es.size<=1)(ld:t.led = !byT w)(g:Gd t)(hi:i<(afz w a ep es).size):Tells w a (aar w t i) i ep (some ((afz w a ep es)[i].2,aar w t (i+1))) s:=by
 have sz:=a5c w a ep es
 cases bt:byT w with
 |true =>
  intro prog A E Q q
  refine acv ho hd hf bt ?_;have e:pickOrder (w.params.setOrder a ep) es=afz w a ep es:=by unfold afz;rw[bt];rfl
  rw[e,bO hi];unfold aar at q ⊢;rw[bt]at q ⊢;exact q
 |false =>
  have e:afz w a ep es=es:=by unfold afz;rw[bt];rfl
  rw[bt]at ld;have:=aho (i:=i) ho hd hf bt (nd.resolve_left (by rw[bt];decide)) ld g (by omega)
  unfold aar;rw[bt];simp only[e,cP,fR];exact this
theorem akn(ho:s.heap.get? a=some o)(hd:o.data=.set es ep t)(hf:t.fits es.size=true)(nd:byT w=true\/t.plain=true\/es.size<=1)(ld:t.led = !byT w)(g:Gd t):Tells w a (aar w t es.size) es.size ep none s:=by
 have sz:=a5c w a ep es
 cases bt:byT w with
 |true =>
  intro prog A E Q q
  refine acv ho hd hf bt ?_;have e:pickOrder (w.params.setOrder a ep) es=afz w a ep es:=by unfold afz;rw[bt];rfl
  rw[e,Array.getElem?_eq_none (by omega)]
  exact q
 |false =>
  rw[bt]at ld;have:=ahp ho hd hf bt (nd.resolve_left (by rw[bt];decide)) ld g
  unfold aar;rw[bt];exact this
end
end SETB
set_option maxHeartbeats 1000000
namespace SETB
open PyProof.Rows SETA PySem.Builtin
theorem slot_self:Slot "set_iterator" "__iter__" "set_iterator.__iter__" :=
 .of (owner := "set_iterator") (n := "__iter__") (by rw[typeLookup_type,builtinLookup_eq_fast];kernel_rfl) (by decide +kernel) (by decide +kernel) (by decide +kernel)
  (Or.inl (by decide +kernel)) (by rw[gE];kernel_rfl)
theorem entry_self:entryFor table "set_iterator.__iter__" = some Builtin.«dict_keyiterator.__iter__»:=entryFor_alias (id' := "dict_keyiterator.__iter__") (by kernel_rfl) rfl (by decide +kernel) (by kernel_rfl)
theorem args_self(a:Value):argsOk "set_iterator.__iter__" ⟨[a],[]⟩:=by unfold argsOk;kernel_rfl
section
variable{prog:Program}{w:World}{A:Around}{a I:Addr}{o:Obj}{es:Array (Int×Value)}{ep:Nat}{t:SetTable}
theorem au5{s:Shared}(ht:s.TypeIs (.ref I) "set_iterator")(q:Q (.ref I) s):wpAny (model prog w) A (pyIter (.ref I)) Q E s:=by
 refine wpAny_pyIter_slot ht slot_self (cm slot_self ht entry_self ?_ (args_self _));show wpAny (model prog w) _ (ret (.ref I)) _ _ s;exact av ⟨_,rfl, "set_iterator",_,ht,slot_next.lookup,q⟩
theorem ako(hh:A.handled=none)(ne:a≠I)(hd:o.data=.set es ep t)(hf:t.fits es.size=true)(nd:byT w=true\/t.plain=true\/es.size<=1)(ld:t.led = !byT w)(g:Gd t) :
  Walks prog w A I [I,a] [I] es.size (λi v=>((afz w a ep es)[i]?).map (·.2)=some v) (λi h=>h.get? I=some (itO (rawInt (aar w t i)) i a es.size ep)/\h.get? a=some o) where
 sub:=λb hb=>aL.mpr (.inl (ax.mp hb))
 frame:=λ_ _ _ st hk=>⟨hk I (by simp) _ st.1,hk a (by simp) _ st.2⟩
 item:=λi s Q E hi st q=>by
  have hi':i<(afz w a ep es).size:=by rw[a5c];exact hi
  refine next_item st.1 st.2 hd hf (au4 st.2 hd hf nd ld g hi') λh' e sb=>?_;exact q _ h' s.toks (by rw[bO hi'];rfl) ⟨e,sb.extBut a o ne st.2⟩ λb o hb e=>sb.extBut b o (λh=>hb (by simp[h])) e
 done:=λs Q E st q=>akj hh st.1 st.2 hd hf (akn st.2 hd hf nd ld g) λh' e=>q h' s.toks λb o hb x=>e b o (λh=>hb (by simp[h])) x
 self:=λi s Q E st q=>au5 ⟨_,st.1,rfl⟩ q
end
theorem akp{A:Around}{s:Shared}(hh:A.handled=none)(hS:SetI (!byT w) a ks s.heap)
  (q:∀(es:Array (Int×Value)) (St:Nat->Heap->Prop),AllI es.toList->(es.toList.map kOf).Perm ks->∀h':Heap,(∀b o,s.heap.get? b=some o->h'.get? b=some o)->h'.objs.size=s.heap.objs.size+1->St 0 h'->
   Walks prog w A s.heap.objs.size [s.heap.objs.size,a] [s.heap.objs.size] es.size (λi v=>(es[i]?).map (·.2)=some v) St->Q (.ref s.heap.objs.size) {s with heap:=h' }):wpAny (model prog w) A (pyIter (.ref a)) Q E s:=by
 obtain⟨o,es,ep,t,ho,hex,hd,al,pm,sz,ft,gr,ld⟩:=hS;have nd:byT w=true\/t.plain=true\/es.size<=1:=.inr (.inl gr.1.plain);refine aos ho hex hd ft nd ?_;have ne:a≠s.heap.objs.size:=λc=>by
  rw[c]at ho;simp[Heap.get?]at ho
 have W:=ako (prog:=prog) (I:=s.heap.objs.size) hh ne hd ft nd ld gr.1.gd;have pp:=ag0 w a ep es;rw[<-a5c w a ep es]at W;refine q (afz w a ep es) _ (λe he=>al e (pp.mem_iff.mp he)) ((pp.map kOf).trans pm) _ (λb o e=>af _ e) (by simp[Heap.push]) ⟨?_,af _ ho⟩ W
 have s0:aar w t 0=0:=by unfold aar slotAt;simp
 rw[s0,a5c];exact aO _ rfl
end SETB
set_option maxHeartbeats 1000000
namespace SETB
open PyProof.Rows SETA PySem.Builtin
section
variable{prog:Program}{w:World}{A:Around}{s:Shared}{E:Value->Shared->Prop}{a:Addr}{ks:List Int}
theorem aot(ht:s.TypeIs (.ref a) "set")(q:Q false s):wpAny (model prog w) A (Builtin.List.listLengthHint (.ref a)) Q E s:=by
 unfold Builtin.List.listLengthHint;refine ae (wpAny_specialOf ht F.slot_set_len.lookup ?_);have sp:splitId "set.__len__" = some ("set","__len__"):=by decide +kernel
 dsimp only;rw[sp];dsimp only
 apply ae
 apply wpAny_isInstance (T := "set") (b:=true) ht (by rw[gE];kernel_rfl)
 rw[ba (by decide)]
 refine wpAny_ite_split (λ_=>?_) λn=>absurd (by decide +kernel) n
 apply ae
 apply gF ht
 exact av q
theorem aea(hh:A.handled=none)(hS:SetI (!byT w) a ks s.heap)
  (q:∀(vs:List Value) (js:List Int) (s':Shared),js.Perm ks->vs.length=js.length->(∀(i:Nat) (v:Value),vs[i]? = some v->∃k t,js[i]? = some k/\v=Value.int k t)->Moved [] (λx y=>y=x) s s'->s.heap.objs.size<=s'.heap.objs.size->Q vs s'):wpAny (model prog w) A (collect (.ref a)) Q E s:=by
 unfold collect
 apply ae
 apply wpAny_runValue
 apply eQ F.entry_proto_collect
 rw[dX F.plain_proto_collect _];unfold Builtin.«proto.collect»
 wp_walk
 refine⟨gQ F.plain_list_iadd _,eQ F.entry_list_iadd ?_⟩;rw[dX F.plain_list_iadd _];obtain⟨o,ho,hT⟩:∃o,s.heap.get? a=some o/\o.cls=.type "set":=by
  obtain⟨o,es,ep,t,ho,hex,_⟩:=hS;exact⟨o,ho,hex.1⟩
 have lt:=aP ho;have up:∀b x,s.heap.get? b=some x->(s.heap.push {cls:=.type "list",data:=.seq #[]}).get? b=some x:=λb x e=>af _ e;have sz0:(s.heap.push {cls:=.type "list",data:=.seq #[]}).objs.size=s.heap.objs.size+1:=by simp[Heap.push]
 have hL:(s.heap.push {cls:=.type "list",data:=.seq #[]}).get? s.heap.objs.size=some {cls:=.type "list",data:=.seq #[]}:=aO _ rfl;have hS0:=hS.keep λx e=>up a x e;have few:=hS.len
 generalize s.heap.push {cls:=.type "list",data:=.seq #[]}=h0 at up sz0 hL hS0 ⊢
 show wpAny (model prog w) A.in1 (Builtin.List.listExtendWith (.ref s.heap.objs.size) (.ref a) (.ref s.heap.objs.size)) _ _ _;unfold Builtin.List.listExtendWith
 apply ae
 have ht0:({s with heap:=h0}:Shared).TypeIs (.ref a) "set":=⟨o,up a o ho,hT⟩
 apply gF ht0
 have far:s.heap.objs.size≠a:=iV lt;rw[ba (by simp[Builtin.List.listSameRef,far])]
 apply ae
 refine akp (s:={s with heap:=h0}) hh hS0 λes St al pm h1 ext sz1 st W=>?_
 apply ae
 apply cX
 have ht1:({s with heap:=h1}:Shared).TypeIs (.ref a) "set":=⟨o,ext a o (up a o ho),hT⟩
 apply aot ht1
 refine wpAny_ite_split (λ_=>?_) λn=>absurd (by decide +kernel) n
 apply ae
 apply fQ
 apply ae
 have n1:es.size=ks.length:=by
  have:=pm.length_eq
  rwa[ar,bp]at this
 have hL1:=ext _ _ hL;show wpAny (model prog w) A.in1 (updateSeq s.heap.objs.size (·.push .none)>>=λ_=>updateSeq s.heap.objs.size (·.pop)) _ _ _;refine ae (iZ hL1 rfl ?_);have hL2:=dP (Obj.mapSeq (·.push Value.none)) hL1 rfl;refine iZ hL2 rfl ?_;have hL3:=dP (Obj.mapSeq (·.pop)) hL2 rfl;have oth:∀b x,b≠s.heap.objs.size->h1.get? b=some x->((h1.update s.heap.objs.size (Obj.mapSeq (·.push Value.none))).update s.heap.objs.size (Obj.mapSeq (·.pop))).get? b=some x :=
  λb x hb e=>(dB _ _ (fz hb)).trans ((dB _ _ (fz hb)).trans e)
 have hf:s.heap.objs.size∉[h0.objs.size,a]:=λc=>by
  simp only[aL,bg,cW]at c
  rcases c with c|c
  .exact br (Nat.lt_of_lt_of_eq (eW _) sz0.symm) c
  .exact far c
 refine av ⟨gQ F.plain_extend_loop _,codeAny_extend_loopS W.toS (by have:ks.length<4096:=few;rw[n1];unfold sizeLine;omega) _ hf _ es.size 0 _ _ _ rfl (bb _)
  (W.frame 0 h1 _ st λb hb x e=>oth b x (λc=>hf (c ▸ hb)) e) hL3 (ItemsOf.nil _) λs' acc c' hm hA hI=>?_⟩
 show wpAny (model prog w) A (load s.heap.objs.size>>=_) _ _ s'
 apply ae
 apply wpAny_load hA
 refine av (q acc.toList (es.toList.map kOf) s' pm (by rw[bp,hI.1,ar,bp]) (λi v e=>?_) ⟨λb x _ e=>?_,hm.gens,hm.drawn,hm.os,hm.toks⟩ (hR (aP hA)))
 .have this:(es[i]?).map (·.2)=some v:=hI.2 i v (by simpa using e)
  cases g:es[i]? with
  |none=>rw[g]at this;cases this
  |some y =>
   rw[g]at this;have m:y∈es.toList:=by
    obtain⟨hi,z⟩:=hJ.mp g;rw[<-z];simp
   obtain⟨k,t,rfl⟩:=al y m;cases this
   exact⟨k,t,by simp[g,kOf],rfl⟩
 .have lb:=aP e;refine hm.heap b x (λc=>?_) (oth b x (br lb) (ext b x (up b x e)));simp only[aL,bg,cW]at c
  rcases c with c|c
  .exact br lb c
  .exact br (Nat.lt_of_lt_of_eq (Nat.lt_succ_of_lt lb) sz0.symm) c
end
end SETB
set_option maxHeartbeats 1000000
namespace SETB
open PyProof.Rows SETA PySem.Builtin
section
variable{prog:Program}{w:World}{A:Around}{s:Shared}{E:Value->Shared->Prop}{a:Addr}{ks:List Int}
theorem ints_of{vs:List Value}{js:List Int}(len:vs.length=js.length)(h:∀(i:Nat) (v:Value),vs[i]? = some v->∃k t,js[i]? = some k/\v=Value.int k t):IntsAre vs js:=by
 have all:∀v,v∈vs->∃n t,v=Value.int n t:=λv hv=>by
  obtain⟨i,hi,e⟩:=fA.mp hv;obtain⟨k,t,_,z⟩:=h i v (by rw[ag hi,e])
  exact⟨k,t,z⟩
 have e:vs.map numOf=js:=by
  refine iS (by rw[ar,len]) λi h1 h2=>?_
  have hi:i<vs.length:=by omega
  obtain⟨k,t,x,z⟩:=h i vs[i] (ag hi);rw[List.getElem_map,z];rw[ag h2]at x;cases x
  rfl
 have:=intsAre_map vs all
 rwa[e]at this
theorem ahq(hh:A.handled=none)(hS:SetI (!byT w) a ks s.heap)(h64:ks.length<64)
  (q:∀(l:Addr) (out:Array Value) (e:Nat) (s':Shared),s.heap.objs.size<=l->IntsAre out.toList (PySem.W.sortI ks)->s'.heap.get? l=some (seqObj "list" out e)->Moved [] (λx y=>y=x) s s'->Q (.ref l) s') :
  wpAny (model prog w) A (call (.builtin "sorted") [.ref a]) Q E s:=by
 refine Calls.call_function_entry kind_sorted plain_sorted entry_sorted (args_sorted1 _) ?_;unfold Builtin.«sorted»
 apply ae (m:=checkCount "sorted" 1 1 _)
 apply av
 apply ae
 refine aea hh hS λvs js s1 pj len it mv up=>?_;have hI:=ints_of len it;have l64:vs.length<64:=by rw[len,pj.length_eq];exact h64
 apply ae
 refine wpAny_newList ?_ (hsz:=by rw[gy];omega)
 have hL:(s1.heap.push (seqObj "list" vs.toArray 0)).get? s1.heap.objs.size=some (seqObj "list" vs.toArray 0):=aO _ rfl
 apply ae
 apply cX
 refine cm slot_list_sort (s:={s1 with heap:=s1.heap.push (seqObj "list" vs.toArray 0)}) ⟨_,hL,rfl⟩ entry_list_sort (list_sort_tree hL hI l64 λout ns a1 a2 a3=>⟨_,rfl,?_⟩) (args_list_sort _)
 have e2:ns=PySem.W.sortI ks:=PySem.W.eq_sortI (a2.trans pj) a3;subst e2;obtain⟨e,he⟩:=sortedHeap_at (out:=out) hL;refine av ⟨_,rfl,q _ out e _ ?_ a1 he ⟨λb x hb g=>?_,mv.gens,mv.drawn,mv.os,mv.toks⟩⟩
 .exact up
 .have g1:=mv.heap b x hb g;have lt:=aP g1;show(sortedHeap _ _ _ _).get? b=some x;rw[sortedHeap_old (br lt) (by rw[size_push'];exact Nat.lt_succ_of_lt lt)]
  exact af _ g1
end
end SETB
set_option maxHeartbeats 1000000
namespace L2
open PyProof.Rows SETB
def b1d(w:World)(a:Addr)(ks:List Int):HO:=.ext λh=>SetI (!byT w) a ks h
section
variable{X:Cx}
theorem a84(hc:X.calm=true):CallR X (.builtin "sorted") (λxs H Q=>∃(p:Addr) (ks:List Int),xs=[.ref p]/\H p=some (b1d X.w p ks)/\ks.length<64/\∀l,H l=none->Q (.ref l) (upd H l (.lst ((PySem.W.sortI ks).map V.int)))):=by
 intro aA s Z H xs us Q I r ⟨p,ks,e,hp,h64,q⟩
 subst e;obtain⟨u,rfl,ru⟩:=vals1 r;cases ru
 obtain⟨hS,_⟩:=I.hok p _ hp;refine ahq (I.ok.hd hc) hS h64 λl out e s' hl a1 he mv=>?_;obtain⟨h',g',d',t',o'⟩:=s';obtain⟨mh,mg,md,mo,mt⟩:=mv;dsimp only at mh mg md mo mt he;subst mg md mo;have ln:(PySem.W.sortI ks).length=ks.length:=(PySem.W.sortI_perm ks).length_eq;refine⟨.ref l,_,I.laid (t':=t') (λb u g=>mh b u (by simp) g) hl (show ObjOk X.prog X.w _ _ _ (.lst ((PySem.W.sortI ks).map V.int)) from ⟨by rw[ar,ln];have:=gy;omega,out.toList,e,a7g a1,by simpa[seqObj] using he⟩),rfl,q _ (I.hok.fresh hl)⟩
theorem au6(x:SetI (!byT w) a ks h):ObjOk P w H h a (b1d w a ks):=by
 refine⟨x,?_,λh1 h2 p k=>p.keep k⟩;obtain⟨o,_,_,_,ho,_⟩:=x;exact⟨o,ho⟩
end
end L2
set_option maxHeartbeats 1000000
namespace MI
open L2 SETB
noncomputable def b2v(ks:List Int)(h:Hd):R D:=if ks.length<64 then .ok (.ref h.length) (h++[.lst ((PySem.W.sortI ks).map D.int)]) else .no
theorem a2z:∀{K:Fg} {U:List Addr} {H:Hp} (ns:List Int),Reps K U H (ns.map V.int) (ns.map D.int)
 |_,_,_,[]=>.nil
 |_,_,_,n::ns=>.cons (.int n) (a2z ns)
end MI
set_option maxHeartbeats 1000000
set_option maxHeartbeats 1000000
set_option maxHeartbeats 1000000
namespace SETB
open PyProof.Rows SETA
section
variable{prog:Program}{w:World}{A:Around}{E:Value->Shared->Prop}{R:Result->Shared->Prop}{s:Shared}
theorem a85{b:Bool}{I S:Addr}{fp wr:List Addr}{n:Nat}{P:Nat->Value->Prop}{St:Nat->Heap->Prop}(W:Walks prog w A.in1 I fp wr n P St)(apart:S∉fp)(val:Nat->Int)(key:∀i v,P i v->∃t,v=.int (val i) t)(few:n+1<scanBound) :
  ∀(left i:Nat) (s:Shared) (ks:List Int),i+left=n->ks.length<=i->St i s.heap->SetI b S ks s.heap->
   (∀h' tk,SetI b S (((List.range' i left).map val).foldl L2.stepK ks) h'->(∀c o,c≠S->c∉wr->s.heap.get? c=some o->h'.get? c=some o)->R (.ok (.ret .none)) {s with heap:=h',toks:=tk})->
   codeAny (model prog w) A (.builtin "set.update.loop" ⟨[.ref S,.ref I],[]⟩) R s
 | 0,i,s,ks,hi,hl,st,x,fin=>eQ F.entry_set_update_loop (by
   obtain rfl:i=n:=by omega
   simp only[dX fX];exact ae (W.done s _ _ st λh' tk k=>av (fin h' tk (x.keep λo e=>k S o (λz=>apart (W.sub S z)) e) λc o _ hc e=>k c o hc e)))
 | left+1,i,s,ks,hi,hl,st,x,fin=>eQ F.entry_set_update_loop (by
   simp only[dX fX];refine ae (W.item i s _ _ (by omega) st λv h1 t1 p st1 k1=>?_)
   obtain⟨tk,rfl⟩:=key i v p;refine ae (cX ?_);unfold setAdd;refine cX (ae ((intKind prog w).pyHash (k:=val i) (by simp[intKind,Value.isInt]) ?_))
   refine ahm (s:={s with heap:=h1,toks:=t1+1}) (x.keep λo e=>k1 S o (λz=>apart (W.sub S z)) e) (by omega) λh2 r sb x2=>?_
   have sl:(L2.stepK ks (val i)).length<=i+1:=by
    unfold L2.stepK
    split
    .omega
    .rw[ah,aM];omega
   refine av ⟨gQ fX _,a85 W apart val key few left (i+1) _ _ (by omega) sl (W.frame _ _ _ st1 λc hc o e=>sb.extBut c o (λz=>apart (z ▸ hc)) e) x2 λh3 t3 x3 k3=>?_⟩
   exact fin h3 t3 (by rw[List.range'_succ,aZ,gS];exact x3) λc o cS cw e=>k3 c o cS cw (sb.extBut c o cS (k1 c o cw e)))
theorem akq(a:Value)(h:Q₁ (.ref s.heap.objs.size) {s with heap:=s.heap.push (a5b (!byT w))}) :
  codeAny (model prog w) A (.call (.builtin "set.__new__") ⟨[.type "set",a],[]⟩) (wants Q₁ E) s:=by
 apply fY
 apply ae
 refine fK (F.newCall_set_1 a) ?_;refine av ⟨gQ F.plain_set_new _,eQ F.entry_set_new ?_⟩;simp only[dX F.plain_set_new];have self:=sub_set_self;unfold Builtin.«set.__new__» Builtin.Frozenset.newClass
 generalize en:newSet=mk
 wp_walk
 subst en
 first
  |exact akh (av h)
  |exact ae (akh (av h))
theorem akr{l:Addr}{tn:String}{od:Option Addr}{dt:Data}{sl:Array (Option Value)}{ns:List Int}{b:Bool}{R:Result->Shared->Prop}(hh:A.handled=none)
  (hl:s.heap.get? l=some {cls:=.type tn,dict:=od,data:=dt,slots:=sl}) (no1:isSubtype (.type tn) (.type "set")=pure false) (no2:isSubtype (.type tn) (.type "frozenset")=pure false) (no3:(Value.type tn == Value.type "dict")=false) (few:ns.length+1<scanBound)
  (it:∀(s1:Shared) (Q:Value->Shared->Prop) (E:Value->Shared->Prop),s1.heap.get? l=some {cls:=.type tn,dict:=od,data:=dt,slots:=sl}->
   (∀(o:Obj) (St:Nat->Heap->Prop) (P:Nat->Value->Prop),(∀A':Around,A'.handled=none->Walks prog w A' s1.heap.objs.size [s1.heap.objs.size,l] [s1.heap.objs.size] ns.length P St)->(∀i v,P i v->∃t,v=.int (ns.getD i 0) t)->St 0 (s1.heap.push o)->Q (.ref s1.heap.objs.size) {s1 with heap:=s1.heap.push o})->wpAny (model prog w) A.in1 (pyIter (.ref l)) Q E s1)
  (q:∀h' tk,SetI b s.heap.objs.size (ns.foldl L2.stepK []) h'->(∀c o,s.heap.get? c=some o->h'.get? c=some o)->R (.ok (.ret .none)) {s with heap:=h',toks:=tk}) :
  wpAny (model prog w) A.in1 (Builtin.«set.__init__» ⟨[.ref s.heap.objs.size,.ref l],[]⟩)
   (λfin s'=>match fin with|.done f=>R (.ok f) s'|.again c'=>c'.quiet=true/\codeAny (model prog w) A c' R s') (λe s'=>R (.error e) s') {s with heap:=s.heap.push (a5b b)}:=by
 have at0:(s.heap.push (a5b b)).get? s.heap.objs.size=some (a5b b):=aO _ rfl;have hl':(s.heap.push (a5b b)).get? l=some {cls:=.type tn,dict:=od,data:=dt,slots:=sl}:=af _ hl;have ll:=aP hl;unfold Builtin.«set.__init__»;unfold noKeywords Builtin.Frozenset.updateFrom
 generalize ep:pyIter=walker
 unfold a5b at at0 hl' ⊢
 wp_walk
 subst ep;refine it _ _ _ hl' λo St P W key st=>ae (wpAny_runValue ?_);dsimp only at W st ⊢;have far:s.heap.objs.size∉[(s.heap.push (a5b b)).objs.size,l]:=λz=>by
  rcases aL.mp z with z|z
  .rw[cB]at z;exact absurd z (br (eW _))
  .rw[ax]at z;rw[<-z]at ll;exact bU _ ll
 have e0:(List.range' 0 ns.length).map (λi=>ns.getD i 0)=ns:=by
  refine iD λi=>?_
  by_cases hi:i<ns.length
  .rw[bD,List.getElem?_range' hi,ag hi];simp[dA,hi]
  .rw[dR (by simp;omega),dR (by omega)]
 refine a85 (b:=b) (W _ (by simp[hh])) far (λi=>ns.getD i 0) key few ns.length 0 {s with heap:=(s.heap.push (a5b b)).push o} [] (by omega) (by simp) st (au3 (b:=b) (af _ (show(s.heap.push (a5b b)).get? s.heap.objs.size=some (a5b b) from at0))) λh' tk held k=>?_
 rw[e0]at held;refine av (av ?_);refine q h' tk held λc o e=>k c o ?_ ?_ (af _ (af _ e))
 .exact br (aP e)
 .intro z
  have z:=ax.mp z;have:=aP e;rw[z,cB]at this;exact absurd this (Nat.not_lt.mpr (Nat.le_succ _))
theorem a5d{ns:List Int}
  (hl:s.heap.get? l=some {cls:=.type tn,dict:=od,data:=dt,slots:=sl}) (no1:isSubtype (.type tn) (.type "set")=pure false) (no2:isSubtype (.type tn) (.type "frozenset")=pure false) (no3:(Value.type tn == Value.type "dict")=false) (few:ns.length+1<scanBound)
  (it:∀(A:Around) (s1:Shared) (Q:Value->Shared->Prop) (E:Value->Shared->Prop),s1.heap.get? l=some {cls:=.type tn,dict:=od,data:=dt,slots:=sl}->
   (∀(o:Obj) (St:Nat->Heap->Prop) (P:Nat->Value->Prop),(∀A':Around,A'.handled=none->Walks prog w A' s1.heap.objs.size [s1.heap.objs.size,l] [s1.heap.objs.size] ns.length P St)->(∀i v,P i v->∃t,v=.int (ns.getD i 0) t)->St 0 (s1.heap.push o)->Q (.ref s1.heap.objs.size) {s1 with heap:=s1.heap.push o})->wpAny (model prog w) A (pyIter (.ref l)) Q E s1)
  (hh:A.handled=none)
  (q:∀h' tk,SetI (!byT w) s.heap.objs.size (ns.foldl L2.stepK []) h'->(∀c o,s.heap.get? c=some o->h'.get? c=some o)->Q (.ref s.heap.objs.size) {s with heap:=h',toks:=tk}) :
  wpAny (model prog w) A (call (.type "set") [.ref l]) Q E s:=by
 obtain⟨_,_,order⟩:=fk.mro;have made:=fk.made;have self:=fk.sub;have nt:=fk.notType;have cc:=fk.canCreate;have tc:=F.typeCall_set_1 (.ref l);refine wpAny_call (fY (av ⟨Code.quiet_builtin _ (by decide +kernel),eQ F.entry_type_call ?_⟩))
 simp only[Around.under_plain (weight_type_call_type "set" [.ref l] []) rfl]
 repeat any_goals first|assumption|wp_step
 refine fL (akq (.ref l) (E:=E) (Q₁:=λobj s1=>obj=.ref s.heap.objs.size/\s1={s with heap:=s.heap.push (a5b (!byT w))}) ⟨rfl,rfl⟩) λr s1 hr=>?_
 match r,hr with
 |.error _,hr=>exact hr
 |.ok (.ret _),⟨eo,es⟩ =>
  subst eo es;have ty:Shared.TypeIs {s with heap:=s.heap.push (a5b (!byT w))} (.ref s.heap.objs.size) "set":=⟨_,aO _ rfl,rfl⟩
  have look:=fk.init.lookup;have bound:=fk.init.bind (.ref s.heap.objs.size)
  repeat any_goals first|assumption|wp_step
  refine fL (codeAny_call_builtin (R:=wants (λr s2=>r=.none/\Q (.ref s.heap.objs.size) s2) E) fk.init.plain F.entry_set_init (check_set_init_1 ty (akr hh hl no1 no2 no3 few (it _) λh' tk x1 k1=>⟨rfl,q h' tk x1 k1⟩))) λr2 s2 hr2=>?_
  match r2,hr2 with
  |.error _,hr2=>exact hr2
  |.ok (.ret _),⟨e2,q2⟩ =>
   subst e2
   repeat any_goals first|assumption|wp_step
  |.ok .next,hr2=>exact hr2.elim
  |.ok .brk,hr2=>exact hr2.elim
  |.ok .cont,hr2=>exact hr2.elim
 |.ok .next,hr=>exact hr.elim
 |.ok .brk,hr=>exact hr.elim
 |.ok .cont,hr=>exact hr.elim
end
end SETB
namespace L2
open PyProof.Rows SETB
theorem sub_tuple_set:isSubtype (.type "tuple") (.type "set")=pure false/\isSubtype (.type "tuple") (.type "frozenset")=pure false:=by
 constructor<;>(rw[gE];kernel_rfl)
section
variable{X:Cx}
theorem ag1{its:List Value}{ns:List Int}(h:IntsAre its ns){i:Nat}(e:its.toArray[i]? = some v):∃t,v=.int (ns.getD i 0) t:=by
 replace e:its[i]? = some v:=by simpa using e
 induction h generalizing i with
 |nil=>simp at e
 |cons n t _ ih =>
  cases i with
  |zero=>simp at e;subst e;exact⟨_,rfl⟩
  |succ i=>simpa using ih (by simpa using e)
theorem ahr(hc:X.calm=true):CallR X (.type "set") (λxs H Q=>∃(p:Addr) (ns:List Int),xs=[.ref p]/\(SqL X.K H p (ns.map V.int)\/SqT X.K H p (ns.map V.int))/\ns.length+1<scanBound/\∀l,H l=none->Q (.ref l) (upd H l (b1d X.w l (ns.foldl stepK [])))):=by
 intro aA s Z H xs us Q I r h
 obtain⟨p,ns,rfl,hq,few,q⟩:=h;obtain⟨u,rfl,rx⟩:=vals1 r;cases rx
 have fin:∀(h':Heap) (tk:Nat),SetI (!byT X.w) s.heap.objs.size (ns.foldl stepK []) h'->(∀c o,s.heap.get? c=some o->h'.get? c=some o)->EP X aA Z Q (.ref s.heap.objs.size) {s with heap:=h',toks:=tk}:=λh' tk hS kp =>
  ⟨.ref s.heap.objs.size,_,I.laid (t':=tk) (o:=b1d X.w s.heap.objs.size (ns.foldl stepK [])) kp (aw _) (au6 hS),rfl,q _ (I.hok.fresh (aw _))⟩
 rcases hq with hq|hq
 .obtain⟨its,r',pl,hz⟩:=I.list hq;have hI:IntsAre its ns:=intsAre_of r';have hl:its.length=ns.length:=by have:=r'.length;simp at this;omega
  obtain⟨o,ho,hcl,n,hd⟩:=pl.isList;obtain⟨oc,od,odt,osl⟩:=o;simp only at hcl hd;subst hcl hd;have hlt:=aP ho;refine a5d (ns:=ns) ho F.sub_list_set F.sub_list_frozenset (by decide) few (λA s1 Q E e1 k=>?_) (I.ok.hd hc) fin
  have hlt1:=aP e1;have il:s1.heap.IsList p its.toArray:=⟨_,e1,rfl,n,rfl⟩;refine gu il (k _ (λi h=>h.IsListIter s1.heap.objs.size p i/\h.IsList p its.toArray) (λi v=>its.toArray[i]? = some v) (λA' hA=>?_) (λi v e=>ag1 hI e) ⟨⟨_,aO _ rfl,rfl,rfl⟩,il.at λo e=>af _ e⟩);have W:=Walks.list (prog:=X.prog) (w:=X.w) (A:=A') hA s1.heap.objs.size p (br hlt1) its.toArray
  rwa[show its.toArray.size=ns.length by simpa using hl]at W
 .obtain⟨its,r',pl,hz⟩:=I.tuple hq;have hI:IntsAre its ns:=intsAre_of r';have hl:its.length=ns.length:=by have:=r'.length;simp at this;omega
  obtain⟨o,ho,hcl,n,hd⟩:=pl;obtain⟨oc,od,odt,osl⟩:=o;simp only at hcl hd;subst hcl hd;refine a5d (ns:=ns) ho sub_tuple_set.1 sub_tuple_set.2 (by decide) few (λA s1 Q E e1 k=>?_) (I.ok.hd hc) fin
  have hlt1:=aP e1;have il:s1.heap.IsTuple p its.toArray:=⟨_,e1,rfl,n,rfl⟩;refine hU il (k _ (λi h=>h.IsTupleIter s1.heap.objs.size p i/\h.IsTuple p its.toArray) (λi v=>its.toArray[i]? = some v) (λA' hA=>?_) (λi v e=>ag1 hI e) ⟨⟨_,aO _ rfl,rfl,rfl⟩,il.at λo e=>af _ e⟩);have W:=Walks.tuple (prog:=X.prog) (w:=X.w) (A:=A') hA s1.heap.objs.size p (br hlt1) its.toArray
  rwa[show its.toArray.size=ns.length by simpa using hl]at W
end
end L2
namespace MI
open L2 SETB
def aks(d:D)(h:Hd):Option (List Int):=match d with
 |.tup xs=>a5q xs
 |d=>ak2 d h
noncomputable def akt:D->Hd->R D:=λd h=>match aks d h with
 |some ns=>if ns.length<=4000 then b2v (ns.foldl stepK []) h else .no
 |none=>.no
theorem aou(r:Rep K U H v d)(hr:HRep K U H h)(e:aks d h=some ns):∃p,v=.ref p/\(SqL K H p (ns.map V.int)\/SqT K H p (ns.map V.int)):=by
 cases d with
 |tup xs =>
  cases r with
  |tup hh rs =>
   have e:a5q xs=some ns:=e;exact⟨_,rfl,.inr (by rw[<-a3l rs e];exact SqT.of hh)⟩
 |_ =>
  obtain⟨p,e1,q⟩:=ak3 r hr e;exact⟨p,e1,.inl q⟩
theorem au7(hg:Gl X "sorted")(hm:X.mg "sorted" = none)(hg2:Gl X "set")(hm2:X.mg "set" = none)(hc:X.calm=true)(he:ME X E e f)
  (hs:starEach [e] X.env=[(false,eval e X.env)]:=by rfl) (hs2:starEach [Expr.Call (.Name "set" p2) [e] [] pos2] X.env=[(false,eval (.Call (.Name "set" p2) [e] [] pos2) X.env)]:=by rfl) :
  ME X E (.Call (.Name "sorted" p) [.Call (.Name "set" p2) [e] [] pos2] [] pos) (s1 akt f):=by
 refine PE.weak (af6 (a84 hc) hg hm rfl (a7c (abq (ahr hc) hg2 hm2 rfl (a7c he af4 (by rw[hs];rfl)) (by decide) (by decide) (by rw[hs];rfl)) af4 (by rw[hs2];rfl)) (by decide) (by decide) (by rw[hs2];rfl)) ?_
 rintro Z H Q ⟨U,τ,h,S,Rh,o⟩
 refine⟨U,τ,h,S,Rh,dj o λd h1 U1 H1 v g1 r1 hr1 o1=>?_⟩;unfold akt at o1
 cases e1:aks d h1 with
 |none=>rw[e1]at o1;exact o1.elim
 |some ns =>
  rw[e1]at o1;simp only at o1
  by_cases hl:ns.length<=4000
  .rw[aJ hl]at o1;obtain⟨q,rfl,sq⟩:=aou r1 hr1 e1;refine⟨q,ns,rfl,sq,by have:scanBound=4096:=rfl;omega,λl hl'=>?_⟩
   unfold b2v at o1
   by_cases h6:(ns.foldl stepK []).length<64
   .rw[aJ h6]at o1;exact⟨l,_,rfl,qw,h6,vf (E:=E) (a2z _) (hr1.aside hl' _) (a3k o1 (a2n hl' _))⟩
   .rw[ba h6]at o1;exact o1.elim
  .rw[ba hl]at o1;exact o1.elim
end MI
namespace L2
open PyProof.Rows
theorem a86:isSubtype (.type "range_iterator") (.type "reversed")=pure false:=by rw[gE];kernel_rfl
section
variable{prog:Program}{w:World}{A:Around}{E:Value->Shared->Prop}{s:Shared}
abbrev avt(n:Int):Obj:={cls:=.type "range_iterator",data:=.fields #[rawInt (n-1),rawInt n,rawInt (-1)]}
theorem au8(h:0<=j):Builtin.Range.rangeSize 0 j 1=j:=by
 rw[rangeSize_one];split<;>omega
theorem aku(hr:IsRange s.heap r 0 j 1 t u v)(j0:0<=j)(j1:j<2^62)(h:Q (.ref s.heap.objs.size) {s with heap:=s.heap.push (avt j)}) :
  wpAny (model prog w) A (call (.builtin "range.__reversed__") [.ref r]) Q E s:=by
 refine cm gI ⟨_,hr,rfl⟩ F.entry_range_reversed ?_ (F.args_range_reversed_1 _);have sz:=au8 j0;have sm:(Builtin.Range.rangeFitsLong 0 && Builtin.Range.rangeFitsLong j && Builtin.Range.rangeFitsLong 1 && Builtin.Range.rangeFitsLong (-1) && Builtin.Range.rangeFitsLong (0-1) && Builtin.Range.rangeFitsLong j)=true:=by
  have:Builtin.Range.rangeFitsLong j=true:=by unfold Builtin.Range.rangeFitsLong;simp;omega
  simp only[this,Bool.and_true]
  decide
 unfold Builtin.«range.__reversed__»;unfold IsRange at hr
 wp_walk
 simp only[sz];simp only[sm,jI,cP,fR,dO];have e:(0:Int)+(j-1)*1=j-1:=by omega
 rw[e];refine ae ?_;unfold newFields;exact bV (av ⟨_,rfl,h⟩)
theorem au9(hr:IsRange s.heap r 0 j 1 t u v)(j0:0<=j)(j1:j<2^62)(h:Q₁ (.ref s.heap.objs.size) {s with heap:=s.heap.push (avt j)}) :
  codeAny (model prog w) A (.call (.builtin "reversed.__new__") ⟨[.type "reversed",.ref r],[]⟩) (wants Q₁ E) s:=by
 have ty:s.TypeIs (.ref r) "range":=⟨_,hr,rfl⟩
 apply fY
 apply ae
 refine fK (F.newCall_reversed_1 _) ?_;refine av ⟨gQ F.plain_reversed_new _,eQ F.entry_reversed_new ?_⟩;simp only[dX F.plain_reversed_new];unfold Builtin.«reversed.__new__»
 apply ae
 refine fK (newClass_reversed _) ?_
 try dsimp only
 apply ae
 refine fK (a:=()) (by first|rfl|kernel_rfl) ?_
 apply ae
 refine fK (a:=()) (by first|rfl|kernel_rfl) ?_
 try dsimp only
 apply ae
 refine wpAny_specialOf ty gI.lookup ?_
 try dsimp only
 apply ae
 refine fK (gI.bind _) ?_
 try dsimp only
 have nn:¬ ((Value.builtin "range.__reversed__" == Value.none)=true):=aX
 first
  |rw[ba nn]
  |(show wpAny _ _ (if (Value.builtin "range.__reversed__" == Value.none)=true then _ else _) _ _ _;rw[ba nn])
 apply ae
 apply fQ
 refine ae (m:=runValue (.call (.builtin "range.__reversed__") ⟨[.ref r],[]⟩)) (show wpAny _ _ (call (.builtin "range.__reversed__") [.ref r]) _ _ _ from aku hr j0 j1 ?_)
 first
  |exact av h
  |exact ae (av (av h))
theorem aov(hr:IsRange s.heap r 0 j 1 t u v)(j0:0<=j)(j1:j<2^62)(h:Q (.ref s.heap.objs.size) {s with heap:=s.heap.push (avt j)}):wpAny (model prog w) A (call (.type "reversed") [.ref r]) Q E s:=by
 refine callType_other (U := "range_iterator") (Q₁:=λobj s1=>obj=.ref s.heap.objs.size/\s1={s with heap:=s.heap.push (avt j)}) (by decide +kernel) F.create_reversed ⟨_,_,F.mro_reversed⟩ F.made_reversed a86 (F.typeCall_reversed_1 _) (au9 hr j0 j1 ⟨rfl,rfl⟩) ?_
 rintro obj s1 ⟨rfl,rfl⟩
 exact⟨⟨_,aO _ rfl,rfl⟩,h⟩
end
section
variable{X:Cx}{tg:Expr}
noncomputable def b5m(ta:TA):TI:=λZ H R=>ta Z H λvs H1=>∃j:Int,vs=[.int j]/\0<=j/\j<2^62/\R (Itd (j-1) j.toNat) H1
theorem aeb:bootBuiltins "reversed" = some (.type "reversed"):=by first|exact PySem.boot_reversed|exact PyProof.Rows.boot_reversed|kernel_rfl
theorem ayi(hg:Gl X "reversed")(hm:X.mg "reversed" = none)(hg2:Gl X "range")(hm2:X.mg "range" = none)(ha:PA X [a] ta)(hs:starEach [a] X.env=[(false,eval a X.env)]:=by rfl)
  (hs2:starEach [Expr.Call (.Name "range" p2) [a] [] pos2] X.env=[(false,eval (.Call (.Name "range" p2) [a] [] pos2) X.env)]:=by rfl):PI X tg (.Call (.Name "reversed" p) [.Call (.Name "range" p2) [a] [] pos2] [] pos) (b5m ta):=by
 intro aA s Z H R I h
 have inner:wpAny (model X.prog X.w) X.A (eval (.Call (.Name "range" p2) [a] [] pos2) X.env) (λv s1=>∃(j:Int) (r:Addr) (t u w:Tok) (H1:Hp),v=.ref r/\IsRange s1.heap r 0 j 1 t u w/\Inv X aA Z H1 s1/\0<=j/\j<2^62/\R (Itd (j-1) j.toNat) H1) X.xe s:=by
  refine Call_ (a66 I hg2 hm2 boot_range (cH (thn (ha pos2 aA s Z H _ I h) λus s1 ⟨vs,H1,I1,r1,q1⟩=>?_) hs rfl));obtain⟨j,e,j0,j1,q⟩:=q1;subst e
  cases r1 with
  |cons r rr =>
   cases rr
   obtain⟨t,rfl⟩:=r;exact call_range_1 ⟨j,_,_,_,_,H1,rfl,IsRange.new ..,I1.kept λb o e=>af _ e,j0,j1,q⟩
 refine Call_ (a66 I hg hm aeb (cH ?_ hs2 rfl));rw[hs2];show wpAny _ _ (spliced ((false,eval (.Call (.Name "range" p2) [a] [] pos2) X.env)::backTo pos (starEach [] X.env))) _ _ s;refine Calls.spliced_cons (thn inner λv s1 ⟨j,r,t,u,w,H1,ev,hr,I1,j0,j1,q⟩=>Calls.spliced_nil ?_);subst ev;refine aov hr j0 j1 ?_;have I2:Inv X aA Z H1 {s1 with heap:=s1.heap.push (avt j)}:=I1.kept (t':=s1.toks) λb o e=>af _ e
 have st:IsRangeIter (s1.heap.push (avt j)) s1.heap.objs.size (j-1) j (-1):=aO _ rfl;refine gc st ?_;refine⟨s1.heap.objs.size,[s1.heap.objs.size],_,_,H1,rfl,I2,ak4 _ (j-1) j.toNat,?_,λb hb=>?_,q⟩
 .show IsRangeIter _ _ (j-1-((0:Nat):Int)) ((j.toNat:Int)-((0:Nat):Int)) (-1);rw[show j-1-((0:Nat):Int)=j-1 by omega,show(j.toNat:Int)-((0:Nat):Int)=j by omega]
  exact st
 .have e:b=s1.heap.objs.size:=by simpa using hb
  subst e;exact I1.fpOk (aw _) (I1.hok.fresh (aw _))
end
end L2
namespace MI
open L2
def Bz(j:Int):Prop:=0<=j/\j<2^62
instance (j:Int):Decidable (Bz j):=by unfold Bz;exact inferInstance
noncomputable def avu(ds:List D)(h:Hd):R Itm:=match ds with
 |[.int j]=>if Bz j then .ok ⟨ao9 (j-1) j.toNat,λ_=>True⟩ h else .no
 |_=>.no
theorem ayj(hg:Gl X "reversed")(hm:X.mg "reversed" = none)(hg2:Gl X "range")(hm2:X.mg "range" = none)(ha:MA X E [a] k)(hs:starEach [a] X.env=[(false,eval a X.env)]:=by rfl)
  (hs2:starEach [Expr.Call (.Name "range" p2) [a] [] pos2] X.env=[(false,eval (.Call (.Name "range" p2) [a] [] pos2) X.env)]:=by rfl):MI X E tg (.Call (.Name "reversed" p) [.Call (.Name "range" p2) [a] [] pos2] [] pos) (sRg avu k):=by
 rintro aA s Z H Rr I ⟨U,τ,h,S,Rh,o⟩
 refine ayi hg hm hg2 hm2 ha hs hs2 aA s Z H Rr I ⟨U,τ,h,S,Rh,dj o λds h1 U1 H1 vs g1 r1 hr1 o1=>?_⟩;unfold avu at o1
 split at o1
 .rename_i j
  cases r1 with
  |cons r rs =>
   cases r;cases rs
   by_cases hb:Bz j
   .rw[aJ hb]at o1;exact⟨j,rfl,hb.1,hb.2,o1 U1 H1 _ (.refl _ _) (ay8 (j-1) j.toNat) hr1⟩
   .rw[ba hb]at o1;exact o1.elim
 .exact o1.elim
theorem akv(h:n<=LINE):Bz (n:Int):=by
 have:n<=16777216:=h
 unfold Bz;omega
theorem aow(n:Nat):ao9 ((n:Int)-1) n=(List.range n).map λi:Nat=>D.int ((n-1-i:Nat)):=by
 unfold ao9;refine dG λi hi=>?_;have:=dH.mp hi;exact aI D.int (by omega)
theorem aox(h:Hd)(z:n<=LINE):avu [.int (n:Nat)] h=.ok ⟨(List.range n).map λi:Nat=>D.int ((n-1-i:Nat)),λ_=>True⟩ h:=by
 have e:avu [.int (n:Nat)] h=if Bz (n:Int) then R.ok (⟨ao9 ((n:Int)-1) (n:Int).toNat,λ_=>True⟩:Itm) h else .no:=rfl
 have b:=akv z
 clear z
 rw[e,aJ b,ee,aow]
theorem ayk{α β:Type}(a:α)(h:Hd)(k:α->Hd->R β):(R.ok a h).bind k=k a h:=rfl
theorem ayl(e:f τ h=.ok (.int (n:Nat)) h)(z:n<=LINE):sRg avu (aj f di) τ h=.ok ⟨(List.range n).map λi:Nat=>D.int ((n-1-i:Nat)),λ_=>True⟩ h:=by
 have a:aj f di τ h=.ok [.int (n:Nat)] h:=by unfold aj di;rw[e];rfl
 have q:=aox h z;unfold sRg;rw[a];rw[ayk,q]
end MI
namespace ENG
open L2 MI
def aas:SS :=
 (iy (sIf (sT (s2 hEq (s2 gIx (sV 0) (sI 0)) (sC (.str "one"))))
 (pq (sA yj di))
 sNx)
 (iy (sIf (sOr (sT (s2 hEq (s2 gIx (sV 0) (sI 0)) (sC (.str "row")))) (sT (s2 hEq (s2 gIx (sV 0) (sI 0)) (sC (.str "either")))))
 (pq (s2 gIx (sV 0) (sI 1)))
 sNx)
 (pq (sA yj (aj (s2 gIx (sV 0) (sI 1)) di)))))
end ENG
namespace TPM
open PySem.W L2 HT MI
theorem ahs(t:Addr)(aC:Array Value)(n:Nat)(dd:Option Addr)(sl:Array (Option Value))(u:Tok)(h0:aC.isEmpty=false) :
  Meets (Builtin.«tuple.__mul__» ⟨[.ref t,.int 0 u],[]⟩) (λ_ R s=>s.heap.get? t=some {cls:=.type "tuple",dict:=dd,data:=.seq aC n,slots:=sl}/\R (.ok (.ret (.ref s.heap.objs.size))) {s with heap:=s.heap.push {cls:=.type "tuple",data:=.seq #[]} }) :=
 .of_wp λprog w A R s h=>by
  obtain⟨hp,g,d,tk,os⟩:=s;obtain⟨hl,h⟩:=h;have c2:¬ (aC.isEmpty || (0:Int) == 1)=true:=by rw[h0];decide
  wp_walk
  exact⟨_,rfl,h⟩
noncomputable def aym(K:Fg):R2:=λx y H Q=>∃a xs,x=.ref a/\y=.int 0/\SqT K H a xs/\xs≠[]/\∀p,H p=none->Q (.ref p) (upd H p (.tup []))
theorem aua:OpR X (binaryOp .Mult) (aym X.K):=by
 intro aA s Z H x y v u Q I rx ry h
 obtain⟨a,xs,rfl,rfl,ha,hx,q⟩:=h;cases rx
 obtain⟨t,rfl⟩:=ry;obtain⟨its,r1,p1,_⟩:=I.tuple ha;obtain⟨⟨cls,dd,data,sl⟩,ho,hc,n,hd⟩:=id p1;simp only at hc hd;subst hc hd;have he:its.toArray.isEmpty=false:=by
  cases its with
  |nil=>exact(hx (r1.nil_iff.mp rfl)).elim
  |cons _ _=>rfl
 refine dI (T := "tuple") (U := "int") (by decide) ⟨_,ho,rfl⟩ (λs'=>eY s' 0 t) zu fT cY a7u fG.lookup
  (dW cY (eY s 0 t) fH (fq _ _) (a2w 0 t a its.toArray n dd sl)
   ⟨ho,rfl,⟨_,ho,rfl⟩,dW fI ⟨_,ho,rfl⟩ iB (i4 _ _) (ahs a its.toArray n dd sl t he) ⟨ho,?_⟩⟩)
 refine⟨.ref s.heap.objs.size,_,I.laid (t':=s.toks) (o:=.tup []) (λb ob q=>af _ q) (aw _) ?_,rfl,q _ (I.hok.fresh (aw _))⟩;exact⟨by decide,[],.nil,gi _ _⟩
end TPM
namespace MI
open L2 TPM
open Classical in
def aec(x y:D)(h:Hd):R D:=match x,y with
 |.tup xs,.int k=>if k=0/\xs≠[] then .ok (.tup []) h else ahf (.tup xs) (.int k) h
 |x,y=>ahf x y h
theorem aoy:a1w K aec (λx y H Q=>(((rI CMul (λi j=>.int (i*j)) x y H Q\/ax6 x y H Q)\/ao4 K x y H Q)\/atv K x y H Q)\/aym K x y H Q):=by
 intro E U H h x y dx dy Q rx ry hr o
 cases rx with
 |@tup a vs xs ha rs =>
  cases ry with
  |int k =>
   simp only[aec]at o
   split at o
   .rename_i hc;obtain⟨rfl,hx⟩:=hc;refine .inr ⟨a,vs,rfl,rfl,SqT.of ha,λz=>hx ?_,a1h .nil hr o⟩;subst z;cases rs;rfl
   .exact .inl (aam _ _ _ _ _ _ _ _ _ (.tup ha rs) (.int k) hr o)
  |_=>exact o.elim
 |int i=>exact .inl (aam _ _ _ _ _ _ _ _ _ (.int i) ry hr o)
 |ref e=>exact .inl (aam _ _ _ _ _ _ _ _ _ (.ref e) ry hr o)
 |_=>exact o.elim
theorem akx(ha:ME X E a fa)(hb:ME X E b fb):ME X E (.BinOp a .Mult b pos) (s2 aec fa fb):=ac2 ((((apw.or ax7).or ati).or atw).or aua) aoy ha hb
theorem b44(k2:k<=1000):aec (.tup [d]) (.int (k:Nat)) h=.ok (.tup (List.replicate k d)) h:=by
 unfold aec;dsimp only
 by_cases e:(k:Int)=0
 .rw[aJ ⟨e,by simp⟩]
  have:k=0:=by omega
  subst this;rfl
 .rw[ba (λz=>e z.1),b5l (by simp) (by omega) k2 (by simp)]
  congr 2
  clear e k2
  induction k with
  |zero=>rfl
  |succ k ih=>rw[bA,cv,ih];rfl
end MI
namespace L2
open PyProof.Rows
noncomputable def cxD(X:Cx)(N:List Str)(aB:Scope)(cl:List (Str×Addr))(t:Str)(C:Addr)(fp:List Addr)(s:Shared)(H:Hp):Cx where
 prog:=X.prog
 w:=X.w
 K:=X.K
 mg:=X.mg
 base:=X.base
 A:=X.A
 N:=N
 s₀:=s
 H₀:=H
 env:=compEnvC aB ((t,C+1)::cl) C X.env
 outer:=X.stack
 stack:=X.stack
 ex:=fp
 fn:=λx=>x == t
 calm:=X.calm
 pn:=[]
 xe:=λ_ _=>False
structure CSd (X:Cx) (aB:Scope) (cl:List (Str×Addr)) (t:Str) (ts fr:List Str) (ix:List Nat):Prop where
 clos:closureFor aB X.env=pure cl
 kind:aB.kind=.function
 own:∀a,cellsFrom a aB.names cl=(t,a)::cl
 push:∀h,pushCells h aB.names=h.push {cls:=.type "cell",data:=.cell none}
 names:∀y∈aB.names,y.2=.local->aB.names.lookup y.1=some .local
 sub:∀y c,cl.lookup y=some c->X.env.cells.lookup y=some c
 has:∀y,((relabel aB X.env).names.lookup y=some .cell\/(relabel aB X.env).names.lookup y=some .free)->y=t\/∃c,cl.lookup y=some c
 len:ix.length=fr.length
 vis:∀(j:Nat) (y:Str),fr[j]? = some y->y≠t/\∃i:Nat,ix[j]? = some i/\X.N[i]? = some y/\(X.env.kindOf y=some .cell\/X.env.kindOf y=some .free)/\((relabel aB X.env).names.lookup y=some .cell\/(relabel aB X.env).names.lookup y=some .free)
theorem look{cl:List (Str×Addr)}(e:((t,a)::cl).lookup y=some c):(y=t/\c=a)\/(y≠t/\cl.lookup y=some c):=by
 rw[gJ]at e
 cases hb:y == t with
 |true=>rw[hb]at e;cases e;exact .inl ⟨eD.mp hb,rfl⟩
 |false=>rw[hb]at e;exact .inr ⟨λz=>by rw[z]at hb;simp at hb,e⟩
theorem aky{cl:List (Str×Addr)}(ne:y≠t)(e:cl.lookup y=some c):((t,a)::cl).lookup y=some c:=by
 rw[gJ];have hb:(y == t)=false:=by rw[bQ];exact ne
 rw[hb];exact e
theorem aqu{t:Str}{a:Addr}{cl:List (Str×Addr)}:((t,a)::cl).lookup t=some a:=by rw[gJ];simp
theorem no1(h:C+1<n)(h':n<=C):False:=by omega
theorem no2(h:b<n)(h':n<=C):C+1≠b:=by omega
theorem no3(h:C+1=n)(h':n<=C):False:=by omega
theorem aub{M:Model}{A:Around}{E:Value->Shared->Prop}{s:Shared}{aB:Scope}{globals:Addr}{cl:List (Str×Addr)}{t:Str}{qual:Str}{func:Option Addr}{code:Value}{outer:Env}{builtins:Addr}{Q:Env->Shared->Prop}
  (own:∀a,cellsFrom a aB.names cl=(t,a)::cl) (push:∀h,pushCells h aB.names=h.push {cls:=.type "cell",data:=.cell none}) (hk:aB.kind=.function)
  (hQ:∀h':Heap,h'.Ns s.heap.objs.size (λ_=>none)->h'.IsCell (s.heap.objs.size+1) none->(∀b o,s.heap.get? b=some o->h'.get? b=some o)->Q (newEnv aB s.heap.objs.size globals ((t,s.heap.objs.size+1)::cl) qual func code (some outer) builtins) {s with heap:=h' }) :
  wpAny M A (newFunctionEnv aB globals cl [] qual func code (some outer) builtins) Q E s:=by
 simp only[newFunctionEnv,Option.isSome_some,dO];refine ae (wpAny_alloc ?_);refine ae (wpAny_layCells _ (λname kind cells=>by cases hkc:kind == NameKind.cell<;>simp[hkc]) _ _ _ _ ?_)
 rw[own,push];simp only[List.forIn_nil];refine ae (av (av ?_));have sz:({s with heap:=s.heap.push {cls:=.type "dict",data:=.dict #[]} }:Shared).heap.objs.size=s.heap.objs.size+1:=cB ..
 rw[sz];refine hQ _ ((Heap.Ns.new s.heap (.type "dict")).keeps λb o e=>af _ e) ⟨{cls:=.type "cell",data:=.cell none},?_,rfl⟩ λb o e=>af _ (af _ e);rw[<-sz];exact aO _ rfl
section
variable{X:Cx}
theorem akz{aA:List (Addr×Obj)}{Z:St}{H:Hp}{s:Shared}{aB:Scope}{cl:List (Str×Addr)}{t:Str}{ts fr:List Str}{ix:List Nat}{C:Addr}{fp:List Addr}(S:CSd X aB cl t ts fr ix)(I:Inv X aA Z H s)
  (hf:∀b∈fp,FpOk X aA H b) (hb:∀b∈fp,b<s.heap.objs.size) (hC:s.heap.objs.size<=C):(cxD X (ts++fr) aB cl t C fp s H).Ok where
 mod:=I.ok.mod
 kind:=S.kind
 glob:=I.ok.glob
 blt:=I.ok.blt
 above:=hC
 inj:=λx y c h1 h2=>by
  have small:∀z c,cl.lookup z=some c->c<s.heap.objs.size:=λz c e=>let ⟨_,q⟩:=I.cell z c (S.sub z c e);q.lt
  rcases look h1 with⟨e1,rfl⟩|⟨_,e1⟩<;>rcases look h2 with⟨e2,e3⟩|⟨_,e2⟩
  .rw[e1,e2]
  .exact(no1 (small y _ e2) hC).elim
  .rw[e3]at e1;exact(no1 (small x _ e1) hC).elim
  .exact I.ok.inj x y c (S.sub x c e1) (S.sub y c e2)
 has:=λy z=>by
  rcases S.has y z with rfl|⟨c,e⟩
  .exact⟨_,aqu⟩
  .by_cases h:y=t
   .subst h;exact⟨_,aqu⟩
   .exact⟨c,aky h e⟩
 cab:=λx c h e=>by
  rcases look e with⟨_,rfl⟩|⟨ne,_⟩
  .show s.heap.objs.size<=C+1;omega
  .exact absurd (eD.mp h) ne
 hd:=I.ok.hd
 frames:=I.ok.frames
 stk:=.inl rfl
 exf:=λb hb'=>⟨br (aT (hb b hb') hC),λx c e=>by
  rcases look e with⟨_,rfl⟩|⟨_,e⟩
  .exact no2 (hb b hb') hC
  .exact(hf b hb').2.2.2.2.1 x c (S.sub x c e)⟩
 bs:=λb o e=>I.bs b o e
 bsz:=bC I.ok.bsz I.sz
 noex:=λb o e hb'=>by
  rcases(hf b hb').2.2.2.1 with z|z
  .exact I.ok.noex b o e z
  .exact absurd (aT (aP e) (bC I.ok.bsz z)) (bU _)
 exfs:=λb hb' z=>by
  rcases aL.mp (I.stkSub b z) with e|e
  .exact(hf b hb').2.1 e
  .exact(hf b hb').2.2.1 e
 funs:=I.stack
 frf:=λb hb'=>I.stkFree b hb'
theorem auc{s s4:Shared}{ts:List Str}(S:CSd X aB cl t ts fr ix)(I:Inv X aA Z H s)
  (hf:∀b∈fp,FpOk X aA H b) (hb:∀b∈fp,b<s.heap.objs.size) (hC:s.heap.objs.size<=C)
  (k:∀b o,s.heap.get? b=some o->s4.heap.get? b=some o) (hn:s4.heap.Ns C m) (hcl:s4.heap.IsCell (C+1) none) (ho:s4.os=s.os) (hg:s4.gens=s.gens) :
  Inv (cxD X (ts++fr) aB cl t C fp s H) [] (my ts.length ix Z) H s4 where
 ok:=akz S I hf hb hC
 os:=ho
 bare:=by rw[hg];exact I.bare
 base:=Un.kept k
 loc:=by
  refine⟨m,hn,λi x v e1 e2 e3=>?_⟩;have e1:(ts++fr)[i]? = some x:=e1
  by_cases hi:i<ts.length
  .unfold my at e2;rw[aV (by simpa using hi),dZ,aJ hi]at e2
   cases e2
  .rw[aK (by omega)]at e1
   unfold my at e2;rw[aK (by simpa using hi),cJ,bD]at e2
   obtain⟨nt,j,h1,h2,h3,h4⟩:=S.vis _ x e1;rw[h1]at e2;have e2':(Z[j]?).join=some v:=bP e2;have e5:Z[j]? = some (some v):=by
    cases q:Z[j]? with
    |none=>rw[q]at e2';cases e2'
    |some o=>rw[q]at e2';simp at e2';rw[e2']
   obtain⟨m0,_,hl⟩:=I.loc;have vis:Vis X.env.scope x:=h3.elim (λz=>.inr (.inl z)) λz=>.inr (.inr z);obtain⟨u,ru,l⟩:=hl j x v h2 e5 vis;refine⟨u,ru,?_⟩
   rcases l with⟨z,_⟩|⟨_,c,hc,hcell⟩
   .rcases h3 with h3|h3<;>rw[h3]at z<;>cases z
   .rcases S.has x h4 with z|⟨c',hc'⟩
    .exact absurd z nt
    .have e6:c'=c:=bP ((S.sub x c' hc').symm.trans hc);subst e6;obtain⟨o,ho,hd⟩:=hcell;exact .inr ⟨h4,c',aky nt hc',o,k _ _ ho,hd⟩
 cell:=λx c e=>by
  rcases look e with⟨_,rfl⟩|⟨_,e⟩
  .exact⟨_,hcl⟩
  .obtain⟨v,o,ho,hd⟩:=I.cell x c (S.sub x c e);exact⟨v,o,k _ _ ho,hd⟩
 free:=I.hok.fresh hC
 freeC:=λx c e=>by
  rcases look e with⟨_,rfl⟩|⟨_,e⟩
  .exact I.hok.fresh (by omega)
  .exact I.freeC x c (S.sub x c e)
 pin:=λp hp=>absurd (show p∈([]:List (Addr×Obj)) from hp) (by simp)
 hok:=I.hok.kept k
 len:=by
  rw[a90];show _=(ts++fr).length;rw[ah,S.len]
theorem aht{its:List Value}(I:Inv X aA Z H s)
  (hf:∀b∈fp,FpOk X aA H b) (hC:s.heap.objs.size<=C) (hacc:s.heap.objs.size<=acc) (hCa:C≠acc)
  (J:Inv (cxD X N aB cl t C fp s H) [] Z' H' s') (hn:H' acc=none) (ha:s'.heap.get? acc=some {cls:=.type "list",data:=.seq its.toArray n}) (rv:Vals ys its) (hz:ys.length<=sizeLine) (sb:Heap.SameBut C s'.heap h') :
  Inv X aA Z (upd H' acc (.lst ys)) {s' with heap:=h' }:=by
 have k:∀b o,b≠C->s'.heap.get? b=some o->h'.get? b=some o:=λb o hb e=>sb.extBut b o hb e;have old:∀b o,s.heap.get? b=some o->b≠C/\b≠acc:=λb o e=>⟨br (aT (aP e) hC),br (aT (aP e) hacc)⟩;have u0:Un (frs X.stack) fp H H' s.heap s'.heap:=J.base;have fC:H' C=none:=J.free;have u:Un (frs X.stack) fp H (upd H' acc (.lst ys)) s.heap h':=by
  refine⟨λb o e n' hb hx=>k b o (old b o e).1 (u0.keep b o e n' hb hx),λb o e n' hb hx=>?_,λb o e n' hx=>?_,λb o e hx=>?_,λb xs e=>?_,λb o v e=>?_,λb ps e=>?_⟩
  .obtain⟨sl,e1⟩:=u0.slot b o e n' hb hx;exact⟨sl,k b _ (old b o e).1 e1⟩
  .rw[je (old b o e).2];exact u0.free b o e n' hx
  .obtain⟨o',e1⟩:=u0.there b o e hx;exact⟨o',k b _ (old b o e).1 e1⟩
  .rw[je (iu (u0.tups b xs e) hn)];exact u0.tups b xs e
  .rw[je (iu (u0.frzs b o v e) hn)];exact u0.frzs b o v e
  .obtain⟨more,e1⟩:=u0.tbls b ps e;exact⟨more,by rw[je (iu e1 hn)];exact e1⟩
 have hok:HOk X.prog X.w (upd H' acc (.lst ys)) h':=λb o e=>by
  by_cases hb:b=acc
  .subst hb;rw[qw]at e;cases e
   exact⟨hz,its,n,rv,k _ _ (fz hCa) ha⟩
  .rw[je hb]at e;refine(J.hok b o e).stay (λc v hc q=>k c v ?_ q) (λc q=>by rw[je (iu q hn)];exact q) λc xs q=>by rw[je (iu q hn)];exact q
   rcases hc with z|z
   .rw[z];exact iu e fC
   .exact iu z fC
 have J':=I.call (g':=s'.gens) (t':=s'.toks) (d':=s'.drawn) (ch:=fp) u hok J.bare λb hb=>⟨(hf b hb).2.2.2.1,(hf b hb).2.1,(hf b hb).2.2.2.2.1,(hf b hb).2.2.2.2.2⟩;have eo:s'.os=s.os:=J.os;obtain⟨hp,g,d,t,o⟩:=s';have eo':o=s.os:=eo;subst eo';exact J'
theorem aed{aD tg aF:Expr}{cnd:Option Expr}{aB:Scope}{pos ppos:Pos}{cl:List (Str×Addr)}{t:Str}{ts fr:List Str}{ix:List Nat}{wi:TI}{g:TG}{tc:TT}{te:TE}(hc:X.calm=true)(S:CSd X aB cl t ts fr ix)(hi:PI X tg aF wi)
  (hg:∀C fp s H,PG (cxD X (ts++fr) aB cl t C fp s H) tg g) (he:∀C fp s H,PE (cxD X (ts++fr) aB cl t C fp s H) aD te) (ht:∀C fp s H,PTO (cxD X (ts++fr) aB cl t C fp s H) cnd tc) (hs:∀x,foldedSetIterable aF X.env x=pure x)
  (use:Option (Value->Sem Unit)) {aA:List (Addr×Obj)} {s:Shared} {Z:St} {H:Hp} {Q:VK} {Qf:Value->Shared->Prop} (I:Inv X aA Z H s) (h:a1v wi (my ts.length ix) g tc te Z H Q) (fin:a2r X aA Z use Q Qf) :
  wpAny (model X.prog X.w) X.A (comprehension (.ListComp aD [⟨tg,aF,cnd.toList,0⟩] aB pos) aB X.env ppos (newList []) false (eval aF X.env) use) Qf X.xe s:=by
 refine fP (use:=use) rfl hs S.clos S.kind S.names (thn (hi aA s Z H _ I h) λv s1 h1=>thn h1 λitv s2 h2=>?_);obtain⟨it,fp,tn,J,H2,e,I2,T,st2,f2,W,⟨m0,w0⟩,turn⟩:=h2;subst e;have hob:∀b∈fp,b<s2.heap.objs.size:=λb hb=>let ⟨o,e,_⟩:=T.obj _ _ st2 b hb;aP e;refine bV (aub S.own S.push S.kind λh4 hns4 hc4 hsb4=>?_);dsimp only at hns4 hc4 hsb4 ⊢
 generalize hH2:s2.heap.push {cls:=.type "list",dict:=none,data:=.seq ([]:List Value).toArray}=G at hns4 hc4 hsb4 ⊢
 have hCs:G.objs.size=s2.heap.objs.size+1:=by rw[<-hH2,cB]
 have hCle:s2.heap.objs.size<=G.objs.size:=by omega
 have hne:G.objs.size≠s2.heap.objs.size:=by omega
 have old:∀b o,s2.heap.get? b=some o->h4.get? b=some o:=λb o e=>by
  have hlt:=aP e;exact hsb4 b o (hH2 ▸ af _ e)
 have hacc:h4.get? s2.heap.objs.size=some {cls:=.type "list",data:=.seq ([]:List Value).toArray 0} :=
  hsb4 _ _ (hH2 ▸ aO _ rfl)
 have K0:Inv (cxD X (ts++fr) aB cl t G.objs.size fp s2 H2) [] (my ts.length ix Z) H2 {s2 with heap:=h4} :=
  auc S I2 f2 hob hCle old hns4 hc4 rfl rfl
 have st4:tn 0 h4:=T.keep _ _ _ st2 λb _ o e=>old b o e;have accF:s2.heap.objs.size∉fp:=λz=>bU _ (hob _ z);have stat:∀{H':Hp},(∀b∈fp,H' b=none)->∀b∈fp,FpOk (cxD X (ts++fr) aB cl t G.objs.size fp s2 H2) [] H' b:=λhn b hb =>
  ⟨hn b hb,λz=>by have h1:=hob b hb;have z':b=G.objs.size:=z;exact br (aT h1 hCle) z',λz=>(akz S I2 f2 hob hCle).exfs b hb z,.inl hb,λx c e=>by
   rcases look e with⟨_,rfl⟩|⟨_,e⟩
   .exact no2 (hob b hb) hCle
   .exact(f2 b hb).2.2.2.2.1 x c (S.sub x c e),λp hp=>absurd (show p∈([]:List (Addr×Obj)) from hp) (by simp)⟩
 have statA:∀{H':Hp},H' s2.heap.objs.size=none->FpOk (cxD X (ts++fr) aB cl t G.objs.size fp s2 H2) [] H' s2.heap.objs.size:=λhn =>
  ⟨hn,λz=>hne (show G.objs.size=s2.heap.objs.size from z.symm),λz=>by
   obtain⟨_,o,ho,_⟩:=(akz S I2 f2 hob hCle).funs.mem z;exact bU _ (aP ho),.inr (aw _),λx c e z=>by
   rcases look e with⟨_,rfl⟩|⟨_,e⟩
   .exact no3 z hCle
   .obtain⟨v,o,ho,_⟩:=I2.cell x c (S.sub x c e);rw[z]at ho;exact bU _ (aP ho),λp hp=>absurd (show p∈([]:List (Addr×Obj)) from hp) (by simp)⟩
 have loop:codeAny (model X.prog X.w) X.A (.compLoop (.ListComp aD [⟨tg,aF,cnd.toList,0⟩] aB pos) 0 (.ref it) (.ref s2.heap.objs.size) (compEnvC aB ((t,G.objs.size+1)::cl) G.objs.size X.env))
   (compPost (model X.prog X.w) X.A X.xe use Qf (.ref s2.heap.objs.size) G.objs.size) {s2 with heap:=h4} :=
  aby (Y:=cxD X (ts++fr) aB cl t G.objs.size fp s2 H2) hc (λ_ _ h=>h) rfl T stat statA accF (hg _ _ _ _) (he _ _ _ _) (ht _ _ _ _) turn w0 K0 st4 (λb hb=>(f2 b hb).1) (I2.hok.fresh (aw _)) hacc λs6 H6 ys its k I6 fa rv hz qn=>by
   have e6:=(I6.pin (s2.heap.objs.size,{cls:=.type "list",data:=.seq its.toArray k}) (by show _∈[]++[_];simp)).1
   obtain⟨m6,hn6,_⟩:=I6.loc;exact fin _ _ s6 _ m6 hn6 (I2.fpOk hCle (by rw[je hne];exact I6.free)) (λh' sb=>aht I2 f2 hCle (aw _) hne I6.unpinned' fa e6 rv hz sb) (qn _ fa)
 exact codeAny_compStart_list loop (T.self _ 0 _ _ _ st4 loop)
theorem acw{aD tg aF cnd:Expr}{aB:Scope}{pos ppos:Pos}{cl:List (Str×Addr)}{t:Str}{ts fr:List Str}{ix:List Nat}{wi:TI}{g:TG}{tc:TT}{te:TE}(hc:X.calm=true)(S:CSd X aB cl t ts fr ix)(hi:PI X tg aF wi)
  (hg:∀C fp s H,PG (cxD X (ts++fr) aB cl t C fp s H) tg g) (he:∀C fp s H,PE (cxD X (ts++fr) aB cl t C fp s H) aD te) (ht:∀C fp s H,PT (cxD X (ts++fr) aB cl t C fp s H) cnd tc) (hs:∀x,foldedSetIterable aF X.env x=pure x)
  (use:Option (Value->Sem Unit)) {aA:List (Addr×Obj)} {s:Shared} {Z:St} {H:Hp} {Q:VK} {Qf:Value->Shared->Prop} (I:Inv X aA Z H s) (h:a1v wi (my ts.length ix) g tc te Z H Q) (fin:a2r X aA Z use Q Qf) :
  wpAny (model X.prog X.w) X.A (comprehension (.ListComp aD [⟨tg,aF,[cnd],0⟩] aB pos) aB X.env ppos (newList []) false (eval aF X.env) use) Qf X.xe s :=
 aed (cnd:=some cnd) hc S hi hg he ht hs use I h fin
end
section
variable{X:Cx}
theorem CSd.of{fr:List Str}{ix:List Nat}(clos:closureFor aB X.env=pure cl)(kind:aB.kind=.function)(own:∀a,cellsFrom a aB.names cl=(t,a)::cl)(push:∀h,pushCells h aB.names=h.push {cls:=.type "cell",data:=.cell none})
  (names:(aB.names.all λp=>p.2 != .local || aB.names.lookup p.1 == some .local)=true) (sub:∀p∈cl,X.env.cells.lookup p.1=some p.2)
  (has:((relabel aB X.env).names.all λp => !(p.2 == .cell || p.2 == .free) || p.1 == t || (cl.lookup p.1).isSome)=true)
  (len:ix.length=fr.length) (vis:((fr.zip ix).all λp=>p.1 != t && X.N[p.2]? == some p.1 && (X.env.kindOf p.1 == some .cell || X.env.kindOf p.1 == some .free) && ((relabel aB X.env).names.lookup p.1 == some .cell || (relabel aB X.env).names.lookup p.1 == some .free))=true) :
  CSd X aB cl t ts fr ix:=by
 refine⟨clos,kind,own,push,λy hy e=>?_,λy c e=>sub _ (cb e),λy z=>?_,len,λj y e=>?_⟩
 .have:=bN.mp names y hy
  rw[e]at this;simpa using this
 .have key:∀k,(relabel aB X.env).names.lookup y=some k->(k == .cell || k == .free)=true->y=t\/∃c,cl.lookup y=some c:=λk e hk=>by
   have:=bN.mp has _ (cb e)
   rw[hk]at this;simp only[jI,jG,bS,eD]at this;exact this.imp id λz=>fM.mp z
  rcases z with z|z
  .exact key _ z rfl
  .exact key _ z rfl
 .obtain⟨hj,_⟩:=ai.mp e;have hj2:j<ix.length:=by omega
  have hm:(y,ix[j])∈fr.zip ix:=by
   refine bG (i:=j) ?_;rw[fE];exact⟨e,ag hj2⟩
  have:=bN.mp vis _ hm
  simp only[bM,bS,eD,bne_iff_ne,ne_eq]at this;obtain⟨⟨⟨a,b⟩,c⟩,d⟩:=this;exact⟨a,ix[j],ag hj2,b,c,d⟩
theorem aee(hc:X.calm=true)(S:CSd X aB cl t ts fr ix)(hi:PI X tg aF wi)
  (hg:∀C fp s H,PG (cxD X (ts++fr) aB cl t C fp s H) tg g) (he:∀C fp s H,PE (cxD X (ts++fr) aB cl t C fp s H) aD te) (ht:∀C fp s H,PT (cxD X (ts++fr) aB cl t C fp s H) cnd tc)
  (hs:∀x,foldedSetIterable aF X.env x=pure x:=by intro _;rfl) :
  PE X (.ListComp aD [⟨tg,aF,[cnd],0⟩] aB pos) (a1v wi (my ts.length ix) g tc te):=by
 intro aA s Z H Q I h
 rw[iI];exact acw hc S hi hg he ht hs none I h a6q
end
end L2
namespace MI
open L2
section
variable{X:Cx}{E:XD}{aD tg aF cnd:Expr}{aB:Scope}{pos spos pos':Pos}{cl:List (Str×Addr)}{tt:Str}{ts fr:List Str}{ix:List Nat}{fi:SI}{g:TG}{t:D->Option Sd}{fe:SE}{fc:ST}{i:Nat}{x:Str}
theorem al0(hc:X.calm=true)(S:CSd X aB cl tt ts fr ix)(hi:MI X E tg aF fi)(hg:∀C fp s H,PG (cxD X (ts++fr) aB cl tt C fp s H) tg g)(ht:aja X.K ts.length g t)(he:∀C fp s H,ME (cxD X (ts++fr) aB cl tt C fp s H) E aD fe)
  (hq:∀C fp s H,MT (cxD X (ts++fr) aB cl tt C fp s H) E cnd fc)
  (hs:∀x,foldedSetIterable aF X.env x=pure x:=by intro _;rfl):ME X E (.ListComp aD [⟨tg,aF,[cnd],0⟩] aB pos) (a02 fi t fc fe ix) :=
 PE.weak (aee (te:=lift X.K E (zj X.K) fe) (tc:=lift X.K E adl fc) hc S hi hg he hq hs) λZ H Q q=>afn ht q
end
end MI
namespace DRW
open L2 MI
def a2b(au:SF):SS :=
 (iy (jz 6 (sA (jx false 2 au) (aj (sV 0) (aj (sA vg (aj (sV 2) di)) di))))
 (iy (ai7 3 a2u (s2 gIx (sV 2) (sV 6)))
 (jz 2 (s2 ie (a1l (sV 2) oN (oS (sV 6))) (a1l (sV 2) (oS (s2 ie (sV 6) (sI 1))) oN)))))
def a3p(au:SF):SS :=
 (iy (jz 2 (sV 1))
 (iy (jz 3 (sC (.str "")))
 (iy (jz 4 (sI 1))
 (iy (sIf (sT (s2 hEq (sA (jx false 2 au) (aj (sV 0) (aj (sI 2) di))) (sI 0)))
 (jz 4 (s2 ie (sI 1) (sA (jx false 2 au) (aj (sV 0) (aj (sA vg (aj (sV 1) di)) di)))))
 sNx)
 (iy (a94 (sRg a5n (aj (sV 4) di)) (kN 5) (a2b au))
 (pq (sV 3)))))))
def yc(cu:SF):SE :=
 (sA (jx false 1 cu) (aj (sV 0) di))
def zm(cu:SF):SS :=
 (iy (sIf (sT (s2 hEq (s2 gIx (sV 0) (sI 0)) (sC (.str "one"))))
 (pq (sI 1))
 sNx)
 (iy (sIf (sT (s2 (gIn false) (s2 gIx (sV 0) (sI 0)) (sA yj (aj (sC (.str "row")) (aj (sC (.str "either")) di)))))
 (pq (sA ajj (aj (sZ (a0w (sIt (s2 gIx (sV 0) (sI 1))) t1 (yc cu) [])) di)))
 sNx)
 (iy (sIf (sT (s2 hEq (s2 gIx (sV 0) (sI 0)) (sC (.str "many"))))
 (pq (sA (jx false 1 cu) (aj (s2 gIx (sV 0) (sI 1)) di)))
 sNx)
 (pq (s2 zx (s2 gIx (sV 0) (sI 3)) (sA (jx false 1 cu) (aj (s2 gIx (sV 0) (sI 1)) di)))))))
def yx(au:SF)(n6:SF)(fu:SF)(cu:SF):SS :=
 (sIf (sT (s2 gGt (s2 gIx (sV 4) (sI 0)) (sI 0)))
 (iy (jz 10 (sA (jx false 5 fu) (aj (sV 0) (aj (sV 1) (aj (s2 a77 (sV 2) (sI 1)) (aj (sV 3) (aj (sV 4) di)))))))
 (iy (ai7 3 a77 (sA (jx false 1 cu) (aj (sV 10) di)))
 (a0v (sML ae1 (sV 8) (aj (sV 10) di)))))
 sNx)
def a0m(au:SF)(n6:SF)(fu:SF)(cu:SF):SS :=
 (iy (a2x a77 (sV 4) (sI 0) (sI 1))
 (iy (jz 5 (sA (jx false 2 au) (aj (sV 0) (aj (sI 9) di))))
 (iy (sIf (sOr (sT (s2 hEq (sV 2) (sI 1))) (sOr (sT (s2 gLt (s2 gIx (sV 4) (sI 0)) (sI 1))) (sT (s2 hEq (sV 5) (sI 0)))))
 (iy (sIf (sOr (sT (s2 hEq (sV 3) (sI 0))) (sT (s2 hEq (sA (jx false 2 au) (aj (sV 0) (aj (sI 8) di))) (sI 0))))
 (pq (sA yj (aj (sC (.str "row")) (aj (sA yj di) di))))
 sNx)
 (pq (sA yj (aj (sC (.str "one")) (aj (sA (jx false 2 n6) (aj (sV 0) (aj (sV 1) di))) di)))))
 sNx)
 (iy (sIf (sT (s2 gLt (sV 5) (sI 3)))
 (pq (sA yj (aj (sC (.str "many")) (aj (sA (jx false 5 fu) (aj (sV 0) (aj (sV 1) (aj (s2 a77 (sV 2) (sI 1)) (aj (sV 3) (aj (sV 4) di)))))) di))))
 sNx)
 (iy (sIf (sT (s2 gLt (sV 5) (sI 5)))
 (iy (jz 6 (sA (jx false 2 au) (aj (sV 0) (aj (sI 5) di))))
 (iy (jz 7 (sA (jx false 2 au) (aj (sV 0) (aj (s2 ie (sV 6) (sI 1)) di))))
 (pq (sA yj (aj (sC (.str "times")) (aj (sA (jx false 5 fu) (aj (sV 0) (aj (sV 1) (aj (s2 a77 (sV 2) (sI 1)) (aj (s2 a8n (sV 3) (sA acf (aj (sI 1) (aj (sV 6) di)))) (aj (sV 4) di)))))) (aj (sV 7) (aj (sV 6) di))))))))
 sNx)
 (iy (jz 8 (sA xq di))
 (iy (a94 (sRg a5n (aj (s2 gIx (sA yj (aj (sI 1) (aj (sI 2) (aj (sI 2) (aj (sI 3) (aj (sI 3) (aj (sI 4) (aj (sI 5) (aj (sI 6) di))))))))) (sA (jx false 2 au) (aj (sV 0) (aj (sI 8) di)))) di)) (kN 9) (yx au n6 fu cu))
 (pq (sA yj (aj (s2 gIx (sA yj (aj (sC (.str "row")) (aj (sC (.str "either")) di))) (s2 a8n (sV 5) (sI 7))) (aj (sA vy (aj (sV 8) di)) di)))))))))))
def a2c(au:SF)(gw:SF):SE :=
 (sA (jx false 2 gw) (aj (sV 1) (aj (sV 0) di)))
def xn(au:SF)(gw:SF):SS :=
 (iy (sIf (sT (s2 hEq (s2 gIx (sV 1) (sI 0)) (sC (.str "one"))))
 (pq (s2 gIx (s2 gIx (sV 1) (sI 1)) (sA (jx false 2 au) (aj (sV 0) (aj (sA vg (aj (s2 gIx (sV 1) (sI 1)) di)) di)))))
 sNx)
 (iy (jz 2 (s2 gIx (sV 1) (sI 1)))
 (iy (sIf (sT (s2 hEq (s2 gIx (sV 1) (sI 0)) (sC (.str "many"))))
 (jz 2 (s2 aec (sA yj (aj (s2 gIx (sV 1) (sI 1)) di)) (sA (jx false 2 au) (aj (sV 0) (aj (sI 3) di)))))
 sNx)
 (iy (sIf (sT (s2 hEq (s2 gIx (sV 1) (sI 0)) (sC (.str "times"))))
 (jz 2 (s2 aec (sA yj (aj (s2 gIx (sV 1) (sI 1)) di)) (s2 ie (s2 gIx (sV 1) (sI 2)) (sA (jx false 2 au) (aj (sV 0) (aj (s2 ie (s2 a77 (s2 gIx (sV 1) (sI 3)) (s2 gIx (sV 1) (sI 2))) (sI 1)) di))))))
 sNx)
 (iy (sIf (sT (s2 hEq (s2 gIx (sV 1) (sI 0)) (sC (.str "either"))))
 (jz 2 (sA yj (aj (s2 gIx (s2 gIx (sV 1) (sI 1)) (sA (jx false 2 au) (aj (sV 0) (aj (sA vg (aj (s2 gIx (sV 1) (sI 1)) di)) di)))) di)))
 sNx)
 (pq (sMS ach (sC (.str "")) (aj (sZ (a0w (sIt (sV 2)) t1 (a2c au gw) [0])) di))))))))
def ye(au:SF):SS :=
 (iy (jz 3 (sA (jx false 2 au) (aj (sV 0) (aj (s2 ie (sA vg (aj (sV 1) di)) (sI 1)) di))))
 (iy (jz 4 (s2 gIx (sV 2) (sA (jx false 2 au) (aj (sV 0) (aj (sA vg (aj (sV 2) di)) di)))))
 (iy (jz 5 (sA (jx false 2 au) (aj (sV 0) (aj (sI 4) di))))
 (iy (sIf (sT (s2 hEq (sV 5) (sI 0)))
 (pq (sV 1))
 sNx)
 (iy (sIf (sT (s2 hEq (sV 5) (sI 1)))
 (pq (s2 ie (a1l (sV 1) oN (oS (sV 3))) (a1l (sV 1) (oS (s2 ie (sV 3) (sI 1))) oN)))
 sNx)
 (pq (s2 ie (s2 ie (a1l (sV 1) oN (oS (sV 3))) (sV 4)) (a1l (sV 1) (oS (s2 a77 (s2 ie (sV 3) (sV 5)) (sI 2))) oN))))))))
end DRW
set_option maxHeartbeats 1000000
namespace L2
open PyProof.Rows
section
variable{prog:Program}{w:World}{A:Around}{R:Result->Shared->Prop}{s:Shared}{aD t0 i0 t1 i1:Expr}{aB:Scope}{pos:Pos}{it acc:Value}{env:Env}{cs:List Expr}
noncomputable def tests(cs:List Expr)(env:Env):Sem Bool:=match cs with
 |[]=>pure true
 |c::_=>isTrue c env (eval c env)
def One(cs:List Expr):Prop:=cs=[]\/∃c,cs=[c]
theorem aud(one:One cs):compTurn (.ListComp aD [⟨t0,i0,[],0⟩,⟨t1,i1,cs,0⟩] aB pos) 1 it acc env=(standAt i1.pos>>=λ_=>pyNext it>>=λr=>match r with
   |none=>pure (.done .next)
   |some v=>letOwnedTupleGo t1 it v>>=λ_=>assign t1 env v>>=λ_=>tests cs env>>=λok =>
    (if ok=true then (eval aD env>>=λx=>call (.builtin "list.append") [acc,x]>>=λ_=>pure ()) else pure ())>>=λ_ =>
     again (.compLoop (.ListComp aD [⟨t0,i0,[],0⟩,⟨t1,i1,cs,0⟩] aB pos) 1 it acc env)):=by
 rcases one with rfl|⟨c,rfl⟩
 .unfold tests;simp only[pure_bind,dO];rfl
 .show(standAt i1.pos>>=λ_=>pyNext it>>=λr=>_)=_
  congr 1;funext _;congr 1;funext r
  cases r with
  |none=>rfl
  |some v =>
   show(letOwnedTupleGo t1 it v>>=λ_=>assign t1 env v>>=λ_=>_)=(letOwnedTupleGo t1 it v>>=λ_=>assign t1 env v>>=λ_=>_)
   congr 1;funext _;congr 1;funext _
   unfold tests;simp
   congr 1;funext ok
   cases ok with
   |false=>rw[ba aX,ba aX,pure_bind]
   |true =>
    rw[aJ rfl,aJ rfl,bind_assoc]
    congr 1;funext x
    rw[map_eq_pure_bind,bind_assoc]
    congr 1
theorem ahu(one:One cs)(J:Nat->Shared->Prop)
  (step:∀m z,J m z->wpAny (model prog w) A (pyNext it) (λgot z1=>match got with
   |none=>R (.ok .next) z1
   |some v=>wpAny (model prog w) A (letOwnedTupleGo t1 it v) (λ_ z2=>wpAny (model prog w) A (assign t1 env v) (λ_ z3=>wpAny (model prog w) A (tests cs env) (λok z3'=>if ok=true then wpAny (model prog w) A (eval aD env) (λx z4 =>
     wpAny (model prog w) A (call (.builtin "list.append") [acc,x]) (λ_ z5=>∃m',m'<m/\J m' z5) (λ_ _=>False) z4)
     (λ_ _=>False) z3' else ∃m',m'<m/\J m' z3') (λ_ _=>False) z3) (λ_ _=>False) z2) (λ_ _=>False) z1) (λ_ _=>False) z)
  (m:Nat) (j0:J m s):codeAny (model prog w) A (.compLoop (.ListComp aD [⟨t0,i0,[],0⟩,⟨t1,i1,cs,0⟩] aB pos) 1 it acc env) R s:=by
 refine codeAny_loop rfl J (λm z hj=>(wpAny_noted ?_:wpAny _ _ ((compTurn (.ListComp aD [⟨t0,i0,[],0⟩,⟨t1,i1,cs,0⟩] aB pos) 1 it acc env).onRaise _) _ _ z)) m j0;rw[aud one];refine ae (dY (ae (bL (step m z hj) (λgot z1 h1=>?_) λ_ _ no=>no.elim)))
 match got,h1 with
 |none,h1=>exact av h1
 |some v,h1 =>
  refine ae (bL h1 (λ_ z2 h2=>ae (bL h2 (λ_ z3 h3=>ae (bL h3 (λok z3' h3'=>?_) λ_ _ no=>no.elim)) λ_ _ no=>no.elim)) λ_ _ no=>no.elim)
  match ok,h3' with
  |true,h3' =>
   rw[aJ rfl]at h3';refine ae (ae (bL h3' (λx z4 h4=>?_) λ_ _ no=>no.elim));exact ae (bL h4 (λ_ z5 h5=>av (av ⟨rfl,h5⟩)) λ_ _ no=>no.elim)
  |false,h3' =>
   rw[ba aX]at h3';exact ae (av (av ⟨rfl,h3'⟩))
theorem aef(h0:codeAny (model prog w) A (.compLoop (.ListComp aD [⟨t0,i0,[],0⟩,⟨t1,i1,cs,0⟩] aB pos) 1 it acc env) R s)
  (h:wpAny (model prog w) A (pyIter it) (λit' s'=>codeAny (model prog w) A (.compLoop (.ListComp aD [⟨t0,i0,[],0⟩,⟨t1,i1,cs,0⟩] aB pos) 1 it' acc env) R s') (λ_ _=>False) s) :
  codeAny (model prog w) A (.compStart (.ListComp aD [⟨t0,i0,[],0⟩,⟨t1,i1,cs,0⟩] aB pos) 1 it acc env) R s:=by
 apply fY
 show wpAny (model prog w) _ ((compStart (.ListComp aD [⟨t0,i0,[],0⟩,⟨t1,i1,cs,0⟩] aB pos) 1 it acc env).onRaise _) _ _ s
 apply iJ
 unfold compStart;show wpAny (model prog w) _ (ask>>=_) _ _ s
 apply ae
 apply fJ
 refine wpAny_ite ?_
 split
 .first
  |exact av ⟨rfl,h0⟩
  |exact ae (av (av ⟨rfl,h0⟩))
 .apply ae
  apply fQ
  show wpAny (model prog w) _ (standAt i1.pos>>=_) _ _ s
  apply ae
  apply dY
  apply ae
  exact bL h (λit' s' h'=>av ⟨rfl,h'⟩) λ_ _ no=>no.elim
theorem aeg(J:Nat->Shared->Prop)
  (step:∀m z,J m z->wpAny (model prog w) A (pyNext it) (λgot z1=>match got with
   |none=>R (.ok .next) z1
   |some v=>wpAny (model prog w) A (letOwnedTupleGo t0 it v) (λ_ z2=>wpAny (model prog w) A (assign t0 env v) (λ_ z3=>wpAny (model prog w) A (eval i1 env) (λx z4 =>
     wpAny (model prog w) A (foldedSetIterable i1 env x) (λy z5=>wpAny (model prog w) A (pyIter y) (λit1 z6 =>
      codeAny (model prog w) A (.compStart (.ListComp aD [⟨t0,i0,[],0⟩,⟨t1,i1,cs,0⟩] aB pos) 1 it1 acc env) (λr z7=>∃f,r=.ok f/\∃m',m'<m/\J m' z7) z6) (λ_ _=>False) z5) (λ_ _=>False) z4)
     (λ_ _=>False) z3) (λ_ _=>False) z2) (λ_ _=>False) z1) (λ_ _=>False) z)
  (m:Nat) (j0:J m s):codeAny (model prog w) A (.compLoop (.ListComp aD [⟨t0,i0,[],0⟩,⟨t1,i1,cs,0⟩] aB pos) 0 it acc env) R s:=by
 refine codeAny_loop rfl J (λm z hj=>(wpAny_noted ?_:wpAny _ _ ((compTurn (.ListComp aD [⟨t0,i0,[],0⟩,⟨t1,i1,cs,0⟩] aB pos) 0 it acc env).onRaise _) _ _ z)) m j0;show wpAny (model prog w) _ (standAt i0.pos>>=λ_=>pyNext it>>=_) _ _ z
 apply ae
 apply dY
 apply ae
 refine bL (step m z hj) (λgot z1 h1=>?_) λ_ _ no=>no.elim
 match got,h1 with
 |none,h1=>exact av h1
 |some v,h1 =>
  apply ae
  refine bL h1 (λ_ z2 h2=>?_) λ_ _ no=>no.elim
  apply ae
  refine bL h2 (λ_ z3 h3=>?_) λ_ _ no=>no.elim;show wpAny (model prog w) _ (eval i1 env>>=_) _ _ _
  apply ae
  refine bL h3 (λx z4 h4=>?_) λ_ _ no=>no.elim
  apply ae
  apply dY
  show wpAny (model prog w) _ (foldedSetIterable i1 env x>>=_) _ _ _
  apply ae
  refine bL h4 (λy z5 h5=>?_) λ_ _ no=>no.elim;show wpAny (model prog w) _ (holding [y] (pyIter y)>>=_) _ _ _
  apply ae
  apply cX
  refine bL h5 (λit1 z6 h6=>?_) λ_ _ no=>no.elim
  apply ae
  refine wpAny_runOwn (fL h6 λr z7 h7=>?_);obtain⟨f,rfl,h8⟩:=h7;exact av ⟨rfl,h8⟩
end
section
variable{prog:Program}{w:World}{A:Around}{R:Result->Shared->Prop}{s:Shared}{aD t0 i0 t1 i1:Expr}{aB:Scope}{pos:Pos}{it acc:Value}{env:Env}{cs:List Expr}
theorem acx(h0:codeAny (model prog w) A (.compLoop (.ListComp aD [⟨t0,i0,[],0⟩,⟨t1,i1,cs,0⟩] aB pos) 0 it acc env) R s)
  (h:wpAny (model prog w) A (pyIter it) (λit' s'=>codeAny (model prog w) A (.compLoop (.ListComp aD [⟨t0,i0,[],0⟩,⟨t1,i1,cs,0⟩] aB pos) 0 it' acc env) R s') (λ_ _=>False) s) :
  codeAny (model prog w) A (.compStart (.ListComp aD [⟨t0,i0,[],0⟩,⟨t1,i1,cs,0⟩] aB pos) 0 it acc env) R s:=by
 apply fY
 show wpAny (model prog w) _ ((compStart (.ListComp aD [⟨t0,i0,[],0⟩,⟨t1,i1,cs,0⟩] aB pos) 0 it acc env).onRaise _) _ _ s
 apply iJ
 unfold compStart;show wpAny (model prog w) _ (ask>>=_) _ _ s
 apply ae
 apply fJ
 refine wpAny_ite ?_
 split
 .first
  |exact av ⟨rfl,h0⟩
  |exact ae (av (av ⟨rfl,h0⟩))
 .apply ae
  apply fQ
  show wpAny (model prog w) _ (standAt i0.pos>>=_) _ _ s
  apply ae
  apply dY
  apply ae
  exact bL h (λit' s' h'=>av ⟨rfl,h'⟩) λ_ _ no=>no.elim
end
section
variable{X:Cx}
theorem FpOk.onL(f:FpOk Y aA H b)(hp:Y.pn=[])(hn:H' b=none)(ne:b∉L):FpOk Y (yp L h) H' b:=by
 obtain⟨_,f1,f2,f3,f4,_⟩:=f;refine⟨hn,f1,f2,f3,f4,λp hq z=>ne ?_⟩;rw[hp]at hq;have:=(abj (show p∈yp L h from hq)).1
 rw[<-z];exact this
def LiA(a:Addr)(ys:List V)(h:Heap):Prop:=∃(its:List Value) (k:Nat),h.get? a=some {cls:=.type "list",data:=.seq its.toArray k}/\Vals ys its/\ys.length<=sizeLine
theorem LiA.keep{a:Addr}{ys:List V}{h h':Heap}(l:LiA a ys h)(k:∀o,h.get? a=some o->h'.get? a=some o):LiA a ys h':=let ⟨its,n,e,r⟩:=l; ⟨its,n,k _ e,r⟩
def PCn(X:Cx)(cs:List Expr)(t:TT):Prop:=∀(aA:List (Addr×Obj)) (s:Shared) (Z:St) (H:Hp) (Q:Bool->Hp->Prop),Inv X aA Z H s->t Z H Q->wpAny (model X.prog X.w) X.A (tests cs X.env) (TP X aA Z Q) X.xe s
theorem ayn:PCn X [] (λ_ H Q=>Q true H):=λ_ _ _ H _ I h=>av ⟨H,I,h⟩
theorem ayo{c:Expr}{t:TT}(h:PT X c t):PCn X [c] t:=h
def b45(wi1:TI)(s0:St)(g0 g1:TG)(tc:TT)(te:TE)(Q:VK)(J0:It)(H1:Hp):Prop :=
 ∃W:Nat->Nat->List V->Hp->Prop,(∃m,W 0 m [] H1)/\∀i m ks H,W i m ks H->
  (J0.stop i H/\∀p,H p=none->Q (.ref p) (upd H p (.lst ks))) \/
  (J0.go i H/\∀x H',J0.yld i H x H'->g0 x s0 H' λZ2 H2=>Ext s0 Z2/\wi1 Z2 H2 λJ1 H3=>∃V':Nat->Nat->List V->Hp->Prop,(∃n,V' 0 n ks H3)/\∀j n ks H,V' j n ks H->
   (J1.stop j H/\∃m',m'<m/\W (i+1) m' ks H) \/
   (J1.go j H/\∀y H',J1.yld j H y H'->g1 y Z2 H' λZ3 H4=>Ext Z2 Z3/\tc Z3 H4 λok H4'=>if ok=true then te Z3 H4' (λz H5=>ks.length<sizeLine/\∃n',n'<n/\V' (j+1) n' (ks++[z]) H5) else ∃n',n'<n/\V' (j+1) n' ks H4'))
noncomputable def aue(wi0 wi1:TI)(s0:St->St)(g0 g1:TG)(tc:TT)(te:TE):TE:=λZ H Q=>wi0 Z H λJ0 H1=>b45 wi1 (s0 Z) g0 g1 tc te Q J0 H1
theorem al3(one:One cs)(hc:X.calm=true)(S:CSc X aB cl ts fr ix)(hi0:PI X t0 i0 wi0)
  (hg0:∀C fp s H,PG (cxC X (ts++fr) aB cl C fp s H) t0 g0) (hi1:∀C fp s H,PI (cxC X (ts++fr) aB cl C fp s H) t1 i1 wi1) (hg1:∀C fp s H,PG (cxC X (ts++fr) aB cl C fp s H) t1 g1) (ht:∀C fp s H,PCn (cxC X (ts++fr) aB cl C fp s H) cs tc) (he:∀C fp s H,PE (cxC X (ts++fr) aB cl C fp s H) aD te)
  (hs0:∀x,foldedSetIterable i0 X.env x=pure x:=by intro _;rfl) (hs1:∀env x,foldedSetIterable i1 env x=pure x:=by intro _ _;rfl)
  (use:Option (Value->Sem Unit)) (I:Inv X aA Z H s) (h:aue wi0 wi1 (my ts.length ix) g0 g1 tc te Z H Q) (fin:a2r X aA Z use Q Qf) :
  wpAny (model X.prog X.w) X.A (comprehension (.ListComp aD [⟨t0,i0,[],0⟩,⟨t1,i1,cs,0⟩] aB pos) aB X.env ppos (newList []) false (eval i0 X.env) use) Qf X.xe s:=by
 refine fP (use:=use) rfl hs0 S.clos S.kind S.names (thn (hi0 aA s Z H _ I h) λv s1 h1=>thn h1 λitv s2 h2=>?_);obtain⟨it,fp,tn,J,H2,e,I2,T,st2,f2,W,⟨m0,w0⟩,turn⟩:=h2;subst e;have hob:∀b∈fp,b<s2.heap.objs.size:=λb hb=>let ⟨o,e,_⟩:=T.obj _ _ st2 b hb;aP e;refine bV (wpAny_newFunctionEnv S.nocell (by intro y hy;simp at hy) (λh4 hns4 hsb4=>?_) S.kind)
 dsimp only at hns4 hsb4 ⊢
 generalize hH2:s2.heap.push {cls:=.type "list",dict:=none,data:=.seq ([]:List Value).toArray}=G at hns4 hsb4 ⊢
 have hCs:G.objs.size=s2.heap.objs.size+1:=by rw[<-hH2,cB]
 have hCle:s2.heap.objs.size<=G.objs.size:=by omega
 have hne:G.objs.size≠s2.heap.objs.size:=by omega
 have old:∀b o,s2.heap.get? b=some o->h4.get? b=some o:=λb o e=>by
  have hlt:=aP e;exact hsb4.extBut b o (br (aT hlt hCle)) (af _ (hH2 ▸ af _ e))
 have hacc:LiA s2.heap.objs.size [] h4:=⟨[],0,hsb4.extBut _ _ (fz hne) (af _ (hH2 ▸ aO _ rfl)),.nil,bb _⟩;have K0:Inv (cxC X (ts++fr) aB cl G.objs.size fp s2 H2) [] (my ts.length ix Z) H2 {s2 with heap:=h4,toks:=s2.toks+([]:List (Str×Value)).length} :=
  aj3 S I2 f2 hob hCle old hns4 rfl rfl
 have st4:tn 0 h4:=T.keep _ _ _ st2 λb _ o e=>old b o e;have accF:s2.heap.objs.size∉fp:=λz=>bU _ (hob _ z)
 generalize hY:cxC X (ts++fr) aB cl G.objs.size fp s2 H2=Y at K0
 have Yc:Y.calm=true:=by rw[<-hY];exact hc
 have Yp:Y.prog=X.prog:=by rw[<-hY];rfl
 have Yw:Y.w=X.w:=by rw[<-hY];rfl
 have YK:Y.K=X.K:=by rw[<-hY];rfl
 have YA:Y.A=X.A:=by rw[<-hY];rfl
 have Yn:Y.pn=[]:=by rw[<-hY];rfl
 have Ye:Y.env=compEnvC aB cl G.objs.size X.env:=by rw[<-hY];rfl
 have Yx:Y.xe=λ_ _=>False:=by rw[<-hY];rfl
 have YG0:PG Y t0 g0:=by rw[<-hY];exact hg0 _ _ _ _
 have YG1:PG Y t1 g1:=by rw[<-hY];exact hg1 _ _ _ _
 have YI1:PI Y t1 i1 wi1:=by rw[<-hY];exact hi1 _ _ _ _
 have YT:PCn Y cs tc:=by rw[<-hY];exact ht _ _ _ _
 have YE:PE Y aD te:=by rw[<-hY];exact he _ _ _ _
 have stat:∀{H':Hp},(∀b∈fp,H' b=none)->∀b∈fp,FpOk Y [] H' b:=λhn b hb=>by
  rw[<-hY];exact⟨hn b hb,λz=>by have h1:=hob b hb;have z':b=G.objs.size:=z;exact br (aT h1 hCle) z',λz=>(abx S I2 f2 hob hCle).exfs b hb z,.inl hb,λx c e=>(f2 b hb).2.2.2.2.1 x c (S.sub x c e),λp hp=>absurd (show p∈([]:List (Addr×Obj)) from hp) (by simp)⟩
 have statA:∀{H':Hp},H' s2.heap.objs.size=none->FpOk Y [] H' s2.heap.objs.size:=λhn=>by
  rw[<-hY];exact⟨hn,λz=>hne (show G.objs.size=s2.heap.objs.size from z.symm),λz=>by
   obtain⟨_,o,ho,_⟩:=(abx S I2 f2 hob hCle).funs.mem z;exact bU _ (aP ho),.inr (aw _),λx c e z=>by
   obtain⟨v,o,ho,_⟩:=I2.cell x c (S.sub x c e);rw[z]at ho;exact bU _ (aP ho),λp hp=>absurd (show p∈([]:List (Addr×Obj)) from hp) (by simp)⟩
 generalize hacca:s2.heap.objs.size=ac at hacc accF statA hne hCle
 have loop:∀s4:Shared,s4={s2 with heap:=h4,toks:=s2.toks+([]:List (Str×Value)).length}->
   codeAny (model X.prog X.w) X.A (.compLoop (.ListComp aD [⟨t0,i0,[],0⟩,⟨t1,i1,cs,0⟩] aB pos) 0 (.ref it) (.ref ac) (compEnvC aB cl G.objs.size X.env))
    (compPost (model X.prog X.w) X.A X.xe use Qf (.ref ac) G.objs.size) s4:=by
  rintro s4 rfl
  refine aeg (λn s'=>∃i Z' H' ks,Inv Y [] Z' H' s'/\Ext (my ts.length ix Z) Z'/\tn i s'.heap/\(∀b∈fp,H' b=none)/\H' ac=none /\
   LiA ac ks s'.heap/\W i n ks H') ?_ m0
   ⟨0,_,H2,[],K0,⟨rfl,λ_ _ z=>z⟩,st4,λb hb=>(f2 b hb).1,I2.hok.fresh (by omega),hacc,w0⟩
  rintro n s5 ⟨i,Z5,H5,ks,I5,x5,st5,fr5,fa5,ac5,w5⟩
  have I5':Inv Y [] (my ts.length ix Z) H5 s5:=I5.weak x5.1.symm x5.2;have hao:∃o,s5.heap.get? ac=some o/\∀v,o.data≠.cell v:=by
   obtain⟨its,k,ho,_⟩:=ac5;exact⟨_,ho,λv z=>by cases z⟩
  have I5p:Inv Y (yp [ac] s5.heap) (my ts.length ix Z) H5 s5:=Inv.pinned (aA:=[]) (fp:=[ac]) I5' (λb hb=>by rw[ax.mp hb];exact statA fa5) (λb hb=>by rw[ax.mp hb];exact hao)
  have F5:∀b∈fp,FpOk Y (yp [ac] s5.heap) H5 b:=λb hb=>(stat fr5 b hb).onL Yn (fr5 b hb) (λz=>accF (by rw[ax.mp z]at hb;exact hb))
  obtain⟨ao,hao1,hao2⟩:=hao;have pa:(ac,ao)∈yp [ac] s5.heap:=lz (by simp) hao1
  rcases turn i n ks H5 w5 with⟨stop,qn⟩|⟨go,step⟩
  .rw[<-YA];refine thn (T.done Y Yp Yw YK Yc i _ s5 _ H5 _ I5p F5 st5 stop) λr s6 ⟨hr,I6⟩=>?_;subst hr;have e6:=(I6.pin (ac,ao) (aS _ pa)).1;have S6:LiA ac ks s6.heap:=ac5.keep λo ho=>by rw[hao1]at ho;cases ho;exact e6
   have I6':Inv (cxC X (ts++fr) aB cl G.objs.size fp s2 H2) [] (my ts.length ix Z) H5 s6:=by rw[hY];exact I6.unpinned'
   obtain⟨m6,hn6,_⟩:=I6'.loc;rw[YA];obtain⟨its6,k6,q6,rv6,hz6⟩:=S6;refine fin ac G.objs.size s6 (upd H5 ac (.lst ks)) m6 hn6 (I2.fpOk (by omega) (by rw[je hne];exact I6'.free)) (λh' sb=>?_) (qn _ fa5)
   exact comp_back I2 f2 (by omega) (by omega) hne I6' fa5 q6 rv6 hz6 sb
  .rw[<-YA];refine thn (T.item Y Yp Yw YK Yc i _ s5 _ H5 _ I5p F5 st5 go) λr s6 ⟨u,hr,h6⟩=>?_;subst hr;refine thn h6 λ_ s7 ⟨x,H7,I7,r7,y7,st7,fr7⟩=>?_;have fa7:H7 ac=none:=(I7.pin (ac,ao) (aS _ pa)).2.1;have ac7:=(I7.pin (ac,ao) (aS _ pa)).1;have S7:LiA ac ks s7.heap:=ac5.keep λo ho=>by rw[hao1]at ho;cases ho;exact ac7
   have obj7:∀b∈ac::fp,∃o,s7.heap.get? b=some o/\∀v,o.data≠.cell v:=λb hb=>by
    rcases aL.mp hb with e|e
    .subst e;exact⟨_,ac7,hao2⟩
    .exact T.obj _ _ st7 b e
   have I7':Inv Y (yp (ac::fp) s7.heap) (my ts.length ix Z) H7 s7:=by
    refine Inv.pinned (aA:=[]) (fp:=ac::fp) I7.unpinned' (λb hb=>?_) obj7
    rcases aL.mp hb with e|e
    .subst e;exact statA fa7
    .exact stat fr7 b e
   rw[<-Ye,<-Yp,<-Yw];refine bL (YG0 _ s7 _ H7 x u _ I7' r7 (step x H7 y7)) (λ_ s8 ⟨Z8,H8,I8,x8,q8⟩=>?_) (λ_ _ z=>by rw[Yx]at z;exact z)
   refine bL (YI1 _ s8 _ H8 _ I8 q8) (λv8 z4 h8=>fK (hs1 _ v8) (bL h8 (λitv z6 h9=>?_) (λ_ _ z=>by rw[Yx]at z;exact z))) (λ_ _ z=>by rw[Yx]at z;exact z)
   obtain⟨it1,fp1,tn1,J1,H9,e1,I9,T1,st9,f9,V,⟨n0,v0⟩,turn1⟩:=h9;subst e1;have pin9:∀b∈ac::fp,∀o,s7.heap.get? b=some o->z6.heap.get? b=some o/\H9 b=none:=λb hb o e=>by
    obtain⟨z1,z2,_⟩:=I9.pin (b,o) (aS _ (lz hb e));exact⟨z1,z2⟩
   have apart:∀b∈fp1,b∉ac::fp:=λb hb z=>by
    obtain⟨o,e,_⟩:=obj7 b z;exact(f9 b hb).2.2.2.2.2 (b,o) (aS _ (lz z e)) rfl
   have stat1:∀{H':Hp},(∀b∈fp1,H' b=none)->∀b∈fp1,FpOk Y [] H' b:=λhn b hb=>by
    obtain⟨_,k1,k2,k3,k4,_⟩:=f9 b hb;refine⟨hn b hb,k1,k2,k3,k4,λp hp=>?_⟩;rw[Yn]at hp;exact absurd (show p∈([]:List (Addr×Obj)) from hp) (by simp)
   have S9:LiA ac ks z6.heap:=S7.keep λo ho=>(pin9 ac (by simp) o ho).1
   have inner:codeAny (model Y.prog Y.w) Y.A (.compLoop (.ListComp aD [⟨t0,i0,[],0⟩,⟨t1,i1,cs,0⟩] aB pos) 1 (.ref it1) (.ref ac) Y.env)
     (λr z7=>∃f,r=.ok f/\∃m',m'<n/\∃i Z' H' ks,Inv Y [] Z' H' z7/\Ext (my ts.length ix Z) Z'/\tn i z7.heap/\(∀b∈fp,H' b=none)/\H' ac=none/\LiA ac ks z7.heap/\W i m' ks H') z6:=by
    refine ahu one (λn s'=>∃j Z' H' ks,Inv Y [] Z' H' s'/\Ext Z8 Z'/\tn1 j s'.heap/\(∀b∈fp1,H' b=none)/\(∀b∈fp,∀o,s7.heap.get? b=some o->s'.heap.get? b=some o/\H' b=none)/\H' ac=none/\LiA ac ks s'.heap/\V j n ks H') ?_ n0
     ⟨0,_,H9,ks,I9.unpinned',⟨rfl,λ_ _ z=>z⟩,st9,λb hb=>(f9 b hb).1,λb hb=>pin9 b (aW _ hb),(pin9 ac (by simp) _ ac7).2,S9,v0⟩
    rintro k a5 ⟨j,τ5,G5,ks5,Q5,y5,t5,e5,o5,c5,d5,v5⟩
    have Q5':Inv Y [] Z8 G5 a5:=Q5.weak y5.1.symm y5.2;have fp5:∀b∈fp,G5 b=none:=λb hb=>by
     obtain⟨o,e,_⟩:=T.obj _ _ st7 b hb;exact(o5 b hb o e).2
    have dob:∃o,a5.heap.get? ac=some o/\∀v,o.data≠.cell v:=by
     obtain⟨its,k,ho,_⟩:=d5;exact⟨_,ho,λv z=>by cases z⟩
    have objs:∀b∈ac::fp,∃o,a5.heap.get? b=some o/\∀v,o.data≠.cell v:=λb hb=>by
     rcases aL.mp hb with e|e
     .subst e;exact dob
     .obtain⟨o,e',d⟩:=T.obj _ _ st7 b e;exact⟨o,(o5 b e o e').1,d⟩
    have Q5p:Inv Y (yp (ac::fp) a5.heap) Z8 G5 a5:=by
     refine Inv.pinned (aA:=[]) (fp:=ac::fp) Q5' (λb hb=>?_) objs
     rcases aL.mp hb with e|e
     .subst e;exact statA c5
     .exact stat fp5 b e
    have FF:∀b∈fp1,FpOk Y (yp (ac::fp) a5.heap) G5 b:=λb hb=>(f9 b hb).onL Yn (e5 b hb) (apart b hb);obtain⟨bo,hbo1,hbo2⟩:=dob;have keep6:∀{G6:Hp} {τ:St} {a6:Shared} {P:List (Addr×Obj)},Inv Y (yp (ac::fp) a5.heap++P) τ G6 a6->(∀b∈fp,∀o,s7.heap.get? b=some o->a6.heap.get? b=some o/\G6 b=none)/\G6 ac=none/\LiA ac ks5 a6.heap:=λ{G6 τ a6 P} I6=>by
     refine⟨λb hb o e=>?_,?_,?_⟩
     .obtain⟨z1,z2,_⟩:=I6.pin (b,o) (aS _ (de _ (lz (aW _ hb) (o5 b hb o e).1)));exact⟨z1,z2⟩
     .exact(I6.pin (ac,bo) (aS _ (de _ (lz (by simp) hbo1)))).2.1
     .exact d5.keep λo ho=>by
       rw[hbo1]at ho;cases ho
       exact(I6.pin (ac,bo) (aS _ (de _ (lz (by simp) hbo1)))).1
    rcases turn1 j k ks5 G5 v5 with⟨stop1,m',hm',w6⟩|⟨go1,step1⟩
    .refine thn (T1.done Y rfl rfl rfl Yc j _ a5 _ G5 _ Q5p FF t5 stop1) λr a6 ⟨hr,Q6⟩=>?_;subst hr;obtain⟨kk1,kk2,kk3⟩:=keep6 (P:=[]) (by rw[bE];exact Q6)
     refine⟨_,rfl,m',hm',i+1,Z8,G5,ks5,Q6.unpinned',x8,?_,fp5,c5,kk3,w6⟩;exact T.keep _ _ _ st7 λb hb o e=>(kk1 b hb o e).1
    .refine thn (T1.item Y rfl rfl rfl Yc j _ a5 _ G5 _ Q5p FF t5 go1) λr a6 ⟨u1,hr,h6'⟩=>?_;subst hr;refine thn h6' λ_ a7 ⟨y,G7,Q7,ry,yy,t7,e7⟩=>?_;obtain⟨p1,p2,p3⟩:=keep6 (P:=[]) (by rw[bE];exact Q7)
     have Q7p:Inv Y (yp (ac::fp) a5.heap++yp fp1 a7.heap) Z8 G7 a7:=by
      refine Inv.pinned (fp:=fp1) Q7 (λb hb=>(f9 b hb).onL Yn (e7 b hb) (apart b hb)) (T1.obj _ _ t7)
     refine bL (YG1 _ a7 _ G7 y u1 _ Q7p ry (step1 y G7 yy)) (λ_ a8 ⟨τ8,G8,Q8,z8,q8'⟩=>?_) (λ_ _ z=>by rw[Yx]at z;exact z)
     refine bL (YT _ a8 _ G8 _ Q8 q8') (λok b8 ⟨G8',Q8',q9⟩=>?_) (λ_ _ z=>by rw[Yx]at z;exact z)
     cases ok with
     |false =>
      rw[ba aX]at q9 ⊢;obtain⟨n',hn',v9⟩:=q9;obtain⟨r1,r2,r3⟩:=keep6 Q8';refine⟨n',hn',j+1,τ8,G8',_,Q8'.unpinned',z8,?_,?_,r1,r2,r3,v9⟩
      .exact T1.keep _ _ _ t7 λb hb o e=>(Q8'.pin (b,o) (aS _ (aS _ (lz hb e)))).1
      .intro b hb
       obtain⟨o,e,_⟩:=T1.obj _ _ t7 b hb;exact(Q8'.pin (b,o) (aS _ (aS _ (lz hb e)))).2.1
     |true =>
      rw[aJ rfl]at q9 ⊢;refine bL (YE _ b8 _ G8' _ Q8' q9) (λyv a9 ⟨z,G9,Q9,rz,few,n',hn',v9⟩=>?_) (λ_ _ z=>by rw[Yx]at z;exact z)
      obtain⟨r1,r2,its,k5,ac9,rv5,hz5⟩:=keep6 Q9;have hl:=rv5.length;refine dW bR ⟨_,ac9,rfl⟩ gT (gM _ _) (iA ac its.toArray k5 yv (by rw[ay];omega)) ⟨ac9,?_⟩
      have q:=iP ac9 (λa=>a.push yv);have qo:∀b o,b≠ac->a9.heap.get? b=some o->(a9.heap.update ac (Obj.mapSeq (λa=>a.push yv))).get? b=some o:=λb o hb e=>(dB a9.heap _ (fz hb)).trans e;obtain⟨k9,q9'⟩:∃k,(a9.heap.update ac (Obj.mapSeq (λa=>a.push yv))).get? ac=some {cls:=.type "list",data:=.seq (its++[yv]).toArray k}:=⟨_,by rw[q];simp;rfl⟩
      obtain⟨a0,a1,a2,a3,a4,a5'⟩:=statA (show G9 ac=none from r2)
      have nac:∀b∈fp,b≠ac:=λb hb z=>accF (z ▸ hb);have nac1:∀b∈fp1,b≠ac:=λb hb z=>apart b hb (by rw[z];simp)
      refine⟨n',hn',j+1,τ8,G9,_,(Q9.unpinned').turned qo a0 a1 a3 a4 a5',z8,?_,?_,?_,r2,⟨_,k9,q9',rv5.append (.cons rz .nil),by rw[ah,aM];omega⟩,v9⟩
      .exact T1.keep _ _ _ t7 λb hb o e=>qo b o (nac1 b hb) (Q9.pin (b,o) (aS _ (aS _ (lz hb e)))).1
      .intro b hb
       obtain⟨o,e,_⟩:=T1.obj _ _ t7 b hb;exact(Q9.pin (b,o) (aS _ (aS _ (lz hb e)))).2.1
      .intro b hb o e
       obtain⟨z1,z2⟩:=r1 b hb o e;exact⟨qo b o (nac b hb) z1,z2⟩
   exact aef inner (T1.self _ 0 _ _ _ st9 inner)
 exact acx (loop _ rfl) (T.self _ 0 _ _ _ st4 (loop _ rfl))
end
end L2
namespace MI
open L2
open Classical in
def aeh(ck:Hd->Prop)(c:ST)(fe:SE)(x:D)(rd:Sd):List D->List D->Hd->R (List D)
 |[],zs,h=>if ck h then .ok zs h else .no
 |y::ys,zs,h=>if ck h then (c (some x::some y::rd) h).bind λb h1=>if b=true then ((fe (some x::some y::rd) h1).bind λd h2=>if zs.length+1<=LINE then aeh ck c fe x rd ys (zs++[d]) h2 else .no) else aeh ck c fe x rd ys zs h1 else .no
open Classical in
def a4k(ck:Hd->Prop)(fj:SI)(c:ST)(fe:SE)(rd:Sd):List D->List D->Hd->R (List D)
 |[],zs,h=>if ck h then .ok zs h else .no
 |x::xs,zs,h=>if ck h then (fj (some x::none::rd) h).bind λjt h1=>(aeh jt.ck c fe x rd jt.xs zs h1).bind λzs1 h2=>a4k ck fj c fe rd xs zs1 h2 else .no
def a8q(fi fj:SI)(c:ST)(fe:SE)(ix:List Nat):SE:=λτ h=>(fi τ h).bind λit h1=>(a4k it.ck fj c fe (frs' ix τ) it.xs [] h1).bind (abg [])
def aoz:ST:=λ_ h=>.ok true h
theorem b2w{K:Fg}{E:XD}{J:It}{jt:Itm}{c:ST}{fe:SE}{x:D}{vx:V}{r:St}{rd:Sd}{k1:List D->Hd->R D}{U0:List Addr}{H0:Hp}{h0:Hd}{Q:VK}{M:List V->Hp->Prop}{ks0:List V}{zs0:List D}
  (ir:ani K U0 H0 J jt) (rx:Rep K U0 H0 vx x) (S:SRep K U0 H0 r rd) (Rh:HRep K U0 H0 h0) (rz:Reps K U0 H0 ks0 zs0) (o:out K E (zj K) U0 H0 ((aeh jt.ck c fe x rd jt.xs zs0 h0).bind k1) Q)
  (fin:∀ks zs U H h,Gr U0 H0 U H->HRep K U H h->Reps K U H ks zs->out K E (zj K) U H (k1 zs h) Q->M ks H) :
  ∃V':Nat->Nat->List V->Hp->Prop,(∃n,V' 0 n ks0 H0)/\∀j n ks H,V' j n ks H->
   (J.stop j H/\M ks H) \/
   (J.go j H/\∀y H',J.yld j H y H'->a05 1 y (some vx::none::r) H' λZ3 H4=>L2.Ext (some vx::none::r) Z3/\lift K E adl c Z3 H4 λok H4'=>if ok=true then lift K E (zj K) fe Z3 H4' (λz H5=>ks.length<sizeLine/\∃n',n'<n/\V' (j+1) n' (ks++[z]) H5) else ∃n',n'<n/\V' (j+1) n' ks H4'):=by
 refine⟨λj n ks H=>n=jt.xs.length-j/\j<=jt.xs.length/\∃U h zs,Gr U0 H0 U H/\HRep K U H h/\Reps K U H ks zs/\out K E (zj K) U H ((aeh jt.ck c fe x rd (jt.xs.drop j) zs h).bind k1) Q,⟨_,rfl,bb _,U0,h0,zs0,.refl _ _,Rh,rz,o⟩,?_⟩
 rintro j n ks H ⟨rfl,hj,U,h,zs,g0,Rh,rz,o⟩
 by_cases hlt:j<jt.xs.length
 .rw[dJ hlt,aeh]at o
  by_cases hc:jt.ck h
  .rw[aJ hc,R.bind_assoc]at o;obtain⟨go,yl⟩:=(ir U H h g0 Rh hc).1 j _ (ag hlt);refine .inr ⟨go,λy H' yy=>?_⟩;obtain⟨g1,r1,hr1⟩:=yl y H' yy;have o':=a3k o g1;have st:∀{U':List Addr} {H'':Hp},Gr U H' U' H''->SRep K U' H'' (some vx::some y::r) (some x::some jt.xs[j]::rd):=λg=>a0f ((rx.mono (g0.trans g1)).mono g) (a0f (r1.mono g) ((S.mono (g0.trans g1)).mono g));refine⟨⟨rfl,λi v e=>?_⟩,U,some x::some jt.xs[j]::rd,h,st (.refl _ _),hr1,dj o' λok h1 U1 H1 u g2 r2 hr2 o2=>?_⟩
   .match i,e with
    |0,e=>exact e
    |1,e=>simp at e
    |i+2,e=>simpa using e
   .have r2:u=ok:=r2;subst r2
    cases u with
    |false =>
     rw[ba aX]at o2 ⊢;exact⟨jt.xs.length-(j+1),by omega,rfl,hlt,U1,h1,zs,(g0.trans g1).trans g2,hr2,rz.mono (g1.trans g2),o2⟩
    |true =>
     rw[aJ rfl]at o2 ⊢;rw[R.bind_assoc]at o2;refine⟨U1,_,h1,st g2,hr2,dj o2 λd h2 U2 H2 z g3 r3 hr3 o3=>?_⟩
     by_cases h6:zs.length+1<=LINE
     .rw[aJ h6]at o3;have few:ks.length<sizeLine:=by have:=ll h6;rw[<-rz.len]at this;omega
      exact⟨few,jt.xs.length-(j+1),by omega,rfl,hlt,U2,h2,zs++[d],((g0.trans g1).trans g2).trans g3,hr3,(rz.mono ((g1.trans g2).trans g3)).app (.cons r3 .nil),o3⟩
     .rw[ba h6]at o3;exact o3.elim
  .rw[ba hc]at o;exact o.elim
 .have e:j=jt.xs.length:=by omega
  subst e;rw[cD (aw _),aeh]at o
  by_cases hc:jt.ck h
  .rw[aJ hc]at o;exact .inl ⟨(ir U H h g0 Rh hc).2,fin ks zs U H h g0 Rh rz o⟩
  .rw[ba hc]at o;exact o.elim
theorem ayp{K:Fg}{E:XD}{J:It}{it:Itm}{fj:SI}{c:ST}{fe:SE}{r:St}{rd:Sd}{U0:List Addr}{H0:Hp}{h0:Hd}{Q:VK}
  (ir:ani K U0 H0 J it) (S:SRep K U0 H0 r rd) (Rh:HRep K U0 H0 h0) (o:out K E (zj K) U0 H0 ((a4k it.ck fj c fe rd it.xs [] h0).bind (abg [])) Q) :
  b45 (lift K E (aq6 K) fj) (List.replicate 2 none++r) (a05 0) (a05 1) (lift K E adl c) (lift K E (zj K) fe) Q J H0:=by
 refine⟨λi m ks H=>m=it.xs.length-i/\i<=it.xs.length/\∃U h zs,Gr U0 H0 U H/\HRep K U H h/\Reps K U H ks zs/\out K E (zj K) U H ((a4k it.ck fj c fe rd (it.xs.drop i) zs h).bind (abg [])) Q,⟨_,rfl,bb _,U0,h0,[],.refl _ _,Rh,.nil,o⟩,?_⟩
 rintro i m ks H ⟨rfl,hi,U,h,zs,g0,Rh,rz,o⟩
 by_cases hlt:i<it.xs.length
 .rw[dJ hlt,a4k]at o
  by_cases hc:it.ck h
  .rw[aJ hc,R.bind_assoc]at o;obtain⟨go,yl⟩:=(ir U H h g0 Rh hc).1 i _ (ag hlt);refine .inr ⟨go,λx H' y=>?_⟩;obtain⟨g1,r1,hr1⟩:=yl x H' y;have o':=a3k o g1;refine⟨⟨rfl,λk v e=>?_⟩,U,some it.xs[i]::none::rd,h,a0f r1 ?_,hr1,dj o' λjt h1 U1 H1 J1 g2 r2 hr2 o2=>?_⟩
   .match k,e with
    |0,e=>simp at e
    |1,e=>simp at e
    |k+2,e=>simpa using e
   .have S':=S.mono (g0.trans g1);refine⟨by simp[S'.len],λk d e=>?_⟩
    cases k with
    |zero=>simp at e
    |succ k=>simpa using S'.val k d (by simpa using e)
   .rw[R.bind_assoc]at o2;refine b2w (k1:=λks1 h2=>(a4k it.ck fj c fe rd (it.xs.drop (i+1)) ks1 h2).bind (abg [])) r2 (r1.mono g2) (S.mono ((g0.trans g1).trans g2)) hr2 (rz.mono (g1.trans g2)) o2 λks' zs' U3 H3 h3 g3 hr3 rz3 o3=>?_;exact⟨it.xs.length-(i+1),by omega,rfl,hlt,U3,h3,zs',((g0.trans g1).trans g2).trans g3,hr3,rz3,o3⟩
  .rw[ba hc]at o;exact o.elim
 .have e:i=it.xs.length:=by omega
  subst e;rw[cD (aw _),a4k]at o
  by_cases hc:it.ck h
  .rw[aJ hc]at o;have o1:out K E (zj K) U H (.ok (.ref h.length) (h++[.lst ([]++zs)])) Q:=o;rw[eA]at o1;exact .inl ⟨(ir U H h g0 Rh hc).2,vf (E:=E) rz Rh o1⟩
  .rw[ba hc]at o;exact o.elim
section
variable{X:Cx}{E:XD}{aD t0 i0 t1 i1 cn:Expr}{aB:Scope}{pos:Pos}{cl:List (Str×Addr)}{a b:Str}{fr:List Str}{ix:List Nat}{fi fj:SI}{fe:SE}{c:ST}
theorem al4{Z:St}{H:Hp}{Q:VK}(h:lift X.K E (zj X.K) (a8q fi fj c fe ix) Z H Q):aue (lift X.K E (aq6 X.K) fi) (lift X.K E (aq6 X.K) fj) (my 2 ix) (a05 0) (a05 1) (lift X.K E adl c) (lift X.K E (zj X.K) fe) Z H Q:=by
 obtain⟨U,τ,h,Sr,Rh,o⟩:=h;refine⟨U,τ,h,Sr,Rh,dj o λit h1 U1 H1 J g1 r1 hr1 o1=>?_⟩;exact ayp r1 (a4t (Sr.mono g1) ix) hr1 o1
theorem al5:PCn X [] (lift X.K E adl aoz):=λaA s Z H Q I ⟨U,τ,h,_,Rh,o⟩=>ayn aA s Z H Q I (o U H true (.refl _ _) rfl Rh)
theorem ap0(hc:X.calm=true)(S:CSc X aB cl [a,b] fr ix)(hi:MI X E t0 i0 fi)
  (hg0:∀C fp s H,PG (cxC X ([a,b]++fr) aB cl C fp s H) t0 (a05 0)) (hj:∀C fp s H,MI (cxC X ([a,b]++fr) aB cl C fp s H) E t1 i1 fj) (hg1:∀C fp s H,PG (cxC X ([a,b]++fr) aB cl C fp s H) t1 (a05 1)) (ht:∀C fp s H,MT (cxC X ([a,b]++fr) aB cl C fp s H) E cn c) (he:∀C fp s H,ME (cxC X ([a,b]++fr) aB cl C fp s H) E aD fe)
  (hs0:∀x,foldedSetIterable i0 X.env x=pure x:=by intro _;rfl) (hs1:∀env x,foldedSetIterable i1 env x=pure x:=by intro _ _;rfl) :
  ME X E (.ListComp aD [⟨t0,i0,[],0⟩,⟨t1,i1,[cn],0⟩] aB pos) (a8q fi fj c fe ix):=by
 intro aA s Z H Q I h
 rw[iI];exact al3 (.inr ⟨cn,rfl⟩) hc S hi hg0 hj hg1 (λC fp s H=>ayo (ht C fp s H)) he hs0 hs1 none I (al4 h) a6q
theorem auf{spos:Pos}{x:Str}{i:Nat}{pos':Pos}{cs:List Expr}(hN:X.N.Nodup)(hi':X.N[i]? = some x)(hx:Loc X.env.scope x)(one:One cs)(hc:X.calm=true)(S:CSc X aB cl [a,b] fr ix)(hi:MI X E t0 i0 fi)
  (hg0:∀C fp s H,PG (cxC X ([a,b]++fr) aB cl C fp s H) t0 (a05 0)) (hj:∀C fp s H,MI (cxC X ([a,b]++fr) aB cl C fp s H) E t1 i1 fj) (hg1:∀C fp s H,PG (cxC X ([a,b]++fr) aB cl C fp s H) t1 (a05 1)) (ht:∀C fp s H,PCn (cxC X ([a,b]++fr) aB cl C fp s H) cs (lift X.K E adl c)) (he:∀C fp s H,ME (cxC X ([a,b]++fr) aB cl C fp s H) E aD fe)
  (hs0:∀x,foldedSetIterable i0 X.env x=pure x:=by intro _;rfl) (hs1:∀env x,foldedSetIterable i1 env x=pure x:=by intro _ _;rfl) (hsw:swapsWith (.ListComp aD [⟨t0,i0,[],0⟩,⟨t1,i1,cs,0⟩] aB pos) (some (.Name x pos')) spos.line X.env=pure true:=by rfl) (hf:Hf X x:=by first|exact .inl rfl|exact .inr rfl|assumption) :
  PS X (.Assign [.Name x pos'] (.ListComp aD [⟨t0,i0,[],0⟩,⟨t1,i1,cs,0⟩] aB pos) spos) (awj (aue (lift X.K E (aq6 X.K) fi) (lift X.K E (aq6 X.K) fj) (my 2 ix) (a05 0) (a05 1) (lift X.K E adl c) (lift X.K E (zj X.K) fe)) (a05 i)):=by
 intro aA s Z H D I h
 rw[gG _ _ _ _ hsw];refine ae (dY (ae ?_));refine ae (bL (al3 one hc S hi hg0 hj hg1 ht he hs0 hs1 (some (assign (.Name x pos') X.env)) I h (aa0 hN hi' hx hf)) (λ_ s' hq=>av (av hq)) λ_ _ e=>e)
theorem acy{spos:Pos}{x:Str}{i:Nat}{pos':Pos}{cs:List Expr}(hN:X.N.Nodup)(hi':X.N[i]? = some x)(hx:Loc X.env.scope x)(one:One cs)(hc:X.calm=true)(S:CSc X aB cl [a,b] fr ix)(hi:MI X E t0 i0 fi)
  (hg0:∀C fp s H,PG (cxC X ([a,b]++fr) aB cl C fp s H) t0 (a05 0)) (hj:∀C fp s H,MI (cxC X ([a,b]++fr) aB cl C fp s H) E t1 i1 fj) (hg1:∀C fp s H,PG (cxC X ([a,b]++fr) aB cl C fp s H) t1 (a05 1)) (ht:∀C fp s H,PCn (cxC X ([a,b]++fr) aB cl C fp s H) cs (lift X.K E adl c)) (he:∀C fp s H,ME (cxC X ([a,b]++fr) aB cl C fp s H) E aD fe)
  (hs0:∀x,foldedSetIterable i0 X.env x=pure x:=by intro _;rfl) (hs1:∀env x,foldedSetIterable i1 env x=pure x:=by intro _ _;rfl) (hsw:swapsWith (.ListComp aD [⟨t0,i0,[],0⟩,⟨t1,i1,cs,0⟩] aB pos) (some (.Name x pos')) spos.line X.env=pure true:=by rfl) (hf:Hf X x:=by first|exact .inl rfl|exact .inr rfl|assumption) :
  MS X E (.Assign [.Name x pos'] (.ListComp aD [⟨t0,i0,[],0⟩,⟨t1,i1,cs,0⟩] aB pos) spos) (jz i (sZ (a8q fi fj c fe ix))) :=
 PS.weak (ajx (auf hN hi' hx one hc S hi hg0 hj hg1 ht he hs0 hs1 hsw hf)) λN Z H q=>al4 (b1b (ajy q))
end
structure CK (K:Fg) (mg:Str->Option Value) (c:Str) (C:Addr) (ks:List Str):Prop where
 m:mg c=some (.ref C)
 ns:PySem.W.nsIn K mainGlobals c=some (some (.ref C))
 cl:Cls K C
 na:∀k∈ks,NoAttr K C k
noncomputable def b2x(K:Fg)(ta:TE)(f:Str):TE:=λZ H Q=>ta Z H λx H1=>∃a C dx fs v,x=.ref a/\Rd H1 a (.ins C dx fs)/\Cls K C/\NoAttr K C f/\fs.lookup f=some v/\Q v H1
section
variable{X:Cx}{E:XD}
theorem auh(he:PE X e ta)(hb:attributeBase e f X.env (eval e X.env)=eval e X.env):PE X (.Attribute e f pos) (b2x X.K ta f):=by
 intro aA s Z H Q I h
 refine as8 hb (L2.thn (he aA s Z H _ I h) λu s1 ⟨x,H1,I1,rx,a,C,dx,fs,v,ex,ea,c,n,l,q⟩=>?_);subst ex;obtain rfl:u=Value.ref a:=rx
 rcases ea with ea|⟨o,ea⟩
 .exact agy I1 ea c n l λu' s2 I2 ru=>⟨v,H1,I2,ru,q⟩
 .obtain⟨_,_,_,ne,ob,mA,nn,r,_⟩:=I1.hok a _ ea;obtain⟨u,hu,ru⟩:=RelO.some_of (v:=v) (o:=mA f) (by rw[<-l];exact r f)
  exact aip I1.kIn ⟨ob,nn,ne⟩ (c.get f) c.hd n hu (abl ru) ⟨v,H1,I1.tok _,ru,q⟩
theorem a87{us:List (Str×V)}:∀{us:List (Str×V)} {kvs:List (Str×D)},KRep K U H us kvs->kvs.lookup k=some d->∃v,us.lookup k=some v/\Rep K U H v d
 |[],[],_,e=>by cases e
 |[],_::_,r,_=>by cases r.1
 |_::_,[],r,_=>by cases r.1
 |(k1,v1)::us,(k2,d2)::kvs,⟨h1,h2⟩,e=>by
  simp only[aZ,List.cons.injEq]at h1;obtain⟨rfl,h1⟩:=h1
  cases h2 with
  |cons r rs =>
   rw[gJ]at e ⊢
   cases hk:k == k1 with
   |true=>rw[hk]at e;cases e;exact⟨_,rfl,r⟩
   |false=>rw[hk]at e;exact a87 (us:=us) ⟨h1,rs⟩ e
noncomputable def b2y(c k:Str):D->Hd->Option D
 |.ins c' ks xs,_=>if c'=c then (ks.zip xs).lookup k else none
 |.ref i,h=>(match h[i]? with|some (.ins c' fs)=>if c'=c then fs.lookup k else none|_=>none)
 |_,_=>none
def uh(c k:Str)(d:D)(h:Hd):R D:=match b2y c k d h with
 |some x=>.ok x h
 |none=>.no
theorem ayq{c k:Str}{C:Addr}{ks:List Str}(hk:CK X.K X.mg c C ks)(hf:k∈ks)(he:ME X E e f)(hb:attributeBase e k X.env (eval e X.env)=eval e X.env:=by rfl):ME X E (.Attribute e k pos) (s1 (uh c k) f):=by
 refine PE.weak (auh he hb) λZ H Q ⟨U,τ,h,S,Rh,o⟩=>?_;refine⟨U,τ,h,S,Rh,dj o λd h1 U1 H1 v g1 r1 hr1 o1=>?_⟩;unfold uh at o1
 split at o1
 .rename_i x hx
  cases r1 with
  |@ref a i ha =>
   obtain⟨ob,e1,e2⟩:=hr1.at ha;simp only[b2y,e1]at hx
   cases ob with
   |ins c' fs =>
    simp only at hx
    split at hx
    .rename_i hc;subst hc;obtain⟨C',dx,us,h3,hn,kr⟩:=e2;rw[hk.ns]at hn;cases hn
     obtain⟨v,l,r⟩:=a87 (us:=us) kr hx;exact⟨a,C,dx,us,v,rfl,.inl h3,hk.cl,hk.na _ hf,l,o1 U1 H1 v (.refl _ _) r hr1⟩
    .cases hx
   |_=>cases hx
  |@ins a C' dx oo c' us ks' xs h3 hn ek rs =>
   simp only[b2y]at hx
   split at hx
   .rename_i hc;subst hc;rw[hk.ns]at hn;cases hn
    obtain⟨v,l,r⟩:=a87 (us:=us) (a6t ek rs) hx;exact⟨a,C,dx,us,v,rfl,.inr ⟨oo,h3⟩,hk.cl,hk.na _ hf,l,o1 U1 H1 v (.refl _ _) r hr1⟩
   .cases hx
  |_=>cases hx
 .exact o1.elim
theorem qd{c k:Str}{C:Addr}{ks:List Str}(hk:CK X.K X.mg c C ks)(he:ME X E e f)(hf:k∈ks:=by decide +kernel)(hb:attributeBase e k X.env (eval e X.env)=eval e X.env:=by rfl):ME X E (.Attribute e k pos) (s1 (uh c k) f):=ayq hk hf he hb
noncomputable def a3a(c:Str)(n:Nat)(F:SF)(ds:List D)(h:Hd):R D:=if ds.length=n then (match F (.ref h.length::ds) (h++[.ins c []]) with
 |.ok .non h'=>.ok (.ref h.length) h'
 |_=>.no) else .no
theorem aui{c:Str}{C:Addr}{ks:List Str}(hk:CK X.K X.mg c C ks)(M:Mk X.K C f)(G:FnOk X.prog X.w X.K X.mg X.base CX0 k f fd ps (ug X.K (n+1) F))(hb:Binds X.K fd ps [])(hr:Room (k+1) X.A)(ha:MA X X0 (e::es) ka)(hg:Gl X c:=by rfl)
  (hdb:(c == ("__debug__" : Str))=false:=by decide) (he:starEach (e::es) X.env=(false,eval e X.env)::starEach es X.env:=by rfl) (hpl:(backTo pos (starEach es X.env)).any (·.1)=false:=by rfl) :
  ME X X0 (.Call (.Name c p) (e::es) [] pos) (sA (a3a c n F) ka):=by
 refine PE.weak (asa M G hr hg hk.m hb .nil asm ha hdb he hpl) λZ H Q ⟨U,τ,h,S,Rh,o⟩=>?_;refine⟨U,τ,h,S,Rh,dj o λds h1 U1 H1 vs g1 r1 hr1 o1=>?_⟩
 intro x dx nx nd ne
 unfold a3a at o1
 split at o1
 .rename_i hl;have n2:upd H1 dx (.own x) x=none:=by rw[je ne.symm];exact nx
  have g2:Gr U1 H1 (U1++[x]) (upd (upd H1 dx (.own x)) x (.ins C dx [])):=(a2n nd _).trans (ac0 n2 _);have hr2:HRep X.K (U1++[x]) (upd (upd H1 dx (.own x)) x (.ins C dx [])) (h1++[.ins c []]):=(hr1.aside nd _).add n2 ⟨C,dx,[],qw,hk.ns,rfl,.nil⟩;have ix:(U1++[x])[h1.length]? = some x:=by rw[<-hr1.len];simp
  rw[bE];refine⟨by rw[aN,r1.len,hl],U1++[x],.ref h1.length::ds,_,.cons (.ref ix) (r1.mono g2),hr2,?_⟩
  split at o1
  .rename_i h' hF;rw[hF]
   intro U' H' v g r hr'
   cases r
   exact⟨rfl,o1 U' H' _ (g2.trans g) (.ref (g.at ix)) hr'⟩
  .exact o1.elim
 .exact o1.elim
structure Di (P:Program) (w:World) (K:Fg) (mg:Str->Option Value) (base:Heap) (k:Nat) (c:Str) (C:Addr) (ks ps:List Str) (n:Nat) (F:SF) (f:Addr) (fd:FuncData):Prop where
 ok:FnOk P w K mg base CX0 k f fd ps (ug K (n+1) F)
 b:Binds K fd ps []
 mke:Mk K C f
 ck:CK K mg c C ks
theorem aei{X:Cx}{ks ps:List Str}(G:Di X.prog X.w X.K X.mg X.base k c C ks ps n F f fd)(hr:Room k' X.A)(hk:k+1<=k')(ha:MA X X0 (e::es) ka)(hg:Gl X c:=by rfl)
  (hdb:(c == ("__debug__" : Str))=false:=by decide) (he:starEach (e::es) X.env=(false,eval e X.env)::starEach es X.env:=by rfl) (hpl:(backTo pos (starEach es X.env)).any (·.1)=false:=by rfl) :
  ME X X0 (.Call (.Name c p) (e::es) [] pos) (sA (a3a c n F) ka):=aui G.ck G.mke G.ok G.b (hr.mono hk) ha hg hdb he hpl
noncomputable def adp{α:Type}(f:Str)(v:α):List (Str×α)->List (Str×α)
 |[]=>[(f,v)]
 |(g,x)::r=>if g=f then (g,v)::r else (g,x)::adp f v r
theorem acz{k:Str}(q:Rep K U H v d):∀{us:List (Str×V)} {kvs:List (Str×D)},KRep K U H us kvs->KRep K U H (a9v k v us) (adp k d kvs)
 |[],[],_=>⟨rfl,.cons q .nil⟩
 |[],_::_,r=>by cases r.1
 |_::_,[],r=>by cases r.1
 |(k1,v1)::us,(k2,d2)::kvs,⟨h1,h2⟩=>by
  simp only[aZ,List.cons.injEq]at h1;obtain⟨rfl,h1⟩:=h1
  cases h2 with
  |cons r rs =>
   unfold a9v adp
   split
   .exact⟨by simp[h1],.cons q rs⟩
   .have ih:=acz (k:=k) q (us:=us) (kvs:=kvs) ⟨h1,rs⟩;exact⟨by simp[ih.1],.cons r ih.2⟩
noncomputable def a8r(c k:Str)(fo fe:SE):SS:=λτ h=>(fe τ h).fl λy h1=>(fo τ h1).fl λx h2=>match x with
 |.ref i=>(match h2[i]? with
  |some (.ins c' fs)=>if c'=c/\fs.length<1000 then .nx τ (h2.set i (.ins c (adp k y fs))) else .no
  |_=>.no)
 |_=>.no
theorem a9e{c k:Str}{C:Addr}{ks:List Str}(hk:CK X.K X.mg c C ks)(hf:k∈ks)(ho:ME X E o fo)(he:ME X E e fe)(hs:swapsWith e (some (.Attribute o k pos')) pos.line X.env=pure false:=by rfl) :
  MS X E (.Assign [.Attribute o k pos'] e pos) (a8r c k fo fe):=by
 refine PS.weak (awx ho he hs) λN Z H ⟨U,τ,h,S,Rh,o⟩=>?_;refine⟨U,τ,h,S,Rh,xj o λy h1 U1 H1 v g1 r1 hr1 o1=>⟨U1,τ,h1,S.mono g1,hr1,xj o1 λx h2 U2 H2 u g2 r2 hr2 o2=>?_⟩⟩
 split at o2
 .rename_i i
  cases r2 with
  |@ref a _ ha =>
   split at o2
   .rename_i c' fs hx
    split at o2
    .rename_i hc;obtain⟨rfl,hl⟩:=hc;obtain⟨C',dx,us,h3,hn,kr⟩:=hr2.obj i a _ ha hx;rw[hk.ns]at hn;cases hn
     have lu:us.length=fs.length:=by simpa using aI List.length kr.1
     have gp:=a7l hr2 ha (.ins C dx (a9v k v us));exact⟨a,C,dx,us,rfl,h3,hk.cl,hk.na _ hf,by omega,o2 U2 _ Z gp (((S.mono g1).mono g2).mono gp) (hr2.put ha ⟨C,dx,_,qw,hk.ns,let q:=acz (k:=k) (r1.mono g2) kr; ⟨q.1,q.2.mono gp⟩⟩)⟩
    .exact o2.elim
   .exact o2.elim
 .exact o2.elim
end
end MI
namespace K11
open L2 MI
def a6w:SS :=
 (pq (sA vy (aj (sZ (s1 akt (sV 0))) di)))
def a2d(xg:SF)(qj:SF):SE :=
 (sA (jx false 1 qj) (aj (sV 0) di))
def a5e(xg:SF)(qj:SF):SS :=
 (iy (sIf (sT (s2 hEq (s2 gIx (sV 0) (sI 0)) (sC (.str "one"))))
 (pq (sI 1))
 sNx)
 (iy (jz 1 (sA ajj (aj (sZ (a0w (sIt (sA (jx false 1 xg) (aj (sV 0) di))) t1 (a2d xg qj) [])) di)))
 (iy (sIf (sT (s2 hEq (s2 gIx (sV 0) (sI 0)) (sC (.str "times"))))
 (pq (s2 zx (s2 gIx (sV 0) (sI 3)) (sV 1)))
 sNx)
 (pq (sV 1)))))
def a1c:SS :=
 (iy (a8r "Patch" "signs" (sV 0) (sV 1))
 (iy (a8r "Patch" "firsts" (sV 0) (sV 2))
 (iy (a8r "Patch" "pairs" (sV 0) (sV 3))
 (iy (a8r "Patch" "lasts" (sV 0) (sV 4))
 (a8r "Patch" "empty" (sV 0) (sV 5))))))
def a3b(j6:SF):SE :=
 (sV 1)
def a0n(j6:SF):ST :=
 (sT (s2 hEq (sV 0) (sV 2)))
def a3c(j6:SF):SS :=
 (a0v (sML ae1 (sV 1) (aj (sA (jx false 1 j6) (aj (sZ (a02 (sIt (s1 (uh "Patch" "pairs") (sV 0))) (tN 2) (a0n j6) (a3b j6) [2])) di)) di)))
def a1d(j6:SF):SS :=
 (iy (jz 1 (sA xq (aj (sA (jx false 1 j6) (aj (s1 (uh "Patch" "firsts") (sV 0)) di)) di)))
 (iy (a94 (sRg ac8 (aj (sI 1) (aj (s2 ie (sA vg (aj (s1 (uh "Patch" "signs") (sV 0)) di)) (sI 1)) di))) (kN 2) (a3c j6))
 (iy (jz 3 (ady (a7m (s1 (uh "Patch" "empty") (sV 0))) (sZ (s2 ie (s1 (uh "Patch" "lasts") (sV 0)) (sZ (sA xq (aj (sI 0) di))))) (s1 (uh "Patch" "lasts") (sV 0))))
 (pq (sA yj (aj (sA vy (aj (sZ (s2 ie (sZ (sA xq (aj (sC (.str "")) di))) (s1 (uh "Patch" "signs") (sV 0)))) di)) (aj (sA vy (aj (sV 1) di)) (aj (sA (jx false 1 j6) (aj (sV 3) di)) di))))))))
def uz(bh:SF)(mq:SF)(jq:SF)(j9:SF)(jy:SF)(jm:SF)(mz:SF):SS :=
 (iy (sIf (sT (s2 hEq (s2 gIx (sV 0) (sI 0)) (sC (.str "one"))))
 (pq (sZ (sA (a3a "Patch" 5 bh) (aj (sZ (sA xq (aj (s2 gIx (sV 0) (sI 1)) di))) (aj (sZ (sA xq (aj (sV 1) di))) (aj (sZ (sA xq di)) (aj (sZ (sA xq (aj (sV 1) di))) (aj (sC (.bl false)) di))))))))
 sNx)
 (iy (sIf (sT (s2 hEq (s2 gIx (sV 0) (sI 0)) (sC (.str "row"))))
 (pq (sA (jx false 1 jq) (aj (sA (jx false 2 mz) (aj (s2 gIx (sV 0) (sI 1)) (aj (sV 1) di))) di)))
 sNx)
 (iy (sIf (sT (s2 hEq (s2 gIx (sV 0) (sI 0)) (sC (.str "either"))))
 (pq (sA (jx false 1 jy) (aj (sA (jx false 2 mz) (aj (s2 gIx (sV 0) (sI 1)) (aj (sV 1) di))) di)))
 sNx)
 (iy (sIf (sT (s2 hEq (s2 gIx (sV 0) (sI 0)) (sC (.str "many"))))
 (pq (sA (jx false 1 mq) (aj (sA (jx false 2 j9) (aj (s2 gIx (sV 0) (sI 1)) (aj (sV 1) di))) di)))
 sNx)
 (pq (sA (jx false 2 jm) (aj (sA (jx false 2 mz) (aj (sZ (s2 zx (sZ (sA xq (aj (s2 gIx (sV 0) (sI 1)) di))) (s2 gIx (sV 0) (sI 3)))) (aj (sV 1) di))) (aj (s2 gIx (sV 0) (sI 2)) di))))))))
def yf(j9:SF):SS :=
 (iy (jz 5 (sA (jx false 2 j9) (aj (sV 4) (aj (sV 3) di))))
 (iy (a0v (sML ae1 (sV 2) (aj (sV 5) di)))
 (ai7 3 a2u (sA vg (aj (s1 (uh "Patch" "signs") (sV 5)) di)))))
def zp(j9:SF):SS :=
 (iy (jz 2 (sA xq di))
 (iy (jz 3 (sV 1))
 (iy (a94 (sIt (sV 0)) (kN 4) (yf j9))
 (pq (sV 2)))))
def aej(bh:SF):SE :=
 (sA yj (aj (sV 0) (aj (sV 1) di)))
def a6x(bh:SF):SS :=
 (iy (jz 2 (ady (a7m (s1 (uh "Patch" "empty") (sV 0))) (sZ (s2 ie (s1 (uh "Patch" "firsts") (sV 0)) (s1 (uh "Patch" "firsts") (sV 1)))) (s1 (uh "Patch" "firsts") (sV 0))))
 (iy (jz 3 (ady (a7m (s1 (uh "Patch" "empty") (sV 1))) (sZ (s2 ie (s1 (uh "Patch" "lasts") (sV 0)) (s1 (uh "Patch" "lasts") (sV 1)))) (s1 (uh "Patch" "lasts") (sV 1))))
 (iy (jz 4 (sZ (a8q (sIt (s1 (uh "Patch" "lasts") (sV 0))) (sIt (s1 (uh "Patch" "firsts") (sV 2))) aoz (aej bh) [1])))
 (pq (sZ (sA (a3a "Patch" 5 bh) (aj (sZ (s2 ie (s1 (uh "Patch" "signs") (sV 0)) (s1 (uh "Patch" "signs") (sV 1)))) (aj (sV 2) (aj (sZ (s2 ie (sZ (s2 ie (s1 (uh "Patch" "pairs") (sV 0)) (sV 4))) (s1 (uh "Patch" "pairs") (sV 1)))) (aj (sV 3) (aj (a4f (s1 (uh "Patch" "empty") (sV 0)) (s1 (uh "Patch" "empty") (sV 1))) di)))))))))))
def uq(bh:SF)(mj:SF):SS :=
 (jz 1 (sA (jx false 2 mj) (aj (sV 1) (aj (sV 2) di))))
def yg(bh:SF)(mj:SF):SS :=
 (iy (jz 1 (sZ (sA (a3a "Patch" 5 bh) (aj (sZ (sA xq di)) (aj (sZ (sA xq di)) (aj (sZ (sA xq di)) (aj (sZ (sA xq di)) (aj (sC (.bl true)) di))))))))
 (iy (a94 (sIt (sV 0)) (kN 2) (uq bh mj))
 (pq (sV 1))))
def v4(bh:SF):SS :=
 (iy (a0v (sML a7v (s1 (uh "Patch" "signs") (sV 1)) (aj (s1 (uh "Patch" "signs") (sV 2)) di)))
 (iy (a0v (sML a7v (s1 (uh "Patch" "firsts") (sV 1)) (aj (s1 (uh "Patch" "firsts") (sV 2)) di)))
 (iy (a0v (sML a7v (s1 (uh "Patch" "pairs") (sV 1)) (aj (s1 (uh "Patch" "pairs") (sV 2)) di)))
 (iy (a0v (sML a7v (s1 (uh "Patch" "lasts") (sV 1)) (aj (s1 (uh "Patch" "lasts") (sV 2)) di)))
 (a8r "Patch" "empty" (sV 1) (ai6 (s1 (uh "Patch" "empty") (sV 1)) (s1 (uh "Patch" "empty") (sV 2))))))))
def yz(bh:SF):SS :=
 (iy (jz 1 (sA (a3a "Patch" 5 bh) (aj (sA xq di) (aj (sA xq di) (aj (sA xq di) (aj (sA xq di) (aj (sC (.bl false)) di)))))))
 (iy (a94 (sIt (sV 0)) (kN 2) (v4 bh))
 (pq (sV 1))))
def a6m(bh:SF):SE :=
 (sA yj (aj (sV 0) (aj (sV 1) di)))
def a08(bh:SF):SS :=
 (iy (jz 1 (sZ (a8q (sIt (s1 (uh "Patch" "lasts") (sV 0))) (sIt (s1 (uh "Patch" "firsts") (sV 2))) aoz (a6m bh) [0])))
 (pq (sZ (sA (a3a "Patch" 5 bh) (aj (s1 (uh "Patch" "signs") (sV 0)) (aj (s1 (uh "Patch" "firsts") (sV 0)) (aj (sZ (s2 ie (s1 (uh "Patch" "pairs") (sV 0)) (sV 1))) (aj (s1 (uh "Patch" "lasts") (sV 0)) (aj (sC (.bl true)) di)))))))))
def sr(bh:SF)(mj:SF):SS :=
 (iy (jz 2 (sA (jx false 2 mj) (aj (s2 gIx (sV 0) (sV 3)) (aj (sV 2) di))))
 (sIf (sT (s2 gGe (sV 3) (sV 1)))
 (jz 2 (sZ (sA (a3a "Patch" 5 bh) (aj (s1 (uh "Patch" "signs") (sV 2)) (aj (s1 (uh "Patch" "firsts") (sV 2)) (aj (s1 (uh "Patch" "pairs") (sV 2)) (aj (s1 (uh "Patch" "lasts") (sV 2)) (aj (sC (.bl true)) di))))))))
 sNx))
def wj(bh:SF)(mj:SF):SS :=
 (iy (jz 2 (sZ (sA (a3a "Patch" 5 bh) (aj (sZ (sA xq di)) (aj (sZ (sA xq di)) (aj (sZ (sA xq di)) (aj (sZ (sA xq di)) (aj (sC (.bl true)) di))))))))
 (iy (a94 (sRg avu (aj (sA vg (aj (sV 0) di)) di)) (kN 3) (sr bh mj))
 (pq (sV 2))))
end K11
namespace L2
open PyProof.Rows
theorem pick_from(vs:List Value){n:Nat}(hn:n<=vs.length):(sliceRange ((n:Int)-1) (-1) (-1)).filterMap (vs.toArray[·]?)=(vs.take n).reverse:=by
 have c:sliceRange ((n:Int)-1) (-1) (-1)=(List.range n).map λk=>n-1-k:=by
  unfold sliceRange;have e:(if (-1:Int) > 0 then (if (n:Int)-1 < -1 then (-1-((n:Int)-1) + -1-1) / -1 else 0) else (if (n:Int)-1 > -1 then ((n:Int)-1 - -1 - -1-1) / (- -1) else 0)).toNat=n:=by
   rw[ba (by decide)]
   by_cases z:n=0
   .subst z;rfl
   .rw[aJ (by omega),show(- -1:Int)=1 from rfl,Int.ediv_one];omega
  dsimp only;rw[e];refine dG λk hk=>?_;have:=dH.mp hk;omega
 rw[c,hW];refine iD λi=>?_;have e:(List.range n).filterMap ((λj=>vs.toArray[j]?) ∘ λk=>n-1-k)=(List.range n).map λk=>vs[n-1-k]?.getD default:=by
  refine TPM.ak1 λk hk=>?_;have:=dH.mp hk;show vs.toArray[n-1-k]? = _;rw[List.getElem?_toArray,ag (by omega)]
  rfl
 rw[e]
 by_cases hi:i<n
 .rw[bD,gY hi,List.getElem?_reverse (by rw[aQ];omega),aQ,gU hn,fN (by omega),ag (by omega)]
  show some (vs[n-1-i]?.getD default)=_;rw[ag (by omega)]
  rfl
 .rw[dR (by simp;omega),dR (by simp;omega)]
noncomputable def bk{α:Type}(l:Option Int)(xs:List α):List α:=match l with
 |none=>xs.reverse
 |some _=>xs.dropLast.reverse
theorem auj(vs:List Value)(l:Option Int)(hl:l=none\/l=some (-2)):slicePick vs.toArray l none (some (-1))=(bk l vs).toArray:=by
 unfold slicePick
 congr 1
 rw[ay]
 rcases hl with rfl|rfl
 .show(sliceRange ((vs.length:Int)-1) (-1) (-1)).filterMap _=_;rw[pick_from vs (aw _),List.take_length];rfl
 .have e:(sliceBounds (some (-2)) none (some (-1)) vs.length).1=((vs.length-1:Nat):Int)-1:=by
   show max (-1) (min (if (-2:Int)<0 then -2+(vs.length:Int) else -2) ((vs.length:Int)-1))=_
   rw[aJ (by decide)]
   omega
  rw[e];show(sliceRange (((vs.length-1:Nat):Int)-1) (-1) (-1)).filterMap _=_;rw[pick_from vs (by omega),<-bZ]
  rfl
theorem ayr{α:Type}(l:Option Int)(xs:List α):(bk l xs).length<=xs.length:=by
 cases l with
 |none=>show xs.reverse.length<=_;rw[eB];exact aw _
 |some _=>show xs.dropLast.reverse.length<=_;rw[eB,fB];omega
theorem auk{vs:List V}{us:List Value}(r:Vals vs us)(l:Option Int):Vals (bk l vs) (bk l us):=by
 cases l with
 |none=>exact r.reverse
 |some _ =>
  show Vals vs.dropLast.reverse us.dropLast.reverse;rw[bZ,bZ,r.length];exact(r.take _).reverse
noncomputable def ays(K:Fg)(te:TE)(tl:TO)(tk:TE):TE:=λZ H Q=>te Z H λx H1=>tl Z H1 λl H2=>tk Z H2 λk H3=>k=.int (-1)/\(l=none\/l=some (-2))/\∃a xs,x=.ref a/\SqL K H3 a xs/\∀p,H3 p=none->Q (.ref p) (upd H3 p (.lst (bk l xs)))
theorem ap1{X:Cx}{e st:Expr}{lo:Option Expr}{te tk:TE}{tl:TO}{p2 pos:Pos}(he:PE X e te)(hl:PO X lo tl)(hk:PE X st tk):PE X (.Subscript e (.Slice lo none (some st) p2) pos) (ays X.K te tl tk):=by
 intro aA s Z H Q I h
 refine Subscript_ (thn (he aA s Z H _ I h) λv s1 ⟨x,H1,I1,r1,q1⟩=>?_);refine wpAny_Slice (thn (hl aA s1 Z H1 _ I1 q1) λvl s2 ⟨l,H2,I2,pl,q2⟩=>?_);rw[iF];refine av ?_;rw[iG];refine thn (hk aA s2 Z H2 _ I2 q2) ?_
 rintro u s3 ⟨k,H3,I3,rk,ek,ol,a,xs,ea,hx,q⟩
 subst ek ea;obtain⟨t,rfl⟩:=rk;cases r1
 have I4:Inv X aA Z H3 {s3 with heap:=s3.heap.push {cls:=.type "slice",data:=.fields #[vl,.none,.int (-1) t]} }:=I3.kept (t':=s3.toks) λb ob q=>af _ q
 obtain⟨its,r,ht,hz⟩:=I4.list hx;have aH:=r.length;refine tail_any (T := "list") (ops:=[.ref a,.ref s3.heap.objs.size]) ht.isList.typeIs iq.lookup ?_ (by with_unfolding_all rfl)
 refine wpAny_getItem_list_slice (st:=some (-1)) ht.isList (hX ..) pl .none (.int _ _) (by simp) ?_ (by rw[ay]<;>omega)
 rw[auj its l ol];refine⟨.ref _,_,I4.laid (t':=s3.toks) (o:=.lst (bk l xs)) (λb ob q=>af _ q) (aw _) ?_,rfl,q _ (I4.hok.fresh (aw _))⟩;exact⟨bC (ayr l xs) hz,_,0,auk r l,aO _ rfl⟩
end L2
namespace MI
open L2
noncomputable def a9f(x:D)(l:Option Int)(k:D)(h:Hd):R D:=match a0i x h,k with
 |some xs,.int i=>if i = -1/\(l=none\/l=some (-2)) then .ok (.ref h.length) (h++[.lst (bk l xs)]) else .no
 |_,_=>.no
theorem aul{K:Fg}{U:List Addr}{H:Hp}{vs:List V}{xs:List D}(r:Reps K U H vs xs)(l:Option Int):Reps K U H (bk l vs) (bk l xs):=by
 have rv:∀{vs:List V} {xs:List D},Reps K U H vs xs->Reps K U H vs.reverse xs.reverse:=λr=>by
  have:=aai r .nil
  rw[bE,bE]at this;exact this
 cases l with
 |none=>exact rv r
 |some _ =>
  show Reps K U H vs.dropLast.reverse xs.dropLast.reverse;rw[bZ,bZ,r.len];exact rv (r.take _)
abbrev sO:=Sd->Hd->R (Option Int)
noncomputable def a6f(f:SE)(l:sO)(g:SE):SE:=λτ h=>(f τ h).bind λd h1=>(l τ h1).bind λo h2=>(g τ h2).bind λk h3=>a9f d o k h3
theorem ag2{X:Cx}{E:XD}{e st:Expr}{lo:Option Expr}{f g:SE}{l:sO}{p2 pos:Pos}(he:ME X E e f)(hl:MO X E lo l)(hk:ME X E st g):ME X E (.Subscript e (.Slice lo none (some st) p2) pos) (a6f f l g):=by
 refine PE.weak (ap1 he hl hk) ?_
 rintro Z H Q ⟨U,τ,h,S,Rh,o⟩
 refine⟨U,τ,h,S,Rh,dj o λd h1 U1 H1 v g1 r1 hr1 o1=>?_⟩;refine⟨U1,τ,h1,S.mono g1,hr1,dj o1 λlo h2 U2 H2 lv g2 r2 hr2 o2=>?_⟩;refine⟨U2,τ,h2,(S.mono g1).mono g2,hr2,dj o2 λk h3 U3 H3 u g3 r3 hr3 o3=>?_⟩;have r2:lv=lo:=r2;subst r2;unfold a9f at o3
 split at o3
 .rename_i xs i e1
  by_cases c:i = -1/\(lv=none\/lv=some (-2))
  .rw[aJ c]at o3;obtain⟨b,us,rfl,h5,h6⟩:=a1y ((r1.mono g2).mono g3) hr3 e1;cases r3
   exact⟨by rw[c.1],c.2,b,us,rfl,.inl h5,vf (aul h6 lv) hr3 o3⟩
  .rw[ba c]at o3;exact o3.elim
 .exact o3.elim
theorem ayt{xs:List D}{h:Hd}:a9f (.rol xs) none (.int (-1)) h=.ok (.ref h.length) (h++[.lst xs.reverse]):=by
 unfold a9f a0i;simp only[and_true,true_and,true_or,dO];rfl
theorem aum{xs:List D}{h:Hd}{i:Nat}(e:h[i]? = some (.lst xs)):a9f (.ref i) none (.int (-1)) h=.ok (.ref h.length) (h++[.lst xs.reverse]):=by
 unfold a9f a0i;simp only[e,and_true,true_and,true_or,dO];rfl
def ayu(K:Fg):List V->Hp->VK->Prop:=λxs H Q=>(∃i,xs=[.int i]/\i.natAbs<10^4300/\Q (.str (toString i)) H)\/(∃x,xs=[.str x]/\Q (.str x) H)\/∃v U d p,xs=[v]/\Rep K U H v d/\toPy d=some p/\okR d p/\(∀x,d≠.str x)/\Q (.str p.shown) H
theorem ad0{X:Cx}(hc:X.calm=true)(hg:X.A.guards=some [])(hu:X.A.units+64<cLine)(dg:PySem.W.nsIn X.K cStatics "sys.int_max_str_digits" = some none):CallR X (.type "str") (ayu X.K):=by
 intro aA s Z H xs us Q I r h
 rcases h with⟨i,rfl,hi,q⟩|⟨x,rfl,q⟩|⟨v,U,d,p,ex,rp,ep,⟨hd,hs,dp,sz⟩,ns,q⟩
 .obtain⟨u,rfl,t,rfl⟩:=vals1 r;have nd:X.base.NoDigits:=by
   obtain⟨mc,a,_⟩:=I.mod.nolimit;exact⟨mc,a,PySem.W.ns_none_of I.mod.kin a dg⟩
  exact PyProof.Rows.str_of_int_or (I.ok.hd hc) (nd.keeps I.bk) (λ_=>⟨.str _,H,I.tok _,⟨_,rfl⟩,q⟩) λz=>absurd hi (Nat.not_lt.mpr z)
 .obtain⟨u,rfl,t,rfl⟩:=vals1 r;exact PySem.P.str_of_str ⟨.str _,H,I,⟨_,rfl⟩,q⟩
 .subst ex;obtain⟨u,rfl,rx⟩:=vals1 r;have big:∀a:Addr,u=.ref a->wpAny (model X.prog X.w) X.A (call (.type "str") [u]) (EP X aA Z Q) X.xe s:=λa eu=>by
   subst eu;obtain⟨as,rd,sy⟩:=atr I.hok rp rx ep;exact str_of_reads rd hs (λz=>sy (hd z)) hg (by omega) (λb o e=>e) (λh' u tk hk=>⟨.str p.shown,H,I.kept hk,⟨u,rfl⟩,q⟩) sz
  cases rp with
  |non =>
   cases ep
   obtain rfl:u=Value.none:=rx
   exact PySem.P.str_of_none ⟨.str _,H,I.tok _,⟨_,rfl⟩,q⟩
  |bl b =>
   cases ep
   obtain rfl:u=Value.bool b:=rx
   exact PySem.P.str_of_bool ⟨.str _,H,I.tok _,⟨_,rfl⟩,q⟩
  |int i =>
   cases ep
   obtain⟨t,rfl⟩:=rx;exact PySem.P.str_of_int (by simpa[PyData.showable] using hs) ⟨.str _,H,I.tok _,⟨_,rfl⟩,q⟩
  |str x=>exact absurd rfl (ns x)
  |@tup a vs xs hp r=>exact big a rx
  |@rol a vs xs hp r=>exact big a rx
  |@rod a o us ks xs hp ek rs=>exact big a rx
  |ty _=>cases ep
  |scr _ _=>cases ep
  |ref _=>cases ep
  |rdT _ _ _=>cases ep
  |exc _ _ _=>cases ep
  |ins _ _ _ _=>cases ep
open Classical in
def aat:List D->Hd->R D
 |[.int i],h=>if i.natAbs<10^4300 then .ok (.str (toString i)) h else .no
 |[.str x],h=>.ok (.str x) h
 |[x],h=>(match toPy x with|some p=>if okR x p/\∀y,x≠.str y then .ok (.str p.shown) h else .no|none=>.no)
 |_,_=>.no
theorem ag3:af9 K aat (ayu K):=by
 intro E U H h xs ds Q r hr o
 unfold aat at o
 split at o
 .rename_i i
  cases r with
  |cons r rs =>
   cases rs
   cases r
   split at o
   .rename_i hc;exact .inl ⟨_,rfl,hc,ans o (.str _) hr⟩
   .exact o.elim
 .cases r with
  |cons r rs =>
   cases rs
   cases r
   exact .inr (.inl ⟨_,rfl,ans o (.str _) hr⟩)
 .split at o
  .rename_i p ep
   split at o
   .rename_i ok
    cases r with
    |cons r rs =>
     cases rs
     exact .inr (.inr ⟨_,U,_,p,rfl,r,ep,ok.1,ok.2,ans o (.str _) hr⟩)
   .exact o.elim
  .exact o.elim
 .exact o.elim
def ad1(i j:Int):Prop:=0<=j/\(Builtin.Int.intBits i:Int)*j<=2^27
instance (i j:Int):Decidable (ad1 i j):=by unfold ad1;infer_instance
noncomputable def a6n:D->D->Hd->R D
 |.int i,.int j,h=>if ad1 i j then .ok (.int (i^j.toNat)) h else .no
 |_,_,_=>.no
theorem aun{X:Cx}:OpR X (binaryOp .Pow) (rI ad1 λi j=>.int (i^j.toNat)):=opI λ_ _ _ _ _ _ _ hc q=>PyProof.Rows.pow_int hc.1 hc.2 q
theorem ap2{K:Fg}:a1w K a6n (rI ad1 λi j=>.int (i^j.toNat)):=by
 intro E U H h x y dx dy Q rx ry hr o
 cases rx with
 |int i =>
  cases ry with
  |int j =>
   by_cases hc:ad1 i j
   .simp only[a6n,aJ hc]at o;exact⟨i,j,rfl,rfl,hc,ans o (.int _) hr⟩
   .simp only[a6n,ba hc]at o;exact o.elim
  |_=>exact o.elim
 |_=>exact o.elim
theorem al6{X:Cx}{E:XD}{a b:Expr}{fa fb:SE}{pos:Pos}(ha:ME X E a fa)(hb:ME X E b fb):ME X E (.BinOp a .Pow b pos) (s2 a6n fa fb):=ac2 aun ap2 ha hb
end MI
namespace TPM
open PySem.W L2 HT MI PyProof.Rows
theorem ad2(n:Nat):Builtin.Slice.sliceAdjust (some (-2)) none (-1) (n:Int)=(((n-1:Nat):Int)-1,-1):=by
 unfold Builtin.Slice.sliceAdjust;simp;omega
theorem aau{s:Shared}{n:Nat}(hs:s.heap.IsSliceOf sl (.int (-2) t2) .none (.int (-1) t))
  (h:Q (((n-1:Nat):Int)-1,-1,n-1) s):wpAny (model prog w) A (Builtin.Slice.sliceApplied (.ref sl) (pure (n:Int))) Q E s:=by
 obtain⟨os,hos,hcs,hds⟩:=id hs;rw[Builtin.Slice.sliceApplied,Builtin.Slice.sliceFields]
 apply ae;apply ae
 apply dD hos hds (x:=.int (-2) t2) rfl
 apply ae;apply dD hos hds (x:=.none) rfl
 apply ae;apply dD hos hds (x:=.int (-1) t) rfl
 apply av
 apply ae;apply a1m (.int (-1) t)
 dsimp only[Option.getD];rw[ba (by decide)]
 apply ae;apply a1m (.int (-2) t2)
 apply ae;apply a1m .none
 apply ae;apply av
 rw[ad2];dsimp only;rw[ae6];exact av h
theorem ahv(xs:Array Value):((List.range (xs.size-1)).filterMap λ(k:Nat)=>xs[(((xs.size-1:Nat):Int)-1+(k:Int) * -1).toNat]?).toArray=xs.toList.dropLast.reverse.toArray:=by
 congr 1
 apply iD
 intro i
 have e:(List.range (xs.size-1)).filterMap (λ(k:Nat)=>xs[(((xs.size-1:Nat):Int)-1+(k:Int) * -1).toNat]?)=(List.range (xs.size-1)).map λk=>xs[xs.size-1-1-k]?.getD default:=by
  apply ak1
  intro k hk
  rw[dH]at hk;have:(((xs.size-1:Nat):Int)-1+(k:Int) * -1).toNat=xs.size-1-1-k:=by omega
  rw[this,bO (by omega)]
  rfl
 rw[e]
 by_cases hi:i<xs.size-1
 .rw[bD,gY hi,List.getElem?_reverse (by simpa using hi),fB,bZ,fN (by rw[bp];omega),bp,Array.getElem?_toList,bO (by omega)]
  show some (xs[xs.size-1-1-i]?.getD default)=_;rw[bO (by omega)]
  rfl
 .rw[dR (by simp;omega),dR (by simp;omega)]
theorem ahw{s:Shared}(ht:PyProof.Rows.IsTup s.heap t aC)(hs:s.heap.IsSliceOf sl (.int (-2) u2) .none (.int (-1) u))
  (h:Q (.ref s.heap.objs.size) {s with heap:=s.heap.push {cls:=.type "tuple",data:=.seq aC.toList.dropLast.reverse.toArray} }) (hsz:aC.size<=sizeLine):wpAny (model prog w) A (getItem (.ref t) (.ref sl)) Q E s:=by
 have fits:sizeOk (.seq aC.toList.dropLast.reverse.toArray):=by
  show aC.toList.dropLast.reverse.toArray.size<=sizeLine;rw[ay,eB,fB,bp];omega
 obtain⟨os,f1,f2,f3⟩:=id hs;have ty:s.TypeIs (.ref sl) "slice":=⟨os,f1,f2⟩;have tt:s.TypeIs (.ref t) "tuple":=ht.typeIs;rw[getItem]
 try apply cX
 first|(apply ae;apply av)|skip
 apply ae;apply ip tt (by decide)
 apply ae
 apply bY (name:=Str.ofString "__getitem__") tt bJ
 apply cm bJ tt g9 _ (gz _ _)
 change wpAny (model prog w) A.in1 (Builtin.Tuple.tupleItemsOf (.ref t)>>=_) _ _ s
 apply ae;apply hG ht
 apply ae;apply gF ty
 rw[aJ (by decide)]
 apply ae;apply aau hs
 dsimp only;rw[ba (by simp),ahv]
 first
  |exact ae (m:=Builtin.Tuple.tupleExact _) (bV (av ⟨_,rfl,av h⟩) fits)
  |exact ae (ae (m:=Builtin.Tuple.tupleExact _) (bV (av ⟨_,rfl,av h⟩) fits))
noncomputable def ayv(K:Fg)(te tl tk:TE):TE:=λZ H Q=>te Z H λx H1=>tl Z H1 λl H2=>tk Z H2 λk H3=>l=.int (-2)/\k=.int (-1)/\∃a xs,x=.ref a/\SqT K H3 a xs/\∀p,H3 p=none->Q (.ref p) (upd H3 p (.tup xs.dropLast.reverse))
theorem ap3{X:Cx}{e lo st:Expr}{te tl tk:TE}{p2 pos:Pos}(he:PE X e te)(hl:PE X lo tl)(hk:PE X st tk):PE X (.Subscript e (.Slice (some lo) none (some st) p2) pos) (ayv X.K te tl tk):=by
 intro aA s Z H Q I h
 refine Subscript_ (thn (he aA s Z H _ I h) ?_)
 rintro v s1 ⟨x,H1,I1,r1,q1⟩
 refine wpAny_Slice ?_;rw[iG];refine thn (hl aA s1 Z H1 _ I1 q1) ?_
 rintro vl s2 ⟨l,H2,I2,rl,q2⟩
 rw[iF];refine av ?_;rw[iG];refine thn (hk aA s2 Z H2 _ I2 q2) ?_
 rintro u s3 ⟨k,H3,I3,rk,el,ek,a,xs,ea,hx,q⟩
 subst el ek ea;obtain⟨t,rfl⟩:=rk;obtain⟨t2,rfl⟩:=rl;cases r1
 have I4:Inv X aA Z H3 {s3 with heap:=s3.heap.push {cls:=.type "slice",data:=.fields #[.int (-2) t2,.none,.int (-1) t]} }:=I3.kept (t':=s3.toks) λb ob q=>af _ q
 obtain⟨its,r,ht,hz⟩:=I4.tuple hx;have aH:its.toArray.size=xs.length:=by rw[ay];exact r.length.symm
 refine tail_any (T := "tuple") (ops:=[.ref a,.ref s3.heap.objs.size]) ht.typeIs bJ.lookup ?_ (by with_unfolding_all rfl)
 refine ahw ht (hX ..) ?_ (by rw[aH];exact hz)
 refine⟨.ref _,_,I4.laid (t':=s3.toks) (o:=.tup xs.dropLast.reverse) (λb ob q=>af _ q) (aw _) ?_,rfl,q _ (I4.hok.fresh (aw _))⟩;refine⟨by rw[eB,fB];omega,_,?_,gi _ _⟩
 rw[bZ,bZ,List.toList_toArray,r.length];exact(r.take _).reverse
end TPM
namespace MI
open L2 TPM
noncomputable def aqv:D->D->D->Hd->R D
 |.tup xs,.int j,.int i,h=>if j = -2/\i = -1 then .ok (.tup xs.dropLast.reverse) h else .no
 |_,_,_,_=>.no
noncomputable def ag4(f l g:SE):SE:=λτ h=>(f τ h).bind λd h1=>(l τ h1).bind λj h2=>(g τ h2).bind λk h3=>aqv d j k h3
theorem ap4{X:Cx}{E:XD}{e lo st:Expr}{f l g:SE}{p2 pos:Pos}(he:ME X E e f)(hl:ME X E lo l)(hk:ME X E st g):ME X E (.Subscript e (.Slice (some lo) none (some st) p2) pos) (ag4 f l g):=by
 refine PE.weak (ap3 he hl hk) ?_
 rintro Z H Q ⟨U,τ,h,S,Rh,o⟩
 refine⟨U,τ,h,S,Rh,dj o λd h1 U1 H1 v g1 r1 hr1 o1=>?_⟩;refine⟨U1,τ,h1,S.mono g1,hr1,dj o1 λj h2 U2 H2 u g2 r2 hr2 o2=>?_⟩;refine⟨U2,τ,h2,(S.mono g1).mono g2,hr2,dj o2 λk h3 U3 H3 u3 g3 r3 hr3 o3=>?_⟩;have r1':=(r1.mono g2).mono g3;unfold aqv at o3
 split at o3
 .split at o3
  .rename_i z;obtain⟨rfl,rfl⟩:=z
   cases r2;cases r3
   cases r1' with
   |@tup a vs ys ha rs =>
    have rr:=aai (rs.take (List.length vs-1)) .nil;rw[bE,bE,<-bZ,rs.len,<-bZ]at rr;exact⟨rfl,rfl,a,vs,rfl,SqT.of ha,a1h rr hr3 o3⟩
  .exact o3.elim
 .exact o3.elim
end MI
namespace K15
open L2 MI
def a2e:SS :=
 (pq (a4f (sA a2p (aj (sV 0) (aj (sC (.ty "int")) di))) (ac3 (sA a2p (aj (sV 0) (aj (sC (.ty "bool")) di))))))
def a6y:SS :=
 (pq (a4f (sA a2p (aj (sV 0) (aj (sC (.ty "tuple")) di))) (sCh gLe gLe (sV 1) (sA vg (aj (sV 0) di)) (sV 2))))
def a6z(j9:SF)(ux:SF)(qj:SF):SS :=
 (iy (sIf (sT (s2 gGt (sA (jx false 1 qj) (aj (sV 0) di)) (sI 10)))
 ay0
 sNx)
 (pq (sA (jx false 1 ux) (aj (sA (jx false 2 j9) (aj (sV 0) (aj (sI 1) di))) di))))
def a88(j6:SF):SE :=
 (sV 1)
def a89(j6:SF):ST :=
 (sT (s2 (gIn false) (sV 2) (s2 gIx (sV 3) (sV 1))))
def a70(j6:SF):SS :=
 (iy (aml (sV 0) (ah8 3 (a07 (kN 3) (a07 (kN 4) (a07 (kN 5) ai8)))))
 (pq (sA (jx false 1 j6) (aj (sZ (a8q (sIt (sV 1)) (sIt (s2 gIx (sV 4) (sV 0))) (a89 j6) (a88 j6) [2,3,4])) di))))
def a8a(zc:SF):SS :=
 (a0v (sML ae1 (sV 2) (aj (sA (jx false 3 zc) (aj (sV 0) (aj (s2 gIx (sV 2) (s1 a97 (sI 1))) (aj (sV 3) di)))) di)))
def a71(zc:SF):SS :=
 (iy (jz 2 (sA xq (aj (sA yj (aj (sI 0) di)) di)))
 (iy (a94 (sIt (sV 1)) (kN 3) (a8a zc))
 (pq (sA vy (aj (sV 2) di)))))
def ag5(gf:SF):SE :=
 (sV 0)
def ag6(gf:SF):ST :=
 (sT (s2 (gIn false) (sV 0) (s2 gIx (sV 1) (s2 gIx (sV 2) (s1 a97 (sI 1))))))
def aav(gf:SF):SS :=
 (iy (jz 6 (sZ (a02 (sIt (sV 5)) t1 (ag6 gf) (ag5 gf) [3,4])))
 (a0v (sML ae1 (sV 4) (aj (s2 gIx (sV 6) (sI 0)) di))))
def ahx(gf:SF):SS :=
 (iy (jz 2 (sA (jx false 2 gf) (aj (sV 0) (aj (sV 1) di))))
 (iy (sIf (a92 (a7m (s2 gIx (sV 2) (sI 0))))
 (pq (sC .non))
 sNx)
 (iy (jz 3 (s2 gIx (sV 0) (sI 1)))
 (iy (jz 4 (sA xq (aj (sI 0) di)))
 (iy (a94 (sIt (sZ (a1l (sV 2) (oS (sI 1)) oN))) (kN 5) (aav gf))
 (pq (sA vy (aj (sZ (a1l (sV 4) (oS (sI 1)) oN)) di))))))))
def a0o(jk:SF):SE :=
 (sV 0)
def a0p(jk:SF):ST :=
 (sT (s2 (gIn false) (sV 0) (sV 1)))
def a0q(jk:SF):SE :=
 (sV 0)
def a0r(jk:SF):SE :=
 (s2 (gIn false) (sV 0) (s2 gIx (sV 2) (sV 1)))
def u5(jk:SF):ST :=
 (a7m (sA ay1 (aj (sZ (a0w (sIt (sV 2)) t1 (a0r jk) [0,1])) di)))
def ww(jk:SF):SS :=
 (iy (jz 8 (s2 gIx (sV 6) (s1 a97 (sI 1))))
 (a0v (sML ae1 (sV 6) (aj (sZ (a02 (sIt (sV 7)) t1 (u5 jk) (a0q jk) [3,8])) di))))
def wk(jk:SF):SS :=
 (iy (aml (sV 0) (ah8 3 (a07 (kN 2) (a07 (kN 3) (a07 (kN 4) ai8)))))
 (iy (jz 5 (sA (jx false 2 jk) (aj (sV 0) (aj (sV 1) di))))
 (iy (jz 6 (sA xq (aj (sZ (a02 (sIt (s2 gIx (sV 5) (s1 a97 (sI 1)))) t1 (a0p jk) (a0o jk) [4])) di)))
 (iy (a94 (sIt (ag4 (sV 5) (s1 a97 (sI 2)) (s1 a97 (sI 1)))) (kN 7) (ww jk))
 (pq (a6f (sV 6) oN (s1 a97 (sI 1))))))))
def a1k(ou:SF)(zg:SF):SS :=
 (iy (sIf (sOr (a92 (a7m (sA (jx false 1 ou) (aj (sV 8) di)))) (sOr (sT (s2 (gIn true) (sV 8) (s2 gIx (sV 4) (sV 6)))) (sT (s2 (gIn true) (sV 7) (s2 gIx (sV 3) (sV 8))))))
 (pq (sC (.bl false)))
 sNx)
 (jz 6 (sV 8)))
def a2f(ou:SF)(zg:SF):SS :=
 (iy (aml (sV 0) (ah8 3 (a07 (kN 3) (a07 (kN 4) (a07 (kN 5) ai8)))))
 (iy (sIf (a92 (a7m (sA (jx false 3 zg) (aj (sV 2) (aj (sA vg (aj (sV 1) di)) (aj (sA vg (aj (sV 1) di)) di))))))
 (pq (sC (.bl false)))
 sNx)
 (iy (jz 6 (sI 0))
 (iy (a94 (atd (sV 1) (sV 2)) (ah8 2 (a07 (kN 7) (a07 (kN 8) ai8))) (a1k ou zg))
 (pq (s2 (gIn false) (sV 6) (sV 5)))))))
def a3d:SS :=
 (sIf (sOr (a92 (a7m (sA a2p (aj (sV 1) (aj (sC (.ty "int")) di))))) (a7m (sA a2p (aj (sV 1) (aj (sC (.ty "bool")) di)))))
 (pq (sC (.bl false)))
 sNx)
def a5f:SS :=
 (iy (sIf (a92 (a7m (sA a2p (aj (sV 0) (aj (sC (.ty "tuple")) di)))))
 (pq (sC (.bl false)))
 sNx)
 (iy (a94 (sIt (sV 0)) (kN 1) a3d)
 (pq (sC (.bl true)))))
def yu:SS :=
 (iy (sIf (sOr (sT (s2 (gIn true) (sV 5) (s2 gIx (s2 gIx (sV 0) (sI 1)) (sV 3)))) (sT (s2 (gIn true) (sV 4) (s2 gIx (s2 gIx (sV 0) (sI 0)) (sV 5)))))
 (pq (sC (.bl false)))
 sNx)
 (jz 3 (sV 5)))
def zb:SS :=
 (iy (jz 3 (sI 0))
 (iy (a94 (atd (sV 1) (sV 2)) (ah8 2 (a07 (kN 4) (a07 (kN 5) ai8))) yu)
 (pq (a4f (s2 hEq (sA vg (aj (sV 1) di)) (sA vg (aj (sV 2) di))) (s2 (gIn false) (sV 3) (s2 gIx (sV 0) (sI 2)))))))
def a2g:SS :=
 (pq (a4f (sA a2p (aj (sV 0) (aj (sC (.ty "bool")) di))) (s2 hEq (sV 0) (sV 1))))
def a2h(au:SF):ST :=
 (adm (sT (s2 gLt (sA vg (aj (sV 3) di)) (sV 2))) (sT (s2 hNe (s2 gIx (s2 gIx (sV 1) (sI 1)) (sV 4)) (sA yj di))))
def a2i(au:SF):SS :=
 (iy (jz 4 (s2 gIx (s2 gIx (s2 gIx (sV 1) (sI 1)) (sV 4)) (sA (jx false 2 au) (aj (sV 0) (aj (sA vg (aj (s2 gIx (s2 gIx (sV 1) (sI 1)) (sV 4)) di)) di)))))
 (a0v (sML ae1 (sV 3) (aj (sV 4) di))))
def a3q(au:SF):SS :=
 (iy (jz 3 (sA xq di))
 (iy (jz 4 (sI 0))
 (iy (sWh (a2h au) (a2i au) 100000)
 (pq (sV 3)))))
def a1e(au:SF):SS :=
 (iy (jz 3 (sA (jx false 2 au) (aj (sV 0) (aj (s2 ie (sA vg (aj (sV 1) di)) (sI 1)) di))))
 (iy (jz 4 (sA (jx false 2 au) (aj (sV 0) (aj (sI 12) di))))
 (iy (sIf (sOr (sT (s2 gLt (sV 4) (sI 3))) (sT (s2 (atu false) (sV 1) (sZ (sA xq di)))))
 (pq (sV 1))
 sNx)
 (iy (jz 3 (sA acg (aj (sV 3) (aj (s2 a77 (sA vg (aj (sV 1) di)) (sI 1)) di))))
 (iy (jz 5 (s2 gIx (sV 1) (sV 3)))
 (iy (sIf (sT (s2 hEq (sV 4) (sI 3)))
 (pq (s2 ie (sZ (a1l (sV 1) oN (oS (sV 3)))) (sZ (a1l (sV 1) (oS (s2 ie (sV 3) (sI 1))) oN))))
 sNx)
 (iy (sIf (sT (s2 hEq (sV 4) (sI 4)))
 (pq (s2 ie (sZ (s2 ie (sZ (a1l (sV 1) oN (oS (sV 3)))) (sZ (sA xq (aj (sV 5) di))))) (sZ (a1l (sV 1) (oS (sV 3)) oN))))
 sNx)
 (iy (sIf (sT (s2 hEq (sV 4) (sI 5)))
 (pq (s2 ie (sZ (s2 ie (sZ (a1l (sV 1) oN (oS (sV 3)))) (sZ (a6f (sZ (a1l (sV 1) (oS (sV 3)) (oS (s2 ie (sV 3) (sI 2))))) oN (s1 a97 (sI 1)))))) (sZ (a1l (sV 1) (oS (s2 ie (sV 3) (sI 2))) oN))))
 sNx)
 (iy (jz 6 (sA yj (aj (s2 ie (sV 5) (sI 1)) (aj (s2 a77 (sV 5) (sI 1)) (aj (s2 ie (sI 1) (sA (jx false 2 au) (aj (sV 0) (aj (s2 ie (sV 2) (sI 2)) di)))) (aj (sC (.bl true)) (aj (sC .non) (aj (sA aat (aj (sV 5) di)) (aj (s2 ie (sV 5) (s2 a6n (s2 a6n (sI 10) (sI 60)) (sI 16))) di)))))))))
 (iy (jz 6 (s2 ie (sV 6) (sA yj (aj (sZ (sA xq (aj (sV 5) di))) (aj (sZ anv) (aj (sA yj (aj (sV 5) di)) di))))))
 (pq (s2 ie (sZ (s2 ie (sZ (a1l (sV 1) oN (oS (sV 3)))) (sZ (sA xq (aj (s2 gIx (sV 6) (sA (jx false 2 au) (aj (sV 0) (aj (sA vg (aj (sV 6) di)) di)))) di))))) (sZ (a1l (sV 1) (oS (s2 ie (sV 3) (sI 1))) oN))))))))))))))
def a3y(qe:SF)(jb:SF):SE :=
 (sV 0)
def a3z(qe:SF)(jb:SF):ST :=
 (a92 (sT (sCh gLt gLt (sI 0) (sV 0) (sA vg (aj (s2 gIx (sV 1) (sI 0)) di)))))
def a2j(qe:SF)(jb:SF):SS :=
 (iy (sIf (sOr (a92 (a7m (sA (jx false 1 qe) (aj (sV 2) di)))) (sT (s2 hNe (sA vg (aj (sV 2) di)) (sA vg (aj (sV 1) di)))))
 (pq (sC (.bl false)))
 sNx)
 (iy (sIf (sT (s2 (atu true) (sZ (a02 (sIt (sV 2)) t1 (a3z qe jb) (a3y qe jb) [0])) (sZ (sA xq di))))
 (pq (sC (.bl false)))
 sNx)
 (pq (sA (jx false 3 jb) (aj (sV 0) (aj (sV 1) (aj (sV 2) di)))))))
def ag7(au:SF)(jr:SF)(jj:SF)(fu:SF)(j5:SF)(iz:SF)(jc:SF)(jg:SF)(cu:SF)(gw:SF)(g8:SF)(qm:SF)(a2l:SF)(jf:SF):SE :=
 (s2 ie (sI 1) (sA (jx false 2 au) (aj (sV 1) (aj (sV 2) di))))
def ag8(au:SF)(jr:SF)(jj:SF)(fu:SF)(j5:SF)(iz:SF)(jc:SF)(jg:SF)(cu:SF)(gw:SF)(g8:SF)(qm:SF)(a2l:SF)(jf:SF):SE :=
 (sA aat (aj (sV 0) di))
def aaw(au:SF)(jr:SF)(jj:SF)(fu:SF)(j5:SF)(iz:SF)(jc:SF)(jg:SF)(cu:SF)(gw:SF)(g8:SF)(qm:SF)(a2l:SF)(jf:SF):SS :=
 (iy (sIf (a92 (a7m (sA (jx false 2 jg) (aj (sA (jx false 3 jf) (aj (sV 7) (aj (sV 8) (aj (sV 11) di)))) (aj (sV 12) di)))))
 ay0
 sNx)
 (sIf (adm (sT (s2 acd (sV 9) (sC .non))) (a92 (a7m (sA (jx false 2 jg) (aj (sA (jx false 3 jf) (aj (sV 7) (aj (sV 8) (aj (sV 9) di)))) (aj (sC (.bl true)) di))))))
 ay0
 sNx))
def ap5(au:SF)(jr:SF)(jj:SF)(fu:SF)(j5:SF)(iz:SF)(jc:SF)(jg:SF)(cu:SF)(gw:SF)(g8:SF)(qm:SF)(a2l:SF)(jf:SF):SS :=
 (iy (jz 1 (sA (jx true 1 j5) (aj (sV 0) di)))
 (iy (jz 2 (sA (jx false 2 au) (aj (sV 1) (aj (sI 14) di))))
 (iy (jz 3 (sA (jx false 2 au) (aj (sV 1) (aj (sI 3) di))))
 (iy (jz 4 (sA (jx false 1 jc) (aj (sV 1) di)))
 (iy (jz 5 (sA (jx false 5 fu) (aj (sV 1) (aj (sV 4) (aj (sI 5) (aj (sI 10) (aj (sA xq (aj (sI 24) di)) di)))))))
 (iy (jz 6 (sA (jx false 1 cu) (aj (sV 5) di)))
 (iy (jz 7 (sA (jx false 1 qm) (aj (sV 5) di)))
 (iy (jz 8 (a1l (sA (jx false 2 gw) (aj (sV 1) (aj (sV 5) di))) oN (oS (sI 15))))
 (iy (sIf (sT (s2 hEq (sA (jx false 2 au) (aj (sV 1) (aj (sI 3) di))) (sI 0)))
 (jz 8 (sA (jx false 3 g8) (aj (sV 1) (aj (sV 8) (aj (sV 4) di)))))
 sNx)
 (iy (jz 9 (sA (jx false 2 a2l) (aj (sV 7) (aj (sV 8) di))))
 (iy (jz 10 (ady (sT (s2 acd (sV 9) (sC .non))) (sZ (sA a6l (aj (sV 9) di))) (sZ (sA xq di))))
 (iy (sIf (sT (s2 hEq (sV 3) (sI 1)))
 (jz 10 (sA (jx false 3 jr) (aj (sV 1) (aj (sV 7) (aj (sA vg (aj (sV 8) di)) di)))))
 (sIf (adm (sT (s2 hEq (sV 3) (sI 2))) (sT (s2 gGt (sV 6) (sI 0))))
 (jz 10 (sZ (a0w (sIt (sV 8)) t1 (ag7 au jr jj fu j5 iz jc jg cu gw g8 qm a2l jf) [1,6])))
 sNx))
 (iy (jz 10 (sA (jx false 3 iz) (aj (sV 1) (aj (sV 10) (aj (sV 6) di)))))
 (iy (jz 11 (sA vy (aj (sV 10) di)))
 (iy (sIf (sT (s2 gLt (sV 2) (sI 6)))
 (jz 11 (s2 gIx (sA yj (aj (sV 10) (aj (sMS ach (sC (.str "")) (aj (sZ (a0w (sIt (sZ (a1l (sV 10) oN (oS (sI 4))))) t1 (ag8 au jr jj fu j5 iz jc jg cu gw g8 qm a2l jf) [])) di)) (aj (sA vg (aj (sV 8) di)) (aj (sC .non) (aj (sZ anv) (aj (sA yj (aj (sV 10) di)) di))))))) (sV 2)))
 sNx)
 (iy (jz 12 (sA (jx false 3 jj) (aj (sV 7) (aj (sV 8) (aj (sV 11) di)))))
 (iy (a94 (sRg a5n (aj (sI 2) di)) (kN 13) (aaw au jr jj fu j5 iz jc jg cu gw g8 qm a2l jf))
 (pq (sC (.bl true))))))))))))))))))))
end K15
namespace MI
open L2
theorem du(ha:ME X E a fa)(hb:ME X E b fb)(hp:a9y b:=by exact λ_ _=>rfl):ME X E (.Subscript a b pos) (s2 gIx fa fb):=a5o ha hb hp
theorem j7(i:Nat)(hN:X.N.Nodup)(he:ME X E e fa)(hi:X.N[i]? = some x:=by rfl)(hx:Loc X.env.scope x:=by first|exact Or.inl rfl|exact Or.inr rfl)(hs:swapsWith e (some (.Name x pos')) pos.line X.env=pure false:=by rfl)(hf:Hf X x:=by first|exact .inl rfl|exact .inr rfl|assumption) :
  MS X E (.Assign [.Name x pos'] e pos) (jz i fa):=axg hN hi hx he hs hf
theorem j8{X:Cx}(G:Dn X.prog X.w X.K X.mg X.base k x ps (ug X.K n F) f fd)(hr:Room k' X.A)(hk:k<=k')(ha:MA X X0 (e::es) ka)(hg:Gl X x:=by rfl)
  (hdb:(x == ("__debug__" : Str))=false:=by decide) (he:starEach (e::es) X.env=(false,eval e X.env)::starEach es X.env:=by rfl) (hpl:(backTo pos (starEach es X.env)).any (·.1)=false:=by rfl):ME X X0 (.Call (.Name x p) (e::es) [] pos) (sA (jx false n F) ka):=afm false G (hr.mono hk) hg ha hdb he hpl
theorem qt(hm:X.mg "len" = none)(ha:MA X E [e] ka)(hg:Gl X "len":=by rfl)(he:starEach [e] X.env=(false,eval e X.env)::starEach [] X.env:=by rfl)(hpl:(backTo pos (starEach [] X.env)).any (·.1)=false:=by rfl):ME X E (.Call (.Name "len" p) [e] [] pos) (sA vg ka) :=
 a4g (L2.CallR.or abt abu) at5 hg hm axc ha (by decide) (by decide) he hpl
theorem yh(ho:OpR X (compareOp op) r)(hs:a1w X.K g r)(ha:ME X E a fa)(hb:ME X E b fb)(hm:behindInMarks op b=false:=by exact a67 _):MT X E (.Compare a [op] [b] pos) (sT (s2 g fa fb)):=yt ho hs ha hb hm
theorem qp(hu:X.A.units+64<cLine)(ha:ME X E a fa)(hb:ME X E b fb):MT X E (.Compare a [.Eq] [b] pos) (sT (s2 hEq fa fb)):=yt (a98 hu) a5r ha hb (a67 _)
theorem pgn(i:Nat)(hN:N.Nodup:=by decide +kernel)(hi:N[i]? = some x:=by rfl)(hx:∀C fp s H,Loc (cxC X N aB cl C fp s H).env.scope x:=by exact λ_ _ _ _=>Or.inl rfl)(hf:∀C fp s H,(cxC X N aB cl C fp s H).fn x=true\/(cxC X N aB cl C fp s H).env.scope.names.lookup x=some .local:=by exact λ_ _ _ _=>.inr rfl) :
  ∀C fp s H,PG (cxC X N aB cl C fp s H) (.Name x pos) (a05 i):=λC fp s H=>a9t (X:=cxC X N aB cl C fp s H) hN hi (hx C fp s H) (hf C fp s H)
theorem pgm(i:Nat)(hN:N.Nodup:=by decide +kernel)(hi:N[i]? = some x:=by rfl)(hx:Loc (cxC X N aB cl C fp s H).env.scope x:=by exact Or.inl rfl)(hf:(cxC X N aB cl C fp s H).fn x=true\/(cxC X N aB cl C fp s H).env.scope.names.lookup x=some .local:=by exact .inr rfl) :
  PG (cxC X N aB cl C fp s H) (.Name x pos) (a05 i):=a9t (X:=cxC X N aB cl C fp s H) hN hi hx hf
def allP(P:α->Prop):List α->Prop
 |[]=>True
 |a::l=>P a/\allP P l
theorem allP.mem{P:α->Prop}:∀{l:List α},allP P l->∀a∈l,P a
 |b::l,h,a,m=>by
  rcases aL.mp m with rfl|m
  .exact h.1
  .exact h.2.mem a m
theorem a8s{X:Cx}(ts fr:List Str)(ix:List Nat)(clos:closureFor aB X.env=pure cl:=by rfl)(kind:aB.kind=.function:=by rfl)
  (nocell:(aB.names.all λp=>p.2 != .cell)=true:=by rfl) (names:(aB.names.all λp=>p.2 != .local || aB.names.lookup p.1 == some .local)=true:=by rfl) (sub:allP (λp=>X.env.cells.lookup p.1=some p.2) cl:=by repeat' constructor)
  (has:((relabel aB X.env).names.all λp => !(p.2 == .cell || p.2 == .free) || (cl.lookup p.1).isSome)=true:=by rfl) (nofn:(ts.all λy=>(relabel aB X.env).names.lookup y == some .local)=true:=by rfl)
  (len:ix.length=fr.length:=by rfl) (vis:((fr.zip ix).all λp=>X.N[p.2]? == some p.1 && (X.env.kindOf p.1 == some .cell || X.env.kindOf p.1 == some .free) && ((relabel aB X.env).names.lookup p.1 == some .cell || (relabel aB X.env).names.lookup p.1 == some .free))=true:=by rfl) :
  CSc X aB cl ts fr ix:=.of clos kind nocell names sub.mem has nofn len vis
theorem ap6{aB:Scope}(ts:List Str)(kind:aB.kind=.function:=by rfl)(h:∀y∈aB.names,y.2≠.cell/\y.2≠.free:=by decide +kernel)(names:∀y∈aB.names,y.2=.local->aB.names.lookup y.1=some .local:=by decide +kernel)
  (ht:∀y∈ts,aB.names.lookup y=some .local:=by decide +kernel):CSc X aB [] ts [] []:=.noFree kind h names ht
section
variable{α:Type}{us:List α}
theorem len0{P:List α->Prop}(h:us.length=0)(k:P []):P us:=by cases us with|nil=>exact k|cons _ _=>cases h
theorem ahy{P:List α->Prop}(h:us.length=n+1)(k:∀a vs,vs.length=n->P (a::vs)):P us:=by cases us with|nil=>cases h|cons a vs=>exact k a vs (j3 h)
theorem b46{P:List α->Prop}(h:us.length=1)(k:∀a,P [a]):P us:=ahy h λa _ h=>len0 (P:=λus=>P (a::us)) h (k a)
theorem b47{P:List α->Prop}(h:us.length=2)(k:∀a b,P [a,b]):P us:=ahy h λa _ h=>b46 (P:=λus=>P (a::us)) h (k a)
theorem b48{P:List α->Prop}(h:us.length=3)(k:∀a b c,P [a,b,c]):P us:=ahy h λa _ h=>b47 (P:=λus=>P (a::us)) h (k a)
theorem b49{P:List α->Prop}(h:us.length=4)(k:∀a b c d,P [a,b,c,d]):P us:=ahy h λa _ h=>b48 (P:=λus=>P (a::us)) h (k a)
theorem b4a{P:List α->Prop}(h:us.length=5)(k:∀a b c d e,P [a,b,c,d,e]):P us:=ahy h λa _ h=>b49 (P:=λus=>P (a::us)) h (k a)
theorem b5n{P:List α->Prop}(h:us.length=6)(k:∀a b c d e f,P [a,b,c,d,e,f]):P us:=ahy h λa _ h=>b4a (P:=λus=>P (a::us)) h (k a)
end
end MI
namespace K15
open L2 MI
noncomputable def cst(s:Stmt)(j:Nat):Stmt:=match s with
 |.ClassDef _ _ _ b _ _ _ _ _ _ _=>b.getD j (.Pass ⟨0,0,0,0⟩)
 |_=>s
noncomputable def top(i:Nat):Stmt:=PySem.Challenge.pw_nearreach_k15_ways_looked_at.main.body.getD i (.Pass ⟨0,0,0,0⟩)
structure Nm (mg:Str->Option Value):Prop where
 abs:mg "abs" = none
 any:mg "any" = none
 bool:mg "bool" = none
 int:mg "int" = none
 isinstance:mg "isinstance" = none
 len:mg "len" = none
 list:mg "list" = none
 max:mg "max" = none
 min:mg "min" = none
 range:mg "range" = none
 reversed:mg "reversed" = none
 set:mg "set" = none
 sorted:mg "sorted" = none
 str:mg "str" = none
 sum:mg "sum" = none
 tuple:mg "tuple" = none
 zip:mg "zip" = none
structure Cn (mg:Str->Option Value):Prop where
 HEAVIEST:∃t,mg "HEAVIEST" = some (.int 10 t)
structure Kn (P:Program) (w:World) (K:Fg) (mg:Str->Option Value):Prop where
 dg:PySem.W.nsIn K cStatics "sys.int_max_str_digits" = some none
section
variable{P:Program}{w:World}{K:Fg}{mg:Str->Option Value}{base:Heap}{f:Addr}
def MD(P:Program)(w:World)(K:Fg)(mg:Str->Option Value)(base:Heap)(f:Addr)(k:Nat)(N:List Str)(x:Str)(t:Stmt)(b:SS):Prop:=∀(cdv:Value) (A:Around) (outer:List Env) (s:Shared) (H:Hp) (E:XK),Room k (A.deeper (PyProof.Rows.envOfC x (dh t) s.heap.objs.size f cdv))->MSs (air CX0 P w K mg base N x (dh t) f cdv A outer s H E).nox X0 (xr t) b
local macro_rules|`(tactic|walk_at "sc") => `(tactic|exact⟨rfl,rfl,rfl,by decide +kernel,rfl,by decide +kernel,by decide +kernel⟩)
theorem b4b:FnScope ["thing"] ["thing"] (dh (top 1)):=by walk_at "sc"
theorem m_0(M:Nm mg):MD P w K mg base f k ["thing"] "is_number" (top 1) (a2e):=λcdv A outer s H E hr =>
 have SC:=b4b
 (bx (gk (ac4 (a4g (L2.CallR.or wu uw) a2a rfl M.isinstance qz (aa (bj 0) (aa (adx rfl M.int aj4) az))) (a93 (axe (a4g (L2.CallR.or wu uw) a2a rfl M.isinstance qz (aa (bj 0) (aa (adx rfl M.bool ae4) az))))))))
theorem b4c:FnScope ["thing","low","high"] ["thing","low","high"] (dh (top 2)):=by walk_at "sc"
theorem m_1(M:Nm mg):MD P w K mg base f k ["thing","low","high"] "is_row" (top 2) (a6y):=λcdv A outer s H E hr =>
 have SC:=b4c
 (bx (gk (ac4 (a4g (L2.CallR.or wu uw) a2a rfl M.isinstance qz (aa (bj 0) (aa (adx rfl M.tuple a06) az))) (a93 (ane (awu.or abw) (awu.or abw) aqb aqb (bj 1) (qt M.len (aa (bj 0) az)) (bj 2))))))
theorem b4d:FnScope ["numbers"] ["numbers"] (dh (top 3)):=by walk_at "sc"
theorem m_2(M:Nm mg):MD P w K mg base f k ["numbers"] "rising" (top 3) (K11.a6w):=λcdv A outer s H E hr =>
 have SC:=b4d
 (bx (gk (a0c (L2.CallR.or qx (ut rfl)) a0h rfl M.tuple a06 (aa (vh (au7 rfl M.sorted rfl M.set rfl (bj 0))) az))))
theorem b4e:FnScope ["shape"] ["shape"] (dh (top 9)):=by walk_at "sc"
theorem m_3:MD P w K mg base f k ["shape"] "inner" (top 9) (ENG.aas):=λcdv A outer s H E hr =>
 have SC:=b4e
 (aq (p7 (yt (a98 hr.u) a5r (a5o (bj 0) bf (λ_ _=>rfl)) ph (a67 _))
 (bx (gk (uo az)))
 iw)
 (aq (p7 (PW.pt (a8m (yt (a98 hr.u) a5r (a5o (bj 0) bf (λ_ _=>rfl)) ph (a67 _)) (a6a (yt (a98 hr.u) a5r (a5o (bj 0) bf (λ_ _=>rfl)) ph (a67 _)))))
 (bx (gk (a5o (bj 0) bf (λ_ _=>rfl))))
 iw)
 (bx (gk (uo (aa (a5o (bj 0) bf (λ_ _=>rfl)) az))))))
theorem b4f:FnScope ["shape","parts"] ["shape"] (dh (top 10)):=by walk_at "sc"
theorem m_4(M:Nm mg)(D_3:Dn P w K mg base k_3 "inner" ["shape"] (ug K 1 F_3) a_3 d_3)(h_3:k_3<=k)(D_4:Dn P w K mg base k_4 "weight" ["shape"] (ug K 1 F_4) a_4 d_4)(h_4:k_4<=k):MD P w K mg base f k ["shape","parts"] "weight" (top 10) (K11.a5e F_3 F_4):=λcdv A outer s H E hr =>
 have SC:=b4f
 (aq (p7 (qp hr.u (du (bj 0) bf) ph)
 (bx (gk bf))
 iw)
 (aq (j7 1 SC.nd (a4g (a5l rfl) ae3 rfl M.sum ajm (aa (vh (a7o rfl (ap6 ["part"]) (uf (j8 D_3 hr h_3 (aa (bj 0) az))) (pgn 0) a2t (λ_ _ _ _=>(j8 D_4 hr h_4 (aa (bj 0) az))))) az)))
 (aq (p7 (qp hr.u (du (bj 0) bf) ph)
 (bx (gk (a4j (du (bj 0) bf) (bj 1))))
 iw)
 (bx (gk (bj 1))))))
theorem b4g:FnScope ["self","signs","firsts","pairs","lasts","empty"] ["self","signs","firsts","pairs","lasts","empty"] (dh (cst (top 12) 0)):=by walk_at "sc"
theorem m_5{k:Nat}{C_Patch:Addr}(Q_Patch:CK K mg "Patch" C_Patch ["signs","firsts","pairs","lasts","empty"])(cdv:Value)(A:Around)(outer:List Env)(s:Shared)(H:Hp)(E:XK)(hr:Room k (A.deeper (PyProof.Rows.envOfC "Patch.__init__" (dh (cst (top 12) 0)) s.heap.objs.size f cdv))):MSs (air CX0 P w K mg base ["self","signs","firsts","pairs","lasts","empty"] "Patch.__init__" (dh (cst (top 12) 0)) f cdv A outer s H E).nox X0 (xr (cst (top 12) 0)) (K11.a1c) :=
 have SC:=b4g
 (aq (a9e Q_Patch (by decide +kernel) (bj 0) (bj 1))
 (aq (a9e Q_Patch (by decide +kernel) (bj 0) (bj 2))
 (aq (a9e Q_Patch (by decide +kernel) (bj 0) (bj 3))
 (aq (a9e Q_Patch (by decide +kernel) (bj 0) (bj 4))
 (bx (a9e Q_Patch (by decide +kernel) (bj 0) (bj 5)))))))
theorem b4h:FnScope ["shape"] ["shape"] (dh (top 13)):=by walk_at "sc"
theorem m_6(C:Cn mg)(D_8:Dn P w K mg base k_8 "patch_of" ["shape","at"] (ug K 2 F_8) a_8 d_8)(h_8:k_8<=k)(D_7:Dn P w K mg base k_7 "patch_rows" ["patch"] (ug K 1 F_7) a_7 d_7)(h_7:k_7<=k)(D_4:Dn P w K mg base k_4 "weight" ["shape"] (ug K 1 F_4) a_4 d_4)(h_4:k_4<=k):MD P w K mg base f k ["shape"] "spread" (top 13) (a6z F_8 F_7 F_4):=λcdv A outer s H E hr =>
 have SC:=b4h
 (aq (p7 (yh amy afe (j8 D_4 hr h_4 (aa (bj 0) az)) (asr rfl C.HEAVIEST.choose_spec))
 ajw
 iw)
 (bx (gk (j8 D_7 hr h_7 (aa (j8 D_8 hr h_8 (aa (bj 0) (aa bf az))) az)))))
theorem b4i:FnScope ["patch","nexts","place","lasts"] ["patch"] (dh (top 14)):=by walk_at "sc"
theorem m_7(M:Nm mg)(Q_Patch:CK K mg "Patch" C_Patch ["signs","firsts","pairs","lasts","empty"])(D_2:Dn P w K mg base k_2 "rising" ["numbers"] (ug K 1 F_2) a_2 d_2)(h_2:k_2<=k):MD P w K mg base f k ["patch","nexts","place","lasts"] "patch_rows" (top 14) (K11.a1d F_2):=λcdv A outer s H E hr =>
 have SC:=b4i
 (aq (j7 1 SC.nd (m5 (aa (j8 D_2 hr h_2 (aa (qd Q_Patch (bj 0)) az)) az)))
 (aq (a0e bT rfl (asv rfl M.range (aa bf (aa (gm (qt M.len (aa (qd Q_Patch (bj 0)) az)) bf) az))) (km (i:=2) SC.nd rfl (Or.inr rfl)) (bx (a0d (a7r bR cF a0b a4i (bj 1) (aa (j8 D_2 hr h_2 (aa (vh (aa7 rfl (a8s ["one","other"] ["place"] [2]) (uf (qd Q_Patch (bj 0))) (λ_ _ _ _=>apu rfl (a9u (pgm 0) (a9u (pgm 1) aib))) axj (λ_ _ _ _=>(bj 1)) (λ_ _ _ _=>(qp hr.u (bj 0) (bj 2))))) az)) az)))))
 (aq (j7 3 SC.nd (afb (a1n (qd Q_Patch (bj 0))) (vh (gm (qd Q_Patch (bj 0)) (vh (m5 (aa bf az))))) (qd Q_Patch (bj 0))))
 (bx (gk (uo (aa (a0c (L2.CallR.or qx (ut rfl)) a0h rfl M.tuple a06 (aa (vh (gm (vh (m5 (aa ph az))) (qd Q_Patch (bj 0)))) az)) (aa (a0c (L2.CallR.or qx (ut rfl)) a0h rfl M.tuple a06 (aa (bj 1) az)) (aa (j8 D_2 hr h_2 (aa (bj 3) az)) az)))))))))
theorem b4j:FnScope ["shape","at"] ["shape","at"] (dh (top 15)):=by walk_at "sc"
theorem m_8(Q_Patch:CK K mg "Patch" C_Patch ["signs","firsts","pairs","lasts","empty"])(D_5:Di P w K mg base k_5 "Patch" C_Patch ["signs","firsts","pairs","lasts","empty"] ["self","signs","firsts","pairs","lasts","empty"] 5 F_5 a_5 d_5)(h_5:k_5+1<=k)(D_13:Dn P w K mg base k_13 "patch_again" ["patch"] (ug K 1 F_13) a_13 d_13)(h_13:k_13<=k)(D_11:Dn P w K mg base k_11 "patch_in_turn" ["patches"] (ug K 1 F_11) a_11 d_11)(h_11:k_11<=k)(D_8:Dn P w K mg base k_8 "patch_of" ["shape","at"] (ug K 2 F_8) a_8 d_8)(h_8:k_8<=k)(D_12:Dn P w K mg base k_12 "patch_of_one" ["patches"] (ug K 1 F_12) a_12 d_12)(h_12:k_12<=k)(D_14:Dn P w K mg base k_14 "patch_of_times" ["copies","low"] (ug K 2 F_14) a_14 d_14)(h_14:k_14<=k)(D_9:Dn P w K mg base k_9 "patches_of" ["shapes","at"] (ug K 2 F_9) a_9 d_9)(h_9:k_9<=k):MD P w K mg base f k ["shape","at"] "patch_of" (top 15) (K11.uz F_5 F_13 F_11 F_8 F_12 F_14 F_9):=λcdv A outer s H E hr =>
 have SC:=b4j
 (aq (p7 (qp hr.u (du (bj 0) bf) ph)
 (bx (gk (vh (aei D_5 hr h_5 (aa (vh (m5 (aa (du (bj 0) bf) az))) (aa (vh (m5 (aa (bj 1) az))) (aa (vh (m5 az)) (aa (vh (m5 (aa (bj 1) az))) (aa a2s az)))))))))
 iw)
 (aq (p7 (qp hr.u (du (bj 0) bf) ph)
 (bx (gk (j8 D_11 hr h_11 (aa (j8 D_9 hr h_9 (aa (du (bj 0) bf) (aa (bj 1) az))) az))))
 iw)
 (aq (p7 (qp hr.u (du (bj 0) bf) ph)
 (bx (gk (j8 D_12 hr h_12 (aa (j8 D_9 hr h_9 (aa (du (bj 0) bf) (aa (bj 1) az))) az))))
 iw)
 (aq (p7 (qp hr.u (du (bj 0) bf) ph)
 (bx (gk (j8 D_13 hr h_13 (aa (j8 D_8 hr h_8 (aa (du (bj 0) bf) (aa (bj 1) az))) az))))
 iw)
 (bx (gk (j8 D_14 hr h_14 (aa (j8 D_9 hr h_9 (aa (vh (a4j (vh (m5 (aa (du (bj 0) bf) az))) (du (bj 0) bf))) (aa (bj 1) az))) (aa (du (bj 0) bf) az)))))))))
theorem b4k:FnScope ["shapes","at","patches","place","shape","patch"] ["shapes","at"] (dh (top 16)):=by walk_at "sc"
theorem m_9(M:Nm mg)(Q_Patch:CK K mg "Patch" C_Patch ["signs","firsts","pairs","lasts","empty"])(D_8:Dn P w K mg base k_8 "patch_of" ["shape","at"] (ug K 2 F_8) a_8 d_8)(h_8:k_8<=k):MD P w K mg base f k ["shapes","at","patches","place","shape","patch"] "patches_of" (top 16) (K11.zp F_8):=λcdv A outer s H E hr =>
 have SC:=b4k
 (aq (j7 2 SC.nd (m5 az))
 (aq (j7 3 SC.nd (bj 1))
 (aq (a0e bT rfl (uf (bj 0)) (km (i:=4) SC.nd rfl (Or.inl rfl)) (aq (j7 5 SC.nd (j8 D_8 hr h_8 (aa (bj 4) (aa (bj 3) az))))
 (aq (a0d (a7r bR cF a0b a4i (bj 2) (aa (bj 5) az)))
 (bx (afc (i:=3) SC.nd rfl (Or.inl rfl) (a78.or a09) a4w (qt M.len (aa (qd Q_Patch (bj 5)) az)))))))
 (bx (gk (bj 2))))))
theorem ayw:FnScope ["one","other","firsts","lasts","between"] ["one","other"] (dh (top 17)):=by walk_at "sc"
theorem b5o(Q_Patch:CK K mg "Patch" C_Patch ["signs","firsts","pairs","lasts","empty"])(D_5:Di P w K mg base k_5 "Patch" C_Patch ["signs","firsts","pairs","lasts","empty"] ["self","signs","firsts","pairs","lasts","empty"] 5 F_5 a_5 d_5)(h_5:k_5+1<=k):MD P w K mg base f k ["one","other","firsts","lasts","between"] "joined" (top 17) (K11.a6x F_5):=λcdv A outer s H E hr =>
 have SC:=ayw
 (aq (j7 2 SC.nd (afb (a1n (qd Q_Patch (bj 0))) (vh (gm (qd Q_Patch (bj 0)) (qd Q_Patch (bj 1)))) (qd Q_Patch (bj 0))))
 (aq (j7 3 SC.nd (afb (a1n (qd Q_Patch (bj 1))) (vh (gm (qd Q_Patch (bj 0)) (qd Q_Patch (bj 1)))) (qd Q_Patch (bj 1))))
 (aq (acy (i:=4) SC.nd rfl (Or.inl rfl) (.inl rfl) rfl (a8s ["last","first"] ["other"] [1]) (uf (qd Q_Patch (bj 0))) (pgn 0) (λ_ _ _ _=>(uf (qd Q_Patch (bj 2)))) (pgn 1) (λ_ _ _ _=>al5) (λ_ _ _ _=>(uo (aa (bj 0) (aa (bj 1) az)))))
 (bx (gk (vh (aei D_5 hr h_5 (aa (vh (gm (qd Q_Patch (bj 0)) (qd Q_Patch (bj 1)))) (aa (bj 2) (aa (vh (gm (vh (gm (qd Q_Patch (bj 0)) (bj 4))) (qd Q_Patch (bj 1)))) (aa (bj 3) (aa (ac4 (qd Q_Patch (bj 0)) (a93 (qd Q_Patch (bj 1)))) az))))))))))))
theorem ayx:FnScope ["patches","whole","patch"] ["patches"] (dh (top 18)):=by walk_at "sc"
theorem b5p(Q_Patch:CK K mg "Patch" C_Patch ["signs","firsts","pairs","lasts","empty"])(D_5:Di P w K mg base k_5 "Patch" C_Patch ["signs","firsts","pairs","lasts","empty"] ["self","signs","firsts","pairs","lasts","empty"] 5 F_5 a_5 d_5)(h_5:k_5+1<=k)(D_10:Dn P w K mg base k_10 "joined" ["one","other"] (ug K 2 F_10) a_10 d_10)(h_10:k_10<=k):MD P w K mg base f k ["patches","whole","patch"] "patch_in_turn" (top 18) (K11.yg F_5 F_10):=λcdv A outer s H E hr =>
 have SC:=ayx
 (aq (j7 1 SC.nd (vh (aei D_5 hr h_5 (aa (vh (m5 az)) (aa (vh (m5 az)) (aa (vh (m5 az)) (aa (vh (m5 az)) (aa a2s az))))))))
 (aq (a0e bT rfl (uf (bj 0)) (km (i:=2) SC.nd rfl (Or.inl rfl)) (bx (j7 1 SC.nd (j8 D_10 hr h_10 (aa (bj 1) (aa (bj 2) az))))))
 (bx (gk (bj 1)))))
theorem ayy:FnScope ["patches","whole","patch"] ["patches"] (dh (top 19)):=by walk_at "sc"
theorem b5q(Q_Patch:CK K mg "Patch" C_Patch ["signs","firsts","pairs","lasts","empty"])(D_5:Di P w K mg base k_5 "Patch" C_Patch ["signs","firsts","pairs","lasts","empty"] ["self","signs","firsts","pairs","lasts","empty"] 5 F_5 a_5 d_5)(h_5:k_5+1<=k):MD P w K mg base f k ["patches","whole","patch"] "patch_of_one" (top 19) (K11.yz F_5):=λcdv A outer s H E hr =>
 have SC:=ayy
 (aq (j7 1 SC.nd (aei D_5 hr h_5 (aa (m5 az) (aa (m5 az) (aa (m5 az) (aa (m5 az) (aa a2s az)))))))
 (aq (a0e bT rfl (uf (bj 0)) (km (i:=2) SC.nd rfl (Or.inl rfl)) (aq (a0d (a7r eR eS (MtR.or a3n a3j) a6u (qd Q_Patch (bj 1)) (aa (qd Q_Patch (bj 2)) az)))
 (aq (a0d (a7r eR eS (MtR.or a3n a3j) a6u (qd Q_Patch (bj 1)) (aa (qd Q_Patch (bj 2)) az)))
 (aq (a0d (a7r eR eS (MtR.or a3n a3j) a6u (qd Q_Patch (bj 1)) (aa (qd Q_Patch (bj 2)) az)))
 (aq (a0d (a7r eR eS (MtR.or a3n a3j) a6u (qd Q_Patch (bj 1)) (aa (qd Q_Patch (bj 2)) az)))
 (bx (a9e Q_Patch (by decide +kernel) (bj 1) (b2p (qd Q_Patch (bj 1)) (a93 (qd Q_Patch (bj 2)))))))))))
 (bx (gk (bj 1)))))
theorem ayz:FnScope ["patch","between"] ["patch"] (dh (top 20)):=by walk_at "sc"
theorem b5r(Q_Patch:CK K mg "Patch" C_Patch ["signs","firsts","pairs","lasts","empty"])(D_5:Di P w K mg base k_5 "Patch" C_Patch ["signs","firsts","pairs","lasts","empty"] ["self","signs","firsts","pairs","lasts","empty"] 5 F_5 a_5 d_5)(h_5:k_5+1<=k):MD P w K mg base f k ["patch","between"] "patch_again" (top 20) (K11.a08 F_5):=λcdv A outer s H E hr =>
 have SC:=ayz
 (aq (acy (i:=1) SC.nd rfl (Or.inl rfl) (.inl rfl) rfl (a8s ["last","first"] ["patch"] [0]) (uf (qd Q_Patch (bj 0))) (pgn 0) (λ_ _ _ _=>(uf (qd Q_Patch (bj 2)))) (pgn 1) (λ_ _ _ _=>al5) (λ_ _ _ _=>(uo (aa (bj 0) (aa (bj 1) az)))))
 (bx (gk (vh (aei D_5 hr h_5 (aa (qd Q_Patch (bj 0)) (aa (qd Q_Patch (bj 0)) (aa (vh (gm (qd Q_Patch (bj 0)) (bj 1))) (aa (qd Q_Patch (bj 0)) (aa a2s az))))))))))
theorem az0:FnScope ["copies","low","whole","number"] ["copies","low"] (dh (top 21)):=by walk_at "sc"
theorem b5s(M:Nm mg)(Q_Patch:CK K mg "Patch" C_Patch ["signs","firsts","pairs","lasts","empty"])(D_5:Di P w K mg base k_5 "Patch" C_Patch ["signs","firsts","pairs","lasts","empty"] ["self","signs","firsts","pairs","lasts","empty"] 5 F_5 a_5 d_5)(h_5:k_5+1<=k)(D_10:Dn P w K mg base k_10 "joined" ["one","other"] (ug K 2 F_10) a_10 d_10)(h_10:k_10<=k):MD P w K mg base f k ["copies","low","whole","number"] "patch_of_times" (top 21) (K11.wj F_5 F_10):=λcdv A outer s H E hr =>
 have SC:=az0
 (aq (j7 2 SC.nd (vh (aei D_5 hr h_5 (aa (vh (m5 az)) (aa (vh (m5 az)) (aa (vh (m5 az)) (aa (vh (m5 az)) (aa a2s az))))))))
 (aq (a0e bT rfl (ayj rfl M.reversed rfl M.range (aa (qt M.len (aa (bj 0) az)) az)) (km (i:=3) SC.nd rfl (Or.inl rfl)) (aq (j7 2 SC.nd (j8 D_10 hr h_10 (aa (du (bj 0) (bj 3)) (aa (bj 2) az))))
 (bx (p7 (yh awv aqc (bj 3) (bj 1))
 (bx (j7 2 SC.nd (vh (aei D_5 hr h_5 (aa (qd Q_Patch (bj 2)) (aa (qd Q_Patch (bj 2)) (aa (qd Q_Patch (bj 2)) (aa (qd Q_Patch (bj 2)) (aa a2s az)))))))))
 iw))))
 (bx (gk (bj 2)))))
theorem az1:FnScope ["spread","crowd","sign","signs","nexts","lasts"] ["spread","crowd","sign"] (dh (top 22)):=by walk_at "sc"
theorem b5t(D_2:Dn P w K mg base k_2 "rising" ["numbers"] (ug K 1 F_2) a_2 d_2)(h_2:k_2<=k):MD P w K mg base f k ["spread","crowd","sign","signs","nexts","lasts"] "behind" (top 22) (a70 F_2):=λcdv A outer s H E hr =>
 have SC:=az1
 (aq (aj9 (bj 0) (ac6 rfl (uy (km (i:=3) SC.nd rfl (Or.inr rfl)) (uy (km (i:=4) SC.nd rfl (Or.inr rfl)) (uy (km (i:=5) SC.nd rfl (Or.inl rfl)) a7n)))))
 (bx (gk (j8 D_2 hr h_2 (aa (vh (ap0 rfl (a8s ["number","place"] ["sign","signs","nexts"] [2,3,4]) (uf (bj 1)) (pgn 0) (λ_ _ _ _=>(uf (du (bj 4) (bj 0)))) (pgn 1) (λ_ _ _ _=>(yt (a4e.or a0a) a4h (bj 2) (du (bj 3) (bj 1)) (by with_unfolding_all rfl))) (λ_ _ _ _=>(bj 1)))) az)))))
theorem az2:FnScope ["spread","word","crowds","sign"] ["spread","word"] (dh (top 23)):=by walk_at "sc"
theorem b5u(M:Nm mg)(D_15:Dn P w K mg base k_15 "behind" ["spread","crowd","sign"] (ug K 3 F_15) a_15 d_15)(h_15:k_15<=k):MD P w K mg base f k ["spread","word","crowds","sign"] "stands" (top 23) (a71 F_15):=λcdv A outer s H E hr =>
 have SC:=az2
 (aq (j7 2 SC.nd (m5 (aa (uo (aa bf az)) az)))
 (aq (a0e bT rfl (uf (bj 1)) (km (i:=3) SC.nd rfl (Or.inl rfl)) (bx (a0d (a7r bR cF a0b a4i (bj 2) (aa (j8 D_15 hr h_15 (aa (bj 0) (aa (du (bj 2) (a6c bf)) (aa (bj 3) az)))) az)))))
 (bx (gk (a0c (L2.CallR.or qx (ut rfl)) a0h rfl M.tuple a06 (aa (bj 2) az))))))
theorem az3:FnScope ["spread","word","layers","nexts","places","layer","following"] ["spread","word"] (dh (top 25)):=by walk_at "sc"
theorem b5v(M:Nm mg)(D_18:Dn P w K mg base k_18 "fitting_layers" ["spread","word"] (ug K 2 F_18) a_18 d_18)(h_18:k_18<=k):MD P w K mg base f k ["spread","word","layers","nexts","places","layer","following"] "way" (top 25) (ahx F_18):=λcdv A outer s H E hr =>
 have SC:=az3
 (aq (j7 2 SC.nd (j8 D_18 hr h_18 (aa (bj 0) (aa (bj 1) az))))
 (aq (p7 (a4s (a1n (du (bj 2) bf)))
 (bx (gk ac1))
 iw)
 (aq (j7 3 SC.nd (du (bj 0) bf))
 (aq (j7 4 SC.nd (m5 (aa bf az)))
 (aq (a0e bT rfl (uf (vh (ji (bj 2) (nq bf) nj))) (km (i:=5) SC.nd rfl (Or.inl rfl)) (aq (ao2 (i:=6) SC.nd rfl (Or.inl rfl) rfl (a8s ["place"] ["nexts","places"] [3,4]) (uf (bj 5)) (pgn 0) a2t (λ_ _ _ _=>(bj 0)) (λ_ _ _ _=>(yt (a4e.or a0a) a4h (bj 0) (du (bj 1) (du (bj 2) (a6c bf))) (by with_unfolding_all rfl))))
 (bx (a0d (a7r bR cF a0b a4i (bj 4) (aa (du (bj 6) bf) az))))))
 (bx (gk (a0c (L2.CallR.or qx (ut rfl)) a0h rfl M.tuple a06 (aa (vh (ji (bj 4) (nq bf) nj)) az)))))))))
theorem az4:FnScope ["spread","word","signs","nexts","lasts","crowds","layers","crowd","later"] ["spread","word"] (dh (top 26)):=by walk_at "sc"
theorem b5w(M:Nm mg)(D_16:Dn P w K mg base k_16 "stands" ["spread","word"] (ug K 2 F_16) a_16 d_16)(h_16:k_16<=k):MD P w K mg base f k ["spread","word","signs","nexts","lasts","crowds","layers","crowd","later"] "fitting_layers" (top 26) (wk F_16):=λcdv A outer s H E hr =>
 have SC:=az4
 (aq (aj9 (bj 0) (ac6 rfl (uy (km (i:=2) SC.nd rfl (Or.inl rfl)) (uy (km (i:=3) SC.nd rfl (Or.inr rfl)) (uy (km (i:=4) SC.nd rfl (Or.inr rfl)) a7n)))))
 (aq (j7 5 SC.nd (j8 D_16 hr h_16 (aa (bj 0) (aa (bj 1) az))))
 (aq (j7 6 SC.nd (m5 (aa (vh (aa7 rfl (a8s ["place"] ["lasts"] [4]) (uf (du (bj 5) (a6c bf))) (pgn 0) a2t (λ_ _ _ _=>(bj 0)) (λ_ _ _ _=>(yt (a4e.or a0a) a4h (bj 0) (bj 1) (by with_unfolding_all rfl))))) az)))
 (aq (a0e bT rfl (uf (ap4 (bj 5) (a6c bf) (a6c bf))) (km (i:=7) SC.nd rfl (Or.inl rfl)) (aq (j7 8 SC.nd (du (bj 6) (a6c bf)))
 (bx (a0d (a7r bR cF a0b a4i (bj 6) (aa (vh (al0 rfl (CSd.of (t := "place") (ts:=["place"]) (fr:=["nexts","later"]) (ix:=[3,8]) rfl rfl (λ_=>rfl) (λ_=>rfl) rfl (by intro p hp;simp only[aL,bg,cW]at hp;rcases hp with rfl|rfl<;>rfl) rfl rfl rfl) (uf (bj 7)) (λ_ _ _ _=>(a9t (i:=0) (show(["place","nexts","later"]:List Str).Nodup by decide +kernel) rfl (Or.inr rfl) (.inl (eX _)))) a2t (λ_ _ _ _=>(bj 0)) (λ_ _ _ _=>(a1n (a4g (ae5 rfl) atk rfl M.any ay9 (aa (vh (a7o rfl (a8s ["other"] ["place","nexts"] [0,1]) (uf (bj 2)) (pgn 0) a2t (λ_ _ _ _=>(a5m (a4e.or a0a) a4h (bj 0) (du (bj 2) (bj 1)) (by with_unfolding_all rfl))))) az)))))) az))))))
 (bx (gk (ag2 (bj 6) nj (a6c bf))))))))
theorem az5:FnScope ["spread","word","places","signs","nexts","lasts","last","sign","place"] ["spread","word","places"] (dh (top 27)):=by walk_at "sc"
theorem b5x(M:Nm mg)(D_0:Dn P w K mg base k_0 "is_number" ["thing"] (ug K 1 F_0) a_0 d_0)(h_0:k_0<=k)(D_1:Dn P w K mg base k_1 "is_row" ["thing","low","high"] (ug K 3 F_1) a_1 d_1)(h_1:k_1<=k):MD P w K mg base f k ["spread","word","places","signs","nexts","lasts","last","sign","place"] "way_holds" (top 27) (a2f F_0 F_1):=λcdv A outer s H E hr =>
 have SC:=az5
 (aq (aj9 (bj 0) (ac6 rfl (uy (km (i:=3) SC.nd rfl (Or.inl rfl)) (uy (km (i:=4) SC.nd rfl (Or.inl rfl)) (uy (km (i:=5) SC.nd rfl (Or.inl rfl)) a7n)))))
 (aq (p7 (a4s (a1n (j8 D_1 hr h_1 (aa (bj 2) (aa (qt M.len (aa (bj 1) az)) (aa (qt M.len (aa (bj 1) az)) az))))))
 (bx (gk a2s))
 iw)
 (aq (j7 6 SC.nd bf)
 (aq (a0e bT rfl (aqk rfl M.zip aql (bj 1) (bj 2)) (ac6 rfl (uy (km (i:=7) SC.nd rfl (Or.inl rfl)) (uy (km (i:=8) SC.nd rfl (Or.inl rfl)) a7n))) (aq (p7 (PW.pt (a8m (a4s (a1n (j8 D_0 hr h_0 (aa (bj 8) az)))) (a8m (yt (a3i.or a0y) aa8 (bj 8) (du (bj 4) (bj 6)) (by with_unfolding_all rfl)) (a6a (yt (a3i.or a0y) aa8 (bj 7) (du (bj 3) (bj 8)) (by with_unfolding_all rfl))))))
 (bx (gk a2s))
 iw)
 (bx (j7 6 SC.nd (bj 8)))))
 (bx (gk (a5m (a4e.or a0a) a4h (bj 6) (bj 5) (by with_unfolding_all rfl))))))))
theorem az6:FnScope ["_law_script","_law_cells"] ["_law_script"] (dh (top 29)):=by walk_at "sc"
theorem b5y(M:Nm mg):MD P w K mg base f k ["_law_script","_law_cells"] "_law_source" (top 29) (SRC.a1a):=λcdv A outer s H E hr =>
 have SC:=az6
 (aq (afo (i:=1) SC.nd rfl (Or.inl rfl) rfl (ap6 ["_law_cell"]) (uf (vh (ji (bj 0) nj (nq bf)))) (pgn 0) a2t (λ_ _ _ _=>(gm (a4j bf (a4g an2 at6 rfl M.abs axd (aa (bj 0) az))) (a0c ain at8 rfl M.int aj4 (aa (a5m (a8k.or vq) a3x (bj 0) bf (a67 _)) az)))))
 (bx (gk (m5 (aa (bj 1) (aa bf (aa bf (aa bf (aa (a96 (a4g (a5l rfl) ae3 rfl M.sum ajm (aa (bj 1) az)) bf) az)))))))))
theorem az7:FnScope ["_law_left","_law_many","_law_cell","_law_told"] ["_law_left","_law_many"] (dh (top 30)):=by walk_at "sc"
theorem b5z(M:Nm mg):MD P w K mg base f k ["_law_left","_law_many","_law_cell","_law_told"] "_law_draw" (top 30) (SRC.a3o):=λcdv A outer s H E hr =>
 have SC:=az7
 (aq (aah (bj 0) bf bf (a78.or a09) a4w)
 (aq (p7 (PW.pt (afa (qp hr.u (du (bj 0) bf) bf) (aa3 (yh (a8k.or vq) a3x (du (bj 0) bf) (qt M.len (aa (du (bj 0) bf) az))))))
 (aq (j7 2 SC.nd (du (du (bj 0) bf) (du (bj 0) bf)))
 (aq (aah (bj 0) bf bf (a78.or a09) a4w)
 (bx (p7 (yh awv aqc (bj 2) (ajf bf bf))
 (bx (aq5 (bj 2) (bj 0) bf))
 (bx (aq5 (a96 (gm (a4j (du (bj 0) bf) bf) (bj 2)) bf) (bj 0) bf))))))
 iw)
 (aq (p7 (yh amy afe (du (bj 0) bf) bf)
 (aq (j7 3 SC.nd (a96 (du (bj 0) bf) (bj 1)))
 (aq (aah (bj 0) bf (bj 1) amx ajc)
 (bx (gk (bj 3)))))
 iw)
 (aq (j7 3 SC.nd (a96 (ajf (gm (gm (du (bj 0) bf) bf) (a4j (du (bj 0) bf) bf)) bf) bf))
 (bx (gk (a96 (aje (a96 (ajf (gm (a4j (bj 3) bf) (du (bj 0) bf)) bf) bf) bf) (bj 1))))))))
theorem az8:FnScope ["_law_some"] [] (dh (top 31)):=by walk_at "sc"
theorem b60:MD P w K mg base f k ["_law_some"] "_law_signs" (top 31) (SRC.a0k):=λcdv A outer s H E hr =>
 have SC:=az8
 (aq (j7 0 SC.nd ph)
 (bx (gk (gm (bj 0) ph))))
theorem az9:FnScope ["_law_left","_law_rest","_law_told","_law_k","_law_at"] ["_law_left"] (dh (top 32)):=by walk_at "sc"
theorem b61(M:Nm mg)(D_21:Dn P w K mg base k_21 "_law_draw" ["_law_left","_law_many"] (ug K 2 F_21) a_21 d_21)(h_21:k_21<=k)(D_22:Dn P w K mg base k_22 "_law_signs" [] (ug K 0 F_22) a_22 d_22)(h_22:k_22<=k):MD P w K mg base f k ["_law_left","_law_rest","_law_told","_law_k","_law_at"] "_law_tongue" (top 32) (SRC.a1b F_21 F_22):=λcdv A outer s H E hr =>
 have SC:=az9
 (aq (j7 1 SC.nd (ajv false D_22 (hr.mono h_22) rfl))
 (aq (j7 2 SC.nd ph)
 (aq (a0e bT rfl (aa4 rfl M.range (aa (gm bf (j8 D_21 hr h_21 (aa (bj 0) (aa bf az)))) az)) (km (i:=3) SC.nd rfl (Or.inl rfl)) (aq (j7 4 SC.nd (j8 D_21 hr h_21 (aa (bj 0) (aa (qt M.len (aa (bj 1) az)) az))))
 (aq (afc (i:=2) SC.nd rfl (Or.inl rfl) (a78.or a09) a4w (du (bj 1) (bj 4)))
 (bx (j7 1 SC.nd (gm (ji (bj 1) nj (nq (bj 4))) (ji (bj 1) (nq (gm (bj 4) bf)) nj)))))))
 (bx (gk (bj 2))))))
theorem aza:FnScope ["_law_left","_law_tongue_here","_law_rest","_law_told","_law_many","_law_k","_law_at"] ["_law_left","_law_tongue_here"] (dh (top 33)):=by walk_at "sc"
theorem b62(M:Nm mg)(D_21:Dn P w K mg base k_21 "_law_draw" ["_law_left","_law_many"] (ug K 2 F_21) a_21 d_21)(h_21:k_21<=k):MD P w K mg base f k ["_law_left","_law_tongue_here","_law_rest","_law_told","_law_many","_law_k","_law_at"] "_law_ones" (top 33) (DRW.a3p F_21):=λcdv A outer s H E hr =>
 have SC:=aza
 (aq (j7 2 SC.nd (bj 1))
 (aq (j7 3 SC.nd ph)
 (aq (j7 4 SC.nd bf)
 (aq (p7 (qp hr.u (j8 D_21 hr h_21 (aa (bj 0) (aa bf az))) bf)
 (bx (j7 4 SC.nd (gm bf (j8 D_21 hr h_21 (aa (bj 0) (aa (qt M.len (aa (bj 1) az)) az))))))
 iw)
 (aq (a0e bT rfl (aa4 rfl M.range (aa (bj 4) az)) (km (i:=5) SC.nd rfl (Or.inl rfl)) (aq (j7 6 SC.nd (j8 D_21 hr h_21 (aa (bj 0) (aa (qt M.len (aa (bj 2) az)) az))))
 (aq (afc (i:=3) SC.nd rfl (Or.inl rfl) (a78.or a09) a4w (du (bj 2) (bj 6)))
 (bx (j7 2 SC.nd (gm (ji (bj 2) nj (nq (bj 6))) (ji (bj 2) (nq (gm (bj 6) bf)) nj)))))))
 (bx (gk (bj 3))))))))
theorem azb:FnScope ["_law_shape_here"] ["_law_shape_here"] (dh (top 34)):=by walk_at "sc"
theorem b63(M:Nm mg)(D_25:Dn P w K mg base k_25 "_law_weight" ["_law_shape_here"] (ug K 1 F_25) a_25 aw0)(h_25:k_25<=k):MD P w K mg base f k ["_law_shape_here"] "_law_weight" (top 34) (DRW.zm F_25):=λcdv A outer s H E hr =>
 have SC:=azb
 (aq (p7 (qp hr.u (du (bj 0) bf) ph)
 (bx (gk bf))
 iw)
 (aq (p7 (yt (a4e.or a0a) a4h (du (bj 0) bf) (uo (aa ph (aa ph az))) (by with_unfolding_all rfl))
 (bx (gk (a4g (a5l rfl) ae3 rfl M.sum ajm (aa (vh (a7o rfl (ap6 ["_law_part"]) (uf (du (bj 0) bf)) (pgn 0) a2t (λ_ _ _ _=>(j8 D_25 hr h_25 (aa (bj 0) az))))) az))))
 iw)
 (aq (p7 (qp hr.u (du (bj 0) bf) ph)
 (bx (gk (j8 D_25 hr h_25 (aa (du (bj 0) bf) az))))
 iw)
 (bx (gk (a4j (du (bj 0) bf) (j8 D_25 hr h_25 (aa (du (bj 0) bf) az))))))))
theorem azc:FnScope ["_law_left","_law_tongue_here","_law_deep","_law_purse","_law_room","_law_sort","_law_high","_law_low","_law_parts","_law_k","_law_part"] ["_law_left","_law_tongue_here","_law_deep","_law_purse","_law_room"] (dh (top 35)):=by walk_at "sc"
theorem b64(M:Nm mg)(D_21:Dn P w K mg base k_21 "_law_draw" ["_law_left","_law_many"] (ug K 2 F_21) a_21 d_21)(h_21:k_21<=k)(D_24:Dn P w K mg base k_24 "_law_ones" ["_law_left","_law_tongue_here"] (ug K 2 F_24) a_24 d_24)(h_24:k_24<=k)(D_26:Dn P w K mg base k_26 "_law_shape" ["_law_left","_law_tongue_here","_law_deep","_law_purse","_law_room"] (ug K 5 F_26) a_26 b3n)(h_26:k_26<=k)(D_25:Dn P w K mg base k_25 "_law_weight" ["_law_shape_here"] (ug K 1 F_25) a_25 aw0)(h_25:k_25<=k):MD P w K mg base f k ["_law_left","_law_tongue_here","_law_deep","_law_purse","_law_room","_law_sort","_law_high","_law_low","_law_parts","_law_k","_law_part"] "_law_shape" (top 35) (DRW.a0m F_21 F_24 F_26 F_25):=λcdv A outer s H E hr =>
 have SC:=azc
 (aq (aah (bj 4) bf bf aih ae0)
 (aq (j7 5 SC.nd (j8 D_21 hr h_21 (aa (bj 0) (aa bf az))))
 (aq (p7 (PW.pt (a8m (qp hr.u (bj 2) bf) (a8m (yh (a8k.or vq) a3x (du (bj 4) bf) bf) (a6a (qp hr.u (bj 5) bf)))))
 (aq (p7 (PW.pt (a8m (qp hr.u (bj 3) bf) (a6a (qp hr.u (j8 D_21 hr h_21 (aa (bj 0) (aa bf az))) bf))))
 (bx (gk (uo (aa ph (aa (uo az) az)))))
 iw)
 (bx (gk (uo (aa ph (aa (j8 D_24 hr h_24 (aa (bj 0) (aa (bj 1) az))) az))))))
 iw)
 (aq (p7 (yh (a8k.or vq) a3x (bj 5) bf)
 (bx (gk (uo (aa ph (aa (j8 D_26 hr h_26 (aa (bj 0) (aa (bj 1) (aa (a7q (bj 2) bf) (aa (bj 3) (aa (bj 4) az)))))) az)))))
 iw)
 (aq (p7 (yh (a8k.or vq) a3x (bj 5) bf)
 (aq (j7 6 SC.nd (j8 D_21 hr h_21 (aa (bj 0) (aa bf az))))
 (aq (j7 7 SC.nd (j8 D_21 hr h_21 (aa (bj 0) (aa (gm (bj 6) bf) az))))
 (bx (gk (uo (aa ph (aa (j8 D_26 hr h_26 (aa (bj 0) (aa (bj 1) (aa (a7q (bj 2) bf) (aa (aje (bj 3) (a4g (ail rfl) anm rfl M.max axv (aa bf (aa (bj 6) az)))) (aa (bj 4) az)))))) (aa (bj 7) (aa (bj 6) az)))))))))
 iw)
 (aq (j7 8 SC.nd (m5 az))
 (aq (a0e bT rfl (aa4 rfl M.range (aa (du (uo (aa bf (aa bf (aa bf (aa bf (aa bf (aa bf (aa bf (aa bf az))))))))) (j8 D_21 hr h_21 (aa (bj 0) (aa bf az)))) az)) (km (i:=9) SC.nd rfl (Or.inl rfl)) (bx (p7 (yh amy afe (du (bj 4) bf) bf)
 (aq (j7 10 SC.nd (j8 D_26 hr h_26 (aa (bj 0) (aa (bj 1) (aa (a7q (bj 2) bf) (aa (bj 3) (aa (bj 4) az)))))))
 (aq (afc (i:=3) SC.nd rfl (Or.inl rfl) aih ae0 (j8 D_25 hr h_25 (aa (bj 10) az)))
 (bx (a0d (a7r bR cF a0b a4i (bj 8) (aa (bj 10) az))))))
 iw)))
 (bx (gk (uo (aa (du (uo (aa ph (aa ph az))) (aje (bj 5) bf)) (aa (a0c (L2.CallR.or qx (ut rfl)) a0h rfl M.tuple a06 (aa (bj 8) az)) az))))))))))))
theorem azd:FnScope ["_law_left","_law_shape_here","_law_parts"] ["_law_left","_law_shape_here"] (dh (top 36)):=by walk_at "sc"
theorem b65(M:Nm mg)(D_21:Dn P w K mg base k_21 "_law_draw" ["_law_left","_law_many"] (ug K 2 F_21) a_21 d_21)(h_21:k_21<=k)(D_27:Dn P w K mg base k_27 "_law_word" ["_law_left","_law_shape_here"] (ug K 2 F_27) a_27 b3o)(h_27:k_27<=k):MD P w K mg base f k ["_law_left","_law_shape_here","_law_parts"] "_law_word" (top 36) (DRW.xn F_21 F_27):=λcdv A outer s H E hr =>
 have SC:=azd
 (aq (p7 (qp hr.u (du (bj 1) bf) ph)
 (bx (gk (du (du (bj 1) bf) (j8 D_21 hr h_21 (aa (bj 0) (aa (qt M.len (aa (du (bj 1) bf) az)) az))))))
 iw)
 (aq (j7 2 SC.nd (du (bj 1) bf))
 (aq (p7 (qp hr.u (du (bj 1) bf) ph)
 (bx (j7 2 SC.nd (akx (uo (aa (du (bj 1) bf) az)) (j8 D_21 hr h_21 (aa (bj 0) (aa bf az))))))
 iw)
 (aq (p7 (qp hr.u (du (bj 1) bf) ph)
 (bx (j7 2 SC.nd (akx (uo (aa (du (bj 1) bf) az)) (gm (du (bj 1) bf) (j8 D_21 hr h_21 (aa (bj 0) (aa (gm (a7q (du (bj 1) bf) (du (bj 1) bf)) bf) az)))))))
 iw)
 (aq (p7 (qp hr.u (du (bj 1) bf) ph)
 (bx (j7 2 SC.nd (uo (aa (du (du (bj 1) bf) (j8 D_21 hr h_21 (aa (bj 0) (aa (qt M.len (aa (du (bj 1) bf) az)) az)))) az))))
 iw)
 (bx (gk (axt PySem.F.slot_str_join PySem.F.type_str_join aj5 afi ph (aa (vh (a7o rfl (a8s ["_law_part"] ["_law_left"] [0]) (uf (bj 2)) (pgn 0) a2t (λ_ _ _ _=>(j8 D_27 hr h_27 (aa (bj 1) (aa (bj 0) az)))))) az)))))))))
theorem aze:FnScope ["_law_left","_law_word_here","_law_tongue_here","_law_at","_law_sign","_law_sort"] ["_law_left","_law_word_here","_law_tongue_here"] (dh (top 37)):=by walk_at "sc"
theorem b66(M:Nm mg)(D_21:Dn P w K mg base k_21 "_law_draw" ["_law_left","_law_many"] (ug K 2 F_21) a_21 d_21)(h_21:k_21<=k):MD P w K mg base f k ["_law_left","_law_word_here","_law_tongue_here","_law_at","_law_sign","_law_sort"] "_law_word_bent" (top 37) (DRW.ye F_21):=λcdv A outer s H E hr =>
 have SC:=aze
 (aq (j7 3 SC.nd (j8 D_21 hr h_21 (aa (bj 0) (aa (gm (qt M.len (aa (bj 1) az)) bf) az))))
 (aq (j7 4 SC.nd (du (bj 2) (j8 D_21 hr h_21 (aa (bj 0) (aa (qt M.len (aa (bj 2) az)) az)))))
 (aq (j7 5 SC.nd (j8 D_21 hr h_21 (aa (bj 0) (aa bf az))))
 (aq (p7 (qp hr.u (bj 5) bf)
 (bx (gk (bj 1)))
 iw)
 (aq (p7 (qp hr.u (bj 5) bf)
 (bx (gk (gm (ji (bj 1) nj (nq (bj 3))) (ji (bj 1) (nq (gm (bj 3) bf)) nj))))
 iw)
 (bx (gk (gm (gm (ji (bj 1) nj (nq (bj 3))) (bj 4)) (ji (bj 1) (nq (a7q (gm (bj 3) (bj 5)) bf)) nj)))))))))
theorem azf:FnScope ["_law_found","_law_one"] ["_law_found"] (dh (top 38)):=by walk_at "sc"
theorem b67(M:Nm mg):MD P w K mg base f k ["_law_found","_law_one"] "_law_row" (top 38) (a5f):=λcdv A outer s H E hr =>
 have SC:=azf
 (aq (p7 (a4s (a1n (a4g (L2.CallR.or wu uw) a2a rfl M.isinstance qz (aa (bj 0) (aa (adx rfl M.tuple a06) az)))))
 (bx (gk a2s))
 iw)
 (aq (a0e bT rfl (uf (bj 0)) (km (i:=1) SC.nd rfl (Or.inl rfl)) (bx (p7 (PW.pt (a8m (a4s (a1n (a4g (L2.CallR.or wu uw) a2a rfl M.isinstance qz (aa (bj 1) (aa (adx rfl M.int aj4) az))))) (a6a (a1n (a4g (L2.CallR.or wu uw) a2a rfl M.isinstance qz (aa (bj 1) (aa (adx rfl M.bool ae4) az)))))))
 (bx (gk a2s))
 iw)))
 (bx (gk a2s))))
theorem azg:FnScope ["_law_told","_law_word_here","_law_places","_law_here","_law_sign","_law_place"] ["_law_told","_law_word_here","_law_places"] (dh (top 39)):=by walk_at "sc"
theorem b68(M:Nm mg):MD P w K mg base f k ["_law_told","_law_word_here","_law_places","_law_here","_law_sign","_law_place"] "_law_way_good" (top 39) (zb):=λcdv A outer s H E hr =>
 have SC:=azg
 (aq (j7 3 SC.nd bf)
 (aq (a0e bT rfl (aqk rfl M.zip aql (bj 1) (bj 2)) (ac6 rfl (uy (km (i:=4) SC.nd rfl (Or.inl rfl)) (uy (km (i:=5) SC.nd rfl (Or.inl rfl)) a7n))) (aq (p7 (PW.pt (a8m (yt (a3i.or a0y) aa8 (bj 5) (du (du (bj 0) bf) (bj 3)) (by with_unfolding_all rfl)) (a6a (yt (a3i.or a0y) aa8 (bj 4) (du (du (bj 0) bf) (bj 5)) (by with_unfolding_all rfl)))))
 (bx (gk a2s))
 iw)
 (bx (j7 3 SC.nd (bj 5)))))
 (bx (gk (ac4 (a5m (a98 hr.u) a5r (qt M.len (aa (bj 1) az)) (qt M.len (aa (bj 2) az)) (a67 _)) (a93 (a5m (a4e.or a0a) a4h (bj 3) (du (bj 0) bf) (by with_unfolding_all rfl))))))))
theorem azh:FnScope ["_law_found","_law_due"] ["_law_found","_law_due"] (dh (top 40)):=by walk_at "sc"
theorem b69(M:Nm mg):MD P w K mg base f k ["_law_found","_law_due"] "_law_truth" (top 40) (a2g):=λcdv A outer s H E hr =>
 have SC:=azh
 (bx (gk (ac4 (a4g (L2.CallR.or wu uw) a2a rfl M.isinstance qz (aa (bj 0) (aa (adx rfl M.bool ae4) az))) (a93 (a5m (a98 hr.u) a5r (bj 0) (bj 1) (a67 _))))))
theorem azi:FnScope ["_law_left","_law_told","_law_many","_law_row_here","_law_here"] ["_law_left","_law_told","_law_many"] (dh (top 41)):=by walk_at "sc"
theorem b6a(M:Nm mg)(D_21:Dn P w K mg base k_21 "_law_draw" ["_law_left","_law_many"] (ug K 2 F_21) a_21 d_21)(h_21:k_21<=k):MD P w K mg base f k ["_law_left","_law_told","_law_many","_law_row_here","_law_here"] "_law_gone" (top 41) (a3q F_21):=λcdv A outer s H E hr =>
 have SC:=azi
 (aq (j7 3 SC.nd (m5 az))
 (aq (j7 4 SC.nd bf)
 (aq (ang 100000 bT (PW.pt (afa (yh (a8k.or vq) a3x (qt M.len (aa (bj 3) az)) (bj 2)) (aa3 (yh (aqh hr.u) ajk (du (du (bj 1) bf) (bj 4)) (uo az))))) (aq (j7 4 SC.nd (du (du (du (bj 1) bf) (bj 4)) (j8 D_21 hr h_21 (aa (bj 0) (aa (qt M.len (aa (du (du (bj 1) bf) (bj 4)) az)) az)))))
 (bx (a0d (a7r bR cF a0b a4i (bj 3) (aa (bj 4) az))))))
 (bx (gk (bj 3))))))
theorem azj:FnScope ["_law_left","_law_row_here","_law_many","_law_at","_law_sort","_law_place","_law_news"] ["_law_left","_law_row_here","_law_many"] (dh (top 42)):=by walk_at "sc"
theorem b6b(M:Nm mg)(G:Kn P w K mg)(D_21:Dn P w K mg base k_21 "_law_draw" ["_law_left","_law_many"] (ug K 2 F_21) a_21 d_21)(h_21:k_21<=k):MD P w K mg base f k ["_law_left","_law_row_here","_law_many","_law_at","_law_sort","_law_place","_law_news"] "_law_spoilt" (top 42) (a1e F_21):=λcdv A outer s H E hr =>
 have SC:=azj
 (aq (j7 3 SC.nd (j8 D_21 hr h_21 (aa (bj 0) (aa (gm (qt M.len (aa (bj 1) az)) bf) az))))
 (aq (j7 4 SC.nd (j8 D_21 hr h_21 (aa (bj 0) (aa bf az))))
 (aq (p7 (PW.pt (a8m (yh (a8k.or vq) a3x (bj 4) bf) (a6a (yh (ayc hr.u) (ak8 false) (bj 1) (vh (m5 az))))))
 (bx (gk (bj 1)))
 iw)
 (aq (j7 3 SC.nd (a4g (aim rfl) ano rfl M.min axw (aa (bj 3) (aa (a7q (qt M.len (aa (bj 1) az)) bf) az))))
 (aq (j7 5 SC.nd (du (bj 1) (bj 3)))
 (aq (p7 (qp hr.u (bj 4) bf)
 (bx (gk (gm (vh (ji (bj 1) nj (nq (bj 3)))) (vh (ji (bj 1) (nq (gm (bj 3) bf)) nj)))))
 iw)
 (aq (p7 (qp hr.u (bj 4) bf)
 (bx (gk (gm (vh (gm (vh (ji (bj 1) nj (nq (bj 3)))) (vh (m5 (aa (bj 5) az))))) (vh (ji (bj 1) (nq (bj 3)) nj)))))
 iw)
 (aq (p7 (qp hr.u (bj 4) bf)
 (bx (gk (gm (vh (gm (vh (ji (bj 1) nj (nq (bj 3)))) (vh (ag2 (vh (ji (bj 1) (nq (bj 3)) (nq (gm (bj 3) bf)))) nj (a6c bf))))) (vh (ji (bj 1) (nq (gm (bj 3) bf)) nj)))))
 iw)
 (aq (j7 6 SC.nd (uo (aa (gm (bj 5) bf) (aa (a7q (bj 5) bf) (aa (gm bf (j8 D_21 hr h_21 (aa (bj 0) (aa (gm (bj 2) bf) az)))) (aa a2s (aa ac1 (aa (a0c (ad0 rfl hr.gd hr.u G.dg) ag3 rfl M.str aq3 (aa (bj 5) az)) (aa (gm (bj 5) (al6 (al6 bf bf) bf)) az)))))))))
 (aq (j7 6 SC.nd (gm (bj 6) (uo (aa (vh (m5 (aa (bj 5) az))) (aa (vh ajl) (aa (uo (aa (bj 5) az)) az))))))
 (bx (gk (gm (vh (gm (vh (ji (bj 1) nj (nq (bj 3)))) (vh (m5 (aa (du (bj 6) (j8 D_21 hr h_21 (aa (bj 0) (aa (qt M.len (aa (bj 6) az)) az)))) az))))) (vh (ji (bj 1) (nq (gm (bj 3) bf)) nj)))))))))))))))
theorem azk:FnScope ["_law_told","_law_word_here","_law_places"] ["_law_told","_law_word_here","_law_places"] (dh (top 43)):=by walk_at "sc"
theorem b6c(M:Nm mg)(D_29:Dn P w K mg base k_29 "_law_row" ["_law_found"] (ug K 1 F_29) a_29 d_29)(h_29:k_29<=k)(D_30:Dn P w K mg base k_30 "_law_way_good" ["_law_told","_law_word_here","_law_places"] (ug K 3 F_30) a_30 d_30)(h_30:k_30<=k):MD P w K mg base f k ["_law_told","_law_word_here","_law_places"] "_law_holds" (top 43) (a2j F_29 F_30):=λcdv A outer s H E hr =>
 have SC:=azk
 (aq (p7 (PW.pt (a8m (a4s (a1n (j8 D_29 hr h_29 (aa (bj 2) az)))) (a6a (yh (aqh hr.u) ajk (qt M.len (aa (bj 2) az)) (qt M.len (aa (bj 1) az))))))
 (bx (gk a2s))
 iw)
 (aq (p7 (yh (ayd hr.u) (ak8 true) (vh (aa7 rfl (a8s ["_law_place"] ["_law_told"] [0]) (uf (bj 2)) (pgn 0) a2t (λ_ _ _ _=>(bj 0)) (λ_ _ _ _=>(a4s (anf (a8k.or vq) (a8k.or vq) a3x a3x bf (bj 0) (qt M.len (aa (du (bj 1) bf) az))))))) (vh (m5 az)))
 (bx (gk a2s))
 iw)
 (bx (gk (j8 D_30 hr h_30 (aa (bj 0) (aa (bj 1) (aa (bj 2) az))))))))
theorem azl:FnScope ["_law_script","_law_left","_law_whole","_law_begin","_law_tongue_here","_law_shape_here","_law_many","_law_told","_law_word_here","_law_held","_law_row_here","_law_places","_law_due","_law_k"] ["_law_script"] (dh (top 44)):=by walk_at "sc"
theorem b6d(M:Nm mg)(G:Kn P w K mg)(D_21:Dn P w K mg base k_21 "_law_draw" ["_law_left","_law_many"] (ug K 2 F_21) a_21 d_21)(h_21:k_21<=k)(D_32:Dn P w K mg base k_32 "_law_gone" ["_law_left","_law_told","_law_many"] (ug K 3 F_32) a_32 d_32)(h_32:k_32<=k)(D_34:Dn P w K mg base k_34 "_law_holds" ["_law_told","_law_word_here","_law_places"] (ug K 3 F_34) a_34 d_34)(h_34:k_34<=k)(D_26:Dn P w K mg base k_26 "_law_shape" ["_law_left","_law_tongue_here","_law_deep","_law_purse","_law_room"] (ug K 5 F_26) a_26 b3n)(h_26:k_26<=k)(D_20:Dn P w K mg base k_20 "_law_source" ["_law_script"] (ug K 1 F_20) a_20 d_20)(h_20:k_20<=k)(D_33:Dn P w K mg base k_33 "_law_spoilt" ["_law_left","_law_row_here","_law_many"] (ug K 3 F_33) a_33 d_33)(h_33:k_33<=k)(D_23:Dn P w K mg base k_23 "_law_tongue" ["_law_left"] (ug K 1 F_23) a_23 d_23)(h_23:k_23<=k)(D_31:Dn P w K mg base k_31 "_law_truth" ["_law_found","_law_due"] (ug K 2 F_31) a_31 d_31)(h_31:k_31<=k)(D_25:Dn P w K mg base k_25 "_law_weight" ["_law_shape_here"] (ug K 1 F_25) a_25 aw0)(h_25:k_25<=k)(D_27:Dn P w K mg base k_27 "_law_word" ["_law_left","_law_shape_here"] (ug K 2 F_27) a_27 b3o)(h_27:k_27<=k)(D_28:Dn P w K mg base k_28 "_law_word_bent" ["_law_left","_law_word_here","_law_tongue_here"] (ug K 3 F_28) a_28 d_28)(h_28:k_28<=k)(D_6:Dn P w K mg base k_6 "spread" ["shape"] (ug K 1 F_6) a_6 d_6)(h_6:k_6<=k)(D_17:Dn P w K mg base k_17 "way" ["spread","word"] (ug K 2 F_17) a_17 d_17)(h_17:k_17<=k)(D_19:Dn P w K mg base k_19 "way_holds" ["spread","word","places"] (ug K 3 F_19) a_19 d_19)(h_19:k_19<=k):MD P w K mg base f k ["_law_script","_law_left","_law_whole","_law_begin","_law_tongue_here","_law_shape_here","_law_many","_law_told","_law_word_here","_law_held","_law_row_here","_law_places","_law_due","_law_k"] "law" (top 44) (ap5 F_21 F_32 F_34 F_26 F_20 F_33 F_23 F_31 F_25 F_27 F_28 F_6 F_17 F_19):=λcdv A outer s H E hr =>
 have SC:=azl
 (aq (j7 1 SC.nd (afm true D_20 (hr.mono h_20) rfl (aa (bj 0) az)))
 (aq (j7 2 SC.nd (j8 D_21 hr h_21 (aa (bj 1) (aa bf az))))
 (aq (j7 3 SC.nd (j8 D_21 hr h_21 (aa (bj 1) (aa bf az))))
 (aq (j7 4 SC.nd (j8 D_23 hr h_23 (aa (bj 1) az)))
 (aq (j7 5 SC.nd (j8 D_26 hr h_26 (aa (bj 1) (aa (bj 4) (aa bf (aa bf (aa (m5 (aa bf az)) az)))))))
 (aq (j7 6 SC.nd (j8 D_25 hr h_25 (aa (bj 5) az)))
 (aq (j7 7 SC.nd (j8 D_6 hr h_6 (aa (bj 5) az)))
 (aq (j7 8 SC.nd (ji (j8 D_27 hr h_27 (aa (bj 1) (aa (bj 5) az))) nj (nq bf)))
 (aq (p7 (qp hr.u (j8 D_21 hr h_21 (aa (bj 1) (aa bf az))) bf)
 (bx (j7 8 SC.nd (j8 D_28 hr h_28 (aa (bj 1) (aa (bj 8) (aa (bj 4) az))))))
 iw)
 (aq (j7 9 SC.nd (j8 D_17 hr h_17 (aa (bj 7) (aa (bj 8) az))))
 (aq (j7 10 SC.nd (afb (yh (aij.or a7h) ace (bj 9) ac1) (vh (a0c (L2.CallR.or abv (adv rfl)) anp rfl M.list aso (aa (bj 9) az))) (vh (m5 az))))
 (aq (p7 (qp hr.u (bj 3) bf)
 (bx (j7 10 SC.nd (j8 D_32 hr h_32 (aa (bj 1) (aa (bj 7) (aa (qt M.len (aa (bj 8) az)) az))))))
 (bx (p7 (PW.pt (afa (qp hr.u (bj 3) bf) (aa3 (yh amy afe (bj 6) bf))))
 (bx (afo (i:=10) SC.nd rfl (Or.inl rfl) rfl (a8s ["_law_sign"] ["_law_left","_law_many"] [1,6]) (uf (bj 8)) (pgn 0) a2t (λ_ _ _ _=>(gm bf (j8 D_21 hr h_21 (aa (bj 1) (aa (bj 2) az)))))))
 iw)))
 (aq (j7 10 SC.nd (j8 D_33 hr h_33 (aa (bj 1) (aa (bj 10) (aa (bj 6) az)))))
 (aq (j7 11 SC.nd (a0c (L2.CallR.or qx (ut rfl)) a0h rfl M.tuple a06 (aa (bj 10) az)))
 (aq (p7 (yh (a8k.or vq) a3x (bj 2) bf)
 (bx (j7 11 SC.nd (du (uo (aa (bj 10) (aa (axt PySem.F.slot_str_join PySem.F.type_str_join aj5 afi ph (aa (vh (a7o rfl (ap6 ["_law_one"]) (uf (vh (ji (bj 10) nj (nq bf)))) (pgn 0) a2t (λ_ _ _ _=>(a0c (ad0 rfl hr.gd hr.u G.dg) ag3 rfl M.str aq3 (aa (bj 0) az))))) az)) (aa (qt M.len (aa (bj 8) az)) (aa ac1 (aa (vh ajl) (aa (uo (aa (bj 10) az)) az))))))) (bj 2))))
 iw)
 (aq (j7 12 SC.nd (j8 D_34 hr h_34 (aa (bj 7) (aa (bj 8) (aa (bj 11) az)))))
 (aq (a0e bT rfl (aa4 rfl M.range (aa bf az)) (km (i:=13) SC.nd rfl (Or.inl rfl)) (aq (p7 (a4s (a1n (j8 D_31 hr h_31 (aa (j8 D_19 hr h_19 (aa (bj 7) (aa (bj 8) (aa (bj 11) az)))) (aa (bj 12) az)))))
 ajw
 iw)
 (bx (p7 (PW.pt (afa (yh (aij.or a7h) ace (bj 9) ac1) (aa3 (a4s (a1n (j8 D_31 hr h_31 (aa (j8 D_19 hr h_19 (aa (bj 7) (aa (bj 8) (aa (bj 9) az)))) (aa a2s az))))))))
 ajw
 iw))))
 (bx (gk a2s)))))))))))))))))))
end
end K15
namespace SPR
structure Pt where
 w:Nat
 e:Bool
 B:Nat->Nat->Bool
 E:Nat->Nat->Bool
 F:Nat->Nat->Nat->Bool
def sw:List Pt->Nat
 |[]=>0
 |x::xs=>x.w+sw xs
def aE:List Pt->Bool
 |[]=>true
 |x::xs=>x.e && aE xs
def oE:List Pt->Bool
 |[]=>false
 |x::xs=>x.e || oE xs
def sB:List Pt->Nat->Nat->Bool
 |[],_,_=>false
 |x::xs,a,p=>x.B a p || (x.e && sB xs (a+x.w) p)
noncomputable def sE:List Pt->Nat->Nat->Bool
 |[],_,_=>false
 |x::xs,a,p=>(x.E a p && aE xs) || sE xs (a+x.w) p
noncomputable def sF:List Pt->Nat->Nat->Nat->Bool
 |[],_,_,_=>false
 |x::xs,a,p,q=>x.F a p q || (x.E a p && sB xs (a+x.w) q) || sF xs (a+x.w) p q
def oB:List Pt->Nat->Nat->Bool
 |[],_,_=>false
 |x::xs,a,p=>x.B a p || oB xs (a+x.w) p
def oEn:List Pt->Nat->Nat->Bool
 |[],_,_=>false
 |x::xs,a,p=>x.E a p || oEn xs (a+x.w) p
noncomputable def oF:List Pt->Nat->Nat->Nat->Bool
 |[],_,_,_=>false
 |x::xs,a,p,q=>x.F a p q || oF xs (a+x.w) p q
noncomputable def tE(lo:Nat):Nat->List Pt->Nat->Nat->Bool
 |_,[],_,_=>false
 |k,x::xs,a,p=>(x.E a p && (decide (lo<=k+1) || aE xs)) || tE lo (k+1) xs (a+x.w) p
noncomputable def eT(lo:Nat):Nat->List Pt->Bool
 |_,[]=>true
 |k,x::xs=>decide (lo<=k) || (x.e && eT lo (k+1) xs)
def auo:Pt:=⟨1,false,λa p=>p == a+1,λa p=>p == a+1,λ_ _ _=>false⟩
def al7(xs:List Pt):Pt:=⟨sw xs,aE xs,sB xs,sE xs,sF xs⟩
def al8(xs:List Pt):Pt:=⟨sw xs,oE xs,oB xs,oEn xs,oF xs⟩
def b1e(x:Pt):Pt:=⟨x.w,true,x.B,x.E,λa p q=>x.F a p q || (x.E a p && x.B a q)⟩
noncomputable def avv(x:Pt)(lo hi:Nat):Pt:=⟨hi*x.w,lo == 0 || x.e,sB (List.replicate hi x),tE lo 0 (List.replicate hi x),sF (List.replicate hi x)⟩
structure Pt.Ok (x:Pt):Prop where
 b:∀a p,x.B a p=true->a<p/\p<=a+x.w
 e:∀a p,x.E a p=true->a<p/\p<=a+x.w
 f:∀a p q,x.F a p q=true->(a<p/\p<=a+x.w)/\a<q/\q<=a+x.w
theorem ap7:∀{xs:List Pt},(∀x∈xs,x.Ok)->∀{a p},sB xs a p=true->a<p/\p<=a+sw xs
 |[],_,_,_,h=>by cases h
 |x::xs,o,a,p,h=>by
  simp only[sB,bS,bM]at h;simp only[sw]
  rcases h with h|⟨_,h⟩
  .have:=(o x (by simp)).b a p h;omega
  .have:=ap7 (λy hy=>o y (by simp[hy])) h;omega
theorem azm:∀{xs:List Pt},(∀x∈xs,x.Ok)->∀{a p},sE xs a p=true->a<p/\p<=a+sw xs
 |[],_,_,_,h=>by cases h
 |x::xs,o,a,p,h=>by
  simp only[sE,bS,bM]at h;simp only[sw]
  rcases h with⟨h,_⟩|h
  .have:=(o x (by simp)).e a p h;omega
  .have:=azm (λy hy=>o y (by simp[hy])) h;omega
theorem azn{lo:Nat}:∀{xs:List Pt},(∀x∈xs,x.Ok)->∀{k a p},tE lo k xs a p=true->a<p/\p<=a+sw xs
 |[],_,_,_,_,h=>by cases h
 |x::xs,o,k,a,p,h=>by
  simp only[tE,bS,bM]at h;simp only[sw]
  rcases h with⟨h,_⟩|h
  .have:=(o x (by simp)).e a p h;omega
  .have:=azn (λy hy=>o y (by simp[hy])) h;omega
theorem aup:∀{xs:List Pt},(∀x∈xs,x.Ok)->∀{a p q},sF xs a p q=true->(a<p/\p<=a+sw xs)/\a<q/\q<=a+sw xs
 |[],_,_,_,_,h=>by cases h
 |x::xs,o,a,p,q,h=>by
  simp only[sF,bS,bM]at h;simp only[sw];have o':∀y∈xs,y.Ok:=λy hy=>o y (by simp[hy])
  rcases h with(h|⟨h,h'⟩)|h
  .have:=(o x (by simp)).f a p q h;omega
  .have:=(o x (by simp)).e a p h;have:=ap7 o' h';omega
  .have:=aup o' h;omega
theorem azo:∀{xs:List Pt},(∀x∈xs,x.Ok)->∀{a p},oB xs a p=true->a<p/\p<=a+sw xs
 |[],_,_,_,h=>by cases h
 |x::xs,o,a,p,h=>by
  simp only[oB,bS]at h;simp only[sw]
  rcases h with h|h
  .have:=(o x (by simp)).b a p h;omega
  .have:=azo (λy hy=>o y (by simp[hy])) h;omega
theorem aqw:∀{xs:List Pt},(∀x∈xs,x.Ok)->∀{a p},oEn xs a p=true->a<p/\p<=a+sw xs
 |[],_,_,_,h=>by cases h
 |x::xs,o,a,p,h=>by
  simp only[oEn,bS]at h;simp only[sw]
  rcases h with h|h
  .have:=(o x (by simp)).e a p h;omega
  .have:=aqw (λy hy=>o y (by simp[hy])) h;omega
theorem azp:∀{xs:List Pt},(∀x∈xs,x.Ok)->∀{a p q},oF xs a p q=true->(a<p/\p<=a+sw xs)/\a<q/\q<=a+sw xs
 |[],_,_,_,_,h=>by cases h
 |x::xs,o,a,p,q,h=>by
  simp only[oF,bS]at h;simp only[sw]
  rcases h with h|h
  .have:=(o x (by simp)).f a p q h;omega
  .have:=azp (λy hy=>o y (by simp[hy])) h;omega
theorem ad3(x:Pt):∀n,sw (List.replicate n x)=n*x.w
 |0=>by simp[sw]
 |n+1=>by rw[bA,sw,ad3 x n,cN];omega
theorem azq:auo.Ok:=⟨λa p h=>by simp[auo]at h ⊢;omega,λa p h=>by simp[auo]at h ⊢;omega,λa p q h=>by cases h⟩
theorem azr{xs:List Pt}(o:∀x∈xs,x.Ok):(al7 xs).Ok:=⟨λ_ _ h=>ap7 o h,λ_ _ h=>azm o h,λ_ _ _ h=>aup o h⟩
theorem azs{xs:List Pt}(o:∀x∈xs,x.Ok):(al8 xs).Ok:=⟨λ_ _ h=>azo o h,λ_ _ h=>aqw o h,λ_ _ _ h=>azp o h⟩
theorem azt{x:Pt}(o:x.Ok):(b1e x).Ok:=⟨o.b,o.e,λa p q h=>by
 simp only[b1e,bS,bM]at h ⊢
 rcases h with h|⟨h1,h2⟩
 .exact o.f a p q h
 .exact⟨o.e a p h1,o.b a q h2⟩⟩
theorem azu{x:Pt}(o:x.Ok)(lo hi:Nat):(avv x lo hi).Ok:=by
 have o':∀y∈List.replicate hi x,y.Ok:=λy hy=>by rw[eU hy];exact o
 have w:(avv x lo hi).w=sw (List.replicate hi x):=(ad3 x hi).symm;exact⟨λa p h=>by rw[w];exact ap7 o' h,λa p h=>by rw[w];exact azn o' h,λa p q h=>by rw[w];exact aup o' h⟩
theorem a1s:∀(xs:List Pt) (x:Pt),sw (xs++[x])=sw xs+x.w
 |[],x=>by simp[sw]
 |y::xs,x=>by rw[bX,sw,sw,a1s xs x];omega
theorem al9:∀(xs:List Pt) (x:Pt),aE (xs++[x])=(aE xs && x.e)
 |[],x=>by simp[aE]
 |y::xs,x=>by rw[bX,aE,aE,al9 xs x,Bool.and_assoc]
theorem aqx:∀(xs:List Pt) (x:Pt),oE (xs++[x])=(oE xs || x.e)
 |[],x=>by simp[oE]
 |y::xs,x=>by rw[bX,oE,oE,aqx xs x,iL]
theorem ala:∀(xs:List Pt) (x:Pt) (a p:Nat),sB (xs++[x]) a p=(sB xs a p || (aE xs && x.B (a+sw xs) p))
 |[],x,a,p=>by simp[sB,aE,sw]
 |y::xs,x,a,p=>by
  rw[bX,sB,sB,aE,sw,ala xs x,cT]
  cases y.B a p<;>cases y.e<;>simp
theorem aqy:∀(xs:List Pt) (x:Pt) (a p:Nat),sE (xs++[x]) a p=((sE xs a p && x.e) || x.E (a+sw xs) p)
 |[],x,a,p=>by simp[sE,aE,sw]
 |y::xs,x,a,p=>by
  rw[bX,sE,sE,al9,sw,aqy xs x,cT]
  cases y.E a p<;>cases aE xs<;>cases x.e<;>simp
theorem aqz:∀(xs:List Pt) (x:Pt) (a p q:Nat),sF (xs++[x]) a p q=(sF xs a p q || (sE xs a p && x.B (a+sw xs) q) || x.F (a+sw xs) p q)
 |[],x,a,p,q=>by simp[sF,sE,sB,sw]
 |y::xs,x,a,p,q=>by
  rw[bX,sF,sF,sE,ala,sw,aqz xs x,cT]
  cases y.F a p q<;>cases y.E a p<;>cases aE xs<;>cases sB xs (a+y.w) q<;>cases sF xs (a+y.w) p q<;>cases sE xs (a+y.w) p<;>simp
theorem ar0:∀(xs:List Pt) (x:Pt) (a p:Nat),oB (xs++[x]) a p=(oB xs a p || x.B (a+sw xs) p)
 |[],x,a,p=>by simp[oB,sw]
 |y::xs,x,a,p=>by rw[bX,oB,oB,ar0 xs x,sw,cT,iL]
theorem alb:∀(xs:List Pt) (x:Pt) (a p:Nat),oEn (xs++[x]) a p=(oEn xs a p || x.E (a+sw xs) p)
 |[],x,a,p=>by simp[oEn,sw]
 |y::xs,x,a,p=>by rw[bX,oEn,oEn,alb xs x,sw,cT,iL]
theorem ar3:∀(xs:List Pt) (x:Pt) (a p q:Nat),oF (xs++[x]) a p q=(oF xs a p q || x.F (a+sw xs) p q)
 |[],x,a,p,q=>by simp[oF,sw]
 |y::xs,x,a,p,q=>by rw[bX,oF,oF,ar3 xs x,sw,cT,iL]
theorem alc{x:Pt}(h:x.e=true):∀n,aE (List.replicate n x)=true
 |0=>rfl
 |n+1=>by rw[bA,aE,h,alc h n];rfl
theorem ar4{x:Pt}{lo:Nat}(h:x.e=true):∀n k,eT lo k (List.replicate n x)=true
 |0,_=>rfl
 |n+1,k=>by rw[bA,eT,h,ar4 h n (k+1)];simp
theorem azv{x:Pt}{lo k n:Nat}:eT lo k (List.replicate n x)=(decide (lo<=k) || aE (List.replicate n x)):=by
 cases h:x.e with
 |true=>rw[ar4 h,alc h];simp
 |false =>
  cases n with
  |zero=>simp[eT,aE]
  |succ n=>simp[bA,eT,aE,h]
theorem azw{x:Pt}{lo hi:Nat}(hl:lo<=hi):eT lo 0 (List.replicate hi x)=(lo == 0 || x.e):=by
 rw[azv]
 cases hi with
 |zero =>
  obtain rfl:lo=0:=by omega
  simp
 |succ n =>
  cases h:x.e with
  |true=>rw[alc h];simp
  |false=>rw[bA,aE,h];cases lo<;>simp
end SPR
namespace HND
open L2 MI
def a0k:SS :=
 (iy (jz 0 (sC (.str " !\"#$&'()*+,-./0123456789:;<=>?@ABCDEFGHIJKLMNOPQRSTUVWXYZ[\\]^_`")))
 (pq (s2 ie (sV 0) (sC (.str "abcdefghijklmnopqrstuvwxyz{|}~\n")))))
end HND
namespace MI
open L2
abbrev S(l:List Nat):Str:=⟨l.toArray⟩
theorem aax(l:List Nat):(S l).cps.toList=l:=by simp
theorem aay(l:List Nat):(S l).length=l.length:=by simp[Str.length]
theorem auq(x:Str):S x.cps.toList=x:=by cases x;simp
theorem aur(a b:List Nat):S a++S b=S (a++b):=by rw[<-auq (S a++S b),b2l]
section
variable{h:Hd}{a b l:List Nat}{i:Nat}{c:Nat}
theorem b1f(hl:l.length<=LINE)(e:l[i]? = some c):gIx (.str (S l)) (.int (i:Nat)) h=.ok (.str (S [c])) h:=by
 unfold gIx;simp only[aay,aJ hl,aax,yr e]
theorem aek(hl:a.length+b.length<=LINE):ie (.str (S a)) (.str (S b)) h=.ok (.str (S (a++b))) h:=by
 unfold ie;simp only[aay,aJ hl,aur]
theorem a8t(hl:l.length<=LINE):vg [.str (S l)] h=.ok (.int l.length) h:=by
 unfold vg;simp only[aay,aJ hl]
theorem b1g(k:Nat)(hl:l.length<=LINE):ado (.str (S l)) none (some (k:Int)) h=.ok (.str (S (l.take k))) h:=by
 show gSl (.str (S l)) none (some (k:Int)) h=_;unfold gSl;simp only[aay,aJ hl,aax,aa1]
theorem ag9(k:Nat)(hl:l.length<=LINE):ado (.str (S l)) (some (k:Int)) none h=.ok (.str (S (l.drop k))) h:=by
 show gSl (.str (S l)) (some (k:Int)) none h=_;unfold gSl;simp only[aay,aJ hl,aax,a4r]
end
section
variable{h:Hd}{i j:Int}{xs ys:List D}
theorem a69:gIx (.tup xs) (.int i) h=(match atI xs i with|some d=>.ok d h|none=>.no):=rfl
theorem ad4:gIx (.rol xs) (.int i) h=(match atI xs i with|some d=>.ok d h|none=>.no):=rfl
theorem ad5:gIx (.ref k) (.int i) h=(match a0u (.ref k) h with|some xs=>(match atI xs i with|some d=>.ok d h|none=>.no)|none=>.no):=rfl
theorem aaz:vg [.tup xs] h=.ok (.int xs.length) h:=rfl
theorem a5u:vg [.rol xs] h=.ok (.int xs.length) h:=rfl
theorem a8b:vg [.ref k] h=(match a0u (.ref k) h with|some xs=>.ok (.int xs.length) h|none=>.no):=rfl
theorem a2o:ie (.int i) (.int j) h=.ok (.int (i+j)) h:=rfl
theorem a5v:a2u (.int i) (.int j) h=.ok (.int (i+j)) h:=rfl
open Classical in
theorem a4a:zx (.int i) (.int j) h=if CMul i j then .ok (.int (i*j)) h else .no:=by unfold zx;rfl
theorem ju(b:Bool):tru (.bl b) h=.ok b h:=rfl
theorem ab0:tru (.int i) h=.ok (i != 0) h:=rfl
theorem a5w:tru (.rol xs) h=.ok (!xs.isEmpty) h:=rfl
theorem ab1:tru (.tup xs) h=.ok (!xs.isEmpty) h:=rfl
theorem ab2:tru .non h=.ok false h:=rfl
theorem ahz:hEq (.int i) (.int j) h=.ok (.bl (i == j)) h:=rfl
theorem ai0:hNe (.int i) (.int j) h=.ok (.bl (!(i == j))) h:=rfl
theorem azx(a b:Str):hEq (.str a) (.str b) h=.ok (.bl (a == b)) h:=rfl
theorem azy(a b:Str):hNe (.str a) (.str b) h=.ok (.bl (!(a == b))) h:=rfl
theorem ald(a b:Bool):hEq (.bl a) (.bl b) h=.ok (.bl (a == b)) h:=rfl
theorem ap8(a b:Bool):hNe (.bl a) (.bl b) h=.ok (.bl (!(a == b))) h:=rfl
theorem aga(x:D):gIs x .non h=.ok (.bl (a8o x)) h:=by cases x<;>rfl
theorem a5g(x:D):acd x .non h=.ok (.bl (!a8o x)) h:=by cases x<;>rfl
theorem ap9(a b:Bool):gIs (.bl a) (.bl b) h=.ok (.bl (a == b)) h:=rfl
theorem a72(a b:Bool):acd (.bl a) (.bl b) h=.ok (.bl (a != b)) h:=rfl
theorem b1h:a8o (.int i)=false:=rfl
theorem b1i(x:Str):a8o (.str x)=false:=rfl
theorem b1j:a8o .non=true:=rfl
theorem b1k:a8o (.tup xs)=false:=rfl
end
end MI
namespace HND
open L2 MI AT
def b1l:Str := " !\"#$&'()*+,-./0123456789:;<=>?@ABCDEFGHIJKLMNOPQRSTUVWXYZ[\\]^_`"
def b1m:Str := "abcdefghijklmnopqrstuvwxyz{|}~\n"
def sig:List Nat:=b1l.cps.toList++b1m.cps.toList
theorem aus:sig.length=95:=by decide +kernel
theorem azz:sig.Nodup:=by decide +kernel
def m7:SF:=n8 a0k 1
theorem lits{h:Hd}:ie (.str b1l) (.str b1m) h=.ok (.str (S sig)) h:=by
 rw[<-auq b1l,<-auq b1m,aek (by decide +kernel)]
 rfl
theorem ab3:Pu m7 0 [] (.str (S sig)):=by
 refine Pu.of rfl (by simp) (r:=.ok (.str (S sig)) []) ?_ (by rw[jd (dz _) (by simp)];rfl) (dz _)
 unfold m7;rw[ig];unfold a0k;have e:=@lits [];unfold b1l b1m at e;show toR (iy (jz 0 _) _ [none] [])=_;simp only[yw,jz,sC,a2y,a99,pq,s2,sV,List.set_cons_zero,iH,cj,e,acn]
structure Tongue (l:List Nat):Prop where
 lo:1<=l.length
 hi:l.length<=6
 nd:l.Nodup
 sub:∀c∈l,c∈sig
theorem ad6(a r:List Nat)(i:Nat)(c:Nat)(e:r[i]? = some c):List.Perm (a++r) ((a++[c])++(r.take i++r.drop (i+1))):=by
 obtain⟨hi,e⟩:=ai.mp e;have:r=r.take i++c::r.drop (i+1):=by rw[<-e];simp
 rw[cA];refine List.Perm.append_left a ?_;rw[List.singleton_append]
 conv=>lhs;rw[this]
 exact List.perm_middle
end HND
namespace MI
open L2
theorem b2z(n:Nat):rng 0 n=(List.range n).map λi:Nat=>D.int (i:Nat):=by
 unfold rng;exact dG λi _=>by rw[Int.zero_add]
theorem b30(a:Int)(n:Nat):rng a n=(List.range n).map λi:Nat=>D.int (a+(i:Nat)):=rfl
theorem ael(h:n<=LINE):B62 (n:Int):=by
 have:n<=16777216:=h
 unfold B62;omega
theorem ale(h:Hd)(z:n<=LINE):a5n [.int (n:Nat)] h=.ok ⟨(List.range n).map λi:Nat=>D.int (i:Nat),λ_=>True⟩ h:=by
 unfold a5n;simp only[ael z,dO,ee,b2z]
theorem b00(h:Hd)(za:a<=LINE)(z:n<=LINE):ac8 [.int (a:Nat),.int (n:Nat)] h=.ok ⟨(List.range (n-a)).map λi:Nat=>D.int ((a+i:Nat)),λ_=>True⟩ h:=by
 unfold ac8;simp only[ael z,ael za,and_self,dO,b30];rw[show((n:Int)-(a:Int)).toNat=n-a by omega]
 congr 2
theorem b31(e:f τ h=.ok d h):aj f di τ h=.ok [d] h:=by unfold aj di;rw[e];rfl
theorem b32(e:f τ h=.ok c h)(e':g τ h=.ok d h):aj f (aj g di) τ h=.ok [c,d] h:=by unfold aj;rw[e,cj,e',cj];rfl
theorem aut(e:f τ h=.ok (.int (n:Nat)) h)(z:n<=LINE):sRg a5n (aj f di) τ h=.ok ⟨(List.range n).map λi:Nat=>D.int (i:Nat),λ_=>True⟩ h:=by
 unfold sRg;rw[b31 e,cj];exact ale h z
theorem auu(e':g τ h=.ok (.int (a:Nat)) h)(e:f τ h=.ok (.int (n:Nat)) h)(za:a<=LINE)(z:n<=LINE):sRg ac8 (aj g (aj f di)) τ h=.ok ⟨(List.range (n-a)).map λi:Nat=>D.int ((a+i:Nat)),λ_=>True⟩ h:=by
 unfold sRg;rw[b32 e' e,cj];exact b00 h za z
theorem bw(e:τ[i]? = some (some d)):sV i τ h=.ok d h:=by unfold sV;rw[e]
theorem a3e{fi:SI}{t:D->Option Sd}{fe:SE}{ix:List Nat}{τ:Sd}{h:Hd}{α:Type}(g F:α->D)(xs:List α)(e:fi τ h=.ok ⟨xs.map g,λ_=>True⟩ h)(z:xs.length<=LINE)
  (st:∀x∈xs,aa5 t fe (frs' ix τ) (g x) h=.ok (F x) h):a0w fi t fe ix τ h=.ok (.ref h.length) (h++[.lst (xs.map F)]):=by
 unfold a0w;rw[e,cj];dsimp only;rw[aJ (by rw[ar];exact z),aco g F st]
 rfl
theorem ad7{fi:SI}{t:D->Option Sd}{c:ST}{fe:SE}{ix:List Nat}{τ:Sd}{h:Hd}{α:Type}(g:α->D)(F:α->Option D)(xs:List α)(e:fi τ h=.ok ⟨xs.map g,λ_=>True⟩ h)(z:xs.length<=LINE)
  (st:∀x∈xs,aca t c fe (frs' ix τ) (g x) h=.ok (F x) h):a02 fi t c fe ix τ h=.ok (.ref h.length) (h++[.lst (xs.filterMap F)]):=by
 unfold a02;rw[e,cj];dsimp only;rw[aJ (by rw[ar];exact z),acp g F st]
 rfl
theorem a4l(fe:SE)(r:Sd)(x:D)(h:Hd):aa5 t1 fe r x h=fe (some x::r) h:=rfl
theorem auv(c:ST)(fe:SE)(r:Sd)(x:D)(h:Hd):aca t1 c fe r x h=(c (some x::r) h).bind λb h1=>if b=true then (fe (some x::r) h1).bind λy h2=>.ok (some y) h2 else .ok none h1:=rfl
section
variable{f k f1 f2 f3:SE}{c c1 c2:ST}{g p q:SS}{τ τ1:Sd}{h h1 h2 h3 h4:Hd}{a b d v:D}{i:Nat}{t u:Bool}
theorem ad8(d:D)(τ:Sd)(h:Hd):sC d τ h=.ok d h:=rfl
theorem b01(e3:G [] h=.ok v h1):sA G di τ h=.ok v h1:=e3
theorem qg(e1:f τ h=.ok a h1)(e3:G [a] h1=.ok v h2):sA G (aj f di) τ h=.ok v h2:=by
 have:aj f di τ h=.ok [a] h1:=by unfold aj;rw[e1];rfl
 unfold sA;rw[this,cj,e3]
theorem vm(e1:f τ h=.ok a h1)(e2:k τ h1=.ok b h2)(e3:G [a,b] h2=.ok v h3):sA G (aj f (aj k di)) τ h=.ok v h3:=by
 have:aj f (aj k di) τ h=.ok [a,b] h2:=by unfold aj;rw[e1,cj,e2];rfl
 unfold sA;rw[this,cj,e3]
theorem amq(e0:f1 τ h=.ok d h1)(e1:f τ h1=.ok a h2)(e2:k τ h2=.ok b h3)(e3:G [d,a,b] h3=.ok v h4):sA G (aj f1 (aj f (aj k di))) τ h=.ok v h4:=by
 have:aj f1 (aj f (aj k di)) τ h=.ok [d,a,b] h3:=by unfold aj;rw[e0,cj,e1,cj,e2];rfl
 unfold sA;rw[this,cj,e3]
theorem jw(e:f τ h=.ok d h1):iy (jz i f) g τ h=g (τ.set i (some d)) h1:=by
 rw[yw];unfold jz;rw[e];rfl
theorem agb(e:f τ h=.ok d h1):jz i f τ h=.nx (τ.set i (some d)) h1:=by
 unfold jz;rw[e];rfl
theorem ym(e:p τ h=.nx τ1 h1):iy p g τ h=g τ1 h1:=by rw[yw,e];rfl
theorem um(e:p τ h=.rt d h1):iy p g τ h=.rt d h1:=by rw[yw,e];rfl
theorem ifT(e:c τ h=.ok true h1):sIf c p q τ h=p τ h1:=by unfold sIf;rw[e];rfl
theorem ifF(e:c τ h=.ok false h1):sIf c p q τ h=q τ h1:=by unfold sIf;rw[e];rfl
theorem ifN(e:c τ h=.ok false h1):iy (sIf c p sNx) g τ h=g τ h1:=by rw[yw,ifF e];rfl
theorem tof(e:f τ h=.ok (.bl t) h1):sT f τ h=.ok t h1:=by unfold sT;rw[e];rfl
theorem ur(e:f τ h=.ok d h1)(e':tru d h1=.ok t h2):a7m f τ h=.ok t h2:=by unfold a7m;rw[e,cj,e']
theorem a8j(e:c1 τ h=.ok true h1)(e':c2 τ h1=.ok t h2):adm c1 c2 τ h=.ok t h2:=by unfold adm;rw[e,cj,aJ rfl,e']
theorem ab4(e:c1 τ h=.ok false h1):adm c1 c2 τ h=.ok false h1:=by unfold adm;rw[e,cj,ba (by simp)]
theorem orT(e:c1 τ h=.ok true h1):sOr c1 c2 τ h=.ok true h1:=by unfold sOr;rw[e,cj,aJ rfl]
theorem orF(e:c1 τ h=.ok false h1)(e':c2 τ h1=.ok t h2):sOr c1 c2 τ h=.ok t h2:=by unfold sOr;rw[e,cj,ba (by simp),e']
theorem auw(e:c τ h=.ok t h1):a92 c τ h=.ok (!t) h1:=by unfold a92;rw[e];rfl
theorem a73(e:c τ h=.ok true h1):a92 c τ h=.ok false h1:=auw e
theorem a8u(e:c τ h=.ok false h1):a92 c τ h=.ok true h1:=auw e
theorem jl(e:f τ h=.ok d h1):pq f τ h=.rt d h1:=by unfold pq;rw[e];rfl
theorem ai1(e:f τ h=.ok (.bl true) h1)(e':k τ h1=.ok d h2):a4f f k τ h=.ok d h2:=by unfold a4f;rw[e,cj];exact e'
theorem a3f(e1:f τ h=.ok d h1)(l:isL d h1=true)(e2:A τ h1=.ok ds h2)(e3:G d ds h2=.ok v h3):a0v (sML G f A) τ h=.nx τ h3:=by
 unfold a0v sML;rw[e1,cj,aJ l,e2,cj,e3];rfl
theorem arg1(e:f τ h=.ok d h1):aj f di τ h=.ok [d] h1:=by unfold aj di;rw[e];rfl
theorem kj(e1:f τ h=.ok a h1)(e2:k τ h1=.ok b h2)(e3:G a b h2=.ok v h3):s2 G f k τ h=.ok v h3:=by
 unfold s2;rw[e1,cj,e2,cj,e3]
theorem vo(e:τ[i]? = some (some a))(e3:G a d h=.ok v h3):s2 G (sV i) (sC d) τ h=.ok v h3:=kj (bw e) (ad8 _ _ _) e3
theorem ckk:sC d τ h=.ok d h:=rfl
theorem tvc(e:τ[i]? = some (some a))(e3:G a d h=.ok (.bl t) h3):sT (s2 G (sV i) (sC d)) τ h=.ok t h3:=tof (kj (bw e) (ad8 _ _ _) e3)
theorem t2s(e1:f τ h=.ok a h1)(e2:k τ h1=.ok b h2)(e3:G a b h2=.ok (.bl t) h3):sT (s2 G f k) τ h=.ok t h3:=tof (kj e1 e2 e3)
theorem ifr(e:c τ h=.ok true h1)(e2:f τ h1=.ok d h2):sIf c (pq f) q τ h=.rt d h2:=aU (ifT e) (jl e2)
theorem ets{rr:R D}(e:f τ h=.ok d h1)(e2:toR (g (τ.set i (some d)) h1)=rr):toR (iy (jz i f) g τ h)=rr:=by rw[jw e,e2]
theorem eti{rr:R D}(e:c τ h=.ok false h1)(e2:toR (g τ h1)=rr):toR (iy (sIf c p sNx) g τ h)=rr:=by rw[ifN e,e2]
theorem etr{fa fb:Fl}{rr:R D}(e:fa=fb)(e2:toR fb=rr):toR fa=rr:=by rw[e,e2]
theorem v6(e1:f τ h=.ok a h1)(e3:G a h1=.ok v h2):s1 G f τ h=.ok v h2:=by
 unfold s1;rw[e1,cj,e3]
theorem apa(ht:τ[i]? = some (some a))(e:f τ h=.ok b h1)(e2:G a b h1=.ok d h2):ai7 i G f τ h=.nx (τ.set i (some d)) h2:=by
 unfold ai7;rw[ht];dsimp only;rw[e,a2y,e2];rfl
theorem auy(e:f τ h=.ok d h1)(e2:G d τ h1=.nx τ1 h2):aml f G τ h=.nx τ1 h2:=by
 unfold aml;rw[e,a2y,e2]
theorem b02(e1:f1 τ h=.ok v h1)(e2:f2 τ h1=.ok a h2)(e3:f3 τ h2=.ok b h3)(e4:put a b v h3=some h4):ah7 f1 f2 f3 τ h=.nx τ h4:=by
 unfold ah7;rw[e1,a2y,e2,a2y,e3,a2y,e4]
theorem a4m{fi:SI}{G:SG}{b:SS}{xs:List D}{ck:Hd->Prop}(e:fi τ h=.ok ⟨xs,ck⟩ h1):iy (a94 fi G b) g τ h=thn (forL ck G b xs τ h1) g:=by
 rw[yw];unfold a94;rw[e];rfl
theorem a6o(e:f τ h=.ok d h1)(e2:amm d h1=.ok ⟨xs,ck⟩ h1):sIt f τ h=.ok ⟨xs,ck⟩ h1:=by
 unfold sIt;rw[e,cj,e2]
theorem a8c(e:h[i]? = some (.lst xs))(z:xs.length<LINE):ae1 (.ref i) [a] h=.ok .non (h.set i (.lst (xs++[a]))):=by
 unfold ae1;simp only[e,aJ z]
theorem ad9(e:h[i]? = some (.lst xs))(hj:xs[j]? = some y):gIx (.ref i) (.int (j:Nat)) h=.ok y h:=by
 rw[ad5];unfold a0u;simp only[e,yr hj]
theorem avw(hj:xs[j]? = some y):gIx (.rol xs) (.int (j:Nat)) h=.ok y h:=by
 rw[ad4];simp only[yr hj]
theorem agc(hj:xs[j]? = some y):gIx (.tup xs) (.int (j:Nat)) h=.ok y h:=by
 rw[a69];simp only[yr hj]
theorem auz(e:h[i]? = some (.lst xs)):vg [.ref i] h=.ok (.int (xs.length:Nat)) h:=by
 rw[a8b];unfold a0u;simp only[e]
theorem av0(e:h[i]? = some (.lst xs)):vy [.ref i] h=.ok (.tup xs) h:=by
 unfold vy a0u;simp only[e]
theorem div_ii(c:0<y/\y<1073741824):a8n (.int x) (.int y) h=.ok (.int (x / y)) h:=by unfold a8n;exact aJ c
theorem a9g(c:0<y):a6b (.int x) (.int y) h=.ok (.int (x%y)) h:=by unfold a6b;exact aJ c
theorem ada(c:y<x):gGt (.int x) (.int y) h=.ok (.bl true) h:=by unfold gGt;simp only[c,jF]
theorem adb(c:¬ y<x):gGt (.int x) (.int y) h=.ok (.bl false) h:=by unfold gGt;simp only[c,jA]
theorem ab5(c:x<y):gLt (.int x) (.int y) h=.ok (.bl true) h:=by unfold gLt;simp only[c,jF]
theorem a9h(c:¬ x<y):gLt (.int x) (.int y) h=.ok (.bl false) h:=by unfold gLt;simp only[c,jA]
theorem zy(c:x=y):hEq (.int x) (.int y) h=.ok (.bl true) h:=by rw[ahz,c,eX]
theorem a0x(c:¬ x=y):hEq (.int x) (.int y) h=.ok (.bl false) h:=by rw[ahz,bQ.mpr c]
theorem a3t(c:x=y):hNe (.int x) (.int y) h=.ok (.bl false) h:=by rw[ai0,c,eX];rfl
theorem a3u(c:¬ x=y):hNe (.int x) (.int y) h=.ok (.bl true) h:=by rw[ai0,bQ.mpr c];rfl
theorem a0s(x:Int):a97 (.int x) h=.ok (.int (-x)) h:=rfl
theorem vz(x y:Int):MI.a77 (.int x) (.int y) h=.ok (.int (x-y)) h:=rfl
theorem ik(h:n<=1000000):n<=LINE:=by show n<=16777216;omega
theorem agd(h:n<=1000000):n<LINE:=by show n<16777216;omega
theorem a74:MI.yj [a,b] h=.ok (.tup [a,b]) h:=by unfold MI.yj;rw[aJ (ik (by simp))]
theorem adc:MI.yj [a,b,v] h=.ok (.tup [a,b,v]) h:=by unfold MI.yj;rw[aJ (ik (by simp))]
end
end MI
namespace SRC
open L2 MI AT
structure Src (o:O) (N:Nat):Prop where
 ex:∃(cells:List Int) (a l c s:Int),o=.lst [.rol (cells.map D.int),.int a,.int l,.int c,.int s]/\0<=a/\0<=l/\0<=s/\s<2147483647/\0<=c/\c<=N
theorem Src.clo(P:Src o N):uv 0 o:=by
 obtain⟨cells,a,l,c,s,rfl,_⟩:=P.ex;exact bu (jh (dq λx _=>cz x)) (bu (cz _) (bu (cz _) (bu (cz _) (bu (cz _) gh))))
theorem Src.up(P:Src o N)(h:N<=M):Src o M:=by
 obtain⟨cells,a,l,c,s,e,h1,h2,h3,h4,h5,h6⟩:=P.ex;exact⟨cells,a,l,c,s,e,h1,h2,h3,h4,h5,by omega⟩
def au:SF:=n8 a3o 4
abbrev so(cells:List Int)(a l c s:Int):O:=.lst [.rol (cells.map D.int),.int a,.int l,.int c,.int s]
theorem age(e:h[i]? = some (.lst xs))(hj:xs[j]? = some y):amo (.ref i) (.int (j:Nat)) h=.ok y h:=by
 unfold amo;simp only[e,yr hj]
theorem b1n(e1:fo τ h=.ok o h)(e2:fi τ h=.ok i h)(e3:amo o i h=.ok x h)(e4:fe τ h=.ok y h)(e5:G x y h=.ok z h)(e6:put o i z h=some h'):a2x G fo fi fe τ h=.nx τ h':=by
 unfold a2x;rw[e1,a2y,e2,a2y,e3,a2y,e4,a2y,e5,a2y,e6]
theorem b6e(c:y<=x):gGe (.int x) (.int y) h=.ok (.bl true) h:=by show R.ok (D.bl (decide (y<=x))) h=_;rw[e8 c]
theorem b6f(c:¬ y<=x):gGe (.int x) (.int y) h=.ok (.bl false) h:=by show R.ok (D.bl (decide (y<=x))) h=_;rw[bI c]
theorem alf(P:Src o N)(hN:N<=1000000000)(m0:0<m)(m1:m<1073741824):∃r o',au [.ref 0,.int m] [o]=.ok (.int r) [o']/\0<=r/\r<m/\Src o' (N+1):=by
 obtain⟨cells,a,l,c,s,rfl,a0,l0,s0,s1,c0,c1⟩:=P.ex;unfold au;rw[ig];show ∃r o',toR (a3o [some (.ref 0),some (.int m),none,none] [so cells a l c s])=_/\_;unfold a3o;have last:∀s':Int,0<=s'->s'<2147483647->∃r q,0<=r/\r<m/\(s'+1+(c+1)*7919)^(3:Int).toNat%2147483647=q/\(q*48271+(c+1))^(2:Int).toNat%2147483629 / 64%m=r/\CMul (c+1) 7919/\CMul q 48271 /\
   (∀h,a95 (.int (s'+1+(c+1)*7919)) (.int 3) h=.ok (.int ((s'+1+(c+1)*7919)^(3:Int).toNat)) h)/\∀h,a95 (.int (q*48271+(c+1))) (.int 2) h=.ok (.int ((q*48271+(c+1))^(2:Int).toNat)) h:=λs' h0 h1=>by
  have q0:0<=(s'+1+(c+1)*7919)^(3:Int).toNat%2147483647:=fm _ (by decide)
  have q1:(s'+1+(c+1)*7919)^(3:Int).toNat%2147483647<2147483647:=eF _ (by decide)
  refine⟨_,_,fm _ (by omega),eF _ m0,rfl,rfl,.inr ⟨by decide,by decide⟩,.inr ⟨by decide,by decide⟩,λh=>ayb ⟨by decide,by decide,by omega⟩,λh=>ayb ⟨by decide,by decide,?_⟩⟩
  generalize (s'+1+(c+1)*7919)^(3:Int).toNat%2147483647=q at q0 q1
  omega
 have x0:∀{a l c s:Int},gIx (.ref 0) (.int 0) [so cells a l c s]=.ok (.rol (cells.map D.int)) [so cells a l c s]:=λ{a l c s}=>ad9 (j:=0) rfl rfl;have x1:∀{a l c s:Int},gIx (.ref 0) (.int 1) [so cells a l c s]=.ok (.int a) [so cells a l c s]:=λ{a l c s}=>ad9 (j:=1) rfl rfl;have x2:∀{a l c s:Int},gIx (.ref 0) (.int 2) [so cells a l c s]=.ok (.int l) [so cells a l c s]:=λ{a l c s}=>ad9 (j:=2) rfl rfl;have x3:∀{a l c s:Int},gIx (.ref 0) (.int 3) [so cells a l c s]=.ok (.int c) [so cells a l c s]:=λ{a l c s}=>ad9 (j:=3) rfl rfl
 have x4:∀{a l c s:Int},gIx (.ref 0) (.int 4) [so cells a l c s]=.ok (.int s) [so cells a l c s]:=λ{a l c s}=>ad9 (j:=4) rfl rfl;have u3:∀{a l c s:Int} {τ:Sd},τ[0]? = some (some (.ref 0))->a2x a2u (sV 0) (sI 3) (sI 1) τ [so cells a l c s]=.nx τ [so cells a l (c+1) s]:=λ{a l c s τ} h0=>b1n (bw h0) ckk (age (j:=3) rfl rfl) ckk a5v rfl;have u1:∀{a l c s:Int} {τ:Sd},τ[0]? = some (some (.ref 0))->a2x a2u (sV 0) (sI 1) (sI 1) τ [so cells a l c s]=.nx τ [so cells (a+1) l c s]:=λ{a l c s τ} h0=>b1n (bw h0) ckk (age (j:=1) rfl rfl) ckk a5v rfl
 have p18:∀{h:Hd},a95 (.int 10) (.int 18) h=.ok (.int 1000000000000000000) h:=λ{h}=>p18 h;have e1:∀{a l c s:Int} {t2:Option D},0<l->toR (iy (sIf (sT (s2 gGt (s2 gIx (sV 0) (sI 2)) (sI 0))) (iy (jz 3 (s2 a6b (s2 gIx (sV 0) (sI 2)) (sV 1))) (iy (a2x a8n (sV 0) (sI 2) (sV 1)) (pq (sV 3)))) sNx) (iy (jz 3 (s2 a6b (s2 a95 (s2 ie (s2 ie (s2 gIx (sV 0) (sI 4)) (sI 1)) (s2 zx (s2 gIx (sV 0) (sI 3)) (sI 7919))) (sI 3)) (sI 2147483647))) (pq (s2 a6b (s2 a8n (s2 a6b (s2 a95 (s2 ie (s2 zx (sV 3) (sI 48271)) (s2 gIx (sV 0) (sI 3))) (sI 2)) (sI 2147483629)) (sI 64)) (sV 1)))) [some (.ref 0),some (.int m),t2,none] [so cells a l c s])=.ok (.int (l%m)) [so cells a (l / m) c s]:=λ{a l c s t2} hl=>by
  refine aI toR (um (aU (ifT (t2s (vo rfl x2) ckk (ada hl))) ?_));refine aU (jw (kj (vo rfl x2) (bw rfl) (a9g m0))) ?_;refine aU (ym (b1n (bw rfl) ckk (age (j:=2) rfl rfl) (bw rfl) (div_ii ⟨m0,m1⟩) rfl)) ?_;exact jl (bw rfl)
 have e2:∀{a s':Int} {t2:Option D},0<=s'->s'<2147483647->∃r,0<=r/\r<m/\toR (iy (sIf (sT (s2 gGt (s2 gIx (sV 0) (sI 2)) (sI 0))) (iy (jz 3 (s2 a6b (s2 gIx (sV 0) (sI 2)) (sV 1))) (iy (a2x a8n (sV 0) (sI 2) (sV 1)) (pq (sV 3)))) sNx) (iy (jz 3 (s2 a6b (s2 a95 (s2 ie (s2 ie (s2 gIx (sV 0) (sI 4)) (sI 1)) (s2 zx (s2 gIx (sV 0) (sI 3)) (sI 7919))) (sI 3)) (sI 2147483647))) (pq (s2 a6b (s2 a8n (s2 a6b (s2 a95 (s2 ie (s2 zx (sV 3) (sI 48271)) (s2 gIx (sV 0) (sI 3))) (sI 2)) (sI 2147483629)) (sI 64)) (sV 1)))) [some (.ref 0),some (.int m),t2,none] [so cells a 0 (c+1) s'])=.ok (.int r) [so cells a 0 (c+1) s']:=λ{a s' t2} h0 h1=>by
  obtain⟨r,q,r0,r1,eq,er,d1,d2,d3,d4⟩:=last s' h0 h1;refine⟨r,r0,r1,?_⟩;refine eti (t2s (vo rfl x2) ckk (adb (by omega))) ?_
  refine ets (kj (kj (kj (kj (vo rfl x4) ckk a2o) (kj (vo rfl x3) ckk (a4a.trans (aJ d1))) a2o) ckk (d3 _)) ckk (a9g (by decide))) ?_
  rw[eq];refine etr (jl (kj (kj (kj (kj (kj (vo rfl (a4a.trans (aJ d2))) (vo rfl x3) a2o) ckk (d4 _)) ckk (a9g (by decide))) ckk (div_ii ⟨by decide,by decide⟩)) (bw rfl) (a9g m0))) ?_
  rw[er];rfl
 by_cases hA:l=0/\a<(cells.length:Int)
 .obtain⟨rfl,ha⟩:=hA;obtain⟨j,rfl⟩:=fZ a0;have hj:j<cells.length:=by omega
  have gx:∀{h:Hd},gIx (.rol (cells.map D.int)) (.int (j:Nat)) h=.ok (.int cells[j]) h:=λ{h}=>avw (by rw[bD,ag hj];rfl)
  have tt:∀{c s:Int} {t2 t3:Option D},adm (sT (s2 hEq (s2 gIx (sV 0) (sI 2)) (sI 0))) (sT (s2 gLt (s2 gIx (sV 0) (sI 1)) (sA vg (aj (s2 gIx (sV 0) (sI 0)) di)))) [some (.ref 0),some (.int m),t2,t3] [so cells (j:Nat) 0 c s]=.ok true [so cells (j:Nat) 0 c s]:=λ{c s t2 t3} =>
   a8j (t2s (vo rfl x2) ckk (zy rfl)) (t2s (vo rfl x1) (qg (vo rfl x0) (a5u.trans (by rw[ar]))) (ab5 ha))
  have s2':0<=(s*31+cells[j])%2147483647:=fm _ (by decide)
  have s3:(s*31+cells[j])%2147483647<2147483647:=eF _ (by decide)
  have go:∀{o':O} {g:SS},sIf (sT (s2 gGe (sV 2) (s2 a95 (sI 10) (sI 18)))) (ah7 (sV 2) (sV 0) (sI 2)) (ah7 (s2 a6b (s2 ie (s2 zx (s2 gIx (sV 0) (sI 4)) (sI 31)) (sV 2)) (sI 2147483647)) (sV 0) (sI 4)) [some (.ref 0),some (.int m),some (.int cells[j]),none] [so cells ((j:Nat)+1) 0 (c+1) s]=.nx [some (.ref 0),some (.int m),some (.int cells[j]),none] [o']->
    toR (iy (a2x a2u (sV 0) (sI 3) (sI 1)) (iy (sIf (adm (sT (s2 hEq (s2 gIx (sV 0) (sI 2)) (sI 0))) (sT (s2 gLt (s2 gIx (sV 0) (sI 1)) (sA vg (aj (s2 gIx (sV 0) (sI 0)) di))))) (iy (jz 2 (s2 gIx (s2 gIx (sV 0) (sI 0)) (s2 gIx (sV 0) (sI 1)))) (iy (a2x a2u (sV 0) (sI 1) (sI 1)) (sIf (sT (s2 gGe (sV 2) (s2 a95 (sI 10) (sI 18)))) (ah7 (sV 2) (sV 0) (sI 2)) (ah7 (s2 a6b (s2 ie (s2 zx (s2 gIx (sV 0) (sI 4)) (sI 31)) (sV 2)) (sI 2147483647)) (sV 0) (sI 4))))) sNx) g) [some (.ref 0),some (.int m),none,none] [so cells (j:Nat) 0 c s])=toR (g [some (.ref 0),some (.int m),some (.int cells[j]),none] [o']):=λ{o' g} e=>by
   refine etr (ym (u3 rfl)) ?_;refine aI toR (ym (aU (ifT tt) ?_));refine aU (jw (kj (vo rfl x0) (vo rfl x1) gx)) ?_;exact aU (ym (u1 rfl)) e
  generalize cells[j]=x at *
  by_cases hB:(1000000000000000000:Int)<=x
  .refine⟨x%m,_,(go (o':=so cells ((j:Nat)+1) x (c+1) s) (aU (ifT (t2s (bw rfl) (kj ckk ckk p18) (b6e hB))) (b02 (bw rfl) (bw rfl) ckk rfl))).trans (e1 (by omega)),fm _ (by omega),eF _ m0,⟨cells,(j:Int)+1,x / m,c+1,s,rfl,by omega,Int.ediv_nonneg (by omega) (by omega),s0,s1,by omega,by omega⟩⟩
  .obtain⟨r,r0,r1,e⟩:=e2 (a:=(j:Nat)+1) (t2:=some (.int x)) s2' s3;exact⟨r,_,(go (o':=so cells ((j:Nat)+1) 0 (c+1) ((s*31+x)%2147483647)) (aU (ifF (t2s (bw rfl) (kj ckk ckk p18) (b6f hB))) (b02 (kj (kj (kj (vo rfl x4) ckk (a4a.trans (aJ (.inr ⟨by decide,by decide⟩)))) (bw rfl) a2o) ckk (a9g (by decide))) (bw rfl) ckk rfl))).trans e,r0,r1,⟨cells,(j:Int)+1,0,c+1,_,rfl,by omega,by omega,s2',s3,by omega,by omega⟩⟩
 .have tt:adm (sT (s2 hEq (s2 gIx (sV 0) (sI 2)) (sI 0))) (sT (s2 gLt (s2 gIx (sV 0) (sI 1)) (sA vg (aj (s2 gIx (sV 0) (sI 0)) di)))) [some (.ref 0),some (.int m),none,none] [so cells a l (c+1) s]=.ok false [so cells a l (c+1) s]:=by
   by_cases hl:l=0
   .exact a8j (t2s (vo rfl x2) ckk (zy hl)) (t2s (vo rfl x1) (qg (vo rfl x0) (a5u.trans (by rw[ar]))) (a9h λz=>hA ⟨hl,z⟩))
   .exact ab4 (t2s (vo rfl x2) ckk (a0x hl))
  by_cases hC:0<l
  .exact⟨l%m,_,(aI toR (ym (u3 rfl))).trans ((aI toR (ifN tt)).trans (e1 hC)),fm _ (by omega),eF _ m0,⟨cells,a,l / m,c+1,s,rfl,a0,Int.ediv_nonneg (by omega) (by omega),s0,s1,by omega,by omega⟩⟩
  .have:l=0:=by omega
   subst this;obtain⟨r,r0,r1,e⟩:=e2 (a:=a) (t2:=none) s0 s1;exact⟨r,_,(aI toR (ym (u3 rfl))).trans ((aI toR (ifN tt)).trans e),r0,r1,⟨cells,a,0,c+1,s,rfl,a0,by omega,s0,s1,by omega,by omega⟩⟩
theorem aem(P:Src o N)(hN:N<=1000000000)(m0:0<m)(m1:m<1073741824):∃r o',Dr au 2 [.int m] o (.int r) o'/\0<=r/\r<m/\Src o' (N+1):=by
 obtain⟨r,o',e,r0,r1,P'⟩:=alf P hN m0 m1;refine⟨r,o',Dr.of rfl (by simp[cz]) P.clo e (jd (cz _) ?_) (cz _) P'.clo,r0,r1,P'⟩
 intro u hu
 simp at hu
 subst hu;exact a1j (by omega) P'.clo
end SRC
namespace EVX
open L2 MI
section
variable{i:Nat}{cs:Str->Bool}{fb fs p g:SS}{τ τ1 τ2:Sd}{h h1 h2:Hd}{c:Str}{f:SE}{ka:SA}{ds:List D}{F:SF}{n:Nat}
theorem ar5(e:f τ h=.ok (.bl b) h1):ac3 f τ h=.ok (.bl (!b)) h1:=by unfold ac3;rw[e];rfl
theorem v7(e:f τ h=.ok d h1)(e2:ka τ h1=.ok ds h2):aj f ka τ h=.ok (d::ds) h2:=by
 unfold aj;rw[e,cj,e2];rfl
theorem a2k:MI.yj [a] h=.ok (.tup [a]) h:=by unfold MI.yj;rw[aJ (ik (by simp))]
theorem a3v:MI.yj [] h=.ok (.tup []) h:=by unfold MI.yj;rw[aJ (ik (by simp))]
end
end EVX
namespace SRC
open L2 MI AT HND EVX
def j5:SF:=n8 a1a 2
theorem ints_map:∀l:List Int,a5q (l.map D.int)=some l
 |[]=>rfl
 |a::l=>by rw[aZ];simp only[a5q,ints_map l,Option.map_some]
theorem b6g(e:k τ h=.ok ds h1)(eg:g ds h1=.ok d h2):sA g k τ h=.ok d h2:=by
 unfold sA;rw[e,cj,eg]
def cell(x:Int):Int:=2*b42 x+(if decide (x<0)=true then 1 else 0)
theorem alg(ns:List Int)(h:Hd):∃o,Src o 0/\jx true 1 j5 [.scr (ns.map D.int)] h=.ok (.ref h.length) (h++[o]):=by
 have cl:clos 0 ((ns.take 63).map D.int):=dq λx _=>cz x;have z1:sZ (a1l (sV 0) oN (oS (sI 63))) [some (.scr (ns.map D.int)),none] []=.ok (.rol ((ns.take 63).map D.int)) []:=by
  refine aob (by
   show gSl (.scr (ns.map D.int)) none (some ((63:Nat):Int)) []=_;unfold gSl;simp only[aa1,List.map_take]) cl (by simp)
 have z2:sZ (a0w (sIt (sZ (a1l (sV 0) oN (oS (sI 63))))) t1 a0j []) [some (.scr (ns.map D.int)),none] []=.ok (.rol ((ns.take 63).map λx=>D.int (cell x))) []:=by
  refine aob (a3e D.int (λx=>D.int (cell x)) (ns.take 63) (a6o z1 rfl) (ik (by simp;omega)) λx _=>?_) (dq λx _=>cz _) (by simp)
  rw[a4l];unfold a0j;exact kj (kj ckk (qg (bw rfl) (ak7 _ _)) (a4a.trans (aJ (.inl ⟨by decide,by decide⟩)))) (qg (vo rfl rfl) rfl) a2o
 have em:((ns.take 63).map λx=>D.int (cell x))=((ns.take 63).map cell).map D.int:=by rw[dS];rfl
 rw[em]at z2
 generalize (ns.take 63).map cell=cs at z2
 have e:j5 [.scr (ns.map D.int)] []=.ok (.ref 0) [.lst [.rol (cs.map D.int),.int 0,.int 0,.int 0,.int (cs.sum%2147483647)]]:=by
  unfold j5;rw[ig];show toR (a1a [some (.scr (ns.map D.int)),none] [])=_;unfold a1a;refine etr (jw z2) ?_;have su:ajj [.rol (cs.map D.int)] []=.ok (.int cs.sum) []:=by unfold ajj;simp only[ints_map]
  exact aI toR (jl (b6g (v7 (bw rfl) (v7 ckk (v7 ckk (v7 ckk (v7 (kj (qg (bw rfl) su) ckk (a9g (by decide))) rfl))))) rfl))
 have P:Src (.lst [.rol (cs.map D.int),.int 0,.int 0,.int 0,.int (cs.sum%2147483647)]) 0:=⟨cs,0,0,0,_,rfl,by decide,by decide,fm _ (by decide),eF _ (by decide),by decide,by decide⟩
 exact⟨_,P,aya rfl (by simpa[MI.clo] using (dq λx _=>cz x:clos 0 (ns.map D.int))) e rfl P.clo h⟩
def m7:SF:=n8 a0k 1
theorem ab3:Pu m7 0 [] (.str (S sig)):=HND.ab3
def jc:SF:=n8 (a1b au m7) 5
theorem ar6{a b:List Nat}(l:a.length+b.length<=LINE):a2u (.str (S a)) (.str (S b)) h=.ok (.str (S (a++b))) h:=by
 have:=aek (h:=h) l
 simpa[a2u,ie,b5c] using this
theorem apb(e:f τ h=.ok (.int i) h1):oS f τ h=.ok (some i) h1:=by unfold oS;rw[e];rfl
theorem apc(e:f τ h=.ok d h1)(e1:lo τ h1=.ok a h2)(e2:hi τ h2=.ok b h3)(e3:ado d a b h3=.ok v h4):a1l f lo hi τ h=.ok v h4:=by
 unfold a1l;rw[e,cj,e1,cj,e2,cj,e3]
theorem alh(P:Src o N)(hN:N<=999999000):∃l o',Tongue l/\Dr jc 1 [] o (.str (S l)) o'/\Src o' (N+7):=by
 obtain⟨r0,o1,e1,r0a,r0b,P1⟩:=aem (m:=6) P (by omega) (by decide) (by decide)
 have lo:=a0z (g:=kN 3) (b:=a0l au m7) (λi:Nat=>D.int (0+(i:Nat)))
  (λpre τ h=>∃(aG told:List Nat) (u:O) (t3 t4:Option D),τ=[some (.ref 0),some (.str (S aG)),some (.str (S told)),t3,t4]/\h=[u]/\Src u (N+1+pre.length)/\told.length=pre.length/\(told++aG).length=95/\(told++aG).Nodup/\∀c∈told++aG,c∈sig)
  (List.range (1+r0).toNat) [some (.ref 0),some (.str (S sig)),some (.str (S [])),none,none] [o1] ?_
  ⟨sig,[],o1,none,none,rfl,rfl,P1,rfl,by simp[aus],by simpa using azz,by simp⟩
 .obtain⟨τ',h',e2,aG,told,u,t3,t4,rfl,rfl,P2,l1,l2,nd,sb⟩:=lo;rw[cV]at P2 l1;have T:Tongue told:=⟨by omega,by omega,(cK.mp nd).1,λc hc=>sb c (de _ hc)⟩
  refine⟨told,u,T,Dr.of rfl (by simp) P.clo (r:=.ok (.str (S told)) [u]) ?_ (jd (dz _) (by simpa using a1j (by omega) P2.clo)) (dz _) P2.clo,P2.up (by omega)⟩
  unfold jc;rw[ig];show toR (a1b au m7 [some (.ref 0),none,none,none,none] [o])=_;unfold a1b;have c2:jx false 2 au [.ref 0,.int 6] [o]=.ok (.int r0) [o1]:=e1 0 [o] rfl;have bd:B62 (1+r0):=by unfold B62;omega
  refine ets (b01 (ab3 _)) ?_;refine etr (jw ckk) ?_;have it:sRg a5n (aj (s2 ie (sI 1) (sA (jx false 2 au) (aj (sV 0) (aj (sI 6) di)))) di) [some (.ref 0),some (.str (S sig)),some (.str ""),none,none] [o]=.ok ⟨rng 0 (1+r0).toNat,λ_=>True⟩ [o1]:=by
   unfold sRg;rw[arg1 (kj ckk (vm (bw rfl) ckk c2) a2o),cj];exact aJ bd
  refine etr (a4m it) ?_;refine aU (aI (λz=>toR (MI.thn z _)) e2) ?_;exact aI toR (jl (bw rfl))
 .rintro pre i post τ h all ⟨aG,told,u,t3,t4,rfl,rfl,P2,l1,l2,nd,sb⟩
  have aH:pre.length<(1+r0).toNat:=by
   have:=aI List.length all
   simp at this;omega
  rw[ah]at l2;obtain⟨r,u',e2,ra,rb,P3⟩:=aem (m:=(aG.length:Nat)) P2 (by omega) (by omega) (by omega)
  obtain⟨j,rfl⟩:=fZ ra;have hj:j<aG.length:=by omega
  have gx:aG[j]? = some aG[j]:=ag hj;have pp:=ad6 told aG j aG[j] gx;refine⟨_,_,rfl,_,_,?_,aG.take j++aG.drop (j+1),told++[aG[j]],u',some (.int (0+(i:Nat))),some (.int (j:Nat)),rfl,rfl,by simpa[cT] using P3,by simp[l1],?_,pp.nodup_iff.mp nd,λc hc=>sb c (pp.mem_iff.mpr hc)⟩
  .unfold a0l;have L:∀n:Nat,n<=95->n<=LINE:=λn hn=>by show n<=16777216;omega
   have c2:=e2 0 [u] rfl;have x1:∀h,gIx (.str (S aG)) (.int (j:Nat)) h=.ok (.str (S [aG[j]])) h:=λh=>b1f (L _ (by omega)) gx
   have x2:∀h,vg [.str (S aG)] h=.ok (.int aG.length) h:=λh=>a8t (L _ (by omega))
   have x3:∀h,a2u (.str (S told)) (.str (S [aG[j]])) h=.ok (.str (S (told++[aG[j]]))) h:=λh=>ar6 (L _ (by simp;omega))
   have x4:∀h,ado (.str (S aG)) none (some (j:Int)) h=.ok (.str (S (aG.take j))) h:=λh=>b1g j (L _ (by omega))
   have x5:∀h,ado (.str (S aG)) (some ((j:Int)+1)) none h=.ok (.str (S (aG.drop (j+1)))) h:=λh=>ag9 (j+1) (L _ (by omega))
   have x6:∀h,ie (.str (S (aG.take j))) (.str (S (aG.drop (j+1)))) h=.ok (.str (S (aG.take j++aG.drop (j+1)))) h:=λh=>aek (L _ (by simp;omega))
   have c2:jx false 2 au [.ref 0,.int (aG.length:Nat)] [u]=.ok (.int (j:Nat)) [u']:=c2;refine aU (jw (vm (bw rfl) (qg (bw rfl) (x2 _)) c2)) ?_;refine aU (ym (apa rfl (kj (bw rfl) (bw rfl) (x1 _)) (x3 _))) ?_;exact agb (kj (apc (bw rfl) rfl (apb (bw rfl)) (x4 _)) (apc (bw rfl) (apb (vo rfl a2o)) rfl (x5 _)) (x6 _))
  .rw[<-pp.length_eq];simpa using l2
end SRC
namespace PN
open L2 MI AT HND EVX
end PN
namespace HND
open L2 MI AT
abbrev bz(i:Nat):D:=.int (i:Nat)
structure Table where
 tg:List Nat
 go:List (List Nat)
 ks:List Int
end HND
namespace PAP
open L2 MI AT HND
theorem av1(e:f τ h=.ok (.bl false) h1):a4f f k τ h=.ok (.bl false) h1:=by unfold a4f;rw[e,cj]
theorem a5j(e:f τ h=.ok (.int i) h1):oS f τ h=.ok (some i) h1:=by unfold oS;rw[e];rfl
theorem a75(e:f τ h=.ok d h1)(e1:lo τ h1=.ok a h2)(e2:hi τ h2=.ok b h3)(e3:ado d a b h3=.ok v h4):a1l f lo hi τ h=.ok v h4:=by
 unfold a1l;rw[e,cj,e1,cj,e2,cj,e3]
theorem b33(xs:List D)(lo hi:Option Int)(h:Hd):ado (.tup xs) lo hi h=.ok (.tup (a5i xs lo hi)) h:=by
 unfold ado;dsimp only
 split
 .rename_i w;obtain⟨a,b⟩:=w
  congr 2
  unfold a5i;rw[a,b,i6,cC (by omega)]
 .rfl
theorem aen(xs:List D)(k:Nat)(h:Hd):ado (.tup xs) none (some (k:Int)) h=.ok (.tup (xs.take k)) h:=by rw[b33,aa1]
theorem a0t(xs:List D)(k:Nat)(h:Hd):ado (.tup xs) (some (k:Int)) none h=.ok (.tup (xs.drop k)) h:=by rw[b33,a4r]
theorem a3w{xs ys:List D}(z:xs.length+ys.length<=1000000):ie (.tup xs) (.tup ys) h=.ok (.tup (xs++ys)) h:=by
 cases xs with
 |nil=>rfl
 |cons x xs =>
  show(if (x::xs).length+ys.length<=LINE then R.ok (D.tup (x::xs++ys)) h else .no)=_
  rw[aJ (ik z)]
theorem a2k:MI.yj [a] h=.ok (.tup [a]) h:=by unfold MI.yj;rw[aJ (ik (by simp))]
theorem a3v:MI.yj [] h=.ok (.tup []) h:=by unfold MI.yj;rw[aJ (ik (by simp))]
theorem v7(e:f τ h=.ok d h1)(e2:k τ h1=.ok ds h2):aj f k τ h=.ok (d::ds) h2:=by
 unfold aj;rw[e,cj,e2,cj]
theorem aof(e:k τ h=.ok ds h1)(e2:G ds h1=.ok v h2):sA G k τ h=.ok v h2:=by
 unfold sA;rw[e,cj,e2]
theorem a03{h h':Hd}(hl:h'.length=h.length)(e:f τ h=.ok (.ref h'.length) (h'++[.lst xs]))(cx:clos h.length xs)(c:∀o∈h',uv h.length o):sZ f τ h=.ok (.rol xs) h':=by
 unfold sZ;rw[e,a4z (by omega) (by simp) cx (by rw[<-hl];simpa[hl] using c)]
 rw[<-hl];simp
end PAP
def aoo:=@PAP.aof
def cns:=@PAP.v7
namespace BF
section
variable(s:Nat)(step:Nat->Nat->Nat)(K:Nat->Bool)
def fl:Nat->Nat->Bool
 |0,r=>K r
 |k+1,r=>(List.range s).any λc=>fl k (step r c)
variable{s step K}
end
theorem agf:∀(n:Nat) (l:List Nat),l.Nodup->(∀x∈l,x<n)->l.length<=n
 |0,l,_,h=>by
  cases l with
  |nil=>exact aw _
  |cons x l=>exact absurd (h x bB) (by omega)
 |n+1,l,nd,h=>by
  have:=agf n (l.erase n) (nd.erase n) λx hx=>by
   have h1:=h x (List.mem_of_mem_erase hx);have h2:x≠n:=λz=>by subst z;exact(List.Nodup.not_mem_erase nd) hx
   omega
  have:=List.length_erase (a:=n) (l:=l)
  split at this<;>omega
end BF
namespace SRC
open L2 MI AT HND EVX
abbrev cst(l:List Nat):List Int:=l.map λx:Nat=>(x:Int)
theorem aeo(l:List Nat):l.map bz=(cst l).map D.int:=by unfold cst;rw[dS];rfl
theorem a9i(l:List Nat):∃m:List Nat,PySem.W.sortI (cst l)=cst m/\m.Perm l/\m.Pairwise (·<=·):=by
 have p:=PySem.W.sortI_perm (cst l);have s:=PySem.W.sortI_rises (cst l);refine⟨(PySem.W.sortI (cst l)).map Int.toNat,?_,?_,?_⟩
 .unfold cst;rw[dS];have:∀x∈PySem.W.sortI (l.map λx:Nat=>(x:Int)),((λx:Nat=>(x:Int)) ∘ Int.toNat) x=x:=λx hx=>by
   have:=p.mem_iff.mp hx
   obtain⟨y,_,rfl⟩:=cf.mp this;simp
  rw[dG this];simp
 .have:=p.map Int.toNat
  have e:(cst l).map Int.toNat=l:=by
   unfold cst;rw[dS];exact(dG λx _=>by simp).trans (List.map_id l)
  rwa[e]at this
 .rw[List.pairwise_map];exact s.imp λh=>by omega
def pos(m:List Nat)(x:Nat):Nat:=(ixI (x:Int) (cst m)).getD 0
end SRC
namespace K22
open L2 MI AT HND
section
variable(T:Table)
def knd(r:Nat):Bool:=decide ((T.ks[r]?).getD (-1) ≠ -1)
end
end K22
namespace PN
open L2 MI AT HND EVX K22
end PN
namespace EVT
open L2 MI AT HND
section
variable{f g k f1 f2 f3:SE}{ka:SA}{c c1 c2:ST}{τ:Sd}{h h1 h2 h3:Hd}{a b d v:D}{i:Nat}{t u:Bool}{xs ys ds:List D}
theorem b34:di τ h=.ok [] h:=rfl
theorem b6h:oN τ h=.ok none h:=rfl
theorem PuE(p:Pu F n ds d):jx false n F ds h=.ok d h:=p h
theorem b6i(p:Dr F n ds o d o'):jx false n F (.ref 0::ds) (o::h)=.ok d (o'::h):=p 0 (o::h) rfl
theorem a4n(hv:n<xs.length):gIx (.rol xs) (.int (n:Nat)) h=.ok (xs.getD n .non) h:=avw (by rw[dA,ag hv];rfl)
theorem a4o(hv:n<xs.length):gIx (.tup xs) (.int (n:Nat)) h=.ok (xs.getD n .non) h:=agc (by rw[dA,ag hv];rfl)
theorem b03:vg [.tup xs] h=.ok (bz xs.length) h:=rfl
theorem yq:vg [.rol xs] h=.ok (bz xs.length) h:=rfl
theorem b6j(e:f τ h=.ok (.bl true) h1):ai6 f g τ h=.ok (.bl true) h1:=by unfold ai6;rw[e,cj]
theorem b6k(e:f τ h=.ok (.bl false) h1)(e':g τ h1=.ok d h2):ai6 f g τ h=.ok d h2:=by unfold ai6;rw[e,cj];exact e'
theorem b4l(e:c τ h=.ok true h1)(e':f τ h1=.ok d h2):ady c f g τ h=.ok d h2:=by unfold ady;rw[e,cj,aJ rfl,e']
theorem b4m(e:c τ h=.ok false h1)(e':g τ h1=.ok d h2):ady c f g τ h=.ok d h2:=by unfold ady;rw[e,cj,ba (by simp),e']
theorem avx(e:f τ h=R.ok (D.ref h1.length) (h1++[.lst xs]))(hl:h1.length=h.length)(cx:clos 0 xs)(co:∀o∈h1,uv 0 o):sZ f τ h=.ok (.rol xs) h1 :=
 PAP.a03 hl e (xx (bb _) cx) λo ho=>a1j (bb _) (co o ho)
theorem b04(e:ka τ h=.ok ds h1)(hl:h1.length=h.length)(cd:clos 0 ds)(co:∀o∈h1,uv 0 o)(z:ds.length<=1000000):sZ (sA MI.xq ka) τ h=.ok (.rol ds) h1:=by
 refine avx ?_ hl cd co;unfold sA;rw[e,cj];unfold MI.xq;exact aJ (ik z)
theorem vp(e:f τ h=.ok (.tup xs) h1)(hl:h1.length=h.length)(cd:clos 0 xs)(co:∀o∈h1,uv 0 o):sZ (sA a6l (aj f di)) τ h=.ok (.rol xs) h1:=avx (qg e rfl) hl cd co
theorem wy(e:f τ h=.ok (.str (S l)) h1)(hl:h1.length=h.length)(co:∀o∈h1,uv 0 o)(z:l.length<=1000000):sZ (sA a6l (aj f di)) τ h=.ok (.rol (l.map λc=>.str (S [c]))) h1:=by
 refine avx (qg e ?_) hl (dq λ_ _=>dz _) co;show(if (S l).length<=LINE then R.ok (D.ref h1.length) (h1++[O.lst (a01 (S l))]) else R.no)=_
 rw[aJ (ik (by rw[aay];exact z))]
 unfold a01;rw[aax]
theorem wg(e1:f τ h=.ok (.rol xs) h1)(e2:g τ h1=.ok (.rol ys) h2)(hl:h2.length=h.length)(c1:clos 0 xs)(c2:clos 0 ys)(co:∀o∈h2,uv 0 o)(z:xs.length+ys.length<=1000000):sZ (s2 ie f g) τ h=.ok (.rol (xs++ys)) h2:=by
 refine avx (kj e1 e2 ?_) hl (jo.mpr λx hx=>(bq.mp hx).elim (jo.mp c1 x) (jo.mp c2 x)) co;rw[ae7 (xs:=xs) (ys:=ys) rfl rfl,aJ (ik z)]
theorem a04{k:Int}(e1:f τ h=.ok (.rol xs) h1)(e2:g τ h1=.ok (.int k) h2)(hl:h2.length=h.length)(c1:clos 0 xs)(co:∀o∈h2,uv 0 o)(z:xs.length*k.toNat<=1000000)(zn : -1000000<=k/\k<=1000000):sZ (s2 zx f g) τ h=.ok (.rol (List.replicate k.toNat xs).flatten) h2:=by
 refine avx (kj e1 e2 ?_) hl (jo.mpr λx hx=>?_) co
 .have:zx (.rol xs) (.int k) h2=if (-(2^63)<=k/\k<2^63)/\xs.length*k.toNat<=LINE then .ok (.ref h2.length) (h2++[.lst (List.replicate k.toNat xs).flatten]) else .no:=rfl
  rw[this,aJ ⟨by omega,ik z⟩]
 .obtain⟨l,hl,hx⟩:=iU.mp hx;rw[(List.mem_replicate.mp hl).2]at hx;exact jo.mp c1 x hx
theorem zr(co:∀o∈h,uv 0 o):sZ anv τ h=.ok (.rod [] []) h:=by
 unfold sZ;show aaf h.length (.ok (.ref h.length) (h++[.dK []]))=_;rw[a7w (d':=.rod [] []) ?_ ?_]
 .simp
 .unfold FU a2v;rw[ba (by simp only[MI.clo];omega)]
  simp[a1u]
 .simp only[List.take_left'];exact λo ho=>a1j (bb _) (co o ho)
theorem wz:(List.replicate n xs).flatten.length=n*xs.length:=by simp
theorem p6(c1:clos i xs)(c2:clos i ys):clos i (xs++ys):=jo.mpr λx hx=>(bq.mp hx).elim (jo.mp c1 x) (jo.mp c2 x)
theorem m8(c:clos i xs):clos i (xs.take n):=jo.mpr λx hx=>jo.mp c x (eM hx)
theorem m9(c:clos i xs):clos i (xs.drop n):=jo.mpr λx hx=>jo.mp c x (fD hx)
theorem u6(c:clos i xs):clos i (List.replicate n xs).flatten:=jo.mpr λx hx=>by
 obtain⟨l,hl,hx⟩:=iU.mp hx;rw[(List.mem_replicate.mp hl).2]at hx;exact jo.mp c x hx
theorem u9(c:clos i xs):clo i (xs.getD n .non):=by
 rw[dA]
 cases e:xs[n]? with
 |none=>exact rm
 |some x=>exact jo.mp c x (bG e)
theorem uc:clo i (.rod [] []):=by simp[clo,clos]
theorem av2:∀u∈([]:List O),uv 0 u:=λu hu=>by cases hu
theorem xf(c:uv 0 o):∀u∈[o],uv 0 u:=λu hu=>by rw[ax]at hu;subst hu;exact c
end
def wth(ws:List D)(k:Nat)(d:D):List D:=ws.take k++[d]++ws.drop (k+1)
theorem ud(c:clos i ws)(cd:clo i d):clos i (wth ws k d):=p6 (p6 (m8 c) (bu cd gh)) (m9 c)
theorem b05{α:Type}(l:List α):a5i l none (some (-1))=l.take (l.length-1):=by
 unfold a5i;rw[HT.a9w,i6,Nat.sub_zero]
 congr 1
 unfold HT.sIx;simp;omega
theorem a4p(ys:List D)(hh:Hd):ado (.tup ys) none (some (-1)) hh=.ok (.tup (ys.take (ys.length-1))) hh:=by rw[PAP.b33,b05]
end EVT
def zds:=@EVT.b04
def ltn:=@EVT.b03
def onn:=@EVT.b6h
def zrl:=@EVT.avx
def drz:=@EVT.b6i
def nlc:=@EVT.av2
def nlo:=@EVT.b34
namespace K76
open L2 MI AT HND
theorem b06:∀ls:List (List Nat),Txt.join (S []) (ls.map S)=S ls.flatten:=by
 have e:∀zs:List Str,Txt.join (S []) zs=Str.join (S []) zs:=PySem.StrLaws.glued_eq_join (S []);have st:∀(x y:Str) (r:List Str),Str.join (S []) (x::y::r)=x++S []++Str.join (S []) (y::r):=λ_ _ _=>rfl
 intro ls
 rw[e]
 induction ls with
 |nil=>rfl
 |cons l ls ih =>
  cases ls with
  |nil=>rw[aZ,cM,cv,List.flatten_nil,bE];rfl
  |cons m ls =>
   rw[aZ,aZ,st,<-aZ,ih,aur,aur,bE,cv (l:=l)]
theorem ar7:∀ls:List (List Nat),a8p (ls.map λl=>D.str (S l))=some (ls.map S)
 |[]=>rfl
 |l::ls=>by
  show(a8p (ls.map λl=>D.str (S l))).map _=_;rw[ar7 ls];rfl
theorem b6l(ls:List (List Nat)):((ls.map S).map (·.length)).sum=ls.flatten.length:=by
 induction ls with
 |nil=>rfl
 |cons l ls ih=>rw[aZ,aZ,jJ,ih,cv,ah,aay]
theorem b07{ls:List (List Nat)}(z:ls.flatten.length<=1000000):ach (.str (S [])) [.rol (ls.map λl=>.str (S l))] h=.ok (.str (S ls.flatten)) h:=by
 unfold ach;simp only[ar7,b6l,aay,bK,Nat.mul_zero,Nat.add_zero,b06];rw[aJ (by omega)]
theorem b4n(e1:f τ h=.ok (.str z) h1)(e2:k τ h1=.ok ds h2)(e3:g (.str z) ds h2=.ok v h3):sMS g f k τ h=.ok v h3:=by
 unfold sMS;rw[e1,cj];dsimp only;rw[e2,cj,e3]
end K76
namespace MI
open L2 SRC HND
theorem ali{y:Nat}:(y:Int)∈cst l↔y∈l:=by
 unfold cst;rw[cf]
 constructor
 .rintro⟨x,hx,e⟩;have:x=y:=by omega
  subst this;exact hx
 .intro h;exact⟨y,h,rfl⟩
theorem alj(l:List Nat)(y:Nat):stepK (cst l) (y:Int)=cst (stepK l y):=by
 unfold L2.stepK
 by_cases h:y∈l
 .rw[aJ h,aJ (ali.mpr h)]
 .rw[ba h,ba λz=>h (ali.mp z)];unfold cst;rw[bF];rfl
structure Fw (n:Nat) (l:List Nat):Prop where
 nd:l.Nodup
 lt:∀x∈l,x<n
theorem Fw.nil:Fw n []:=⟨i9,by simp⟩
theorem Fw.len(h:Fw n l):l.length<=n:=BF.agf n l h.nd h.lt
theorem Fw.step(M:Fw n l)(hx:x<n):Fw n (stepK l x):=by
 unfold L2.stepK
 by_cases h:x∈l
 .rw[aJ h];exact M
 rw[ba h];refine⟨?_,λy hy=>?_⟩
 .rw[cK];refine⟨M.nd,by simp,λa ha b hb=>?_⟩
  rw[ax]at hb;subst hb;exact λe=>h (e ▸ ha)
 .rcases bq.mp hy with z|z
  .exact M.lt y z
  .rw[ax]at z;subst z;exact hx
theorem apd{x y:Nat}:y∈stepK l x↔y∈l\/y=x:=by
 unfold L2.stepK
 by_cases h:x∈l
 .rw[aJ h];exact⟨.inl,λz=>z.elim id λe=>e ▸ h⟩
 .rw[ba h,bq,ax]
theorem Fw.fold:∀{r l:List Nat},Fw n l->(∀x∈r,x<n)->Fw n (r.foldl stepK l)
 |[],_,h,_=>h
 |x::r,l,h,k=>Fw.fold (r:=r) (h.step (k x bB)) λy hy=>k y (aW _ hy)
theorem agg:∀{r l:List Nat},y∈r.foldl stepK l↔y∈l\/y∈r
 |[],l=>by simp
 |x::r,l=>by
  rw[gS,agg (r:=r),apd,aL]
  constructor
  .rintro((h|h)|h)
   .exact .inl h
   .exact .inr (.inl h)
   .exact .inr (.inr h)
  .rintro(h|h|h)
   .exact .inl (.inl h)
   .exact .inl (.inr h)
   .exact .inr h
end MI
namespace ENG
open L2 MI
abbrev Rl:=Nat->Nat->Prop
open Classical in
def fl(n:Nat)(R:Rl)(a:Nat):List Nat:=(List.range (n+1)).filter λe=>decide (R a e)
theorem a4b{n a e:Nat}{R:Rl}:e∈fl n R a↔e<=n/\R a e:=by
 unfold fl;simp only[cG,dH,eh];exact⟨λ⟨h1,h2⟩=>⟨by omega,h2⟩,λ⟨h1,h2⟩=>⟨by omega,h2⟩⟩
theorem b36{n a:Nat}{R:Rl}:(fl n R a).Nodup:=List.Pairwise.filter _ List.nodup_range
theorem av3{n a:Nat}{R:Rl}:(fl n R a).Pairwise (·<=·):=by
 refine List.Pairwise.filter _ ?_;exact(List.pairwise_lt_range (n:=n+1)).imp λh=>hR h
theorem a6g{n a:Nat}{R:Rl}:(fl n R a).length<=n+1:=by
 have:=dU (λe=>@decide (R a e) (Classical.propDecidable _)) (List.range (n+1))
 rw[cV]at this;exact this
theorem aep{n a:Nat}{R:Rl}{ts:List Nat}(nd:ts.Nodup)(st:ts.Pairwise (·<=·))(m:∀e,e∈ts↔e<=n/\R a e):ts=fl n R a:=by
 have p:ts.Perm (fl n R a):=(List.perm_ext_iff_of_nodup nd b36).mpr λe=>by rw[m,a4b]
 exact p.eq_of_pairwise (λx y _ _ h1 h2=>Nat.le_antisymm h1 h2) st av3
def cmp(P R:Rl):Rl:=λa e=>∃b,P a b/\R b e
def chn(Rs:List Rl):Rl:=Rs.foldl cmp (· = ·)
def pw(R:Rl):Nat->Rl
 |0=>(· = ·)
 |k+1=>cmp (pw R k) R
def star(R:Rl):Rl:=λa e=>∃k,pw R k a e
def btw(R:Rl)(lo hi:Nat):Rl:=λa e=>∃k,lo<=k/\k<=hi/\pw R k a e
end ENG
namespace MI
open L2 SRC HND
theorem ade:∀(r l:List Nat),(cst r).foldl stepK (cst l)=cst (r.foldl stepK l)
 |[],l=>rfl
 |x::r,l=>by
  show(cst r).foldl stepK (stepK (cst l) (x:Int))=_;rw[alj];exact ade r _
theorem ape{l:List Nat}{d:D}{n:Nat}(hn:n<=60)(lt:∀y∈l,y<n)(ll:l.length<=4000){h:Hd}(e:aks d h=some (cst l)) :
  ∃ts:List Nat,Fw n ts/\ts.Pairwise (·<=·)/\(∀y,y∈ts↔y∈l)/\akt d h=.ok (.ref h.length) (h++[.lst (ts.map bz)]):=by
 obtain⟨m,em,pm,sm⟩:=a9i (l.foldl stepK []);have F:Fw n (l.foldl stepK []):=Fw.fold .nil lt;refine⟨m,⟨pm.nodup_iff.mpr F.nd,λx hx=>F.lt x (pm.mem_iff.mp hx)⟩,sm,λy=>?_,?_⟩
 .rw[pm.mem_iff,agg];simp
 .unfold akt;rw[e];have fl:=F.len;have cl:(cst l).length<=4000:=by unfold cst;rw[ar];exact ll
  simp only[aJ cl];have:(cst l).foldl stepK []=cst (l.foldl stepK []):=ade l [];rw[this];unfold b2v;rw[aJ (by unfold cst;rw[ar];omega),em,<-aeo]
theorem adf:∀l:List Nat,a5q (l.map bz)=some (cst l)
 |[]=>rfl
 |x::l=>by
  show(a5q (l.map bz)).map _=_;rw[adf l];rfl
theorem alk(l:List Nat)(h:Hd):aks (.rol (l.map bz)) h=some (cst l):=adf l
end MI
namespace SHD
open L2 MI AT HND EVX
open PAP hiding v7 a2k a3v a03 aof
def Dr2(F:SF)(n:Nat)(ds:List D)(o p:O)(d:D)(o' p':O):Prop:=∀i j h,i≠j->h[i]? = some o->h[j]? = some p->jx false n F (.ref i::.ref j::ds) h=.ok d ((h.set i o').set j p')
theorem Dr2.of{F:SF}{n:Nat}{ds:List D}{o o' p p':O}{r:R D}{d:D}(hn:ds.length+2=n)(cd:∀x∈ds,clo 0 x)(co:uv 0 o)(cp:uv 0 p)(e:F (.ref 0::.ref 1::ds) [o,p]=r)(z:aaf 2 r=.ok d [o',p'])(c:clo 0 d)(co':uv 0 o')(cp':uv 0 p'):Dr2 F n ds o p d o' p':=λi j h ne hi hj=>by
 obtain⟨p1,_,p3⟩:=a5a cd;have e1:a1x (.ref i::.ref j::ds)=[i,j]:=by
  have:a1x (.ref i::.ref j::ds)=i::j::a1x ds:=rfl
  rw[this,p1]
 have e2:a1i 0 (.ref i::.ref j::ds)=.ref 0::.ref 1::ds:=by
  have:a1i 0 (.ref i::.ref j::ds)=.ref 0::.ref 1::a1i 2 ds:=rfl
  rw[this,p3]
 unfold jx;rw[aJ (by simpa using hn)]
 unfold atf;rw[e1];simp only[a1u,hi,hj,aN,bK,cP,fR,i5,Nat.reduceAdd];have all:∀x∈(D.ref i::.ref j::ds),clo 0 x\/isRef x:=λx hx=>by
  rcases aL.mp hx with rfl|hx
  .exact .inr ⟨i,rfl⟩
  rcases aL.mp hx with rfl|hx
  .exact .inr ⟨j,rfl⟩
  .exact .inl (cd x hx)
 rw[aJ ⟨by simp[ne],all,λu hu=>by simp only[aL,bg,cW]at hu;rcases hu with rfl|rfl;exact co;exact cp⟩,e2,e,z]
 simp[c,co',cp',xm]
theorem b37{F:SF}{n:Nat}{ds:List D}{o o' p p':O}{d:D}{h:Hd}(q:Dr2 F n ds o p d o' p'):jx false n F (.ref 0::.ref 1::ds) (o::p::h)=.ok d (o'::p'::h):=q 0 1 (o::p::h) (by decide) rfl rfl
inductive Sh where
 |one (s:List Nat)|row (ps:List Sh)|eit (ps:List Sh)|many (p:Sh)|tim (p:Sh) (lo hi:Nat)
mutual
def sd:Sh->D
 |.one s=>.tup [.str "one",.str (S s)]
 |.row ps=>.tup [.str "row",.tup (sds ps)]
 |.eit ps=>.tup [.str "either",.tup (sds ps)]
 |.many p=>.tup [.str "many",sd p]
 |.tim p lo hi=>.tup [.str "times",sd p,bz lo,bz hi]
def sds:List Sh->List D
 |[]=>[]
 |p::ps=>sd p::sds ps
end
theorem a3g:∀ps,sds ps=ps.map sd
 |[]=>by rw[sds];rfl
 |p::ps=>by rw[sds,a3g ps];rfl
def abh(tg:List Nat):Nat->Sh->Prop
 |0,_=>False
 |n+1,s=>match s with
  |.one s=>1<=s.length/\s.length<=6/\∀c∈s,c∈tg
  |.row ps=>ps.length<=6/\∀p∈ps,abh tg n p
  |.eit ps=>1<=ps.length/\ps.length<=6/\∀p∈ps,abh tg n p
  |.many p=>abh tg n p
  |.tim p lo hi=>lo<=hi/\hi<=4/\abh tg n p
mutual
theorem a1f:∀p,MI.clo 0 (sd p)
 |.one s=>by rw[sd];exact gj (bu (dz _) (bu (dz _) gh))
 |.row ps=>by rw[sd];exact gj (bu (dz _) (bu (gj (a5x ps)) gh))
 |.eit ps=>by rw[sd];exact gj (bu (dz _) (bu (gj (a5x ps)) gh))
 |.many p=>by rw[sd];exact gj (bu (dz _) (bu (a1f p) gh))
 |.tim p lo hi=>by rw[sd];exact gj (bu (dz _) (bu (a1f p) (bu (cz _) (bu (cz _) gh))))
theorem a5x:∀ps,clos 0 (sds ps)
 |[]=>by rw[sds];exact gh
 |p::ps=>by rw[sds];exact bu (a1f p) (a5x ps)
end
def bnd:Nat->Nat
 |0=>200
 |d+1=>7*bnd d
theorem alm:∀d,200<=bnd d
 |0=>by decide
 |d+1=>by have:=alm d;rw[bnd];omega
theorem aeq(x:Int):uv 0 (.lst [.int x]):=bu (cz _) gh
theorem av4{o p:O}(c:uv 0 o)(c':uv 0 p):∀u∈[o,p],uv 0 u:=λu hu=>by
 simp only[aL,bg,cW]at hu
 rcases hu with rfl|rfl
 .exact c
 .exact c'
theorem b6m{d:D}{o p:O}{h:Hd}(c:MI.clo 0 d)(co:uv 0 o)(cp:uv 0 p):aaf 2 (.ok d (o::p::h))=.ok d [o,p]:=jd (afr (by omega) c) (by
 intro u hu
 simp only[List.take_succ_cons,i8]at hu;exact a1j (by omega) (av4 co cp u hu))
theorem b6n{a b c d:D}{h:Hd}:MI.yj [a,b,c,d] h=.ok (.tup [a,b,c,d]) h:=by unfold MI.yj;rw[aJ (ik (by simp))]
theorem ue{xs:List D}{h:Hd}:vy [.rol xs] h=.ok (.tup xs) h:=rfl
theorem ixp{o:O}{v:D}{h:Hd}:gIx (.ref 1) (.int 0) (o::.lst [v]::h)=.ok v (o::.lst [v]::h):=rfl
theorem subn{n:Nat}{h:Hd}:MI.a77 (.int ((n+1:Nat):Int)) (.int 1) h=.ok (bz n) h:=by
 rw[vz,show((n+1:Nat):Int)-1=(n:Int) by omega]
theorem a9j{x y:Int}{h:Hd}:ie (.int x) (.int y) h=.ok (.int (x+y)) h:=rfl
section
variable{a b c d:D}{xs:List D}{h:Hd}
theorem ix0:gIx (.tup (a::xs)) (.int 0) h=.ok a h:=agc (j:=0) rfl
theorem ix1:gIx (.tup (a::b::xs)) (.int 1) h=.ok b h:=agc (j:=1) rfl
theorem ix2:gIx (.tup (a::b::c::xs)) (.int 2) h=.ok c h:=agc (j:=2) rfl
theorem ix3:gIx (.tup (a::b::c::d::xs)) (.int 3) h=.ok d h:=agc (j:=3) rfl
theorem aer{x:Str}:hEq (.str x) (.str x) h=.ok (.bl true) h:=by rw[azx,eX]
theorem aes{x y:Str}(e:(x == y)=false):hEq (.str x) (.str y) h=.ok (.bl false) h:=by rw[azx,e]
theorem aet{x y:Str}(e:(x == y)=false):hNe (.str x) (.str y) h=.ok (.bl true) h:=by rw[azy,e];rfl
theorem aeu{x:Str}:hNe (.str x) (.str x) h=.ok (.bl false) h:=by rw[azy,eX];rfl
end
inductive All2 {α β:Type} (Q:α->β->Prop):List α->List β->Prop
 |nil:All2 Q [] []
 |cons {x:α} {y:β} {xs:List α} {ys:List β} (h:Q x y) (t:All2 Q xs ys):All2 Q (x::xs) (y::ys)
theorem All2.snoc{α β:Type}{Q:α->β->Prop}{x:α}{y:β}(h:Q x y):∀{xs:List α} {ys:List β},All2 Q xs ys->All2 Q (xs++[x]) (ys++[y])
 |_,_,.nil=>.cons h .nil
 |_,_,.cons q t=>.cons q (All2.snoc h t)
theorem All2.len{α β:Type}{Q:α->β->Prop}:∀{xs:List α} {ys:List β},All2 Q xs ys->ys.length=xs.length
 |_,_,.nil=>rfl
 |_,_,.cons _ t=>by rw[aN,aN,t.len]
theorem All2.rt{α β:Type}{Q:α->β->Prop}:∀{xs:List α} {ys:List β},All2 Q xs ys->∀y∈ys,∃x∈xs,Q x y
 |_,_,.nil,y,hy=>by cases hy
 |_,_,.cons q t,y,hy=>by
  rcases aL.mp hy with rfl|hy
  .exact⟨_,bB,q⟩
  .obtain⟨x,hx,q⟩:=t.rt y hy;exact⟨x,aW _ hx,q⟩
theorem b6o{d:D}{o:O}(c:MI.clo 0 d)(co:uv 0 o):aaf 1 (.ok d [o])=.ok d [o]:=jd (afr (by omega) c) (by
 intro u hu
 simp only[List.take_succ_cons,i8,ax]at hu;subst hu;exact a1j (by omega) co)
theorem dr1{F:SF}{n:Nat}{ds:List D}{o o':O}{d:D}(hn:ds.length+1=n)(cd:∀x∈ds,MI.clo 0 x)(co:uv 0 o)(e:F (.ref 0::ds) [o]=.ok d [o'])(c:MI.clo 0 d)(co':uv 0 o'):Dr F n ds o d o':=Dr.of hn cd co e (b6o c co') c co'
theorem pu1{F:SF}{n:Nat}{ds:List D}{d:D}(hn:ds.length=n)(ca:∀x∈ds,MI.clo 0 x)(c:MI.clo 0 d)(e:F ds []=.ok d []):Pu F n ds d:=Pu.of hn ca e (jd c (by simp)) c
theorem b08{x:D}(c:MI.clo 0 x):∀y∈[x],MI.clo 0 y:=λy hy=>by rw[ax.mp hy];exact c
theorem b39(c:Nat)(t:List Nat)(h:Hd):gIn false (.str (S [c])) (.str (S t)) h=.ok (.bl (decide (c∈t))) h:=by
 show(match (S [c]).cps.toList with|[c]=>R.ok (D.bl (if false=true then !decide (c∈(S t).cps.toList) else decide (c∈(S t).cps.toList))) h|_=>.no)=_
 rw[aax,aax];rfl
end SHD
local macro_rules|`(tactic|walk_at "c") => `(tactic|first|assumption|exact MI.cz _|(with_reducible exact EVT.uc)|exact MI.dz _|exact MI.lr _|exact MI.rm|exact MI.gh|((with_reducible apply MI.bu)<;>walk_at "c")|((with_reducible apply MI.gj);walk_at "c")|((with_reducible apply MI.jh);walk_at "c")|((with_reducible apply EVT.p6)<;>walk_at "c")|((with_reducible apply EVT.m8);walk_at "c")|((with_reducible apply EVT.m9);walk_at "c")|((with_reducible apply EVT.u6);walk_at "c")|((with_reducible apply EVT.u9);walk_at "c")|((with_reducible apply EVT.ud)<;>walk_at "c")|exact MI.dq fun _ _=>MI.cz _|exact MI.dq fun _ _=>MI.dz _)
local macro_rules|`(tactic|walk_at "h") => `(tactic|first|assumption|exact nlc|exact EVT.xf (by assumption))
local macro_rules|`(tactic|walk_at "z") => `(tactic|first|assumption|omega|(simp only[aN,bK,ah,aQ,aY,ar,aM,EVT.wz,Int.reduceToNat]<;>omega))
local macro_rules|`(tactic|walk_at "l") => `(tactic|first
 |(with_reducible assumption)
 |(with_reducible exact PAP.a3v)|(with_reducible exact PAP.a2k)|(with_reducible exact MI.a74)|(with_reducible exact MI.adc)
 |(with_reducible exact ltn)|(with_reducible exact EVT.yq)
 |((with_reducible apply EVT.PuE);with_reducible assumption)
 |((with_reducible apply drz);with_reducible assumption)
 |(with_reducible exact EVT.a4p _ _)|(with_reducible exact PAP.aen _ _ _)|(with_reducible exact PAP.a0t _ _ _)
 |((with_reducible apply PAP.a3w);walk_at "z")
 |((with_reducible apply EVT.a4n);walk_at "z")
 |((with_reducible apply EVT.a4o);walk_at "z")
 |(with_reducible exact MI.vz _ _)|(with_reducible exact MI.a0s _)|(with_reducible exact MI.ju _)
 |((with_reducible apply MI.ab5);walk_at "z")|((with_reducible apply MI.a9h);walk_at "z")
 |((with_reducible apply MI.ada);walk_at "z")|((with_reducible apply MI.adb);walk_at "z")
 |((with_reducible apply MI.zy);walk_at "z")|((with_reducible apply MI.a0x);walk_at "z")
 |((with_reducible apply MI.a3u);walk_at "z")|((with_reducible apply MI.a3t);walk_at "z")
 |exact rfl)
local macro_rules|`(tactic|walk_at "x") => `(tactic|first
 |(with_reducible assumption)
 |(with_reducible exact MI.ad8 _ _ _)
 |((with_reducible apply MI.bw);exact rfl)
 |(with_reducible exact nlo)|(with_reducible exact onn)
 |((with_reducible apply zds);walk_at "x";exact rfl;walk_at "c";walk_at "h";walk_at "z")
 |((with_reducible apply EVT.vp);walk_at "x";exact rfl;walk_at "c";walk_at "h")
 |((with_reducible apply EVT.wy);walk_at "x";exact rfl;walk_at "h";walk_at "z")
 |((with_reducible apply EVT.wg);walk_at "x";walk_at "x";exact rfl;walk_at "c";walk_at "c";walk_at "h";walk_at "z")
 |((with_reducible apply EVT.a04);walk_at "x";walk_at "x";exact rfl;walk_at "c";walk_at "h";walk_at "z";walk_at "z")
 |((with_reducible apply EVT.zr);walk_at "h")
 |((with_reducible apply MI.kj);walk_at "x";walk_at "x";walk_at "l")
 |((with_reducible apply MI.v6);walk_at "x";walk_at "l")
 |((with_reducible apply aoo);walk_at "x";walk_at "l")
 |((with_reducible apply cns);walk_at "x";walk_at "x")
 |((with_reducible apply PAP.a75);walk_at "x";walk_at "x";walk_at "x";walk_at "l")
 |((with_reducible apply PAP.a5j);walk_at "x")
 |((with_reducible apply MI.tof);walk_at "x")
 |((with_reducible apply MI.ur);walk_at "x";walk_at "l")
 |((with_reducible apply MI.a73);walk_at "x")|((with_reducible apply MI.a8u);walk_at "x")
 |((with_reducible apply MI.a8j);walk_at "x";walk_at "x")|((with_reducible apply MI.ab4);walk_at "x")
 |((with_reducible apply MI.orT);walk_at "x")|((with_reducible apply MI.orF);walk_at "x";walk_at "x"))
local macro_rules|`(tactic|walk_at "l") => `(tactic|first|(with_reducible exact SHD.ix0)|(with_reducible exact SHD.ix1)|(with_reducible exact SHD.ix2)|(with_reducible exact SHD.ix3)|(with_reducible exact SHD.aer)|((with_reducible apply SHD.aes);exact(by decide))|(with_reducible exact SHD.aeu)|((with_reducible apply SHD.aet);exact(by decide))|(with_reducible exact SHD.a9j)|(with_reducible exact SHD.ue))
namespace ENG
open L2 MI AT HND EVX SHD
open PAP hiding v7 a2k a3v a03 aof
open SRC (cst aeo)
noncomputable def En(w:List Nat):Nat->Sh->Rl
 |0,_=>λ_ _=>False
 |d+1,s=>match s with
  |.one sg=>λa e=>∃c,w[a]? = some c/\c∈sg/\e=a+1
  |.row ps=>chn (ps.map (En w d))
  |.eit ps=>λa e=>∃p∈ps,En w d p a e
  |.many p=>star (En w d p)
  |.tim p lo hi=>btw (En w d p) lo hi
def kids:Sh->List Sh
 |.one _=>[]
 |.row ps=>ps
 |.eit ps=>ps
 |.many p=>[p]
 |.tim p _ _=>[p]
theorem av5{tg:List Nat}{d:Nat}{s:Sh}(k:abh tg (d+1) s):(kids s).length<=6/\∀p∈kids s,abh tg d p:=by
 cases s with
 |one s=>exact⟨by simp[kids],by simp[kids]⟩
 |row ps=>exact k
 |eit ps=>exact⟨k.2.1,k.2.2⟩
 |many p=>exact⟨by simp[kids],λq hq=>by rw[ax.mp hq];exact k⟩
 |tim p lo hi=>exact⟨by simp[kids],λq hq=>by rw[ax.mp hq];exact k.2.2⟩
theorem av6(l:List Sh):clos 0 (l.map sd):=dq λp _=>a1f p
def xg:SF:=n8 aas 1
theorem apf(s:Sh):Pu xg 1 [sd s] (.tup ((kids s).map sd)):=by
 refine pu1 rfl (b08 (a1f s)) (gj (av6 _)) ?_;unfold xg;rw[ig];show toR (aas [some (sd s)] [])=_;unfold aas
 cases s with
 |one s=>rw[sd];exact aI toR (um (ifr (by walk_at "x") (b01 PAP.a3v)))
 |row ps =>
  rw[sd,a3g];exact aU (aI toR (ifN (by walk_at "x"))) (aI toR (um (ifr (orT (by walk_at "x")) (vo rfl ix1))))
 |eit ps =>
  rw[sd,a3g];exact aU (aI toR (ifN (by walk_at "x"))) (aI toR (um (ifr (orF (by walk_at "x") (by walk_at "x")) (vo rfl ix1))))
 |many p =>
  rw[sd];exact aU (aI toR (ifN (by walk_at "x"))) (aU (aI toR (ifN (orF (by walk_at "x") (by walk_at "x")))) (aI toR (jl (qg (vo rfl ix1) PAP.a2k))))
 |tim p lo hi =>
  rw[sd];exact aU (aI toR (ifN (by walk_at "x"))) (aU (aI toR (ifN (orF (by walk_at "x") (by walk_at "x")))) (aI toR (jl (qg (vo rfl ix1) PAP.a2k))))
end ENG
namespace DRW
open L2 MI AT HND EVX SHD
open PAP hiding v7 a2k a3v a03 aof
open SRC (Src)
open SRC (cst aeo a9i)
open ENG
theorem dw{o:O}{N:Nat}{m:Int}(P:Src o N)(hN:N<=1000000000)(m0:0<m)(m1:m<1073741824):∃(r:Nat) (o':O),Dr SRC.au 2 [.int m] o (bz r) o'/\(r:Int)<m/\Src o' (N+1):=by
 obtain⟨r,o',e,r0,r1,P'⟩:=SRC.aem P hN m0 m1;obtain⟨r,rfl⟩:=fZ r0;exact⟨r,o',e,r1,P'⟩
theorem av7{a b:Nat}{h:Hd}:ie (bz a) (bz b) h=.ok (bz (a+b)) h:=rfl
mutual
def wt:Sh->Nat
 |.one _=>1
 |.row ps=>wts ps
 |.eit ps=>wts ps
 |.many p=>wt p
 |.tim p _ hi=>hi*wt p
def wts:List Sh->Nat
 |[]=>0
 |p::ps=>wt p+wts ps
end
theorem aev:∀(l:List Sh) (s:Sh),wts (l++[s])=wts l+wt s
 |[],s=>by rw[eA,wts,wts,wts];omega
 |p::l,s=>by rw[bX,wts,wts,aev l s];omega
theorem aew:∀l:List Sh,((l.map λs=>(wt s:Int)).sum)=(wts l:Nat)
 |[]=>by rw[wts];rfl
 |p::l=>by rw[aZ,jJ,aew l,wts];omega
mutual
def pn:Sh->Nat
 |.one _=>1
 |.row ps=>1+pns ps
 |.eit ps=>1+pns ps
 |.many p=>1+pn p
 |.tim p _ _=>1+pn p
def pns:List Sh->Nat
 |[]=>0
 |p::ps=>pn p+pns ps
end
theorem aln:∀(l:List Sh) (s:Sh),pns (l++[s])=pns l+pn s
 |[],s=>by rw[eA,pns,pns,pns];omega
 |p::l,s=>by rw[bX,pns,pns,aln l s];omega
def cu:Nat->SF
 |0=>λ_ _=>.no
 |n+1=>n8 (zm (cu n)) 1
theorem ab6(x:Str)(h:Hd):gIn false (.str x) (.tup [.str "row",.str "either"]) h=.ok (.bl (("row" : Str) == x || (("either" : Str) == x || false))) h:=rfl
theorem a8d{tg:List Nat}:∀(d n:Nat),d<=n->∀s,abh tg d s->Pu (cu n) 1 [sd s] (bz (wt s))
 |0,_,_,_,k=>k.elim
 |d+1,0,h,_,_=>absurd h (by omega)
 |d+1,n+1,h,s,k=>by
  have ih:=a8d (tg:=tg) d n (by omega)
  refine Pu.of rfl (by simp[a1f]) (r:=.ok (bz (wt s)) []) ?_ (jd (cz _) (by simp)) (cz _)
  show n8 (zm (cu n)) 1 [sd s] []=_;rw[ig];show toR (zm (cu n) [some (sd s)] [])=_;unfold zm;have many:∀(hd:Str) (ps:List Sh),(∀p∈ps,abh tg d p)->ps.length<=6->sA ajj (aj (sZ (a0w (sIt (s2 gIx (sV 0) (sI 1))) MI.t1 (yc (cu n)) [])) di) [some (.tup [.str hd,.tup (sds ps)])] []=.ok (bz (wts ps)) []:=λhd ps kp lp=>by
   have z:sZ (a0w (sIt (s2 gIx (sV 0) (sI 1))) MI.t1 (yc (cu n)) []) [some (.tup [.str hd,.tup (sds ps)])] []=.ok (.rol ((ps.map λs=>(wt s:Int)).map D.int)) []:=by
    refine aob ?_ (dq λ_ _=>cz _) (by simp)
    rw[dS];refine a3e sd (λs=>D.int (wt s:Int)) ps (a6o (vo rfl rfl) (by rw[a3g];rfl)) (ik (by omega)) λp hp=>?_
    rw[a4l];unfold yc;exact qg (bw rfl) (ih p (kp p hp) [])
   refine qg z ?_;unfold ajj;simp only[SRC.ints_map,aew]
  match s,k with
  |.one sg,k =>
   rw[sd,wt];exact aI toR (um (aU (ifT (by walk_at "x")) (jl ckk)))
  |.row ps,k =>
   rw[sd,wt];refine eti (by walk_at "x") ?_
   exact aI toR (um (ifr (t2s (vo rfl SHD.ix0) (vm ckk ckk a74) (ab6 _ _)) (many _ ps k.2 k.1)))
  |.eit ps,k =>
   rw[sd,wt];refine eti (by walk_at "x") ?_
   exact aI toR (um (ifr (t2s (vo rfl SHD.ix0) (vm ckk ckk a74) (ab6 _ _)) (many _ ps k.2.2 k.2.1)))
  |.many p,k =>
   rw[sd,wt];have c1:=ih p k;refine eti (by walk_at "x") ?_
   refine eti (t2s (vo rfl SHD.ix0) (vm ckk ckk a74) (ab6 _ _)) ?_;exact aI toR (um (ifr (by walk_at "x") (by walk_at "x")))
  |.tim p lo hi,k =>
   rw[sd,wt];have c1:=ih p k.2.2;have h4:=k.2.1;refine eti (by walk_at "x") ?_
   refine eti (t2s (vo rfl SHD.ix0) (vm ckk ckk a74) (ab6 _ _)) ?_;refine eti (by walk_at "x") ?_
   have m:zx (bz hi) (bz (wt p)) []=.ok (bz (hi*wt p)) []:=a4a.trans ((aJ (.inl ⟨by omega,by omega⟩)).trans (by rw[<-ja]))
   exact aI toR (jl (kj (vo rfl SHD.ix3) (qg (vo rfl SHD.ix1) (c1 _)) m))
def n6:SF:=n8 (a3p SRC.au) 7
theorem av8{tg:List Nat}(t1:1<=tg.length)(t6:tg.length<=6)(nd:tg.Nodup){o:O}{N:Nat}(P:Src o N)(hN:N<=999999000):∃l o',1<=l.length/\l.length<=tg.length/\l.Nodup/\(∀c∈l,c∈tg)/\Dr n6 2 [.str (S tg)] o (.str (S l)) o'/\Src o' (N+8):=by
 have lt:∀h,vg [.str (S tg)] h=.ok (bz tg.length) h:=λh=>a8t (ik (by omega))
 obtain⟨many,o1,m1,m6,P1,pre⟩:∃(many:Nat) (o1:O),1<=many/\many<=tg.length/\Src o1 (N+2)/\∀g:SS,iy (sIf (sT (s2 hEq (sA (jx false 2 SRC.au) (aj (sV 0) (aj (sI 2) di))) (sI 0))) (jz 4 (s2 ie (sI 1) (sA (jx false 2 SRC.au) (aj (sV 0) (aj (sA vg (aj (sV 1) di)) di))))) sNx) g [some (.ref 0),some (.str (S tg)),some (.str (S tg)),some (.str (S [])),some (.int 1),none,none] [o]=g [some (.ref 0),some (.str (S tg)),some (.str (S tg)),some (.str (S [])),some (bz many),none,none] [o1]:=by
  obtain⟨q,u,e,_,Q⟩:=dw (m:=2) P (by omega) (by decide) (by decide)
  by_cases hq:q=0
  .obtain⟨r,u',e',r1,Q'⟩:=dw (m:=(tg.length:Int)) Q (by omega) (by omega) (by omega)
   refine⟨1+r,u',by omega,by omega,Q',λg=>ym (aU (ifT (t2s (vm (bw rfl) ckk (e 0 _ rfl)) ckk (zy (by omega)))) (agb (kj ckk (vm (bw rfl) (qg (bw rfl) (lt _)) (e' 0 _ rfl)) av7)))⟩
  .exact⟨1,u,by omega,by omega,Q.up (by omega),λg=>ifN (t2s (vm (bw rfl) ckk (e 0 _ rfl)) ckk (a0x (by omega)))⟩
 obtain⟨τ',h',e2,aG,told,u,t5,t6',rfl,rfl,P2,l1,l2,nd',sb⟩:=a0z (g:=kN 5) (b:=a2b SRC.au) bz
  (λpre τ h=>∃(aG told:List Nat) (u:O) (t5 t6:Option D),τ=[some (.ref 0),some (.str (S tg)),some (.str (S aG)),some (.str (S told)),some (bz many),t5,t6]/\h=[u]/\Src u (N+2+pre.length)/\told.length=pre.length/\(told++aG).length=tg.length/\(told++aG).Nodup/\∀c∈told++aG,c∈tg)
  (List.range many) [some (.ref 0),some (.str (S tg)),some (.str (S tg)),some (.str (S [])),some (bz many),none,none] [o1] (by
   rintro pre i post τ h al ⟨aG,told,u,t5,t6',rfl,rfl,P2,l1,l2,nd',sb⟩
   have aH:pre.length<many:=by
    have:=aI List.length al
    simp at this;omega
   rw[ah]at l2;obtain⟨j,u',e2,rb,P3⟩:=dw (m:=(aG.length:Int)) P2 (by omega) (by omega) (by omega)
   have hj:j<aG.length:=by omega
   have gx:aG[j]? = some aG[j]:=ag hj;have pp:=ad6 told aG j aG[j] gx;refine⟨_,_,rfl,_,_,?_,aG.take j++aG.drop (j+1),told++[aG[j]],u',some (bz i),some (bz j),rfl,rfl,by simpa[cT] using P3,by simp[l1],?_,pp.nodup_iff.mp nd',λc hc=>sb c (pp.mem_iff.mpr hc)⟩
   .unfold a2b;refine aU (jw (vm (bw rfl) (qg (bw rfl) (a8t (ik (by omega)))) (e2 0 [u] rfl))) ?_
    refine aU (ym (apa rfl (kj (bw rfl) (bw rfl) (b1f (ik (by omega)) gx)) (SRC.ar6 (ik (by simp;omega))))) ?_
    exact agb (kj (SRC.apc (bw rfl) rfl (SRC.apb (bw rfl)) (b1g j (ik (by omega)))) (SRC.apc (bw rfl) (SRC.apb (vo rfl a2o)) rfl (ag9 (j+1) (ik (by omega)))) (aek (ik (by simp;omega))))
   .rw[<-pp.length_eq];simpa using l2) ⟨tg,[],o1,none,none,rfl,rfl,P1,rfl,rfl,nd,λc hc=>hc⟩
 rw[cV]at P2 l1;refine⟨told,u,by omega,by omega,(cK.mp nd').1,λc hc=>sb c (de _ hc),Dr.of rfl (by simp[dz]) P.clo (r:=.ok (.str (S told)) [u]) ?_ (jd (dz _) (by simpa using a1j (by omega) P2.clo)) (dz _) P2.clo,P2.up (by omega)⟩
 unfold n6;rw[ig];show toR (a3p SRC.au [some (.ref 0),some (.str (S tg)),none,none,none,none,none] [o])=_;unfold a3p;refine ets (bw rfl) ?_;refine etr (jw ckk) ?_;refine etr (jw ckk) ?_;refine etr (pre _) ?_;refine etr (a4m (aut (n:=many) (bw rfl) (ik (by omega)))) ?_
 refine aU (aI (λz=>toR (MI.thn z _)) e2) ?_;exact aI toR (jl (bw rfl))
mutual
def Nd:Sh->Prop
 |.one s=>s.Nodup
 |.row ps=>Nds ps
 |.eit ps=>Nds ps
 |.many p=>Nd p
 |.tim p _ _=>Nd p
def Nds:List Sh->Prop
 |[]=>True
 |p::ps=>Nd p/\Nds ps
end
theorem alo:∀{l:List Sh} {s:Sh},Nds l->Nd s->Nds (l++[s])
 |[],s,_,h=>by rw[eA,Nds,Nds];exact⟨h,trivial⟩
 |p::l,s,a,h=>by rw[Nds]at a;rw[bX,Nds];exact⟨a.1,alo a.2 h⟩
def Dr5(F:SF)(a b c:D)(o q:O)(d:D)(o' q':O):Prop:=∀i j h,i≠j->h[i]? = some o->h[j]? = some q->jx false 5 F [.ref i,a,b,c,.ref j] h=.ok d ((h.set i o').set j q')
theorem Dr5.of{F:SF}{x:Str}{y z:Int}{o o' q q':O}{r:R D}{d:D}(co:uv 0 o)(cq:uv 0 q)(e:F [.ref 0,.str x,.int y,.int z,.ref 1] [o,q]=r)(zz:aaf 2 r=.ok d [o',q'])(c:clo 0 d)(co':uv 0 o')(cq':uv 0 q'):Dr5 F (.str x) (.int y) (.int z) o q d o' q':=λi j h ne hi hj=>by
 have e1:a1x [.ref i,.str x,.int y,.int z,.ref j]=[i,j]:=rfl;have e2:a1i 0 [.ref i,.str x,.int y,.int z,.ref j]=[.ref 0,.str x,.int y,.int z,.ref 1]:=rfl;unfold jx;rw[aJ (by rfl:([D.ref i,D.str x,D.int y,D.int z,D.ref j]:List D).length=5)]
 unfold atf;rw[e1];simp only[a1u,hi,hj,aN,bK,cP,fR,i5,Nat.reduceAdd];have all:∀v∈[D.ref i,.str x,.int y,.int z,.ref j],clo 0 v\/isRef v:=λv hv=>by
  simp only[aL,bg,cW]at hv
  rcases hv with rfl|rfl|rfl|rfl|rfl
  .exact .inr ⟨i,rfl⟩
  .exact .inl (dz _)
  .exact .inl (cz _)
  .exact .inl (cz _)
  .exact .inr ⟨j,rfl⟩
 rw[aJ ⟨by simp[ne],all,λu hu=>by simp only[aL,bg,cW]at hu;rcases hu with rfl|rfl;exact co;exact cq⟩,e2,e,zz]
 simp[c,co',cq',xm]
theorem b4o{F:SF}{a b c:D}{o o' p p':O}{d:D}{h:Hd}(q:Dr5 F a b c o p d o' p'):jx false 5 F [.ref 0,a,b,c,.ref 1] (o::p::h)=.ok d (o'::p'::h):=q 0 1 (o::p::h) (by decide) rfl rfl
def fu:Nat->SF
 |0=>λ_ _=>.no
 |n+1=>n8 (a0m SRC.au n6 (fu n) (cu 5)) 11
def Drawn(tg:List Nat)(n d:Nat):Prop:=∀(o:O) (N p:Nat) (x:Int),Src o N->N+bnd d<=900000000->p<=1000->∃s o',abh tg d s/\wt s<=p/\Nd s/\Dr5 (fu n) (.str (S tg)) (bz d) (bz p) o (.lst [.int x]) (sd s) o' (.lst [.int (x-pn s)])/\Src o' (N+bnd d)
def Res(tg:List Nat)(d N p:Nat)(x:Int)(r:R D):Prop:=∃s o' hs,r=.ok (sd s) (o'::.lst [.int (x-pn s)]::hs)/\abh tg d s/\wt s<=p/\Nd s/\Src o' N
theorem Res.tr{tg:List Nat}{d N p:Nat}{x:Int}{r r':R D}(e:r=r')(q:Res tg d N p x r'):Res tg d N p x r:=e ▸ q
theorem Res.to{tg:List Nat}{d N p n:Nat}{o:O}{x:Int}{r:R D}(co:uv 0 o)(e:fu n [.ref 0,.str (S tg),bz d,bz p,.ref 1] [o,.lst [.int x]]=r)(q:Res tg d N p x r):∃s o',abh tg d s/\wt s<=p/\Nd s/\Dr5 (fu n) (.str (S tg)) (bz d) (bz p) o (.lst [.int x]) (sd s) o' (.lst [.int (x-pn s)])/\Src o' N:=by
 obtain⟨s,o',hs,e',k,w,nd,P⟩:=q;exact⟨s,o',k,w,nd,Dr5.of co (aeq _) (e.trans e') (b6m (a1f s) P.clo (aeq _)) (a1f s) P.clo (aeq _),P⟩
theorem apg{tg:List Nat}{n d p:Nat}{o:O}{x:Int}:fu (n+1) [.ref 0,.str (S tg),bz d,bz p,.ref 1] [o,.lst [.int x]]=toR (a0m SRC.au n6 (fu n) (cu 5) [some (.ref 0),some (.str (S tg)),some (bz d),some (bz p),some (.ref 1),none,none,none,none,none,none] [o,.lst [.int x]]):=by
 show n8 (a0m SRC.au n6 (fu n) (cu 5)) 11 [.ref 0,.str (S tg),bz d,bz p,.ref 1] [o,.lst [.int x]]=_;rw[ig];rfl
theorem ix8(r:Nat)(h:r<8)(h':Hd):∃m:Nat,1<=m/\m<=6/\gIx (.tup [.int 1,.int 2,.int 2,.int 3,.int 3,.int 4,.int 5,.int 6]) (bz r) h'=.ok (bz m) h':=by
 rcases r with _|_|_|_|_|_|_|_|r
 .exact⟨1,by decide,by decide,rfl⟩
 .exact⟨2,by decide,by decide,rfl⟩
 .exact⟨2,by decide,by decide,rfl⟩
 .exact⟨3,by decide,by decide,rfl⟩
 .exact⟨3,by decide,by decide,rfl⟩
 .exact⟨4,by decide,by decide,rfl⟩
 .exact⟨5,by decide,by decide,rfl⟩
 .exact⟨6,by decide,by decide,rfl⟩
 .omega
theorem ixq{o:O}{v:D}{h:Hd}:gIx (.ref 1) (.int 0) (o::.lst [v]::h)=.ok v (o::.lst [v]::h):=rfl
local macro_rules|`(tactic|walk_at "l") => `(tactic|first|((with_reducible apply b4o);with_reducible assumption)|(with_reducible exact ixq)|(with_reducible exact subn)|(with_reducible exact a9j))
theorem a9k{tg:List Nat}(t1:1<=tg.length)(t6:tg.length<=6)(nd:tg.Nodup){n d:Nat}(hd:d<=4)(ih:0<d->Drawn tg n d):Drawn tg (n+1) (d+1):=by
 intro o N p x P hN hp
 have bl:=alm d;have be:bnd (d+1)=7*bnd d:=rfl;refine Res.to P.clo apg ?_;unfold a0m;obtain⟨r,o1,e1,r1,P1⟩:=dw (m:=9) P (by omega) (by decide) (by decide)
 have pu:put (.ref 1) (.int 0) (.int (x-1)) [o,.lst [.int x]]=some [o,.lst [.int (x-1)]]:=rfl;refine Res.tr (aI toR (ym (SRC.b1n (bw rfl) ckk (SRC.age (i:=1) (j:=0) rfl rfl) ckk (vz _ _) pu))) ?_;refine Res.tr (aI toR (jw (by walk_at "x"))) ?_
 by_cases leaf:d=0\/x-1<1\/r=0
 .have c:sOr (sT (s2 hEq (sV 2) (sI 1))) (sOr (sT (s2 gLt (s2 gIx (sV 4) (sI 0)) (sI 1))) (sT (s2 hEq (sV 5) (sI 0)))) [some (.ref 0),some (.str (S tg)),some (bz (d+1)),some (bz p),some (.ref 1),some (bz r),none,none,none,none,none] [o1,.lst [.int (x-1)]]=.ok true [o1,.lst [.int (x-1)]]:=by
   by_cases a:d=0
   .exact orT (by walk_at "x")
   .by_cases b:x-1<1
    .exact orF (by walk_at "x") (orT (by walk_at "x"))
    .have:r=0:=by omega
     exact orF (by walk_at "x") (orF (by walk_at "x") (by walk_at "x"))
  have emp:∀u:O,Src u (N+2)->Res tg (d+1) (N+bnd (d+1)) p x (.ok (sd (.row [])) [u,.lst [.int (x-1)]]):=λu Q=>⟨.row [],u,[],by rw[pn,pns];simp,⟨by simp,by simp⟩,by rw[wt,wts];omega,by rw[Nd,Nds];trivial,Q.up (by omega)⟩
  by_cases p0:p=0
  .refine Res.tr (aI toR (um (aU (ifT c) (um (ifr (orT (by walk_at "x")) (by walk_at "x")))))) (emp o1 (P1.up (by omega)))
  .obtain⟨q,o2,e2,q1,P2⟩:=dw (m:=8) P1 (by omega) (by decide) (by decide)
   by_cases q0:q=0
   .refine Res.tr (aI toR (um (aU (ifT c) (um (ifr (orF (by walk_at "x") (by walk_at "x")) (by walk_at "x")))))) (emp o2 P2)
   .obtain⟨l,o3,l1,l2,l3,l4,e3,P3⟩:=av8 t1 t6 nd P2 (by omega)
    refine Res.tr (aI toR (um (aU (ifT c) (aU (ifN (orF (by walk_at "x") (by walk_at "x"))) (jl (by walk_at "x")))))) ?_
    exact⟨.one l,o3,[],by rw[pn];rfl,⟨l1,by omega,l4⟩,by rw[wt];omega,by rw[Nd];exact l3,P3.up (by omega)⟩
 .have d0:¬ d=0:=λz=>leaf (.inl z);have xp:¬ x-1<1:=λz=>leaf (.inr (.inl z));have rp:¬ r=0:=λz=>leaf (.inr (.inr z));refine Res.tr (aI toR (ifN (orF (by walk_at "x") (orF (by walk_at "x") (by walk_at "x"))))) ?_
  have ih:=ih (by omega)
  obtain⟨d,rfl⟩:∃d',d=d'+1:=⟨d-1,by omega⟩
  by_cases h3:r<3
  .obtain⟨s,o3,k3,w3,n3,e3,P3⟩:=ih o1 (N+1) p (x-1) P1 (by omega) hp
   refine Res.tr (aI toR (um (ifr (by walk_at "x") (by walk_at "x")))) ?_
   exact⟨.many s,o3,[],by rw[sd,pn,show x-1-(pn s:Int)=x-((1+pn s:Nat):Int) by omega];rfl,k3,by rw[wt];exact w3,by rw[Nd];exact n3,P3.up (by omega)⟩
  .refine Res.tr (aI toR (ifN (by walk_at "x"))) ?_
   by_cases h5:r<5
   .obtain⟨hi,o2,e2,b1,P2⟩:=dw (m:=5) P1 (by omega) (by decide) (by decide)
    obtain⟨lo,o3,e3,c1,P3⟩:=dw (m:=(hi:Int)+1) P2 (by omega) (by omega) (by omega)
    obtain⟨m,hm,m1,mw⟩:∃m:Nat,acf [.int 1,bz hi] [o3,.lst [.int (x-1)]]=.ok (bz m) [o3,.lst [.int (x-1)]]/\1<=m/\m<=4/\hi<=m:=by
     refine⟨(if (hi:Int) > 1 then (hi:Int) else 1).toNat,?_,?_⟩
     .show R.ok (D.int (if (hi:Int) > 1 then (hi:Int) else 1)) _=_
      rw[show bz (if (hi:Int) > 1 then (hi:Int) else 1).toNat=D.int (if (hi:Int) > 1 then (hi:Int) else 1) from aI D.int (by split<;>omega)]
     .split<;>omega
    obtain⟨s,o4,k4,w4,n4,e4,P4⟩:=ih o3 (N+1+1+1) (p / m) (x-1) P3 (by omega) (bC (Nat.div_le_self _ _) hp)
    have dv:a8n (bz p) (bz m) [o3,.lst [.int (x-1)]]=.ok (bz (p / m)) [o3,.lst [.int (x-1)]]:=(div_ii ⟨by omega,by omega⟩).trans (by rw[<-Int.natCast_ediv])
    refine Res.tr (aI toR (um (aU (ifT (by walk_at "x")) (aU (jw (by walk_at "x")) (aU (jw (vm (bw rfl) (vo rfl a9j) (drz e3))) (jl (aoo (cns ckk (cns (aoo (cns (bw rfl) (cns (bw rfl) (cns (vo rfl subn) (cns (kj (bw rfl) (vm ckk (bw rfl) hm) dv) (cns (bw rfl) nlo))))) (b4o e4)) (cns (bw rfl) (cns (bw rfl) nlo)))) b6n))))))) ?_
    refine⟨.tim s lo hi,o4,[],by rw[sd,pn,show x-1-(pn s:Int)=x-((1+pn s:Nat):Int) by omega];rfl,⟨by omega,by omega,k4⟩,?_,by rw[Nd];exact n4,P4.up (by omega)⟩
    rw[wt];exact bC (dM mw.2 w4) (Nat.mul_div_le p m)
   .refine Res.tr (aI toR (ifN (by walk_at "x"))) ?_
    obtain⟨q,o2,e2,q1,P2⟩:=dw (m:=8) P1 (by omega) (by decide) (by decide)
    obtain⟨k,k1,k6,hk⟩:=ix8 q (by omega) [o2,.lst [.int (x-1)],.lst []]
    have nl:MI.xq [] [o1,.lst [.int (x-1)]]=.ok (.ref 2) [o1,.lst [.int (x-1)],.lst []]:=aJ (ik (by simp))
    refine Res.tr (aI toR (jw (aoo nlo nl))) ?_;have t8:MI.yj [.int 1,.int 2,.int 2,.int 3,.int 3,.int 4,.int 5,.int 6] [o1,.lst [.int (x-1)],.lst []]=.ok (.tup [.int 1,.int 2,.int 2,.int 3,.int 3,.int 4,.int 5,.int 6]) [o1,.lst [.int (x-1)],.lst []]:=by unfold MI.yj;rw[aJ (ik (by simp))]
    have it:sRg a5n (aj (s2 gIx (sA MI.yj (aj (sI 1) (aj (sI 2) (aj (sI 2) (aj (sI 3) (aj (sI 3) (aj (sI 4) (aj (sI 5) (aj (sI 6) di))))))))) (sA (jx false 2 SRC.au) (aj (sV 0) (aj (sI 8) di)))) di) [some (.ref 0),some (.str (S tg)),some (bz (d+1+1)),some (bz p),some (.ref 1),some (bz r),none,none,some (.ref 2),none,none] [o1,.lst [.int (x-1)],.lst []]=.ok ⟨(List.range k).map bz,λ_=>True⟩ [o2,.lst [.int (x-1)],.lst []]:=by
     unfold sRg;rw[arg1 (kj (aoo (cns ckk (cns ckk (cns ckk (cns ckk (cns ckk (cns ckk (cns ckk (cns ckk nlo)))))))) t8) (vm (bw rfl) ckk (drz e2)) hk),cj];exact ale _ (ik (by omega))
    refine Res.tr (aI toR (a4m it)) ?_;obtain⟨τ',h',e3,ss,o3,t9,t10,rfl,rfl,P3,ks,ws,ns,sl,s1⟩:=a0z (g:=kN 9) (b:=yx SRC.au n6 (fu n) (cu 5)) bz
     (λpre τ h=>∃(ss:List Sh) (o':O) (t9 t10:Option D),τ=[some (.ref 0),some (.str (S tg)),some (bz (d+1+1)),some (bz (p-wts ss)),some (.ref 1),some (bz r),none,none,some (.ref 2),t9,t10]/\h=[o',.lst [.int (x-1-pns ss)],.lst (ss.map sd)]/\Src o' (N+2+pre.length*bnd (d+1))/\(∀s∈ss,abh tg (d+1) s)/\wts ss<=p/\Nds ss/\ss.length<=pre.length/\(1<=pre.length->1<=ss.length))
     (List.range k) [some (.ref 0),some (.str (S tg)),some (bz (d+1+1)),some (bz p),some (.ref 1),some (bz r),none,none,some (.ref 2),none,none] [o2,.lst [.int (x-1)],.lst []] (by
      rintro pre i post τ h al ⟨ss,o',t9,t10,rfl,rfl,P',ks,ws,ns,sl,s1⟩
      have hl:pre.length<k:=by
       have:=aI List.length al
       simp at this;omega
      have kb:(pre.length+1)*bnd (d+1)<=6*bnd (d+1):=dk _ (by omega)
      rw[cN]at kb;refine⟨_,_,rfl,?_⟩;show ∃τ2 h2,yx SRC.au n6 (fu n) (cu 5) [some (.ref 0),some (.str (S tg)),some (bz (d+1+1)),some (bz (p-wts ss)),some (.ref 1),some (bz r),none,none,some (.ref 2),some (bz i),t10] [o',.lst [.int (x-1-pns ss)],.lst (ss.map sd)]=.nx τ2 h2/\_;unfold yx
      by_cases room:0<x-1-(pns ss:Int)
      .obtain⟨s,o5,k5,w5,n5,e5,P5⟩:=ih o' _ (p-wts ss) (x-1-pns ss) P' (by omega) (by omega)
       have c1:=a8d (d+1) 5 (by omega) s k5
       have sb:MI.a77 (bz (p-wts ss)) (bz (wt s)) [o5,.lst [.int (x-1-pns ss-pn s)],.lst (ss.map sd)]=.ok (bz (p-wts (ss++[s]))) [o5,.lst [.int (x-1-pns ss-pn s)],.lst (ss.map sd)]:=by
        rw[vz,aev,show((p-wts ss:Nat):Int)-(wt s:Nat)=((p-(wts ss+wt s):Nat):Int) by omega]
       refine⟨_,_,aU (ifT (by walk_at "x")) (aU (jw (by walk_at "x")) (aU (ym (apa rfl (qg (bw rfl) (c1 _)) sb)) (a3f (bw rfl) rfl (cns (bw rfl) nlo) (a8c (i:=2) rfl (agd (by simp;omega)))))),ss++[s],o5,some (bz i),some (sd s),rfl,?_,?_,?_,?_,?_,?_,?_⟩
       .rw[bF,aln];show[o5,O.lst [.int (x-1-pns ss-pn s)],.lst (ss.map sd++[sd s])]=_;rw[show x-1-(pns ss:Int)-(pn s:Int)=x-1-((pns ss+pn s:Nat):Int) by omega]
        rfl
       .rw[ah,aM,cN,<-cT];exact P5
       .intro u hu
        rcases bq.mp hu with hu|hu
        .exact ks u hu
        .rw[ax.mp hu];exact k5
       .rw[aev];omega
       .exact alo ns n5
       .rw[ah,ah,aM,aM];omega
       .intro _;rw[ah,aM];omega
      .refine⟨_,_,ifF (by walk_at "x"),ss,o',some (bz i),t10,rfl,rfl,P'.up ?_,ks,ws,ns,?_,?_⟩
       .rw[ah,aM,cN];omega
       .rw[ah];omega
       .intro _
        by_cases z:1<=pre.length
        .exact s1 z
        .exfalso
         have:ss.length=0:=by omega
         rw[da.mp this,pns]at room;omega) ⟨[],o2,none,none,by rw[wts];rfl,by rw[pns];simp,by simpa using P2,by simp,by rw[wts];omega,by rw[Nds];trivial,by simp,by simp⟩
    rw[cV]at P3 sl s1;have kb:k*bnd (d+1)<=6*bnd (d+1):=dk _ k6;refine Res.tr (aI (λz=>toR (MI.thn z _)) e3) ?_;rw[a99];have tp:vy [.ref 2] [o3,.lst [.int (x-1-pns ss)],.lst (ss.map sd)]=.ok (.tup (ss.map sd)) [o3,.lst [.int (x-1-pns ss)],.lst (ss.map sd)]:=av0 rfl;have xe:x-1-(pns ss:Int)=x-((1+pns ss:Nat):Int):=by omega
    by_cases h7:r<7
    .have g1:a8n (bz r) (.int 7) [o3,.lst [.int (x-1-pns ss)],.lst (ss.map sd)]=.ok (bz 0) [o3,.lst [.int (x-1-pns ss)],.lst (ss.map sd)]:=(div_ii ⟨by decide,by decide⟩).trans (by rw[show(r:Int) / 7=((0:Nat):Int) by omega])
     refine Res.tr (aI toR (jl (vm (kj (vm ckk ckk a74) (vo rfl g1) (agc (j:=0) rfl)) (qg (bw rfl) tp) a74))) ?_;exact⟨.row ss,o3,[.lst (ss.map sd)],by rw[sd,a3g,pn,xe];rfl,⟨by omega,ks⟩,by rw[wt];exact ws,by rw[Nd];exact ns,P3.up (by omega)⟩
    .have g1:a8n (bz r) (.int 7) [o3,.lst [.int (x-1-pns ss)],.lst (ss.map sd)]=.ok (bz 1) [o3,.lst [.int (x-1-pns ss)],.lst (ss.map sd)]:=(div_ii ⟨by decide,by decide⟩).trans (by rw[show(r:Int) / 7=((1:Nat):Int) by omega])
     refine Res.tr (aI toR (jl (vm (kj (vm ckk ckk a74) (vo rfl g1) (agc (j:=1) rfl)) (qg (bw rfl) tp) a74))) ?_;exact⟨.eit ss,o3,[.lst (ss.map sd)],by rw[sd,a3g,pn,xe];rfl,⟨s1 (by omega),by omega,ks⟩,by rw[wt];exact ws,by rw[Nd];exact ns,P3.up (by omega)⟩
theorem agh{tg:List Nat}(t1:1<=tg.length)(t6:tg.length<=6)(nd:tg.Nodup):∀(d n:Nat),d<=4->d<=n->Drawn tg (n+1) (d+1)
 |0,n,_,_=>a9k t1 t6 nd (by omega) λz=>absurd z (by omega)
 |d+1,0,_,h=>absurd h (by omega)
 |d+1,n+1,h,h'=>a9k t1 t6 nd h λ_=>agh t1 t6 nd d n (by omega) (by omega)
theorem agi{α β:Type}{fi:SI}{t:D->Option Sd}{fe:SE}{ix:List Nat}{τ:Sd}{o0 o:O}{hs:Hd}(xs:List α)(g:α->D)(k:β->D)(Q:α->β->Prop){N B M:Nat}(P:Src o N)(hM:N+xs.length*B<=M)(z:xs.length<=1000000)(ch:∀u∈hs,uv 0 u)
  (e:fi τ (o0::hs)=.ok ⟨xs.map g,λ_=>True⟩ (o::hs)) (st:∀x∈xs,∀o N,Src o N->N+B<=M->∃y o',aa5 t fe (frs' ix τ) (g x) (o::hs)=.ok (k y) (o'::hs)/\MI.clo 0 (k y)/\Q x y/\Src o' (N+B)) :
  ∃ys o',sZ (a0w fi t fe ix) τ (o0::hs)=.ok (.rol (ys.map k)) (o'::hs)/\All2 Q xs ys/\Src o' (N+xs.length*B)/\clos 0 (ys.map k):=by
 have mp:=afs (f:=aa5 t fe (frs' ix τ)) g (λpre zs h=>∃(ys:List β) (o':O),zs=ys.map k/\h=o'::hs/\Src o' (N+pre.length*B)/\All2 Q pre ys/\clos 0 (ys.map k)) xs [] [] (o::hs) ?_ ⟨[],o,rfl,rfl,by simpa using P,.nil,gh⟩
 .obtain⟨zs,h',mp,ys,o',zq,rfl,P',q,cl⟩:=mp;simp only[eA]at zq P' q;subst zq;refine⟨ys,o',zrl ?_ rfl cl (λu hu=>?_),q,P',cl⟩
  .unfold a0w;rw[e,cj];dsimp only;rw[aJ (ik (by rw[ar];exact z)),mp]
   rfl
  .rcases aL.mp hu with rfl|hu
   .exact P'.clo
   .exact ch u hu
 .rintro pre x post zs h al ⟨ys,o',rfl,rfl,P',q,cl⟩
  have al:xs=pre++x::post:=al;have hl:pre.length+1<=xs.length:=by rw[al];simp
  have kb:(pre.length+1)*B<=xs.length*B:=dk _ hl;rw[cN]at kb;obtain⟨y,o'',e',cy,qy,P''⟩:=st x (by rw[al];simp) o' _ P' (by omega)
  refine⟨k y,o''::hs,e',ys++[y],o'',by simp,rfl,?_,q.snoc qy,?_⟩
  .rw[ah,aM,cN];exact P''.up (by omega)
  .rw[bF];exact EVT.p6 cl (bu cy gh)
theorem agj{b:Nat}:∀{l:List (List Nat)},(∀x∈l,x.length<=b)->l.flatten.length<=b*l.length
 |[],_=>by simp
 |x::l,h=>by
  have:=agj (l:=l) λy hy=>h y (aW _ hy)
  have:=h x bB
  rw[cv,ah,aN,Nat.mul_succ];omega
def gw:Nat->SF
 |0=>λ_ _=>.no
 |k+1=>n8 (xn SRC.au (gw k)) 3
theorem a8e{k:Nat}{s:D}{o:O}:gw (k+1) [.ref 0,s] [o]=toR (xn SRC.au (gw k) [some (.ref 0),some s,none] [o]):=by
 rw[gw,ig];rfl
def alp(tg:List Nat)(k d:Nat):Prop:=∀s,abh tg d s->∀(o:O) (N:Nat),Src o N->N+bnd d<=900000000->∃x o',Dr (gw k) 2 [sd s] o (.str (S x)) o'/\x.length<=6^d/\(∀c∈x,c∈tg)/\Src o' (N+bnd d)
theorem alq{tg:List Nat}{k d:Nat}(hd:d<=4)(ih:alp tg k d):alp tg (k+1) (d+1):=by
 intro s ks o N P hN
 rw[bnd]at hN;have b0:=alm d;have join:∀(ps:List Sh) (u:O) (M:Nat),Src u M->M<=N+1->ps.length<=6->(∀p∈ps,abh tg d p)->∃x o',(∀s:D,pq (sMS ach (sC (.str "")) (aj (sZ (a0w (sIt (sV 2)) MI.t1 (a2c SRC.au (gw k)) [0])) di)) [some (.ref 0),some s,some (.tup (ps.map sd))] [u]=.rt (.str (S x)) [o'])/\x.length<=6^(d+1)/\(∀c∈x,c∈tg)/\Src o' (N+bnd (d+1)):=λps u M Pu hM hl kp=>by
  have kb:ps.length*bnd d<=6*bnd d:=dk _ hl;obtain⟨ys,o',e,q,P',cl⟩:=agi (fi:=sIt (sV 2)) (t:=MI.t1) (fe:=a2c SRC.au (gw k)) (ix:=[0]) (τ:=[some (.ref 0),some (sd s),some (.tup (ps.map sd))]) (hs:=[]) ps sd (λx=>D.str (S x)) (λ_ x=>x.length<=6^d/\∀c∈x,c∈tg) (B:=bnd d) (M:=M+6*bnd d) Pu (by omega) (by omega) (by simp) (a6o (bw rfl) rfl) (λp hp o N Po ho=>by
   obtain⟨x,o',ex,l1,l2,P'⟩:=ih p (kp p hp) o N Po (by omega)
   refine⟨x,o',?_,dz _,⟨l1,l2⟩,P'⟩;rw[a4l];exact vm (bw rfl) (bw rfl) (ex 0 _ rfl))
  have ln:=q.len;have qy:∀y∈ys,y.length<=6^d/\∀c∈y,c∈tg:=λy hy=>by obtain⟨_,_,h⟩:=q.rt y hy;exact h
  have fl:=agj λy hy=>(qy y hy).1;have f6:6^d*ys.length<=6^d*6:=Nat.mul_le_mul_left _ (by omega)
  have f7:6^d<=6^4:=Nat.pow_le_pow_right (by decide) hd
  refine⟨ys.flatten,o',λs'=>jl (K76.b4n (z:=S []) ckk (arg1 e) (K76.b07 (by omega))),by rw[jv];omega,λc hc=>?_,P'.up (by rw[bnd];omega)⟩
  obtain⟨y,hy,hc⟩:=iU.mp hc;exact(qy y hy).2 c hc
 have fin:∀(x:List Nat) (o':O),gw (k+1) [.ref 0,sd s] [o]=.ok (.str (S x)) [o']->x.length<=6^(d+1)/\(∀c∈x,c∈tg)/\Src o' (N+bnd (d+1))->∃x o',Dr (gw (k+1)) 2 [sd s] o (.str (S x)) o'/\x.length<=6^(d+1)/\(∀c∈x,c∈tg)/\Src o' (N+bnd (d+1)):=λx o' e ⟨a,b,c⟩=>⟨x,o',dr1 rfl (b08 (a1f s)) P.clo e (dz _) c.clo,a,b,c⟩
 match s,ks,fin with
 |.one sg,ks,fin =>
  obtain⟨l1,l6,sub⟩:=ks;have l6:sg.length<=6:=l6;have l1:1<=sg.length:=l1;obtain⟨r,o1,e1,r1,P1⟩:=dw (m:=(sg.length:Int)) P (by omega) (by omega) (by omega)
  have hr:r<sg.length:=by omega
  refine fin [sg[r]] o1 ?_ ⟨by simp;exact Nat.pow_pos (by decide),λc hc=>by rw[ax.mp hc];exact sub _ (bW hr),P1.up (by rw[bnd];omega)⟩
  rw[a8e,sd];unfold xn;refine aI toR (um (aU (ifT (h1:=[o]) (by walk_at "x")) (jl ?_)))
  exact(kj (vo rfl ix1) (vm (bw rfl) (qg (vo rfl ix1) (a8t (ik (by omega)))) (e1 0 _ rfl)) (b1f (ik (by omega)) (ag hr)))
 |.row ps,ks,fin =>
  obtain⟨x,o',e,r⟩:=join ps o N P (by omega) ks.1 ks.2
  refine fin x o' ?_ r;rw[a8e,sd,a3g];unfold xn;refine eti (by walk_at "x") ?_
  refine ets (by walk_at "x") ?_
  refine eti (by walk_at "x") ?_
  refine eti (by walk_at "x") ?_
  refine eti (by walk_at "x") ?_
  exact aI toR (e _)
 |.eit ps,ks,fin =>
  obtain⟨l1,l6,kp⟩:=ks;have l6:ps.length<=6:=l6;have l1:1<=ps.length:=l1;obtain⟨r,o1,e1,r1,P1⟩:=dw (m:=(ps.length:Int)) P (by omega) (by omega) (by omega)
  have hr:r<ps.length:=by omega
  obtain⟨x,o',e,q⟩:=join [ps[r]] o1 (N+1) P1 (by omega) (by simp) (λp hp=>by rw[ax.mp hp];exact kp _ (bW hr))
  refine fin x o' ?_ q;rw[a8e,sd,a3g];unfold xn;refine eti (by walk_at "x") ?_
  refine ets (by walk_at "x") ?_
  refine eti (by walk_at "x") ?_
  refine eti (by walk_at "x") ?_
  have ln:vg [.tup (ps.map sd)] [o]=.ok (bz ps.length) [o]:=by rw[ltn,ar]
  have gx:gIx (.tup (ps.map sd)) (bz r) [o1]=.ok (sd ps[r]) [o1]:=agc (by rw[bD,ag hr];rfl)
  refine etr (ym (aU (ifT (h1:=[o]) (by walk_at "x")) (agb (qg (kj (vo rfl ix1) (vm (bw rfl) (qg (vo rfl ix1) ln) (e1 0 _ rfl)) gx) a2k)))) ?_
  exact aI toR (e _)
 |.many p,ks,fin =>
  obtain⟨r,o1,e1,r1,P1⟩:=dw (m:=3) P (by omega) (by omega) (by omega)
  obtain⟨x,o',e,q⟩:=join (List.replicate r p) o1 (N+1) P1 (by omega) (by rw[cJ];omega) (λq hq=>by rw[eU hq];exact ks)
  rw[eG]at e;refine fin x o' ?_ q;rw[a8e,sd];unfold xn;refine eti (by walk_at "x") ?_
  refine ets (by walk_at "x") ?_
  refine etr (ym (aU (ifT (h1:=[o]) (by walk_at "x")) (agb (kj (qg (vo rfl ix1) a2k) (vm (bw rfl) ckk (e1 0 _ rfl)) (b44 (by omega)))))) ?_
  refine eti (by walk_at "x") ?_
  refine eti (by walk_at "x") ?_
  exact aI toR (e _)
 |.tim p lo hi,ks,fin =>
  obtain⟨k1,k2,kp⟩:=ks;have k2:hi<=4:=k2;obtain⟨r,o1,e1,r1,P1⟩:=dw (m:=(hi:Int)-lo+1) P (by omega) (by omega) (by omega)
  obtain⟨x,o',e,q⟩:=join (List.replicate (lo+r) p) o1 (N+1) P1 (by omega) (by rw[cJ];omega) (λq hq=>by rw[eU hq];exact kp)
  rw[eG]at e;refine fin x o' ?_ q;rw[a8e,sd];unfold xn;refine eti (by walk_at "x") ?_
  refine ets (by walk_at "x") ?_
  refine eti (by walk_at "x") ?_
  refine etr (ym (aU (ifT (h1:=[o]) (by walk_at "x")) (agb (kj (qg (vo rfl ix1) a2k) (kj (vo rfl ix2) (vm (bw rfl) (kj (kj (vo rfl ix3) (vo rfl ix2) (vz _ _)) ckk a9j) (e1 0 _ rfl)) av7) (b44 (by omega)))))) ?_
  refine eti (by walk_at "x") ?_
  exact aI toR (e _)
theorem alr{tg:List Nat}:∀(d k:Nat),d<=5->d<=k->alp tg k d
 |0,_,_,_=>λ_ ks=>ks.elim
 |d+1,0,_,h=>absurd h (by omega)
 |d+1,k+1,h,h'=>alq (by omega) (alr d k (by omega) (by omega))
def g8:SF:=n8 (ye SRC.au) 6
theorem av9{tg w:List Nat}{o:O}{N:Nat}(t1:1<=tg.length)(t6:tg.length<=6)(hw:w.length<=1000)(P:Src o N)(hN:N<=900000000):∃x o',Dr g8 3 [.str (S w),.str (S tg)] o (.str (S x)) o'/\x.length<=w.length+1/\((∀c∈w,c∈tg)->∀c∈x,c∈tg)/\Src o' (N+3):=by
 obtain⟨a,o1,e1,a1,P1⟩:=dw (m:=(w.length:Int)+1) P (by omega) (by omega) (by omega)
 obtain⟨j,o2,e2,j1,P2⟩:=dw (m:=(tg.length:Int)) P1 (by omega) (by omega) (by omega)
 obtain⟨b,o3,e3,b1,P3⟩:=dw (m:=4) P2 (by omega) (by omega) (by omega)
 have hj:j<tg.length:=by omega
 have fin:∀{x:List Nat},g8 [.ref 0,.str (S w),.str (S tg)] [o]=.ok (.str (S x)) [o3]->x.length<=w.length+1->(∀c∈x,c∈w\/c∈tg)->∃x o',Dr g8 3 [.str (S w),.str (S tg)] o (.str (S x)) o'/\x.length<=w.length+1/\((∀c∈w,c∈tg)->∀c∈x,c∈tg)/\Src o' (N+3):=λ{x} e l m=>⟨x,o3,dr1 rfl (λy hy=>by simp only[aL,bg,cW]at hy;rcases hy with rfl|rfl<;>exact dz _) P.clo e (dz _) P3.clo,l,λh c hc=>(m c hc).elim (h c) id,P3⟩
 have go:g8 [.ref 0,.str (S w),.str (S tg)] [o]=toR (iy (sIf (sT (s2 hEq (sV 5) (sI 0))) (pq (sV 1)) sNx) (iy (sIf (sT (s2 hEq (sV 5) (sI 1))) (pq (s2 ie (a1l (sV 1) oN (oS (sV 3))) (a1l (sV 1) (oS (s2 ie (sV 3) (sI 1))) oN))) sNx) (pq (s2 ie (s2 ie (a1l (sV 1) oN (oS (sV 3))) (sV 4)) (a1l (sV 1) (oS (s2 MI.a77 (s2 ie (sV 3) (sV 5)) (sI 2))) oN)))) [some (.ref 0),some (.str (S w)),some (.str (S tg)),some (bz a),some (.str (S [tg[j]])),some (bz b)] [o3]):=by
  unfold g8;rw[ig];show toR (ye SRC.au [some (.ref 0),some (.str (S w)),some (.str (S tg)),none,none,none] [o])=_;unfold ye;refine ets (vm (bw rfl) (kj (qg (bw rfl) (a8t (ik (by omega)))) ckk a9j) (e1 0 _ rfl)) ?_
  refine ets (kj (bw rfl) (vm (bw rfl) (qg (bw rfl) (a8t (ik (by omega)))) (e2 0 _ rfl)) (b1f (ik (by omega)) (ag hj))) ?_
  exact aI toR (jw (vm (bw rfl) ckk (e3 0 _ rfl)))
 have to:ado (.str (S w)) none (some (a:Int)) [o3]=.ok (.str (S (w.take a))) [o3]:=b1g a (ik (by omega))
 have tk:∀c∈w.take a,c∈w:=λc hc=>eM hc;have dp:∀k,∀c∈w.drop k,c∈w:=λk c hc=>fD hc
 by_cases b0:b=0
 .refine fin (x:=w) (go.trans ?_) (by omega) (λc hc=>.inl hc)
  exact aI toR (um (ifr (by walk_at "x") (bw rfl)))
 .by_cases b1':b=1
  .refine fin (x:=w.take a++w.drop (a+1)) (go.trans ?_) (by simp only[ah,aQ,aY];omega) (λc hc=>.inl ((bq.mp hc).elim (tk c) (dp _ c)))
   refine eti (by walk_at "x") ?_
   refine aI toR (um (aU (ifT (h1:=[o3]) (by walk_at "x")) (jl (kj (a75 (bw rfl) onn (a5j (bw rfl)) to) (a75 (bw rfl) (a5j (vo rfl (av7 (b:=1)))) onn (ag9 (a+1) (ik (by omega)))) (aek (ik (by simp only[aQ,aY];omega)))))))
  .refine fin (x:=w.take a++[tg[j]]++w.drop (a+b-2)) (go.trans ?_) (by simp only[ah,aQ,aY,aM];omega) (λc hc=>?_)
   .refine eti (by walk_at "x") ?_
    refine eti (by walk_at "x") ?_
    have sb:MI.a77 (bz (a+b)) (.int 2) [o3]=.ok (bz (a+b-2)) [o3]:=by rw[vz,show((a+b:Nat):Int)-2=((a+b-2:Nat):Int) by omega]
    refine aI toR (jl (kj (kj (a75 (bw rfl) onn (a5j (bw rfl)) to) (bw rfl) (aek (ik (by simp only[aQ,aM];omega)))) (a75 (bw rfl) (a5j (kj (kj (bw rfl) (bw rfl) av7) ckk sb)) onn (ag9 _ (ik (by omega)))) (aek (ik (by simp only[ah,aQ,aY,aM];omega)))))
   .rcases bq.mp hc with hc|hc
    .rcases bq.mp hc with hc|hc
     .exact .inl (tk c hc)
     .rw[ax.mp hc];exact .inr (bW hj)
    .exact .inl (dp _ c hc)
theorem ava{xs:List D}{h:Hd}{i:Nat}{d:D}(e:h[i]? = some (.lst xs))(hx:xs[xs.length-1]? = some d):gIx (.ref i) (.int (-1)) h=.ok d h:=by
 have lt:xs.length-1<xs.length:=(ai.mp hx).1;have n:ixN xs.length (-1)=some (xs.length-1):=by
  unfold ixN;rw[ba (by omega),aJ (by omega)]
  congr 1
  omega
 have sq:a0u (.ref i) h=some xs:=by unfold a0u;simp only[e]
 unfold gIx;simp only[sq,atI,n,iT,hx]
theorem als(x:Nat):∀l:List Nat,inD (bz x) (l.map bz)=decide (x∈l)
 |[]=>by simp[inD]
 |y::l=>by
  show(eqF (bz y) (bz x) || inD (bz x) (l.map bz))=_
  rw[als x l];show(((y:Int) == (x:Int)) || decide (x∈l))=_
  by_cases h:y=x
  .subst h;simp
  .have:((y:Int) == (x:Int))=false:=bQ.mpr (by omega)
   rw[this,jG];exact gK.mpr (by simp[fz h])
theorem aph(l:List Nat):(l.map bz).all a0g=true:=by
 rw[bN]
 intro x hx
 obtain⟨y,_,rfl⟩:=cf.mp hx;rfl
theorem adg(x:Nat)(l:List Nat)(h:Hd):gIn false (bz x) (.tup (l.map bz)) h=.ok (.bl (decide (x∈l))) h:=by
 show(if a0g (bz x)=true/\(l.map bz).all a0g=true then R.ok (D.bl (if false=true then !inD (bz x) (l.map bz) else inD (bz x) (l.map bz))) h else .no)=_
 rw[aJ ⟨rfl,aph l⟩,ba (by decide),als]
open Classical in
def tk(w:List Nat)(s:Sh):Bool:=decide (En w 5 s 0 w.length)
end DRW
namespace K11
open L2 MI AT HND EVX SPR
open SHD
open PAP hiding v7 a2k a3v a03 aof
open DRW (wt wts)
mutual
def pt:Sh->Pt
 |.one _=>auo
 |.row ps=>al7 (pts ps)
 |.eit ps=>al8 (pts ps)
 |.many p=>b1e (pt p)
 |.tim p lo hi=>avv (pt p) lo hi
def pts:List Sh->List Pt
 |[]=>[]
 |p::ps=>pt p::pts ps
end
theorem aex:∀l:List Sh,pts l=l.map pt
 |[]=>by rw[pts];rfl
 |p::l=>by rw[pts,aex l];rfl
mutual
theorem adh:∀s:Sh,(pt s).w=wt s
 |.one _=>by rw[pt,wt];rfl
 |.row ps=>by rw[pt,wt];exact ai2 ps
 |.eit ps=>by rw[pt,wt];exact ai2 ps
 |.many p=>by rw[pt,wt];exact adh p
 |.tim p lo hi=>by rw[pt,wt,<-adh p];rfl
theorem ai2:∀l:List Sh,sw (pts l)=wts l
 |[]=>by rw[pts,wts];rfl
 |p::l=>by rw[pts,wts,sw,adh p,ai2 l]
end
mutual
theorem aey:∀s:Sh,(pt s).Ok
 |.one _=>by rw[pt];exact azq
 |.row ps=>by rw[pt];exact azr (alu ps)
 |.eit ps=>by rw[pt];exact azs (alu ps)
 |.many p=>by rw[pt];exact azt (aey p)
 |.tim p lo hi=>by rw[pt];exact azu (aey p) lo hi
theorem alu:∀l:List Sh,∀x∈pts l,x.Ok
 |[],x,h=>by rw[pts]at h;cases h
 |p::l,x,h=>by
  rw[pts]at h
  rcases aL.mp h with rfl|h
  .exact aey p
  .exact alu l x h
end
theorem alv(p:Sh):∀n,sds (List.replicate n p)=List.replicate n (sd p)
 |0=>by rw[List.replicate_zero,sds];rfl
 |n+1=>by rw[bA,sds,alv p n];rfl
theorem a9l{α:Type}(g:α->D)(Q:α->Bool)(xs:List α){fi:SI}{c:ST}{fe:SE}{ix:List Nat}{τ:Sd}{h:Hd}(e:fi τ h=.ok ⟨xs.map g,λ_=>True⟩ h)(z:xs.length<=1000)(cl:∀x∈xs,MI.clo 0 (g x))(ch:∀u∈h,uv 0 u)
  (st:∀x∈xs,c (some (g x)::frs' ix τ) h=.ok (Q x) h) (sf:∀x∈xs,fe (some (g x)::frs' ix τ) h=.ok (g x) h):sZ (a02 fi MI.t1 c fe ix) τ h=.ok (.rol ((xs.filter Q).map g)) h:=by
 have ff:∀ys:List α,ys.filterMap (λx=>if Q x=true then some (g x) else none)=(ys.filter Q).map g:=λys=>by
  induction ys with
  |nil=>rfl
  |cons y ys ih=>cases q:Q y<;>simp[q,ih]
 refine zrl (h1:=h) ?_ rfl (dq λx hx=>cl x ((cG.mp hx).1)) ch;rw[<-ff];refine ad7 g _ xs e (ik (by omega)) λx hx=>?_
 rw[auv,st x hx,cj]
 cases Q x with
 |false=>rfl
 |true =>
  show(fe (some (g x)::frs' ix τ) h).bind _=_;rw[sf x hx,cj];rfl
theorem b09(a b:Nat)(h:Hd):a2u (bz a) (bz b) h=.ok (bz (a+b)) h:=rfl
section
variable{c1 c2:ST}{f g:SE}{τ:Sd}{h:Hd}{a b:Bool}
theorem b3a(e:f τ h=.ok (.bl a) h)(e':g τ h=.ok (.bl b) h):a4f f g τ h=.ok (.bl (a && b)) h:=by
 cases a with
 |false=>exact av1 e
 |true=>exact ai1 e e'
theorem b6p(e:f τ h=.ok (.bl a) h)(e':g τ h=.ok (.bl b) h):ai6 f g τ h=.ok (.bl (a || b)) h:=by
 cases a with
 |false=>exact EVT.b6k e e'
 |true=>exact EVT.b6j e
end
mutual
def mk:Sh->List (List Nat)
 |.one s=>[s]
 |.row ps=>mks ps
 |.eit ps=>mks ps
 |.many p=>mk p
 |.tim p _ hi=>(List.replicate hi (mk p)).flatten
def mks:List Sh->List (List Nat)
 |[]=>[]
 |p::ps=>mk p++mks ps
end
theorem ab7:∀l:List Sh,mks l=(l.map mk).flatten
 |[]=>by rw[mks];rfl
 |p::l=>by rw[mks,ab7 l];rfl
mutual
theorem a8f:∀s:Sh,(mk s).length=wt s
 |.one _=>by rw[mk,wt];rfl
 |.row ps=>by rw[mk,wt];exact aez ps
 |.eit ps=>by rw[mk,wt];exact aez ps
 |.many p=>by rw[mk,wt];exact a8f p
 |.tim p lo hi=>by rw[mk,wt,List.length_flatten,eG,a8f p,List.sum_replicate_nat]
theorem aez:∀l:List Sh,(mks l).length=wts l
 |[]=>by rw[mks,wts];rfl
 |p::l=>by rw[mks,wts,ah,a8f p,aez l]
end
abbrev sgD(l:List (List Nat)):List D:=l.map λz=>D.str (S z)
theorem a3h(l:List (List Nat)):clos 0 (sgD l):=dq λ_ _=>dz _
abbrev KP:List Str:=["signs","firsts","pairs","lasts","empty"]
abbrev prD(p:Nat×Nat):D:=.tup [bz p.1,bz p.2]
abbrev pD(sg:List (List Nat))(fs:List Nat)(ps:List (Nat×Nat))(ls:List Nat)(e:Bool):D:=.ins "Patch" KP [.rol (sgD sg),.rol (fs.map bz),.rol (ps.map prD),.rol (ls.map bz),.bl e]
theorem a6h{a b c d e:D}{h:Hd}:uh "Patch" "signs" (.ins "Patch" KP [a,b,c,d,e]) h=.ok a h:=rfl
theorem a5h{a b c d e:D}{h:Hd}:uh "Patch" "firsts" (.ins "Patch" KP [a,b,c,d,e]) h=.ok b h:=rfl
theorem a9m{a b c d e:D}{h:Hd}:uh "Patch" "pairs" (.ins "Patch" KP [a,b,c,d,e]) h=.ok c h:=rfl
theorem a4c{a b c d e:D}{h:Hd}:uh "Patch" "lasts" (.ins "Patch" KP [a,b,c,d,e]) h=.ok d h:=rfl
theorem a9n{a b c d e:D}{h:Hd}:uh "Patch" "empty" (.ins "Patch" KP [a,b,c,d,e]) h=.ok e h:=rfl
def bh:SF:=n8 a1c 6
theorem a5y{k:Str}{fo fe:SE}{τ:Sd}{h:Hd}{i:Nat}{y:D}{fs:List (Str×D)}(e1:fe τ h=.ok y h)(e2:fo τ h=.ok (.ref i) h)(e3:h[i]? = some (.ins "Patch" fs))(z:fs.length<1000):a8r "Patch" k fo fe τ h=.nx τ (h.set i (.ins "Patch" (adp k y fs))):=by
 unfold a8r;rw[e1];show(fo τ h).fl _=_;rw[e2];show(match h[i]? with|some (.ins c' fs)=>if c' = "Patch"/\fs.length<1000 then Fl.nx τ (h.set i (.ins "Patch" (adp k y fs))) else .no|_=>.no)=_
 rw[e3];exact aJ ⟨rfl,z⟩
theorem ab8{h:Hd}{i:Nat}{o u:O}(e:h[i]? = some o):(h.set i u)[i]? = some u:=by
 obtain⟨l,_⟩:=ai.mp e;rw[cQ l]
theorem avb{a b c d e:D}{h:Hd}{i:Nat}(hi:h[i]? = some (.ins "Patch" [])):bh [.ref i,a,b,c,d,e] h=.ok .non (h.set i (.ins "Patch" (KP.zip [a,b,c,d,e]))):=by
 unfold bh;rw[ig];show toR (a1c [some (.ref i),some a,some b,some c,some d,some e] h)=_;unfold a1c;rw[ym (a5y (bw rfl) (bw rfl) hi (by show 0<1000;omega))]
 have h1:=ab8 (u:=.ins "Patch" (adp "signs" a [])) hi;rw[ym (a5y (bw rfl) (bw rfl) h1 (by show 1<1000;omega))]
 have h2:=ab8 (u:=.ins "Patch" (adp "firsts" b (adp "signs" a []))) h1;rw[ym (a5y (bw rfl) (bw rfl) h2 (by show 2<1000;omega))]
 have h3:=ab8 (u:=.ins "Patch" (adp "pairs" c (adp "firsts" b (adp "signs" a [])))) h2;rw[ym (a5y (bw rfl) (bw rfl) h3 (by show 3<1000;omega))]
 have h4:=ab8 (u:=.ins "Patch" (adp "lasts" d (adp "pairs" c (adp "firsts" b (adp "signs" a []))))) h3;rw[a5y (bw rfl) (bw rfl) h4 (by show 4<1000;omega)]
 simp only[List.set_set];rfl
theorem alw{a b c d e:D}{h:Hd}:a3a "Patch" 5 bh [a,b,c,d,e] h=.ok (.ref h.length) (h++[.ins "Patch" (KP.zip [a,b,c,d,e])]):=by
 unfold a3a;rw[aJ (show[a,b,c,d,e].length=5 from rfl),avb (i:=h.length) (by simp)]
 simp
theorem five{f1 f2 f3 f4 f5:SE}{τ:Sd}{h:Hd}{a b c d e:D}(e1:f1 τ h=.ok a h)(e2:f2 τ h=.ok b h)(e3:f3 τ h=.ok c h)(e4:f4 τ h=.ok d h)(e5:f5 τ h=.ok e h):aj f1 (aj f2 (aj f3 (aj f4 (aj f5 di)))) τ h=.ok [a,b,c,d,e] h :=
 cns e1 (cns e2 (cns e3 (cns e4 (cns e5 nlo))))
theorem b0a{ka:SA}{τ:Sd}{h:Hd}{a b c d e:D}(ek:ka τ h=.ok [a,b,c,d,e] h)(cl:clos 0 [a,b,c,d,e])(ch:∀u∈h,uv 0 u):sZ (sA (a3a "Patch" 5 bh) ka) τ h=.ok (.ins "Patch" KP [a,b,c,d,e]) h:=by
 have ea:sA (a3a "Patch" 5 bh) ka τ h=.ok (.ref h.length) (h++[.ins "Patch" (KP.zip [a,b,c,d,e])]):=aoo ek alw;unfold sZ;rw[ea];have cl':clos h.length [a,b,c,d,e]:=xx (bb _) cl;have z:=a7w (n:=h.length) (d:=.ref h.length) (d':=.ins "Patch" KP [a,b,c,d,e]) (h1:=h++[.ins "Patch" (KP.zip [a,b,c,d,e])]) ?_ ?_
 .rw[z];simp
 .show a2v h.length _ (19+1) _=_;rw[a2v,ba (by simp only[MI.clo];omega)]
  show(match (h++[O.ins "Patch" (KP.zip [a,b,c,d,e])])[h.length]? with|some (.lst xs)=>_|some (.dK kvs)=>_|some (.dT kvs)=>_|some (.ins c kvs)=>_|none=>_)=_
  rw[aK (aw _),jB];show(a1u (a2v h.length _ 19) [a,b,c,d,e]).map (D.ins "Patch" KP)=_;rw[aaj (f:=a2v h.length (h++[O.ins "Patch" (KP.zip [a,b,c,d,e])]) 19) λx hx=>a6v (k:=18) ((jo.mp cl') x hx)];rfl
 .intro o ho
  simp only[List.take_left']at ho;exact a1j (bb _) (ch o (by simpa using ho))
theorem b0b(sg:List (List Nat))(fs:List Nat)(ps:List (Nat×Nat))(ls:List Nat)(e:Bool):MI.clo 0 (pD sg fs ps ls e):=by
 simp only[MI.clo,MI.clos,and_true];exact⟨a3h _,dq λ_ _=>cz _,dq λ_ _=>gj (bu (cz _) (bu (cz _) gh)),dq λ_ _=>cz _⟩
theorem alx{c:ST}{fe:SE}{x:D}{rd:Sd}{h:Hd}{α:Type}(g F:α->D):∀(ys:List α) (zs:List D),zs.length+ys.length<=1000000->(∀y∈ys,c (some x::some (g y)::rd) h=.ok true h/\fe (some x::some (g y)::rd) h=.ok (F y) h)->aeh (λ_=>True) c fe x rd (ys.map g) zs h=.ok (zs++ys.map F) h
 |[],zs,_,_=>by rw[cM,aeh,aJ True.intro,cM,bE]
 |y::ys,zs,hz,st=>by
  obtain⟨e1,e2⟩:=st y (by simp)
  rw[aN]at hz;rw[aZ,aeh,aJ True.intro,e1,cj,aJ rfl,e2,cj,aJ (ik (by omega)),alx g F ys (zs++[F y]) (by rw[ah];show zs.length+1+ys.length<=_;omega) λy hy=>st y (by simp[hy])]
  rw[cA];rfl
def prod(xs ys:List Nat):List (Nat×Nat):=xs.flatMap λx=>ys.map λy=>(x,y)
theorem a3r(xs ys:List Nat):(prod xs ys).length=xs.length*ys.length:=by
 unfold prod
 induction xs with
 |nil=>simp
 |cons x xs ih=>rw[gD,ah,ih,ar,aN,cN];omega
theorem ab9{xs ys:List Nat}{p q:Nat}:(p,q)∈prod xs ys↔p∈xs/\q∈ys:=by
 unfold prod;simp only[List.mem_flatMap,cf,jH]
 constructor
 .rintro⟨x,hx,y,hy,rfl,rfl⟩;exact⟨hx,hy⟩
 .rintro⟨hx,hy⟩;exact⟨p,hx,q,hy,rfl,rfl⟩
theorem agk{fj:SI}{rd:Sd}{h:Hd}{ys:List Nat}(e:∀x:Nat,fj (some (bz x)::none::rd) h=.ok ⟨ys.map bz,λ_=>True⟩ h):∀(xs:List Nat) (zs:List D),zs.length+xs.length*ys.length<=1000000->a4k (λ_=>True) fj aoz (sA yj (aj (sV 0) (aj (sV 1) di))) rd (xs.map bz) zs h=.ok (zs++(prod xs ys).map prD) h
 |[],zs,_=>by rw[cM,a4k,aJ True.intro];show _=R.ok (zs++[]) h;rw[bE]
 |x::xs,zs,hz=>by
  rw[aN,cN]at hz;rw[aZ,a4k,aJ True.intro,e x,cj];have:=alx (c:=aoz) (fe:=sA yj (aj (sV 0) (aj (sV 1) di))) (x:=bz x) (rd:=rd) (h:=h) bz (λy=>prD (x,y)) ys zs (by omega) λy _=>⟨rfl,aoo (cns (bw rfl) (cns (bw rfl) nlo)) a74⟩
  show(aeh (λ_=>True) aoz _ (bz x) rd (ys.map bz) zs h).bind _=_;rw[this,cj,agk e xs _ (by rw[ah,ar];omega)]
  unfold prod;rw[gD,bF,cA,dS];rfl
theorem avc{fi fj:SI}{ix:List Nat}{τ:Sd}{h:Hd}{xs ys:List Nat}(e1:fi τ h=.ok ⟨xs.map bz,λ_=>True⟩ h)(e2:∀x:Nat,fj (some (bz x)::none::frs' ix τ) h=.ok ⟨ys.map bz,λ_=>True⟩ h)(z:xs.length*ys.length<=1000000):a8q fi fj aoz (sA yj (aj (sV 0) (aj (sV 1) di))) ix τ h=.ok (.ref h.length) (h++[.lst ((prod xs ys).map prD)]):=by
 unfold a8q;rw[e1,cj];show(a4k (λ_=>True) fj aoz _ (frs' ix τ) (xs.map bz) [] h).bind _=_;rw[agk e2 xs [] (by simpa using z)]
 rfl
theorem a8g(ps:List (Nat×Nat)):clos 0 (ps.map prD):=dq λ_ _=>gj (bu (cz _) (bu (cz _) gh))
theorem j4(ps:List Nat):clos 0 (ps.map bz):=dq λ_ _=>cz _
theorem ar8{fi fj:SI}{ix:List Nat}{τ:Sd}{h:Hd}{xs ys:List Nat}(e1:fi τ h=.ok ⟨xs.map bz,λ_=>True⟩ h)(e2:∀x:Nat,fj (some (bz x)::none::frs' ix τ) h=.ok ⟨ys.map bz,λ_=>True⟩ h)(z:xs.length*ys.length<=1000000)(ch:∀u∈h,uv 0 u):sZ (a8q fi fj aoz (sA yj (aj (sV 0) (aj (sV 1) di))) ix) τ h=.ok (.rol ((prod xs ys).map prD)) h :=
 zrl (avc e1 e2 z) rfl (a8g _) ch
end K11
namespace K11
open L2 MI AT HND EVX SPR
open SHD
open PAP hiding v7 a2k a3v a03 aof
open DRW (wt wts)
structure Pa where
 sg:List (List Nat)
 fs:List Nat
 ps:List (Nat×Nat)
 ls:List Nat
 e:Bool
abbrev pd(u:Pa):D:=pD u.sg u.fs u.ps u.ls u.e
noncomputable def jn(u v:Pa):Pa:=⟨u.sg++v.sg,if u.e then u.fs++v.fs else u.fs,u.ps++prod u.ls v.fs++v.ps,if v.e then u.ls++v.ls else v.ls,u.e && v.e⟩
def again(u:Pa):Pa:=⟨u.sg,u.fs,u.ps++prod u.ls u.fs,u.ls,true⟩
structure Sm (u:Pa):Prop where
 sg:u.sg.length<=100
 fs:u.fs.length<=100
 ls:u.ls.length<=100
 ps:u.ps.length<=100000
theorem a1g(u:Pa):MI.clo 0 (pd u):=b0b _ _ _ _ _
theorem b3b(u:Pa):∀y∈[pd u],MI.clo 0 y:=λy hy=>by
 obtain rfl:=ax.mp hy;exact a1g u
theorem b6q(u v:Pa):∀y∈[pd u,pd v],MI.clo 0 y:=λy hy=>by
 rcases aL.mp hy with rfl|hy
 .exact a1g u
 .exact b3b v y hy
theorem avd{c:ST}{f g:SE}{τ:Sd}{h:Hd}{b:Bool}{xs ys:List Nat}(ec:c τ h=.ok b h)(e1:f τ h=.ok (.rol (xs.map bz)) h)(e2:g τ h=.ok (.rol (ys.map bz)) h):ady c f g τ h=.ok (.rol ((if b then xs else ys).map bz)) h:=by
 cases b with
 |true=>exact EVT.b4l ec e1
 |false=>exact EVT.b4m ec e2
theorem b4p{f g:SE}{τ:Sd}{xs ys:List Nat}(e1:f τ []=.ok (.rol (xs.map bz)) [])(e2:g τ []=.ok (.rol (ys.map bz)) [])(z:xs.length+ys.length<=1000000):sZ (s2 ie f g) τ []=.ok (.rol ((xs++ys).map bz)) []:=by
 rw[bF];exact EVT.wg e1 e2 rfl (j4 _) (j4 _) nlc (by simpa using z)
theorem b3c{f g:SE}{τ:Sd}{xs ys:List (Nat×Nat)}(e1:f τ []=.ok (.rol (xs.map prD)) [])(e2:g τ []=.ok (.rol (ys.map prD)) [])(z:xs.length+ys.length<=1000000):sZ (s2 ie f g) τ []=.ok (.rol ((xs++ys).map prD)) []:=by
 rw[bF];exact EVT.wg e1 e2 rfl (a8g _) (a8g _) nlc (by simpa using z)
theorem b6r{f g:SE}{τ:Sd}{xs ys:List (List Nat)}(e1:f τ []=.ok (.rol (sgD xs)) [])(e2:g τ []=.ok (.rol (sgD ys)) [])(z:xs.length+ys.length<=1000000):sZ (s2 ie f g) τ []=.ok (.rol (sgD (xs++ys))) []:=by
 have:sgD (xs++ys)=sgD xs++sgD ys:=bF
 rw[this];exact EVT.wg e1 e2 rfl (a3h _) (a3h _) nlc (by simpa using z)
theorem b0c{f1 f2 f3 f4 f5:SE}{τ:Sd}{u:Pa}(e1:f1 τ []=.ok (.rol (sgD u.sg)) [])(e2:f2 τ []=.ok (.rol (u.fs.map bz)) [])(e3:f3 τ []=.ok (.rol (u.ps.map prD)) [])(e4:f4 τ []=.ok (.rol (u.ls.map bz)) [])(e5:f5 τ []=.ok (.bl u.e) []):sZ (sA (a3a "Patch" 5 bh) (aj f1 (aj f2 (aj f3 (aj f4 (aj f5 di)))))) τ []=.ok (pd u) [] :=
 b0a (five e1 e2 e3 e4 e5) (bu (jh (a3h _)) (bu (jh (j4 _)) (bu (jh (a8g _)) (bu (jh (j4 _)) (bu (lr _) gh))))) nlc
def mj:SF:=n8 (a6x bh) 5
theorem adi{u v:Pa}(hu:Sm u)(hv:Sm v):Pu mj 2 [pd u,pd v] (pd (jn u v)):=by
 obtain⟨a1,a2,a3,a4⟩:=hu;obtain⟨b1,b2,b3,b4⟩:=hv;have pl:(prod u.ls v.fs).length<=10000:=by rw[a3r];exact dM a3 b2
 refine Pu.of rfl (b6q u v) (r:=.ok (pd (jn u v)) []) ?_ (jd (a1g _) nlc) (a1g _);unfold mj;rw[ig];show toR (a6x bh [some (pd u),some (pd v),none,none,none] [])=_;unfold a6x;rw[jw (avd (ur (v6 (bw rfl) a9n) (ju _)) (b4p (v6 (bw rfl) a5h) (v6 (bw rfl) a5h) (by omega)) (v6 (bw rfl) a5h))]
 refine ets (avd (ur (v6 (bw rfl) a9n) (ju _)) (b4p (v6 (bw rfl) a4c) (v6 (bw rfl) a4c) (by omega)) (v6 (bw rfl) a4c)) ?_
 refine ets (ar8 (xs:=u.ls) (ys:=v.fs) (a6o (v6 (bw rfl) a4c) rfl) (λx=>a6o (v6 (bw rfl) a5h) rfl) (by rw[<-a3r];omega) nlc) ?_
 exact aI toR (jl (b0c (u:=jn u v) (b6r (v6 (bw rfl) a6h) (v6 (bw rfl) a6h) (by omega)) (bw rfl) (b3c (b3c (v6 (bw rfl) a9m) (bw rfl) (by omega)) (v6 (bw rfl) a9m) (by rw[ah];omega)) (bw rfl) (b3a (v6 (bw rfl) a9n) (v6 (bw rfl) a9n))))
def mq:SF:=n8 (a08 bh) 2
theorem api{u:Pa}(hu:Sm u):Pu mq 1 [pd u] (pd (again u)):=by
 obtain⟨a1,a2,a3,a4⟩:=hu;have pl:(prod u.ls u.fs).length<=10000:=by rw[a3r];exact dM a3 a2
 refine Pu.of rfl (b3b u) (r:=.ok (pd (again u)) []) ?_ (jd (a1g _) nlc) (a1g _);unfold mq;rw[ig];show toR (a08 bh [some (pd u),none] [])=_;unfold a08;refine ets (ar8 (xs:=u.ls) (ys:=u.fs) (a6o (v6 (bw rfl) a4c) rfl) (λx=>a6o (v6 (bw rfl) a5h) rfl) (by rw[<-a3r];omega) nlc) ?_
 exact aI toR (jl (b0c (u:=again u) (v6 (bw rfl) a6h) (v6 (bw rfl) a5h) (b3c (v6 (bw rfl) a9m) (bw rfl) (by omega)) (v6 (bw rfl) a4c) ckk))
structure PW (k:Nat) (x:Pt) (a:Nat) (u:Pa):Prop where
 n:u.sg.length=x.w
 e:u.e=x.e
 f:∀p,p∈u.fs↔x.B a p=true
 l:∀p,p∈u.ls↔x.E a p=true
 s:∀p q,(p,q)∈u.ps↔x.F a p q=true
 lf:u.fs.length<=x.w
 ll:u.ls.length<=x.w
 lp:u.ps.length<=k*(x.w*x.w)
theorem PW.sm{k:Nat}{x:Pt}{a:Nat}{u:Pa}(w:PW k x a u)(hk:k<=10)(hw:x.w<=100):Sm u :=
 ⟨by rw[w.n];exact hw,bC w.lf hw,bC w.ll hw,bC w.lp (dM hk (dM hw hw))⟩
theorem sq(k a b:Nat)(hk:1<=k):k*(a*a)+a*b+k*(b*b)<=k*((a+b)*(a+b)):=by
 have e:(a+b)*(a+b)=a*a+a*b+(a*b+b*b):=by rw[Nat.add_mul,iM,iM,fO b a]
 have:a*b<=k*(a*b):=Nat.le_mul_of_pos_left _ hk
 rw[e,iM,iM,iM];omega
theorem ar9{u v:Pa}{k a b:Nat}(hk:1<=k)(h1:u.ps.length<=k*(a*a))(h2:v.ps.length<=k*(b*b))(h3:u.ls.length<=a)(h4:v.fs.length<=b):(jn u v).ps.length<=k*((a+b)*(a+b)):=by
 have:=sq k a b hk
 have:(prod u.ls v.fs).length<=a*b:=by rw[a3r];exact dM h3 h4
 show(u.ps++prod u.ls v.fs++v.ps).length<=_;rw[ah,ah];omega
theorem b3d{k:Nat}(hk:1<=k){xs:List Pt}{x:Pt}{a:Nat}{u v:Pa}(hu:PW k (al7 xs) a u)(hv:PW k x (a+sw xs) v):PW k (al7 (xs++[x])) a (jn u v) where
 n:=by show(u.sg++v.sg).length=sw (xs++[x]);rw[ah,hu.n,hv.n,a1s];rfl
 e:=by show(u.e && v.e)=aE (xs++[x]);rw[hu.e,hv.e,al9];rfl
 f:=λp=>by
  have h1:=hu.f p;have h2:=hv.f p;have he:=hu.e;show p∈(if u.e then u.fs++v.fs else u.fs)↔sB (xs++[x]) a p=true
  rw[ala]
  change _↔sB xs a p=true at h1
  change u.e=aE xs at he
  rw[<-he]
  cases u.e<;>simp[h1,h2]
 l:=λp=>by
  have h1:=hu.l p;have h2:=hv.l p;have he:=hv.e;show p∈(if v.e then u.ls++v.ls else v.ls)↔sE (xs++[x]) a p=true
  rw[aqy]
  change _↔sE xs a p=true at h1
  rw[<-he]
  cases v.e<;>simp[h1,h2]
 s:=λp q=>by
  have h1:=hu.s p q;have h2:=hv.s p q;have h3:=hu.l p;have h4:=hv.f q;show(p,q)∈u.ps++prod u.ls v.fs++v.ps↔sF (xs++[x]) a p q=true
  change _↔sF xs a p q=true at h1
  change _↔sE xs a p=true at h3
  rw[aqz,bq,bq,ab9,h1,h2,h3,h4];simp
 lf:=by
  have h1:=hu.lf;have h2:=hv.lf;show(if u.e then u.fs++v.fs else u.fs).length<=sw (xs++[x])
  change _<=sw xs at h1
  rw[a1s]
  cases u.e<;>simp<;>omega
 ll:=by
  have h1:=hu.ll;have h2:=hv.ll;show(if v.e then u.ls++v.ls else v.ls).length<=sw (xs++[x])
  change _<=sw xs at h1
  rw[a1s]
  cases v.e<;>simp<;>omega
 lp:=by
  show(jn u v).ps.length<=k*(sw (xs++[x])*sw (xs++[x]));rw[a1s];exact ar9 hk hu.lp hv.lp hu.ll hv.lf
theorem apj{k:Nat}{x:Pt}{a:Nat}{u:Pa}(h:PW k x a u):PW (k+1) (b1e x) a (again u) where
 n:=h.n
 e:=rfl
 f:=h.f
 l:=h.l
 s:=λp q=>by
  show(p,q)∈u.ps++prod u.ls u.fs↔(x.F a p q || (x.E a p && x.B a q))=true
  rw[bq,ab9,h.s,h.l,h.f];simp
 lf:=h.lf
 ll:=h.ll
 lp:=by
  have:(prod u.ls u.fs).length<=x.w*x.w:=by rw[a3r];exact dM h.ll h.lf
  have:=h.lp
  show(u.ps++prod u.ls u.fs).length<=(k+1)*(x.w*x.w);rw[ah,cN];omega
theorem PW.up{k:Nat}{x:Pt}{a:Nat}{u:Pa}(h:PW k x a u):PW (k+1) x a u:={h with lp:=bC h.lp (dk _ (Nat.le_succ k))}
def PWs(k:Nat):List Pt->Nat->List Pa->Prop
 |[],_,[]=>True
 |x::xs,a,u::us=>PW k x a u/\PWs k xs (a+x.w) us
 |_,_,_=>False
end K11
namespace K11
open L2 MI AT HND EVX SPR
open SHD
open PAP hiding v7 a2k a3v a03 aof
open DRW (wt wts)
def jq:SF:=n8 (yg bh mj) 3
theorem adk{k a:Nat}(hk:1<=k)(hk':k<=10){L:D}:∀(us:List Pa) (xs ys:List Pt) (u0:Pa) (t2:Option D),PW k (al7 ys) a u0->PWs k xs (a+sw ys) us->sw ys+sw xs<=100->∃t2' u',forL (λ_=>True) (kN 2) (uq bh mj) (us.map pd) [some L,some (pd u0),t2] []=.nx [some L,some (pd u'),t2'] []/\PW k (al7 (ys++xs)) a u'/\u'.sg=u0.sg++(us.map Pa.sg).flatten
 |[],[],ys,u0,t2,h0,_,_=>⟨t2,u0,by rw[cM,a1z],by rw[bE];exact h0,by simp⟩
 |[],_::_,_,_,_,_,h,_=>h.elim
 |_::_,[],_,_,_,_,h,_=>h.elim
 |u::us,x::xs,ys,u0,t2,h0,h,hw=>by
  obtain⟨h1,h2⟩:=h;rw[sw]at hw;have h0':=b3d hk h0 h1;obtain⟨t2',u',e,w,g⟩:=adk hk hk' us xs (ys++[x]) (jn u0 u) (some (pd u)) h0' (by rw[a1s,<-cT];exact h2) (by rw[a1s];omega)
  refine⟨t2',u',?_,by rw[cA]at w;exact w,by rw[g];simp[jn]⟩
  rw[aZ,a1q _ _ _ _ _ [some L,some (pd u0),some (pd u)] _ [] rfl,<-e];have:uq bh mj [some L,some (pd u0),some (pd u)] []=.nx [some L,some (pd (jn u0 u)),some (pd u)] []:=by
   unfold uq jz;rw[vm (bw rfl) (bw rfl) (adi (h0.sm hk' (show sw ys<=100 by omega)) (h1.sm hk' (by omega)) [])]
   rfl
  rw[this];rfl
theorem agl(us:List Pa):clos 0 (us.map pd):=dq λu _=>a1g u
theorem b4q(us:List Pa):∀y∈[D.rol (us.map pd)],MI.clo 0 y:=λy hy=>by
 obtain rfl:=ax.mp hy;exact jh (agl us)
def pa0(e:Bool):Pa:=⟨[],[],[],[],e⟩
theorem avy{τ:Sd}:sZ (sA xq di) τ []=.ok (.rol []) []:=zds nlo rfl gh nlc (by simp)
theorem b0d{τ:Sd}{e:Bool}:sZ (sA (a3a "Patch" 5 bh) (aj (sZ (sA xq di)) (aj (sZ (sA xq di)) (aj (sZ (sA xq di)) (aj (sZ (sA xq di)) (aj (sC (.bl e)) di)))))) τ []=.ok (pd (pa0 e)) []:=b0c (u:=pa0 e) avy avy avy avy ckk
theorem b6s(k a:Nat):PW k (al7 []) a (pa0 true):=⟨rfl,rfl,λp=>by simp[pa0,al7,sB],λp=>by simp[pa0,al7,sE],λp q=>by simp[pa0,al7,sF],bb _,bb _,bb _⟩
theorem ai3{k a:Nat}(hk:1<=k)(hk':k<=10){us:List Pa}{xs:List Pt}(h:PWs k xs a us)(hw:sw xs<=100):∃u,Pu jq 1 [.rol (us.map pd)] (pd u)/\PW k (al7 xs) a u/\u.sg=(us.map Pa.sg).flatten:=by
 obtain⟨t2',u',e,w,g⟩:=adk (a:=a) hk hk' (L:=.rol (us.map pd)) us xs [] (pa0 true) none (b6s k a) h (by rw[sw];omega)
 refine⟨u',Pu.of rfl (b4q us) (r:=.ok (pd u') []) ?_ (jd (a1g _) nlc) (a1g _),w,g⟩;unfold jq;rw[ig];show toR (yg bh mj [some (.rol (us.map pd)),none,none] [])=_;unfold yg;rw[jw b0d];refine etr (a4m (a6o (bw rfl) rfl)) ?_;refine aU (aI (λz=>toR (MI.thn z (pq (sV 1)))) e) ?_;exact aI toR (jl (bw rfl))
def tS(lo m:Nat)(xs:List Pt):Pt:=⟨sw xs,eT lo m xs,sB xs,tE lo m xs,sF xs⟩
def sure(c:Bool)(u:Pa):Pa:={u with e:=c || u.e}
theorem b0e{k lo m r a:Nat}(hk:1<=k){x:Pt}{u v:Pa}(hu:PW k x a u)(hv:PW k (tS lo (m+1) (List.replicate r x)) (a+x.w) v):PW k (tS lo m (List.replicate (r+1) x)) a (sure (decide (lo<=m)) (jn u v)):=by
 rw[bA];exact {
  n:=by show(u.sg++v.sg).length=sw (x::List.replicate r x);rw[ah,hu.n,hv.n,sw];rfl
  e:=by show(decide (lo<=m) || (u.e && v.e))=eT lo m (x::List.replicate r x);rw[hu.e,hv.e,eT];rfl
  f:=λp=>by
   have h1:=hu.f p;have h2:=hv.f p;have he:=hu.e;show p∈(if u.e then u.fs++v.fs else u.fs)↔sB (x::List.replicate r x) a p=true
   change _↔sB (List.replicate r x) (a+x.w) p=true at h2
   rw[sB,<-he]
   cases u.e<;>simp[h1,h2]
  l:=λp=>by
   have h1:=hu.l p;have h2:=hv.l p;have he:=hv.e;show p∈(if v.e then u.ls++v.ls else v.ls)↔tE lo m (x::List.replicate r x) a p=true
   change _↔tE lo (m+1) (List.replicate r x) (a+x.w) p=true at h2
   change v.e=eT lo (m+1) (List.replicate r x) at he
   rw[azv]at he;rw[tE,<-he]
   cases v.e<;>simp[h1,h2]
  s:=λp q=>by
   have h1:=hu.s p q;have h2:=hv.s p q;have h3:=hu.l p;have h4:=hv.f q;show(p,q)∈u.ps++prod u.ls v.fs++v.ps↔sF (x::List.replicate r x) a p q=true
   change _↔sF (List.replicate r x) (a+x.w) p q=true at h2
   change _↔sB (List.replicate r x) (a+x.w) q=true at h4
   rw[sF,bq,bq,ab9,h1,h2,h3,h4];simp
  lf:=by
   have h1:=hu.lf;have h2:=hv.lf;show(if u.e then u.fs++v.fs else u.fs).length<=sw (x::List.replicate r x)
   change _<=sw (List.replicate r x) at h2
   rw[sw]
   cases u.e<;>simp<;>omega
  ll:=by
   have h1:=hu.ll;have h2:=hv.ll;show(if v.e then u.ls++v.ls else v.ls).length<=sw (x::List.replicate r x)
   change _<=sw (List.replicate r x) at h2
   rw[sw]
   cases v.e<;>simp<;>omega
  lp:=by
   show(jn u v).ps.length<=k*(sw (x::List.replicate r x)*sw (x::List.replicate r x));rw[sw];exact ar9 hk hu.lp hv.lp hu.ll hv.lf}
end K11
namespace K11
open L2 MI AT HND EVX SPR
open SHD
open PAP hiding v7 a2k a3v a03 aof
open DRW (wt wts)
def dn:Nat->List D
 |0=>[]
 |n+1=>bz n::dn n
theorem b0f:∀n:Nat,((List.range n).map λi:Nat=>D.int ((n-1-i:Nat)))=dn n
 |0=>rfl
 |n+1=>by
  rw[List.range_succ_eq_map,aZ,dS,dn,<-b0f n]
  congr 1
  refine dG λi _=>?_;show D.int ((n+1-1-(i+1):Nat))=D.int ((n-1-i:Nat))
  congr 2
  omega
theorem aly{k:Nat}{x:Pt}:∀(n a:Nat) (us:List Pa),PWs k (List.replicate n x) a us->us.length=n/\∀i<n,∃u,us[i]? = some u/\PW k x (a+i*x.w) u
 |0,_,[],_=>⟨rfl,λ_ h=>absurd h (by omega)⟩
 |0,_,_::_,h=>h.elim
 |n+1,_,[],h=>by rw[bA]at h;exact h.elim
 |n+1,a,u::us,h=>by
  rw[bA]at h;obtain⟨h1,h2⟩:=h;obtain⟨l,al⟩:=aly n _ us h2;refine⟨by rw[aN,l],λi hi=>?_⟩
  cases i with
  |zero=>exact⟨u,rfl,by rw[Nat.zero_mul];exact h1⟩
  |succ i =>
   obtain⟨v,e,w⟩:=al i (by omega)
   refine⟨v,e,?_⟩;rw[cN,show a+(i*x.w+x.w)=a+x.w+i*x.w by omega]
   exact w
def jm:SF:=n8 (wj bh mj) 4
theorem b6t{f:SE}{τ:Sd}{h:Hd}{d:D}{i:Nat}(e:f τ h=.ok d h):jz i f τ h=.nx (τ.set i (some d)) h:=by
 unfold jz;rw[e];rfl
theorem a9o{k a lo:Nat}{x:Pt}(hk:1<=k)(hk':k<=10){us:List Pa}:∀(m r:Nat) (u0:Pa) (t3:Option D),PW k (tS lo m (List.replicate r x)) (a+m*x.w) u0->(m+r)*x.w<=100->(∀i<m,∃u,us[i]? = some u/\PW k x (a+i*x.w) u)->
  ∃u' t3',forL (λ_=>True) (kN 3) (sr bh mj) (dn m) [some (.rol (us.map pd)),some (bz lo),some (pd u0),t3] []=.nx [some (.rol (us.map pd)),some (bz lo),some (pd u'),t3'] []/\PW k (tS lo 0 (List.replicate (m+r) x)) a u'/\u'.sg=((us.take m).map Pa.sg).flatten++u0.sg
 |0,r,u0,t3,h0,_,_=>⟨u0,t3,by rw[dn,a1z],by rw[Nat.zero_mul]at h0;rw[i5];exact h0,by simp⟩
 |m+1,r,u0,t3,h0,hw,al=>by
  obtain⟨u,eu,hu⟩:=al m (by omega)
  have h0':PW k (tS lo (m+1) (List.replicate r x)) (a+m*x.w+x.w) u0:=by rw[cT,<-cN];exact h0
  have hn:=b0e hk hu h0';have w1:x.w<=100:=by
   have:1*x.w<=(m+1+r)*x.w:=dk _ (by omega)
   omega
  have w2:(tS lo (m+1) (List.replicate r x)).w<=100:=by
   show sw (List.replicate r x)<=100;rw[ad3];exact bC (dk _ (by omega)) hw
  obtain⟨u',t3',e,w,g⟩:=a9o hk hk' m (r+1) _ (some (bz m)) hn (by rw[show m+(r+1)=m+1+r by omega];exact hw) λi hi=>al i (by omega)
  refine⟨u',t3',?_,by rw[show m+(r+1)=m+1+r by omega]at w;exact w,by rw[g,jC,eu];simp[sure,jn]⟩
  rw[dn,a1q _ _ _ _ _ [some (.rol (us.map pd)),some (bz lo),some (pd u0),some (bz m)] _ [] rfl,<-e];have:sr bh mj [some (.rol (us.map pd)),some (bz lo),some (pd u0),some (bz m)] []=.nx [some (.rol (us.map pd)),some (bz lo),some (pd (sure (decide (lo<=m)) (jn u u0))),some (bz m)] []:=by
   unfold sr;have ix:s2 gIx (sV 0) (sV 3) [some (.rol (us.map pd)),some (bz lo),some (pd u0),some (bz m)] []=.ok (pd u) []:=kj (bw rfl) (bw rfl) (avw (by rw[bD,eu];rfl))
   refine aU (jw (vm ix (bw rfl) (adi (hu.sm hk' w1) (h0.sm hk' w2) []))) ?_;have ge:sT (s2 gGe (sV 3) (sV 1)) [some (.rol (us.map pd)),some (bz lo),some (pd (jn u u0)),some (bz m)] []=.ok (decide (lo<=m)) []:=by
    refine t2s (bw rfl) (bw rfl) ?_;show R.ok (D.bl (decide ((lo:Int)<=(m:Int)))) []=_
    congr 2
    exact gK.mpr Int.ofNat_le
   cases z:decide (lo<=m) with
   |true =>
    rw[z]at ge;refine aU (ifT ge) ?_;have:=b0c (τ:=[some (.rol (us.map pd)),some (bz lo),some (pd (jn u u0)),some (bz m)]) (u:=sure true (jn u u0)) (f1:=s1 (uh "Patch" "signs") (sV 2)) (f2:=s1 (uh "Patch" "firsts") (sV 2)) (f3:=s1 (uh "Patch" "pairs") (sV 2)) (f4:=s1 (uh "Patch" "lasts") (sV 2)) (f5:=sC (.bl true)) (v6 (bw rfl) a6h) (v6 (bw rfl) a5h) (v6 (bw rfl) a9m) (v6 (bw rfl) a4c) ckk;exact b6t this
   |false =>
    rw[z]at ge;exact ifF ge
  rw[this];rfl
theorem b0g{x:Pt}{lo hi:Nat}(hl:lo<=hi):tS lo 0 (List.replicate hi x)=avv x lo hi:=by
 unfold tS avv;rw[ad3,azw hl]
theorem apk{k a lo hi:Nat}{x:Pt}(hk:1<=k)(hk':k<=10)(hl:lo<=hi){us:List Pa}(h:PWs k (List.replicate hi x) a us)(hw:hi*x.w<=100)(hh:hi<=1000000):∃u,Pu jm 2 [.rol (us.map pd),bz lo] (pd u)/\PW k (avv x lo hi) a u/\u.sg=(us.map Pa.sg).flatten:=by
 obtain⟨ul,al⟩:=aly hi a us h;have p0:PW k (tS lo hi (List.replicate 0 x)) (a+hi*x.w) (pa0 true):=⟨rfl,rfl,λp=>by simp[pa0,tS,sB],λp=>by simp[pa0,tS,tE],λp q=>by simp[pa0,tS,sF],bb _,bb _,bb _⟩
 obtain⟨u',t3',e,w,g⟩:=a9o hk hk' hi 0 (pa0 true) none p0 hw al;rw[Nat.add_zero,b0g hl]at w;refine⟨u',Pu.of rfl ?_ (r:=.ok (pd u') []) ?_ (jd (a1g _) nlc) (a1g _),w,by rw[g,cC (by omega)];simp[pa0]⟩
 .intro y hy
  rcases aL.mp hy with rfl|hy
  .exact jh (agl us)
  .obtain rfl:=ax.mp hy;exact cz _
 unfold jm;rw[ig];show toR (wj bh mj [some (.rol (us.map pd)),some (bz lo),none,none] [])=_;unfold wj;rw[jw b0d];have it:=ayl (f:=sA vg (aj (sV 0) di)) (τ:=[some (.rol (us.map pd)),some (bz lo),some (pd (pa0 true)),none]) (h:=[]) (n:=hi) (qg (bw rfl) (by show R.ok (bz (us.map pd).length) []=_;rw[ar,ul])) (ik hh)
 rw[b0f]at it;refine etr (a4m it) ?_;refine aU (aI (λz=>toR (MI.thn z (pq (sV 2)))) e) ?_;exact aI toR (jl (bw rfl))
end K11
namespace K11
open L2 MI AT HND EVX SPR
open SHD
open PAP hiding v7 a2k a3v a03 aof
open DRW (wt wts)
def oj(u v:Pa):Pa:=⟨u.sg++v.sg,u.fs++v.fs,u.ps++v.ps,u.ls++v.ls,u.e || v.e⟩
noncomputable def hQ(a b c d:List D)(e:Bool):Hd:=[.lst a,.lst b,.lst c,.lst d,.ins "Patch" [("signs",.ref 0),("firsts",.ref 1),("pairs",.ref 2),("lasts",.ref 3),("empty",.bl e)]]
abbrev hO(u:Pa):Hd:=hQ (sgD u.sg) (u.fs.map bz) (u.ps.map prD) (u.ls.map bz) u.e
theorem aba{h:Hd}{i:Nat}{xs ys:List D}(e:h[i]? = some (.lst xs))(z:xs.length+ys.length<=1000000):a7v (.ref i) [.rol ys] h=.ok .non (h.set i (.lst (xs++ys))):=by
 show(match h[i]?,a0i (.rol ys) h with|some (.lst xs),some ys=>if xs.length+ys.length<=LINE then R.ok D.non (h.set i (.lst (xs++ys))) else .no|_,_=>.no)=_
 rw[e];exact aJ (ik z)
theorem apl{L:D}{u v:Pa}(hu:Sm u)(hv:Sm v):v4 bh [some L,some (.ref 4),some (pd v)] (hO u)=.nx [some L,some (.ref 4),some (pd v)] (hO (oj u v)):=by
 obtain⟨a1,a2,a3,a4⟩:=hu;obtain⟨b1,b2,b3,b4⟩:=hv;unfold v4
 generalize hA:sgD u.sg=A
 generalize hB:u.fs.map bz=B
 generalize hC:u.ps.map prD=C
 generalize hD:u.ls.map bz=E
 have lA:A.length<=100:=by rw[<-hA];simpa using a1
 have lB:B.length<=100:=by rw[<-hB];simpa using a2
 have lC:C.length<=100000:=by rw[<-hC];simpa using a4
 have lE:E.length<=100:=by rw[<-hD];simpa using a3
 have s1:a0v (sML a7v (s1 (uh "Patch" "signs") (sV 1)) (aj (s1 (uh "Patch" "signs") (sV 2)) di)) [some L,some (.ref 4),some (pd v)] (hQ A B C E u.e)=.nx [some L,some (.ref 4),some (pd v)] (hQ (A++sgD v.sg) B C E u.e) :=
  a3f (v6 (bw rfl) (rfl:uh "Patch" "signs" (.ref 4) (hQ A B C E u.e)=.ok (.ref 0) _)) rfl (cns (v6 (bw rfl) a6h) nlo) (aba rfl (by rw[ar];omega))
 have s2:a0v (sML a7v (MI.s1 (uh "Patch" "firsts") (sV 1)) (aj (MI.s1 (uh "Patch" "firsts") (sV 2)) di)) [some L,some (.ref 4),some (pd v)] (hQ (A++sgD v.sg) B C E u.e)=.nx [some L,some (.ref 4),some (pd v)] (hQ (A++sgD v.sg) (B++v.fs.map bz) C E u.e) :=
  a3f (v6 (bw rfl) (rfl:uh "Patch" "firsts" (.ref 4) (hQ (A++sgD v.sg) B C E u.e)=.ok (.ref 1) _)) rfl (cns (v6 (bw rfl) a5h) nlo) (aba rfl (by rw[ar];omega))
 have s3:a0v (sML a7v (MI.s1 (uh "Patch" "pairs") (sV 1)) (aj (MI.s1 (uh "Patch" "pairs") (sV 2)) di)) [some L,some (.ref 4),some (pd v)] (hQ (A++sgD v.sg) (B++v.fs.map bz) C E u.e)=.nx [some L,some (.ref 4),some (pd v)] (hQ (A++sgD v.sg) (B++v.fs.map bz) (C++v.ps.map prD) E u.e) :=
  a3f (v6 (bw rfl) (rfl:uh "Patch" "pairs" (.ref 4) (hQ (A++sgD v.sg) (B++v.fs.map bz) C E u.e)=.ok (.ref 2) _)) rfl (cns (v6 (bw rfl) a9m) nlo) (aba rfl (by rw[ar];omega))
 have s4:a0v (sML a7v (MI.s1 (uh "Patch" "lasts") (sV 1)) (aj (MI.s1 (uh "Patch" "lasts") (sV 2)) di)) [some L,some (.ref 4),some (pd v)] (hQ (A++sgD v.sg) (B++v.fs.map bz) (C++v.ps.map prD) E u.e)=.nx [some L,some (.ref 4),some (pd v)] (hQ (A++sgD v.sg) (B++v.fs.map bz) (C++v.ps.map prD) (E++v.ls.map bz) u.e) :=
  a3f (v6 (bw rfl) (rfl:uh "Patch" "lasts" (.ref 4) (hQ (A++sgD v.sg) (B++v.fs.map bz) (C++v.ps.map prD) E u.e)=.ok (.ref 3) _)) rfl (cns (v6 (bw rfl) a4c) nlo) (aba rfl (by rw[ar];omega))
 have s5:a8r "Patch" "empty" (sV 1) (ai6 (MI.s1 (uh "Patch" "empty") (sV 1)) (MI.s1 (uh "Patch" "empty") (sV 2))) [some L,some (.ref 4),some (pd v)] (hQ (A++sgD v.sg) (B++v.fs.map bz) (C++v.ps.map prD) (E++v.ls.map bz) u.e)=.nx [some L,some (.ref 4),some (pd v)] (hQ (A++sgD v.sg) (B++v.fs.map bz) (C++v.ps.map prD) (E++v.ls.map bz) (u.e || v.e)) :=
  (a5y (i:=4) (y:=.bl (u.e || v.e)) (fs:=[("signs",.ref 0),("firsts",.ref 1),("pairs",.ref 2),("lasts",.ref 3),("empty",.bl u.e)]) (b6p (v6 (bw rfl) (rfl:uh "Patch" "empty" (.ref 4) (hQ (A++sgD v.sg) (B++v.fs.map bz) (C++v.ps.map prD) (E++v.ls.map bz) u.e)=.ok (.bl u.e) _)) (v6 (bw rfl) a9n)) (bw rfl) rfl (by show 5<1000;omega)).trans rfl
 have hO':hO u=hQ A B C E u.e:=by show hQ (sgD u.sg) (u.fs.map bz) (u.ps.map prD) (u.ls.map bz) u.e=_;rw[hA,hB,hC,hD]
 rw[hO',ym s1,ym s2,ym s3,ym s4,s5];show _=Fl.nx _ (hQ (sgD (u.sg++v.sg)) ((u.fs++v.fs).map bz) ((u.ps++v.ps).map prD) ((u.ls++v.ls).map bz) (u.e || v.e))
 rw[show sgD (u.sg++v.sg)=sgD u.sg++sgD v.sg from bF,bF,bF,bF,hA,hB,hC,hD]
theorem b3e{k:Nat}(hk:1<=k){xs:List Pt}{x:Pt}{a:Nat}{u v:Pa}(hu:PW k (al8 xs) a u)(hv:PW k x (a+sw xs) v):PW k (al8 (xs++[x])) a (oj u v) where
 n:=by show(u.sg++v.sg).length=sw (xs++[x]);rw[ah,hu.n,hv.n,a1s];rfl
 e:=by show(u.e || v.e)=oE (xs++[x]);rw[hu.e,hv.e,aqx];rfl
 f:=λp=>by
  have h1:=hu.f p;have h2:=hv.f p;show p∈u.fs++v.fs↔oB (xs++[x]) a p=true
  change _↔oB xs a p=true at h1
  rw[ar0,bq,h1,h2,bS]
 l:=λp=>by
  have h1:=hu.l p;have h2:=hv.l p;show p∈u.ls++v.ls↔oEn (xs++[x]) a p=true
  change _↔oEn xs a p=true at h1
  rw[alb,bq,h1,h2,bS]
 s:=λp q=>by
  have h1:=hu.s p q;have h2:=hv.s p q;show(p,q)∈u.ps++v.ps↔oF (xs++[x]) a p q=true
  change _↔oF xs a p q=true at h1
  rw[ar3,bq,h1,h2,bS]
 lf:=by
  have h1:=hu.lf;have h2:=hv.lf;show(u.fs++v.fs).length<=sw (xs++[x])
  change _<=sw xs at h1
  rw[a1s,ah];omega
 ll:=by
  have h1:=hu.ll;have h2:=hv.ll;show(u.ls++v.ls).length<=sw (xs++[x])
  change _<=sw xs at h1
  rw[a1s,ah];omega
 lp:=by
  have h1:=hu.lp;have h2:=hv.lp;show(u.ps++v.ps).length<=k*(sw (xs++[x])*sw (xs++[x]))
  change _<=k*(sw xs*sw xs) at h1
  have:=sq k (sw xs) x.w hk
  rw[a1s,ah];omega
def jy:SF:=n8 (yz bh) 3
theorem agm{k a:Nat}(hk:1<=k)(hk':k<=10){L:D}:∀(us:List Pa) (xs ys:List Pt) (u0:Pa) (t2:Option D),PW k (al8 ys) a u0->PWs k xs (a+sw ys) us->sw ys+sw xs<=100->∃t2' u',forL (λ_=>True) (kN 2) (v4 bh) (us.map pd) [some L,some (.ref 4),t2] (hO u0)=.nx [some L,some (.ref 4),t2'] (hO u')/\PW k (al8 (ys++xs)) a u'/\u'.sg=u0.sg++(us.map Pa.sg).flatten
 |[],[],ys,u0,t2,h0,_,_=>⟨t2,u0,by rw[cM,a1z],by rw[bE];exact h0,by simp⟩
 |[],_::_,_,_,_,_,h,_=>h.elim
 |_::_,[],_,_,_,_,h,_=>h.elim
 |u::us,x::xs,ys,u0,t2,h0,h,hw=>by
  obtain⟨h1,h2⟩:=h;rw[sw]at hw;have h0':=b3e hk h0 h1;obtain⟨t2',u',e,w,g⟩:=agm hk hk' us xs (ys++[x]) (oj u0 u) (some (pd u)) h0' (by rw[a1s,<-cT];exact h2) (by rw[a1s];omega)
  refine⟨t2',u',?_,by rw[cA]at w;exact w,by rw[g];simp[oj]⟩
  rw[aZ,a1q _ _ _ _ _ [some L,some (.ref 4),some (pd u)] _ (hO u0) rfl,<-e,apl (h0.sm hk' (show sw ys<=100 by omega)) (h1.sm hk' (by omega))]
  rfl
theorem b0h(u:Pa):aaf 0 (.ok (.ref 4) (hO u))=.ok (pd u) []:=by
 refine a7w (n:=0) ?_ (by simp)
 show a2v 0 _ (19+1) _=_;rw[a2v,ba (by simp only[MI.clo];omega)]
 show(a1u (a2v 0 (hO u) 19) [.ref 0,.ref 1,.ref 2,.ref 3,.bl u.e]).map (D.ins "Patch" KP)=_;have e0:a2v 0 (hO u) 19 (.ref 0)=some (.rol (sgD u.sg)):=a4y (k:=17) (bb _) rfl (a3h _);have e1:a2v 0 (hO u) 19 (.ref 1)=some (.rol (u.fs.map bz)):=a4y (k:=17) (bb _) rfl (j4 _);have e2:a2v 0 (hO u) 19 (.ref 2)=some (.rol (u.ps.map prD)):=a4y (k:=17) (bb _) rfl (a8g _);have e3:a2v 0 (hO u) 19 (.ref 3)=some (.rol (u.ls.map bz)):=a4y (k:=17) (bb _) rfl (j4 _);have e4:a2v 0 (hO u) 19 (.bl u.e)=some (.bl u.e):=a6v (k:=18) (lr _)
 simp only[a1u,e0,e1,e2,e3,e4];rfl
theorem alz{k a:Nat}(hk:1<=k)(hk':k<=10){us:List Pa}{xs:List Pt}(h:PWs k xs a us)(hw:sw xs<=100):∃u,Pu jy 1 [.rol (us.map pd)] (pd u)/\PW k (al8 xs) a u/\u.sg=(us.map Pa.sg).flatten:=by
 have p0:PW k (al8 []) a (pa0 false):=⟨rfl,rfl,λp=>by simp[pa0,al8,oB],λp=>by simp[pa0,al8,oEn],λp q=>by simp[pa0,al8,oF],bb _,bb _,bb _⟩
 obtain⟨t2',u',e,w,g⟩:=agm (a:=a) hk hk' (L:=.rol (us.map pd)) us xs [] (pa0 false) none p0 h (by rw[sw];omega)
 refine⟨u',Pu.of rfl (b4q us) (r:=.ok (.ref 4) (hO u')) ?_ (b0h u') (a1g _),w,g⟩;unfold jy;rw[ig];show toR (yz bh [some (.rol (us.map pd)),none,none] [])=_;unfold yz;have m:sA (a3a "Patch" 5 bh) (aj (sA xq di) (aj (sA xq di) (aj (sA xq di) (aj (sA xq di) (aj (sC (.bl false)) di))))) [some (.rol (us.map pd)),none,none] []=.ok (.ref 4) (hO (pa0 false)):=by
  refine aoo (h1:=[.lst [],.lst [],.lst [],.lst []]) (ds:=[.ref 0,.ref 1,.ref 2,.ref 3,.bl false]) ?_ ?_
  .rfl
  .rw[alw];rfl
 rw[jw m];refine etr (a4m (a6o (bw rfl) rfl)) ?_;refine aU (aI (λz=>toR (MI.thn z (pq (sV 1)))) e) ?_;exact aI toR (jl (bw rfl))
end K11
namespace K11
open L2 MI AT HND EVX SPR
open SHD
open PAP hiding v7 a2k a3v a03 aof
open DRW (wt wts)
def abb(F:SF):SF:=n8 (zp F) 6
def b1o(F:SF)(k:Nat)(q:Sh):Prop:=∀a,∃u,Pu F 2 [sd q,bz (a+1)] (pd u)/\PW k (pt q) a u/\u.sg=mk q
theorem a6i{F:SF}{k:Nat}{x y:D}:∀(ps:List Sh) (a:Nat) (us0:List Pa) (t4 t5:Option D),us0.length+ps.length<=1000->(∀q∈ps,b1o F k q)->
  ∃(us:List Pa) (a':Nat) (t4' t5':Option D),forL (λ_=>True) (kN 4) (yf F) (sds ps) [some x,some y,some (.ref 0),some (bz (a+1)),t4,t5] [.lst (us0.map pd)]=.nx [some x,some y,some (.ref 0),some (bz a'),t4',t5'] [.lst ((us0++us).map pd)]/\PWs k (pts ps) a us/\us.map Pa.sg=ps.map mk
 |[],a,us0,t4,t5,_,_=>⟨[],a+1,t4,t5,by rw[sds,a1z,bE],by rw[pts];exact True.intro,rfl⟩
 |q::ps,a,us0,t4,t5,hl,al=>by
  obtain⟨u,pu,w,g⟩:=al q (by simp) a
  rw[aN]at hl;obtain⟨us,a',t4',t5',e,ws,gs⟩:=a6i (x:=x) (y:=y) ps (a+(pt q).w) (us0++[u]) (some (sd q)) (some (pd u)) (by rw[ah];show us0.length+1+ps.length<=1000;omega) λq hq=>al q (by simp[hq])
  refine⟨u::us,a',t4',t5',?_,by rw[pts];exact⟨w,ws⟩,by rw[aZ,aZ,g,gs]⟩
  rw[sds,a1q _ _ _ _ _ [some x,some y,some (.ref 0),some (bz (a+1)),some (sd q),t5] _ [.lst (us0.map pd)] rfl];rw[show us0++u::us=us0++[u]++us by simp,<-e]
  have:yf F [some x,some y,some (.ref 0),some (bz (a+1)),some (sd q),t5] [.lst (us0.map pd)]=.nx [some x,some y,some (.ref 0),some (bz (a+(pt q).w+1)),some (sd q),some (pd u)] [.lst ((us0++[u]).map pd)]:=by
   unfold yf;refine aU (jw (vm (bw rfl) (bw rfl) (pu _))) ?_;refine aU (ym (a3f (bw rfl) rfl (cns (bw rfl) nlo) (a8c rfl (by have:=ik (n:=us0.length+1) (by omega);rw[ar];omega)))) ?_
   refine aU (apa rfl (qg (v6 (bw rfl) a6h) EVT.yq) (b09 _ _ _)) ?_;have:a+1+(sgD u.sg).length=a+(pt q).w+1:=by rw[ar,w.n];omega
   rw[this,bF];rfl
  rw[this];rfl
theorem a5z{F:SF}{k:Nat}{x:D}{ps:List Sh}(cx:MI.clo 0 x)(it:∀h,amm x h=.ok ⟨sds ps,λ_=>True⟩ h)(a:Nat)(hl:ps.length<=1000)(al:∀q∈ps,b1o F k q):∃us:List Pa,Pu (abb F) 2 [x,bz (a+1)] (.rol (us.map pd))/\PWs k (pts ps) a us/\us.map Pa.sg=ps.map mk:=by
 obtain⟨us,a',t4',t5',e,ws,gs⟩:=a6i (x:=x) (y:=bz (a+1)) ps a [] none none (by simpa using hl) al
 refine⟨us,Pu.of rfl ?_ (r:=.ok (.ref 0) [.lst (us.map pd)]) ?_ (a4z (aw _) rfl (agl _) (by simp)) (jh (agl _)),ws,gs⟩
 .intro y hy
  rcases aL.mp hy with rfl|hy
  .exact cx
  .obtain rfl:=ax.mp hy;exact cz _
 unfold abb;rw[ig];show toR (zp F [some x,some (bz (a+1)),none,none,none,none] [])=_;unfold zp;rw[jw (b01 rfl:sA xq di [some x,some (bz (a+1)),none,none,none,none] []=.ok (.ref 0) [.lst []])];refine ets (bw rfl) ?_;refine etr (a4m (a6o (bw rfl) (it _))) ?_;refine aU (aI (λz=>toR (MI.thn z (pq (sV 2)))) e) ?_;exact aI toR (jl (bw rfl))
theorem PWs.up{k:Nat}:∀{xs:List Pt} {a:Nat} {us:List Pa},PWs k xs a us->PWs (k+1) xs a us
 |[],_,[],_=>True.intro
 |[],_,_::_,h=>h.elim
 |_::_,_,[],h=>h.elim
 |_::_,_,_::_,h=>⟨h.1.up,PWs.up h.2⟩
mutual
def j9:Nat->SF
 |0=>λ_ _=>.no
 |n+1=>n8 (uz bh mq jq (j9 n) jy jm (mz n)) 2
def mz:Nat->SF
 |0=>λ_ _=>.no
 |n+1=>n8 (zp (j9 n)) 6
end
theorem apm(n:Nat)(x y:D):j9 (n+1) [x,y] []=toR (uz bh mq jq (j9 n) jy jm (mz n) [some x,some y] []):=by
 rw[j9,ig];rfl
theorem ara{ps:List Sh}(h:Hd):amm (.tup (sds ps)) h=.ok ⟨sds ps,λ_=>True⟩ h:=rfl
theorem b0i{ps:List Sh}(h:Hd):amm (.rol (sds ps)) h=.ok ⟨sds ps,λ_=>True⟩ h:=rfl
theorem b3f(n:Nat)(x:D):(List.replicate n [x]).flatten=List.replicate n x:=by
 induction n with
 |zero=>rfl
 |succ n ih=>rw[bA,bA,cv,ih];rfl
theorem abd{tg:List Nat}:∀(d n:Nat),2*d<=n->d<=9->∀s,abh tg d s->wt s<=100->b1o (j9 n) d s
 |0,_,_,_,_,k,_=>k.elim
 |d+1,0,h,_,_,_,_=>absurd h (by omega)
 |d+1,1,h,_,_,_,_=>absurd h (by omega)
 |d+1,n+2,h,h9,s,k,hw=>λa=>by
  have ih1:=abd (tg:=tg) d (n+1) (by omega) (by omega)
  have ih:=abd (tg:=tg) d n (by omega) (by omega)
  have pf:mz (n+1)=abb (j9 n):=by rw[mz];rfl
  have cl:∀y∈[sd s,bz (a+1)],MI.clo 0 y:=λy hy=>by
   rcases aL.mp hy with rfl|hy
   .exact a1f s
   .obtain rfl:=ax.mp hy;exact cz _
  have fin:∀u,toR (uz bh mq jq (j9 (n+1)) jy jm (mz (n+1)) [some (sd s),some (bz (a+1))] [])=.ok (pd u) []->Pu (j9 (n+2)) 2 [sd s,bz (a+1)] (pd u):=λu e=>Pu.of rfl cl (r:=.ok (pd u) []) (by rw[apm];exact e) (jd (a1g _) nlc) (a1g _)
  have kids:∀{ps:List Sh},(∀q∈ps,abh tg d q)->wts ps<=100->∀q∈ps,b1o (j9 n) d q:=by
   intro ps
   induction ps with
   |nil=>intro _ _ q hq;cases hq
   |cons p ps ih' =>
    intro ka kw q hq
    rw[wts]at kw
    rcases aL.mp hq with rfl|hq
    .exact ih q (ka q (by simp)) (by omega)
    .exact ih' (λq hq=>ka q (by simp[hq])) (by omega) q hq
  match s,k with
  |.one sg,k =>
   refine⟨⟨[sg],[a+1],[],[a+1],false⟩,fin _ ?_,?_,by rw[mk]⟩
   .unfold uz;rw[sd];refine aI toR (um (aU (ifT (by walk_at "x")) (jl ?_)))
    exact b0c (u:=⟨[sg],[a+1],[],[a+1],false⟩) (zds (cns (vo rfl SHD.ix1) nlo) rfl (a3h [sg]) nlc (by simp)) (zds (cns (bw rfl) nlo) rfl (j4 [a+1]) nlc (by simp)) avy (zds (cns (bw rfl) nlo) rfl (j4 [a+1]) nlc (by simp)) ckk
   .rw[pt];exact⟨rfl,rfl,λp=>by simp[auo],λp=>by simp[auo],λp q=>by simp[auo],aw _,aw _,bb _⟩
  |.row ps,k =>
   rw[wt]at hw;obtain⟨us,pu,ws,gs⟩:=a5z (gj (a5x ps)) ara a (by have:=k.1;omega) (kids k.2 hw)
   rw[<-pf]at pu;obtain⟨u,pu2,w,g⟩:=ai3 (k:=d+1) (by omega) (by omega) ws.up (by rw[ai2];exact hw)
   refine⟨u,fin u ?_,by rw[pt];exact w,by rw[g,gs,mk,ab7]⟩
   unfold uz;rw[sd];refine eti (by walk_at "x") ?_
   exact aI toR (um (ifr (by walk_at "x") (qg (vm (vo rfl SHD.ix1) (bw rfl) (pu [])) (pu2 []))))
  |.eit ps,k =>
   rw[wt]at hw;obtain⟨us,pu,ws,gs⟩:=a5z (gj (a5x ps)) ara a (by have:=k.2.1;omega) (kids k.2.2 hw)
   rw[<-pf]at pu;obtain⟨u,pu2,w,g⟩:=alz (k:=d+1) (by omega) (by omega) ws.up (by rw[ai2];exact hw)
   refine⟨u,fin u ?_,by rw[pt];exact w,by rw[g,gs,mk,ab7]⟩
   unfold uz;rw[sd];refine eti (by walk_at "x") ?_
   refine eti (by walk_at "x") ?_
   exact aI toR (um (ifr (by walk_at "x") (qg (vm (vo rfl SHD.ix1) (bw rfl) (pu [])) (pu2 []))))
  |.many p,k =>
   rw[wt]at hw;obtain⟨u,pu,w,g⟩:=ih1 p k hw a;refine⟨again u,fin _ ?_,by rw[pt];exact apj w,by rw[mk];exact g⟩
   unfold uz;rw[sd];refine eti (by walk_at "x") ?_
   refine eti (by walk_at "x") ?_
   refine eti (by walk_at "x") ?_
   exact aI toR (um (ifr (by walk_at "x") (qg (vm (vo rfl SHD.ix1) (bw rfl) (pu [])) (api (w.sm (by omega) (by rw[adh];exact hw)) []))))
  |.tim p lo hi,k =>
   rw[wt]at hw;have kh:=k.2.1;have wr:wts (List.replicate hi p)<=100:=by rw[<-ai2,aex,eG,ad3,adh];exact hw
   obtain⟨us,pu,ws,gs⟩:=a5z (x:=.rol (sds (List.replicate hi p))) (jh (a5x _)) b0i a (by rw[cJ];omega) (kids (λq hq=>by rw[eU hq];exact k.2.2) wr)
   rw[<-pf]at pu;rw[aex,eG]at ws;obtain⟨u,pu2,w,g⟩:=apk (k:=d+1) (by omega) (by omega) k.1 ws.up (by rw[adh];exact hw) (by omega)
   refine⟨u,fin u ?_,by rw[pt];exact w,by rw[g,gs,mk,eG]⟩
   unfold uz;rw[sd];refine eti (by walk_at "x") ?_
   refine eti (by walk_at "x") ?_
   refine eti (by walk_at "x") ?_
   refine eti (by walk_at "x") ?_
   have z:sZ (s2 zx (sZ (sA xq (aj (s2 gIx (sV 0) (sI 1)) di))) (s2 gIx (sV 0) (sI 3))) [some (.tup [.str "times",sd p,bz lo,bz hi]),some (bz (a+1))] []=.ok (.rol (sds (List.replicate hi p))) []:=by
    have:=EVT.a04 (k:=(hi:Nat)) (f:=sZ (sA xq (aj (s2 gIx (sV 0) (sI 1)) di))) (g:=s2 gIx (sV 0) (sI 3)) (τ:=[some (.tup [.str "times",sd p,bz lo,bz hi]),some (bz (a+1))]) (h:=[]) (h1:=[]) (h2:=[]) (xs:=[sd p]) (zds (cns (vo rfl SHD.ix1) nlo) rfl (bu (a1f p) gh) nlc (by simp)) (vo rfl SHD.ix3) rfl (bu (a1f p) gh) nlc (by simp;omega) (by omega)
    rw[this,alv]
    congr 2
    exact b3f hi (sd p)
   exact aI toR (jl (vm (vm z (bw rfl) (pu [])) (vo rfl SHD.ix2) (pu2 [])))
end K11
namespace K11
open L2 MI AT HND EVX SPR
open SHD
open PAP hiding v7 a2k a3v a03 aof
open DRW (wt wts)
open ENG (fl a4b aep a6g)
def j6:SF:=n8 a6w 1
theorem a1t{l:List Nat}{n:Nat}{P:Nat->Prop}(hn:n+1<=60)(ll:l.length<=4000)(mem:∀y,y∈l↔P y)(bd:∀y,P y->y<=n):Pu j6 1 [.rol (l.map bz)] (.tup ((fl n (λ_ y=>P y) 0).map bz)):=by
 obtain⟨ts,fw,srt,m,es⟩:=ape (l:=l) (d:=.rol (l.map bz)) (h:=[]) hn (λy hy=>by have:=bd y ((mem y).mp hy);omega) ll (alk _ [])
 have et:ts=fl n (λ_ y=>P y) 0:=aep fw.nd srt λy=>by
  rw[m,mem];exact⟨λh=>⟨bd y h,h⟩,λh=>h.2⟩
 rw[et]at es;refine Pu.of rfl ?_ (r:=.ok (.tup ((fl n (λ_ y=>P y) 0).map bz)) []) ?_ (jd (gj (j4 _)) nlc) (gj (j4 _))
 .intro y hy;obtain rfl:=ax.mp hy;exact jh (j4 _)
 unfold j6;rw[ig];show toR (a6w [some (.rol (l.map bz))] [])=_;unfold a6w;exact aI toR (jl (qg (zrl (h1:=[]) (v6 (bw rfl) es) rfl (j4 _) nlc) SHD.ue))
abbrev rwF(s:Sh)(p:Nat):List Nat:=fl (wt s) (λ_ q=>(pt s).F 0 p q=true) 0
abbrev rwB(s:Sh):List Nat:=fl (wt s) (λ_ q=>(pt s).B 0 q=true) 0
abbrev rwE(s:Sh):List Nat:=fl (wt s) (λ_ q=>(q=0/\(pt s).e=true)\/(pt s).E 0 q=true) 0
abbrev tpN(l:List Nat):D:=.tup (l.map bz)
abbrev spD(s:Sh):D:=.tup [.tup (.str ""::sgD (mk s)),.tup (tpN (rwB s)::(List.range (wt s)).map λi=>tpN (rwF s (1+i))),tpN (rwE s)]
def ux:SF:=n8 (a1d j6) 4
theorem b3g{p q:Nat}{h:Hd}:hEq (bz p) (bz q) h=.ok (.bl (decide (p=q))) h:=by
 by_cases e:p=q
 .rw[e,zy rfl,e8 rfl]
 .rw[a0x (λz=>e (eV.mp z)),bI e]
theorem apn{ps:List (Nat×Nat)}{fi:SI}{τ:Sd}{h:Hd}{p:Nat}(e:fi τ h=.ok ⟨ps.map prD,λ_=>True⟩ h)(e2:τ[2]? = some (some (bz p)))(z:ps.length<=1000)(ch:∀u∈h,uv 0 u):sZ (a02 fi (tN 2) (a0n j6) (a3b j6) [2]) τ h=.ok (.rol (((ps.filter λx=>x.1 == p).map Prod.snd).map bz)) h:=by
 have ff:∀ys:List (Nat×Nat),ys.filterMap (λx=>if x.1=p then some (bz x.2) else none)=((ys.filter λx=>x.1 == p).map Prod.snd).map bz:=λys=>by
  induction ys with
  |nil=>rfl
  |cons y ys ih=>by_cases q:y.1=p<;>simp[q,ih]
 refine zrl (h1:=h) ?_ rfl (j4 _) ch;rw[<-ff];refine ad7 prD _ ps e (ik (by omega)) λx hx=>?_
 have fr:frs' [2] τ=[some (bz p)]:=by show[(τ[2]?).join]=_;rw[e2];rfl
 rw[fr];have tn:tN 2 (prD x)=some [some (bz x.1),some (bz x.2)]:=rfl;unfold aca;rw[tn];dsimp only;rw[show[some (bz x.1),some (bz x.2)]++[some (bz p)]=[some (bz x.1),some (bz x.2),some (bz p)] from rfl]
 have t:(a0n j6) [some (bz x.1),some (bz x.2),some (bz p)] h=.ok (decide (x.1=p)) h:=t2s (bw rfl) (bw rfl) b3g;rw[t,cj]
 by_cases q:x.1=p
 .rw[e8 q,aJ rfl,aJ q];rfl
 .rw[bI q,ba (by simp),ba q]
theorem ave{s:Sh}{k:Nat}{u:Pa}(hk:k<=9)(hw:wt s<=10)(w:PW k (pt s) 0 u)(g:u.sg=mk s):Pu ux 1 [pd u] (spD s):=by
 have o:=aey s;have lp:u.ps.length<=1000:=by
  have:=w.lp
  rw[adh]at this;have:k*(wt s*wt s)<=9*(10*10):=dM hk (dM hw hw);omega
 have ls:=w.ll;have lf:=w.lf;rw[adh]at ls lf;have B:=a1t (n:=wt s) (P:=λq=>(pt s).B 0 q=true) (l:=u.fs) (by omega) (by omega) w.f λy h=>by have:=(o.b 0 y h).2;rw[adh]at this;omega
 have N:∀p,Pu j6 1 [.rol (((u.ps.filter λx=>x.1 == p).map Prod.snd).map bz)] (tpN (rwF s p)):=λp=>a1t (by omega) (by rw[ar];exact bC (dU _ _) (by omega)) (λy=>by
  rw[<-w.s];simp only[cf,cG,eD]
  constructor
  .rintro⟨⟨a,b⟩,⟨h1,h2⟩,rfl⟩;cases h2;exact h1
  .intro h;exact⟨(p,y),⟨h,rfl⟩,rfl⟩) λy h=>by have:=(o.f 0 p y h).2.2;rw[adh]at this;omega
 have E:Pu j6 1 [.rol ((if u.e then u.ls++[0] else u.ls).map bz)] (tpN (rwE s)):=a1t (by omega) (by cases u.e<;>simp<;>omega) (λy=>by
  have h1:=w.l y;have h2:=w.e;rw[<-h2]
  cases u.e<;>simp[h1,or_comm]) λy h=>by
   rcases h with⟨rfl,_⟩|h
   .omega
   .have:=(o.e 0 y h).2;rw[adh]at this;omega
 have cr:∀(a:Nat) (l:List Nat),clos 0 (tpN (rwB s)::l.map λi=>tpN (rwF s (a+i))):=λa l=>bu (gj (j4 _)) (dq λ_ _=>gj (j4 _));have cs:clos 0 (.str ""::sgD (mk s)):=bu (dz _) (a3h _);have cd:MI.clo 0 (spD s):=gj (bu (gj cs) (bu (gj (cr 1 _)) (bu (gj (j4 _)) gh)));refine Pu.of rfl (b3b u) (r:=.ok (spD s) [.lst (tpN (rwB s)::(List.range (wt s)).map λi=>tpN (rwF s (1+i)))]) ?_ (jd cd (by simp)) cd
 unfold ux;rw[ig];show toR (a1d j6 [some (pd u),none,none,none] [])=_;unfold a1d;refine etr (jw (h1:=[.lst [tpN (rwB s)]]) (d:=.ref 0) (qg (qg (v6 (bw rfl) a5h) (B [])) rfl)) ?_;have sl:∀h,vg [.rol (sgD u.sg)] h=.ok (bz (wt s)) h:=λh=>by rw[EVT.yq,ar,w.n,adh]
 have it:=auu (a:=1) (n:=wt s+1) (g:=sC (.int 1)) (f:=s2 ie (sA vg (aj (s1 (uh "Patch" "signs") (sV 0)) di)) (sI 1)) (τ:=[some (pd u),some (.ref 0),none,none]) (h:=[.lst [tpN (rwB s)]]) ckk (kj (qg (v6 (bw rfl) a6h) (sl _)) ckk (DRW.av7 (a:=wt s) (b:=1))) (ik (by omega)) (ik (by omega))
 refine etr (a4m it) ?_;obtain⟨τ',h',e,⟨t2,rfl⟩,rfl⟩:=a0z (g:=kN 2) (b:=a3c j6) (λi:Nat=>D.int ((1+i:Nat))) (λpre τ h=>(∃t2:Option D,τ=[some (pd u),some (.ref 0),t2,none])/\h=[.lst (tpN (rwB s)::pre.map λi=>tpN (rwF s (1+i)))]) (List.range (wt s+1-1)) [some (pd u),some (.ref 0),none,none] [.lst [tpN (rwB s)]]
  (by
   rintro pre q post τ h al ⟨⟨t2,rfl⟩,rfl⟩
   have pl:pre.length<=20:=by
    have:=aI List.length al
    rw[ah,cV]at this;omega
   refine⟨[some (pd u),some (.ref 0),some (bz (1+q)),none],_,rfl,_,_,a3f (bw rfl) rfl (cns (qg (apn (p:=1+q) (a6o (v6 (bw rfl) a9m) rfl) rfl lp ?_) (N (1+q) _)) nlo) (a8c rfl ?_),⟨_,rfl⟩,?_⟩
   .intro o ho;obtain rfl:=ax.mp ho;exact cr 1 pre
   .have:=ik (n:=pre.length+2) (by omega)
    rw[aN,ar];omega
   .show[O.lst ((tpN (rwB s)::pre.map λi=>tpN (rwF s (1+i)))++[tpN (rwF s (1+q))])]=_;rw[bF];rfl)
  ⟨⟨_,rfl⟩,rfl⟩
 rw[Nat.add_sub_cancel]at e;refine aU (aI (λz=>toR (MI.thn z _)) e) ?_;have ch:∀o∈[O.lst (tpN (rwB s)::(List.range (wt s)).map λi=>tpN (rwF s (1+i)))],uv 0 o:=λo ho=>by obtain rfl:=ax.mp ho;exact cr 1 _
 generalize hH:[O.lst (tpN (rwB s)::(List.range (wt s)).map λi=>tpN (rwF s (1+i)))]=H at ch
 have zl:ady (a7m (s1 (uh "Patch" "empty") (sV 0))) (sZ (s2 ie (s1 (uh "Patch" "lasts") (sV 0)) (sZ (sA xq (aj (sI 0) di))))) (s1 (uh "Patch" "lasts") (sV 0)) [some (pd u),some (.ref 0),t2,none] H=.ok (.rol ((if u.e then u.ls++[0] else u.ls).map bz)) H:=by
  refine avd (ur (v6 (bw rfl) a9n) (ju _)) ?_ (v6 (bw rfl) a4c);rw[bF];exact EVT.wg (v6 (bw rfl) a4c) (zds (cns ckk nlo) rfl (j4 [0]) ch (by simp)) rfl (j4 _) (j4 [0]) ch (by rw[ar];show u.ls.length+1<=_;omega)
 refine etr (jw zl) ?_;have zs:∀t3,sZ (s2 ie (sZ (sA xq (aj (sC (.str "")) di))) (s1 (uh "Patch" "signs") (sV 0))) [some (pd u),some (.ref 0),t2,t3] H=.ok (.rol (.str ""::sgD (mk s))) H:=λt3=>by
  rw[<-g];exact EVT.wg (xs:=[.str ""]) (zds (cns ckk nlo) rfl (bu (dz _) gh) ch (by simp)) (v6 (bw rfl) a6h) rfl (bu (dz _) gh) (a3h _) ch (by rw[ar,w.n,adh];show 1+wt s<=_;omega)
 have gt:vy [.ref 0] H=.ok (.tup (tpN (rwB s)::(List.range (wt s)).map λi=>tpN (rwF s (1+i)))) H:=by rw[<-hH];rfl
 exact aI toR (jl (aoo (cns (qg (zs _) SHD.ue) (cns (qg (bw rfl) gt) (cns (qg (bw rfl) (E H)) nlo))) adc))
end K11
namespace K11
open L2 MI AT HND EVX SPR
open SHD
open PAP hiding v7 a2k a3v a03 aof
open DRW (wt wts)
open ENG (fl a4b aep a6g)
def qj:Nat->SF
 |0=>λ_ _=>.no
 |n+1=>n8 (a5e ENG.xg (qj n)) 2
theorem a9p{tg:List Nat}:∀(d n:Nat),d<=n->∀s,abh tg d s->Pu (qj n) 1 [sd s] (bz (wt s))
 |0,_,_,_,k=>k.elim
 |d+1,0,h,_,_=>absurd h (by omega)
 |d+1,n+1,h,s,k=>by
  have ih:=a9p (tg:=tg) d n (by omega)
  refine Pu.of rfl (by simp[a1f]) (r:=.ok (bz (wt s)) []) ?_ (jd (cz _) (by simp)) (cz _)
  show n8 (a5e ENG.xg (qj n)) 2 [sd s] []=_;rw[ig];show toR (a5e ENG.xg (qj n) [some (sd s),none] [])=_;unfold a5e;have sm:sA ajj (aj (sZ (a0w (sIt (sA (jx false 1 ENG.xg) (aj (sV 0) di))) MI.t1 (a2d ENG.xg (qj n)) [])) di) [some (sd s),none] []=.ok (bz (wts (ENG.kids s))) []:=by
   obtain⟨kl,kk⟩:=ENG.av5 k;have z:sZ (a0w (sIt (sA (jx false 1 ENG.xg) (aj (sV 0) di))) MI.t1 (a2d ENG.xg (qj n)) []) [some (sd s),none] []=.ok (.rol (((ENG.kids s).map λs=>(wt s:Int)).map D.int)) []:=by
    refine aob ?_ (dq λ_ _=>cz _) (by simp)
    rw[dS];refine a3e sd (λs=>D.int (wt s:Int)) (ENG.kids s) (a6o (qg (bw rfl) (ENG.apf s [])) rfl) (ik (by omega)) λp hp=>?_
    rw[a4l];unfold a2d;exact qg (bw rfl) (ih p (kk p hp) [])
   refine qg z ?_;unfold ajj;simp only[SRC.ints_map,DRW.aew]
  match s,k with
  |.one sg,k =>
   rw[sd,wt];exact aI toR (um (aU (ifT (by walk_at "x")) (jl ckk)))
  |.row ps,k =>
   rw[sd] at *;rw[wt];refine eti (by walk_at "x") ?_
   refine etr (jw sm) ?_;refine eti (by walk_at "x") ?_
   exact aI toR (jl (bw rfl))
  |.eit ps,k =>
   rw[sd] at *;rw[wt];refine eti (by walk_at "x") ?_
   refine etr (jw sm) ?_;refine eti (by walk_at "x") ?_
   exact aI toR (jl (bw rfl))
  |.many p,k =>
   rw[sd] at *;rw[wt];refine eti (by walk_at "x") ?_
   refine etr (jw sm) ?_;refine eti (by walk_at "x") ?_
   rw[show wts (ENG.kids (.many p))=wt p by rw[ENG.kids,wts,wts];rfl]
   exact aI toR (jl (bw rfl))
  |.tim p lo hi,k =>
   rw[sd] at *;rw[wt];refine eti (by walk_at "x") ?_
   refine etr (jw sm) ?_;rw[show wts (ENG.kids (.tim p lo hi))=wt p by rw[ENG.kids,wts,wts];rfl]
   refine aI toR (um (ifr (by walk_at "x") (kj (vo rfl SHD.ix3) (bw rfl) ?_)))
   have h4:=k.2.1;exact a4a.trans ((aJ (.inl ⟨by omega,by omega⟩)).trans (by rw[<-ja]))
theorem b6u{a b:Nat}{h:Hd}:gGt (bz a) (bz b) h=.ok (.bl (decide (b<a))) h:=by
 show R.ok (D.bl (decide ((b:Int)<(a:Int)))) h=_
 congr 2
 exact gK.mpr Int.ofNat_lt
end K11
namespace K11
open L2 MI AT HND EVX SPR
open SHD
open PAP hiding v7 a2k a3v a03 aof
open DRW (wt wts)
open ENG (fl a4b aep a6g)
end K11
namespace K11
open L2 MI AT HND EVX SPR
open SHD
open PAP hiding v7 a2k a3v a03 aof
open DRW (wt wts)
open ENG (fl a4b aep a6g)
theorem b0j{d:D}(c:MI.clo 0 d):∀y∈[d],MI.clo 0 y:=λy hy=>by obtain rfl:=ax.mp hy;exact c
theorem a6j(s:Sh):MI.clo 0 (spD s):=gj (bu (gj (bu (dz _) (a3h _))) (bu (gj (bu (gj (j4 _)) (dq λ_ _=>gj (j4 _)))) (bu (gj (j4 _)) gh)))
end K11
namespace K15
open L2 MI AT HND EVX SPR
open SHD
open PAP hiding v7 a2k a3v a03 aof
open DRW (wt wts)
open ENG (fl a4b aep a6g)
open K11 (pt aey adh mk a8f rwB rwF rwE tpN spD sgD a3h j4 a6j a1t a9l b0j)
open DRW (wt wts dw)
open SRC (Src)
def nx(s:Sh)(p:Nat):List Nat:=if p=0 then rwB s else rwF s p
def sg(s:Sh)(p:Nat):List Nat:=([]::mk s).getD p []
abbrev rws(s:Sh):List D:=tpN (rwB s)::(List.range (wt s)).map λi=>tpN (rwF s (1+i))
theorem ai4{s:Sh}{p q:Nat}(h:q∈nx s p):1<=q/\q<=wt s:=by
 have o:=aey s;unfold nx at h
 split at h
 .have:=o.b 0 q (a4b.mp h).2
  rw[adh]at this;omega
 .have:=(o.f 0 p q (a4b.mp h).2).2
  rw[adh]at this;omega
theorem am0(s:Sh)(p:Nat):(nx s p).length<=wt s+1:=by
 unfold nx
 split<;>exact a6g
theorem a8v{s:Sh}{p:Nat}(hp:p<=wt s)(h:Hd):gIx (.tup (rws s)) (bz p) h=.ok (tpN (nx s p)) h:=by
 refine agc ?_
 cases p with
 |zero=>rfl
 |succ p =>
  show((List.range (wt s)).map λi=>tpN (rwF s (1+i)))[p]? = _;rw[bD,gY (by omega)]
  show some (tpN (rwF s (1+p)))=_;rw[Nat.add_comm 1 p];unfold nx;rw[ba (by omega)]
theorem avf{s:Sh}{p:Nat}(hp:p<=wt s)(h:Hd):gIx (.tup (.str ""::sgD (mk s))) (bz p) h=.ok (.str (S (sg s p))) h:=by
 refine agc ?_
 cases p with
 |zero=>rfl
 |succ p =>
  have l:=a8f s;have e:(mk s)[p]? = some (mk s)[p]:=ag (by omega)
  show((mk s).map _)[p]? = _;unfold sg;rw[bD,e,List.getD_cons_succ,dA,e];rfl
theorem avh{c:ST}{fe:SE}{x:D}{rd:Sd}{h:Hd}(Q:Nat->Bool):∀(ys:List Nat) (zs:List D),zs.length+ys.length<=1000000->(∀y∈ys,c (some x::some (bz y)::rd) h=.ok (Q y) h/\fe (some x::some (bz y)::rd) h=.ok (bz y) h)->aeh (λ_=>True) c fe x rd (ys.map bz) zs h=.ok (zs++(ys.filter Q).map bz) h
 |[],zs,_,_=>by rw[cM,aeh,aJ True.intro,List.filter_nil,cM,bE]
 |y::ys,zs,hz,st=>by
  obtain⟨e1,e2⟩:=st y (by simp)
  rw[aN]at hz;rw[aZ,aeh,aJ True.intro,e1,cj]
  cases q:Q y with
  |true =>
   rw[aJ rfl,e2,cj,aJ (ik (by omega)),avh Q ys (zs++[bz y]) (by rw[ah];show zs.length+1+ys.length<=_;omega) λy hy=>st y (by simp[hy]),List.filter_cons_of_pos q,cA]
   rfl
  |false=>rw[ba (by simp),avh Q ys zs (by omega) λy hy=>st y (by simp[hy]),List.filter_cons_of_neg (by simp[q])]
theorem arb{fj:SI}{c:ST}{fe:SE}{rd:Sd}{h:Hd}{ys:Nat->List Nat}(Q:Nat->Bool)(b:Nat):∀(xs:List Nat) (zs:List D),zs.length+xs.length*b<=1000000->(∀x∈xs,(ys x).length<=b/\fj (some (bz x)::none::rd) h=.ok ⟨(ys x).map bz,λ_=>True⟩ h/\∀y∈ys x,c (some (bz x)::some (bz y)::rd) h=.ok (Q y) h/\fe (some (bz x)::some (bz y)::rd) h=.ok (bz y) h)->a4k (λ_=>True) fj c fe rd (xs.map bz) zs h=.ok (zs++(xs.flatMap λx=>(ys x).filter Q).map bz) h
 |[],zs,_,_=>by rw[cM,a4k,aJ True.intro];show _=R.ok (zs++[]) h;rw[bE]
 |x::xs,zs,hz,st=>by
  rw[aN,cN]at hz;obtain⟨bl,e,s⟩:=st x (by simp)
  rw[aZ,a4k,aJ True.intro,e,cj];show(aeh (λ_=>True) c fe (bz x) rd ((ys x).map bz) zs h).bind _=_;have fl:=dU Q (ys x);rw[avh Q (ys x) zs (by omega) s,cj,arb Q b xs _ (by rw[ah,ar];omega) λx hx=>st x (by simp[hx])]
  rw[gD,bF,cA]
theorem am1{f:Nat->List Nat}{b:Nat}:∀{xs:List Nat},(∀x∈xs,(f x).length<=b)->(xs.flatMap f).length<=xs.length*b
 |[],_=>by simp
 |x::xs,h=>by
  have:=am1 (f:=f) (xs:=xs) λy hy=>h y (by simp[hy])
  have:=h x (by simp)
  rw[gD,ah,aN,cN];omega
def crowd(s:Sh)(cs:List Nat)(c:Nat):List Nat:=fl (wt s) (λ_ q=>∃p∈cs,q∈nx s p/\c∈sg s q) 0
theorem agn{s:Sh}{cs:List Nat}{c q:Nat}(h:q∈crowd s cs c):q<=wt s/\c∈sg s q:=by
 obtain⟨h1,p,_,_,h2⟩:=a4b.mp h;exact⟨h1,h2⟩
def zc:SF:=n8 (a70 K11.j6) 6
theorem abe(s:Sh)(w:List Nat):∀y∈[spD s,.str (S w)],MI.clo 0 y:=λy hy=>by
 simp only[aL,bg,cW]at hy
 rcases hy with rfl|rfl
 .exact a6j s
 .exact dz _
theorem am2{s:Sh}{cs:List Nat}{c:Nat}(hw:wt s<=10)(hc:∀p∈cs,p<=wt s)(hl:cs.length<=60):Pu zc 3 [spD s,tpN cs,.str (S [c])] (tpN (crowd s cs c)):=by
 refine Pu.of rfl (λy hy=>by
  simp only[aL,bg,cW]at hy
  rcases hy with rfl|rfl|rfl
  .exact a6j s
  .exact gj (j4 _)
  .exact dz _) (r:=.ok (tpN (crowd s cs c)) []) ?_ (jd (gj (j4 _)) nlc) (gj (j4 _))
 have fb:∀p∈cs,((nx s p).filter λq=>decide (c∈sg s q)).length<=11:=λp _=>bC (dU _ _) (by have:=am0 s p;omega)
 have ll:=am1 fb;have R:=a1t (n:=wt s) (P:=λq=>∃p∈cs,q∈nx s p/\c∈sg s q) (l:=cs.flatMap λp=>(nx s p).filter λq=>decide (c∈sg s q)) (by omega) (by omega) (λy=>by
  simp only[List.mem_flatMap,cG,eh]) λy ⟨p,_,h,_⟩=>(ai4 h).2
 unfold zc;rw[ig];show toR (a70 K11.j6 [some (spD s),some (tpN cs),some (.str (S [c])),none,none,none] [])=_;unfold a70;refine etr (ym (auy (bw rfl) rfl)) ?_;refine aI toR (jl (qg (zrl (h1:=[]) (xs:=(cs.flatMap λp=>(nx s p).filter λq=>decide (c∈sg s q)).map bz) ?_ rfl (j4 _) nlc) (R [])));unfold a8q;rw[a6o (bw rfl) rfl,cj];show(a4k (λ_=>True) _ _ _ [some (.str (S [c])),some (.tup (.str ""::sgD (mk s))),some (.tup (rws s))] (cs.map bz) [] []).bind _=_;have L:=arb (fj:=sIt (s2 gIx (sV 4) (sV 0))) (c:=a89 K11.j6) (fe:=a88 K11.j6) (rd:=[some (.str (S [c])),some (.tup (.str ""::sgD (mk s))),some (.tup (rws s))]) (h:=[]) (ys:=nx s) (λq=>decide (c∈sg s q)) 11 cs [] (by simp;omega) λp hp=>⟨by have:=am0 s p;omega,a6o (kj (bw rfl) (bw rfl) (a8v (hc p hp) [])) rfl,λq hq=>⟨t2s (bw rfl) (kj (bw rfl) (bw rfl) (avf (ai4 hq).2 [])) (b39 c (sg s q) []),bw rfl⟩⟩
 rw[L];rfl
def run(s:Sh)(w:List Nat):List (List Nat):=w.foldl (λa c=>a++[crowd s (a.getLastD []) c]) [[0]]
theorem a3s(s:Sh)(w:List Nat)(c:Nat):run s (w++[c])=run s w++[crowd s ((run s w).getLastD []) c]:=by
 unfold run;rw[fv];rfl
theorem arc(s:Sh):∀w:List Nat,run s w≠[]:=λw=>by
 rcases eH w with rfl|⟨w,c,rfl⟩
 .simp[run]
 .rw[eI,a3s];simp
theorem a65(s:Sh):∀(n:Nat) (w:List Nat),w.length=n->(run s w).length=n+1
 |0,w,h=>by cases da.mp h;rfl
 |n+1,w,h=>by
  rcases eH w with rfl|⟨w,c,rfl⟩
  .cases h
  .rw[eI]at h ⊢;rw[a3s,ah,a65 s n w (by simpa using h)];rfl
theorem ago(s:Sh):∀(n:Nat) (w:List Nat),w.length=n->∀x∈run s w,x.length<=wt s+1/\∀p∈x,p<=wt s
 |0,w,h=>by
  cases da.mp h
  intro x hx
  obtain rfl:x=[0]:=by simpa[run] using hx
  exact⟨by simp,by simp⟩
 |n+1,w,h=>by
  rcases eH w with rfl|⟨w,c,rfl⟩
  .cases h
  .rw[eI]at h ⊢;rw[a3s]
   intro x hx
   rcases bq.mp hx with hx|hx
   .exact ago s n w (by simpa using h) x hx
   .obtain rfl:=ax.mp hx
    exact⟨a6g,λp hp=>(agn hp).1⟩
theorem a6k{α:Type}{l:List α}{d:α}(h:l≠[]):l.getLastD d∈l:=by
 rw[eK,gL h];exact List.getLast_mem h
theorem af0{α:Type}{f:α->D}{l:List α}{d:α}{h:Hd}{i:Nat}(ne:l≠[])(e:h[i]? = some (.lst (l.map f))):gIx (.ref i) (.int (-1)) h=.ok (f (l.getLastD d)) h:=by
 refine DRW.ava e ?_;rw[ar,bD,<-List.getLast?_eq_getElem?,eK,gL ne];rfl
theorem sgs(l:List Nat):a01 (S l)=l.map λc=>D.str (S [c]):=by unfold a01;rw[aax]
def jk:SF:=n8 (a71 zc) 4
theorem am3(l:List (List Nat)):clos 0 (l.map tpN):=dq λ_ _=>gj (j4 _)
theorem am4{s:Sh}{w:List Nat}(hw:wt s<=10)(hl:w.length<=1000):Pu jk 2 [spD s,.str (S w)] (.tup ((run s w).map tpN)):=by
 refine Pu.of rfl (abe s w) (r:=.ok (.tup ((run s w).map tpN)) [.lst ((run s w).map tpN)]) ?_ (jd (gj (am3 _)) (by simp)) (gj (am3 _))
 unfold jk;rw[ig];show toR (a71 zc [some (spD s),some (.str (S w)),none,none] [])=_;unfold a71;refine etr (jw (h1:=[.lst [tpN [0]]]) (d:=.ref 0) (qg (qg ckk a2k) rfl)) ?_;refine etr (a4m (a6o (xs:=w.map λc=>D.str (S [c])) (bw rfl) (by show R.ok (⟨a01 (S w),_⟩:Itm) _=_;rw[sgs]))) ?_
 obtain⟨τ',h',e,⟨t3,rfl⟩,rfl⟩:=a0z (g:=kN 3) (b:=a8a zc) (λc:Nat=>D.str (S [c])) (λpre τ h=>(∃t3:Option D,τ=[some (spD s),some (.str (S w)),some (.ref 0),t3])/\h=[.lst ((run s pre).map tpN)]) w [some (spD s),some (.str (S w)),some (.ref 0),none] [.lst [tpN [0]]]
  (by
   rintro pre c post τ h al ⟨⟨t3,rfl⟩,rfl⟩
   have rl:=a65 s _ pre rfl;have pl:pre.length<=1000:=by
    have:=aI List.length al
    rw[ah]at this;omega
   have ne:=arc s pre;have bd:=ago s _ pre rfl _ (a6k (d:=[]) ne);have B:=am2 (s:=s) (cs:=(run s pre).getLastD []) (c:=c) hw bd.2 (by have:=bd.1;omega)
   refine⟨[some (spD s),some (.str (S w)),some (.ref 0),some (.str (S [c]))],_,rfl,_,_,a3f (bw rfl) rfl (cns (amq (bw rfl) (kj (bw rfl) (v6 ckk (a0s 1)) (af0 (d:=[]) ne rfl)) (bw rfl) (B _)) nlo) (a8c rfl ?_),⟨_,rfl⟩,?_⟩
   .have:=ik (n:=pre.length+2) (by omega)
    rw[ar,rl];omega
   .rw[a3s,bF];rfl)
  ⟨⟨_,rfl⟩,rfl⟩
 refine aU (aI (λz=>toR (MI.thn z _)) e) ?_;exact aI toR (jl (qg (bw rfl) rfl))
def fit(s:Sh):List (List Nat)->List (List Nat)
 |[]=>[]
 |[c]=>[c.filter λp=>decide (p∈rwE s)]
 |c::c'::cs=>(c.filter λp=>((fit s (c'::cs)).headD []).any λq=>decide (q∈nx s p))::fit s (c'::cs)
def stp(s:Sh)(a:List (List Nat))(c:List Nat):List (List Nat):=a++[c.filter λp=>(a.getLastD []).any λq=>decide (q∈nx s p)]
theorem avi(s:Sh)(a:List (List Nat))(c:List Nat):(stp s a c).length=a.length+1:=by unfold stp;rw[ah];rfl
theorem am5(s:Sh)(r:List (List Nat))(c:List Nat):stp s r.reverse c=((c.filter λp=>(r.headD []).any λq=>decide (q∈nx s p))::r).reverse:=by
 unfold stp;rw[eO,eK,List.getLast?_reverse]
 cases r<;>rfl
theorem am6(s:Sh)(l:List Nat):∀i:List (List Nat),i.reverse.foldl (stp s) [l.filter λp=>decide (p∈rwE s)]=(fit s (i++[l])).reverse
 |[]=>rfl
 |[c]=>by
  show stp s [_] c=_;exact am5 s [_] c
 |c::c'::i=>by
  rw[eO,fv,am6 s l (c'::i)];exact am5 s _ c
theorem am7(s:Sh):∀cs:List (List Nat),(fit s cs).length=cs.length
 |[]=>rfl
 |[c]=>rfl
 |c::c'::cs=>by
  show(fit s (c'::cs)).length+1=_;rw[am7 s (c'::cs)];rfl
theorem agp(s:Sh):∀(cs:List (List Nat)) (k:Nat) (l:List Nat),(fit s cs)[k]? = some l->∃c,cs[k]? = some c/\∀p∈l,p∈c
 |[],_,_,h=>by cases h
 |[c],k,l,h=>by
  cases k with
  |zero=>cases h;exact⟨c,rfl,λp hp=>(cG.mp hp).1⟩
  |succ k=>cases h
 |c::c'::cs,k,l,h=>by
  cases k with
  |zero=>cases h;exact⟨c,rfl,λp hp=>(cG.mp hp).1⟩
  |succ k=>exact agp s (c'::cs) k l h
theorem ard(s:Sh):∀(cs:List (List Nat)) (k:Nat) (a b:List Nat),(fit s cs)[k]? = some a->(fit s cs)[k+1]? = some b->∀p∈a,∃q∈b,q∈nx s p
 |[],_,_,_,h,_=>by cases h
 |[c],k,a,b,_,h=>by cases h
 |c::c'::cs,k,a,b,h,h'=>by
  cases k with
  |zero =>
   cases h
   intro p hp
   have h2:=(cG.mp hp).2;have h':(fit s (c'::cs))[0]? = some b:=h';rw[List.headD_eq_head?_getD,List.head?_eq_getElem?,h']at h2;simpa using h2
  |succ k=>exact ard s (c'::cs) k a b h h'
theorem am8(s:Sh):∀(cs:List (List Nat)) (k:Nat) (a:List Nat),k+1=cs.length->(fit s cs)[k]? = some a->∀p∈a,p∈rwE s
 |[],_,_,h,_=>by cases h
 |[c],k,a,h,e=>by
  obtain rfl:k=0:=by simpa using h
  cases e
  intro p hp
  simpa using (cG.mp hp).2
 |c::c'::cs,k,a,h,e=>by
  cases k with
  |zero=>simp at h
  |succ k=>exact am8 s (c'::cs) k a (by simpa using h) e
theorem arf(s:Sh):∀(n:Nat) (w:List Nat),w.length=n->∀k x c,w[k]? = some x->(run s w)[k+1]? = some c->∀q∈c,x∈sg s q
 |0,w,h=>by
  cases da.mp h
  intro k x c hx;cases hx
 |n+1,w,h=>by
  rcases eH w with rfl|⟨w,y,rfl⟩
  .cases h
  .rw[eI]at h ⊢;have hn:w.length=n:=by simpa using h
   have rl:=a65 s n w hn
   intro k x c hx hc q hq
   rw[a3s]at hc
   by_cases hk:k<n
   .rw[aV (by omega)]at hx hc
    exact arf s n w hn k x c hx hc q hq
   .have hk:k=n:=by
     have:=(ai.mp hx).1
     simp at this;omega
    subst hk;rw[aK (by omega),hn,jB]at hx
    rw[aK (by omega),rl,jB]at hc
    cases hx;cases hc
    exact(agn hq).2
theorem b0k(s:Sh):∀(n:Nat) (w:List Nat),w.length=n->(run s w)[0]? = some [0]
 |0,w,h=>by cases da.mp h;rfl
 |n+1,w,h=>by
  rcases eH w with rfl|⟨w,y,rfl⟩
  .cases h
  .rw[eI]at h ⊢;have hn:w.length=n:=by simpa using h
   rw[a3s,aV (by rw[a65 s n w hn];omega)]
   exact b0k s n w hn
theorem b0l{α:Type}(l:List α)(x:α):atI (l++[x]) (-1)=some x:=by
 unfold atI;have n:ixN (l++[x]).length (-1)=some l.length:=by
  unfold ixN;rw[ba (by decide),ah,aM,aJ (by omega)]
  congr 1
  omega
 rw[n];simp
theorem b3h(bs:List Bool)(h:Hd):ay1 [.rol (bs.map D.bl)] h=.ok (.bl (bs.any id)) h:=by
 unfold ay1;simp only[anr]
theorem avj{f l g:SE}{τ:Sd}{h:Hd}{xs:List D}(e:f τ h=.ok (.tup xs) h)(e1:l τ h=.ok (.int (-2)) h)(e2:g τ h=.ok (.int (-1)) h):ag4 f l g τ h=.ok (.tup xs.dropLast.reverse) h:=by
 unfold ag4;rw[e,cj,e1,cj,e2,cj];show(if (-2:Int) = -2/\(-1:Int) = -1 then R.ok (D.tup xs.dropLast.reverse) h else .no)=_
 exact aJ ⟨rfl,rfl⟩
abbrev lsN(l:List Nat):D:=.rol (l.map bz)
theorem abf(l:List (List Nat)):clos 0 (l.map lsN):=dq λ_ _=>jh (j4 _)
theorem b3i(l:List (List Nat)):∀o∈[O.lst (l.map lsN)],uv 0 o:=λo ho=>by obtain rfl:=ax.mp ho;exact abf l
abbrev Bf(s:Sh)(w:List Nat)(l:Sd):Sd:=some (spD s)::some (.str (S w))::some (.tup (.str ""::sgD (mk s)))::some (.tup (rws s))::some (tpN (rwE s))::some (.tup ((run s w).map tpN))::l
def gf:SF:=n8 (wk jk) 9
theorem b3j{s:Sh}{p:Nat}{later:List Nat}{h:Hd}(hp:p<=wt s)(hl:later.length<=100)(ch:∀o∈h,uv 0 o):u5 jk [some (bz p),some (.tup (rws s)),some (lsN later)] h=.ok (later.any λq=>decide (q∈nx s p)) h:=by
 unfold u5;have z:sZ (a0w (sIt (sV 2)) MI.t1 (a0r jk) [0,1]) [some (bz p),some (.tup (rws s)),some (lsN later)] h=.ok (.rol ((later.map λq=>decide (q∈nx s p)).map D.bl)) h:=by
  rw[dS];refine zrl (h1:=h) (a3e bz (λq=>D.bl (decide (q∈nx s p))) later (a6o (bw rfl) rfl) (ik (by omega)) λq _=>?_) rfl (dq λ_ _=>lr _) ch
  rw[a4l];exact kj (bw rfl) (kj (bw rfl) (bw rfl) (a8v hp h)) (DRW.adg q (nx s p) h)
 rw[ur (qg z (b3h _ _)) (ju _),List.any_map];rfl
theorem a9q{s:Sh}{w:List Nat}(hw:wt s<=10)(hl:w.length<=1000):Pu gf 2 [spD s,.str (S w)] (.rol ((fit s (run s w)).map lsN)):=by
 have ne:=arc s w;have bd:=ago s _ w rfl;have rl:=a65 s _ w rfl;obtain⟨i,l,e⟩:∃i l,run s w=i++[l]:=⟨(run s w).dropLast,(run s w).getLast ne,(List.dropLast_concat_getLast ne).symm⟩;have il:i.length<=1000:=by rw[e,ah]at rl;simp at rl;omega
 have bl:=bd l (by rw[e];simp)
 let L0:=l.filter λp=>decide (p∈rwE s)
 have f0:=am6 s l i;rw[<-e]at f0;have al:(fit s (run s w))=(i.reverse.foldl (stp s) [L0]).reverse:=by rw[f0,List.reverse_reverse]
 refine Pu.of rfl (abe s w) (r:=.ok (.ref 1) [.lst ((i.reverse.foldl (stp s) [L0]).map lsN),.lst ((fit s (run s w)).map lsN)]) ?_ (a4z (bb _) rfl (abf _) (by simp)) (jh (abf _))
 unfold gf;rw[ig];show toR (wk jk [some (spD s),some (.str (S w)),none,none,none,none,none,none,none] [])=_;unfold wk;refine etr (ym (auy (bw rfl) rfl)) ?_;refine ets (vm (bw rfl) (bw rfl) (am4 hw hl [])) ?_;have lx:∀h:Hd,gIx (.tup ((run s w).map tpN)) (.int (-1)) h=.ok (tpN l) h:=λh=>by
  rw[e,bF,MI.a69];exact aI (λo:Option D=>(match o with|some d=>R.ok d h|none=>R.no)) (b0l (i.map tpN) (tpN l))
 have cE:∀(h:Hd),(∀o∈h,uv 0 o)->sZ (a02 (sIt (s2 gIx (sV 5) (s1 a97 (sI 1)))) MI.t1 (a0p jk) (a0o jk) [4]) (Bf s w [none,none,none]) h=.ok (lsN L0) h:=λh ch=>a9l bz (λp=>decide (p∈rwE s)) l (a6o (kj (bw rfl) (v6 ckk (a0s 1)) (lx h)) rfl) (by omega) (λ_ _=>cz _) ch (λp _=>t2s (bw rfl) (bw rfl) (DRW.adg p (rwE s) h)) λp _=>bw rfl
 refine etr (jw (h1:=[.lst [lsN L0]]) (d:=.ref 0) (qg (cE [] (by simp)) rfl)) ?_
 have it:=a6o (avj (f:=sV 5) (l:=s1 a97 (sI 2)) (g:=s1 a97 (sI 1)) (τ:=(Bf s w [some (.ref 0),none,none])) (h:=[.lst [lsN L0]]) (bw rfl) (v6 ckk (a0s 2)) (v6 ckk (a0s 1))) rfl;refine etr (a4m it) ?_;rw[show((run s w).map tpN).dropLast.reverse=i.reverse.map tpN by rw[e,bF];show(i.map tpN++[tpN l]).dropLast.reverse=_;rw[List.dropLast_concat,List.map_reverse]]
 obtain⟨τ',h',e7,⟨t7,t8,rfl⟩,rfl,_⟩:=a0z (g:=kN 7) (b:=ww jk) tpN (λpre τ h=>(∃t7 t8:Option D,τ=(Bf s w [some (.ref 0),t7,t8]))/\h=[.lst ((pre.foldl (stp s) [L0]).map lsN)]/\(pre.foldl (stp s) [L0]).length=pre.length+1/\∀x∈pre.foldl (stp s) [L0],x.length<=11) i.reverse (Bf s w [some (.ref 0),none,none]) [.lst [lsN L0]]
  (by
   rintro pre c post τ h hal ⟨⟨t7,t8,rfl⟩,rfl,ll,lb⟩
   have hc:c∈run s w:=by
    rw[e];have:c∈i.reverse:=by rw[hal];simp
    simp at this;simp[this]
   have bc:=bd c hc;have pl:pre.length<=1000:=by
    have:=aI List.length hal
    rw[eB,ah]at this;omega
   have nE:pre.foldl (stp s) [L0]≠[]:=λz=>by rw[z]at ll;simp at ll
   have lt:=lb _ (a6k (d:=[]) nE);have ch:=b3i (pre.foldl (stp s) [L0]);have z:sZ (a02 (sIt (sV 7)) MI.t1 (u5 jk) (a0q jk) [3,8]) (Bf s w [some (.ref 0),some (tpN c),some (lsN ((pre.foldl (stp s) [L0]).getLastD []))]) [.lst ((pre.foldl (stp s) [L0]).map lsN)]=.ok (lsN (c.filter λp=>((pre.foldl (stp s) [L0]).getLastD []).any λq=>decide (q∈nx s p))) [.lst ((pre.foldl (stp s) [L0]).map lsN)]:=a9l bz (λp=>((pre.foldl (stp s) [L0]).getLastD []).any λq=>decide (q∈nx s p)) c (a6o (bw rfl) rfl) (by omega) (λ_ _=>cz _) ch (λp hp=>b3j (bc.2 p hp) (by omega) ch) λp _=>bw rfl
   refine⟨(Bf s w [some (.ref 0),some (tpN c),t8]),_,rfl,(Bf s w [some (.ref 0),some (tpN c),some (lsN ((pre.foldl (stp s) [L0]).getLastD []))]),[.lst ((pre.foldl (stp s) [L0]).map lsN++[lsN (c.filter λp=>((pre.foldl (stp s) [L0]).getLastD []).any λq=>decide (q∈nx s p))])],?_,⟨_,_,rfl⟩,?_,?_,?_⟩
   .unfold ww;refine aU (jw (kj (bw rfl) (v6 ckk (a0s 1)) (af0 (d:=[]) nE rfl))) ?_;exact a3f (bw rfl) rfl (cns z nlo) (a8c rfl (by have:=agd (n:=pre.length+1) (by omega);rw[ar,ll];exact this))
   .rw[fv];show[O.lst _]=[O.lst ((stp s (pre.foldl (stp s) [L0]) c).map lsN)];unfold stp;rw[bF];rfl
   .rw[fv];exact(avi s _ c).trans (by rw[ll,ah];rfl)
   .rw[fv]
    intro x hx
    rcases bq.mp hx with hx|hx
    .exact lb x hx
    .obtain rfl:=ax.mp hx
     exact bC (dU _ _) (by have:=bc.1;omega))
  ⟨⟨_,_,rfl⟩,rfl,rfl,λx hx=>by
   obtain rfl:=ax.mp hx
   exact bC (dU _ _) (by have:=bl.1;omega)⟩
 refine aU (aI (λz=>toR (MI.thn z _)) e7) ?_;rw[al];have bk:∀τ:Sd,τ[6]? = some (some (.ref 0))->a6f (sV 6) oN (s1 a97 (sI 1)) τ [.lst ((i.reverse.foldl (stp s) [L0]).map lsN)]=.ok (.ref 1) [.lst ((i.reverse.foldl (stp s) [L0]).map lsN),.lst ((i.reverse.foldl (stp s) [L0]).reverse.map lsN)]:=λτ hτ=>by
  unfold a6f;rw[bw hτ,cj,onn,cj,v6 ckk (a0s 1),cj,aum rfl,List.map_reverse];rfl
 exact aI toR (jl (bk _ rfl))
def Go(s:Sh):Nat->List Nat->List Nat->Nat->Prop
 |p,[],[],e=>e=p
 |p,c::w,q::qs,e=>q∈nx s p/\c∈sg s q/\Go s q w qs e
 |_,_,_,_=>False
theorem Go.snoc{s:Sh}{c q e:Nat}:∀{w qs:List Nat} {p:Nat},Go s p w qs e->q∈nx s e->c∈sg s q->Go s p (w++[c]) (qs++[q]) q
 |[],[],p,h,h1,h2=>by
  simp only[Go]at h;subst h;exact⟨h1,h2,rfl⟩
 |[],_::_,p,h,_,_=>by simp only[Go]at h
 |_::_,[],p,h,_,_=>by simp only[Go]at h
 |x::w,y::qs,p,h,h1,h2=>by
  simp only[Go]at h;exact⟨h.1,h.2.1,Go.snoc h.2.2 h1 h2⟩
theorem Go.len{s:Sh}:∀{w qs:List Nat} {p e:Nat},Go s p w qs e->w.length=qs.length
 |[],[],_,_,_=>rfl
 |[],_::_,_,_,h=>by simp only[Go]at h
 |_::_,[],_,_,h=>by simp only[Go]at h
 |_::w,_::qs,_,_,h=>by
  simp only[Go]at h;simp only[aN,Go.len h.2.2]
theorem Go.bd{s:Sh}:∀{w qs:List Nat} {p e:Nat},Go s p w qs e->∀q∈qs,1<=q/\q<=wt s
 |[],[],_,_,_=>by simp
 |[],_::_,_,_,h=>by simp only[Go]at h
 |_::_,[],_,_,h=>by simp only[Go]at h
 |_::w,y::qs,_,_,h=>by
  simp only[Go]at h
  intro q hq
  rcases aL.mp hq with rfl|hq
  .exact ai4 h.1
  .exact Go.bd h.2.2 q hq
theorem am9(s:Sh):∀(cs:List (List Nat)) (k:Nat) (l:List Nat),(fit s cs)[k]? = some l->∃c,cs[k]? = some c/\l.Sublist c
 |[],_,_,h=>by cases h
 |[c],k,l,h=>by
  cases k with
  |zero=>cases h;exact⟨c,rfl,List.filter_sublist⟩
  |succ k=>cases h
 |c::c'::cs,k,l,h=>by
  cases k with
  |zero=>cases h;exact⟨c,rfl,List.filter_sublist⟩
  |succ k=>exact am9 s (c'::cs) k l h
abbrev Bw(s:Sh)(w:List Nat)(L:List (List Nat))(l:Sd):Sd:=some (spD s)::some (.str (S w))::some (.rol (L.map lsN))::some (.tup (rws s))::some (.ref 0)::l
def a2l:SF:=n8 (ahx gf) 7
theorem avk(l:List Nat):∀o∈[O.lst (l.map bz)],uv 0 o:=λo ho=>by obtain rfl:=ax.mp ho;exact j4 l
theorem b0m{s:Sh}{w:List Nat}(hw:wt s<=10)(hl:w.length<=1000):Pu a2l 2 [spD s,.str (S w)] .non\/∃qs e,Go s 0 w qs e/\e∈rwE s/\Pu a2l 2 [spD s,.str (S w)] (tpN qs):=by
 have rl:=a65 s _ w rfl;have fl':=am7 s (run s w);have bd:=ago s _ w rfl;have fin:∀(k:Nat) (l:List Nat),(fit s (run s w))[k]? = some l->∀p∈l,p<=wt s:=λk l h p hp=>by
  obtain⟨c,hc,h2⟩:=agp s _ k l h;exact(bd c (bG hc)).2 p (h2 p hp)
 have fwl:∀(k:Nat) (l:List Nat),(fit s (run s w))[k]? = some l->l.length<=1000:=λk l h=>by
  obtain⟨c,hc,h2⟩:=am9 s _ k l h;have:=(bd c (bG hc)).1;have:=h2.length_le;omega
 obtain⟨l0,e0⟩:∃l0,(fit s (run s w))[0]? = some l0:=⟨_,ag (by omega)⟩
 have g0:∀h:Hd,gIx (.rol ((fit s (run s w)).map lsN)) (.int 0) h=.ok (lsN l0) h:=λh=>avw (j:=0) (by rw[bD,e0];rfl)
 by_cases z0:l0=[]
 .left
  subst z0;refine Pu.of rfl (abe s w) (r:=.ok .non []) ?_ (jd rm nlc) rm;unfold a2l;rw[ig];show toR (ahx gf [some (spD s),some (.str (S w)),none,none,none,none,none] [])=_;unfold ahx;refine ets (vm (bw rfl) (bw rfl) (a9q hw hl [])) ?_;exact aI toR (um (aU (ifT (a8u (ur (vo rfl (g0 [])) a5w))) (jl ckk)))
 .right
  have z:0∈l0:=by
   obtain⟨c,hc,h2⟩:=agp s _ 0 l0 e0;rw[b0k s _ w rfl]at hc;cases hc
   cases l0 with
   |nil=>exact absurd rfl z0
   |cons x l =>
    have:=h2 x (by simp)
    simp at this
    simp[this]
  let L:=fit s (run s w)
  obtain⟨τ',h',e7,qs,e,t5,t6,rfl,rfl,G,hq,hlast,l,hl1,hl2⟩:=a0z (g:=kN 5) (b:=aav gf) lsN (λpre τ h=>∃(qs:List Nat) (e:Nat) (t5 t6:Option D),τ=(Bw s w L [t5,t6])/\h=[.lst ((0::qs).map bz)]/\Go s 0 (w.take pre.length) qs e/\qs.length=pre.length/\(0::qs).getLastD 0=e/\∃l,L[pre.length]? = some l/\e∈l) (L.drop 1) (Bw s w L [none,none]) [.lst [bz 0]]
   (by
    rintro pre y post τ h al ⟨qs,e,t5,t6,rfl,rfl,G,hq,hlast,l,hl1,hl2⟩
    have al2:=aI List.length al;rw[aY,ah,aN]at al2;have Ll:L.length=w.length+1:=fl'.trans rl;have pk:pre.length<w.length:=by omega
    have hy:L[pre.length+1]? = some y:=by
     have:(L.drop 1)[pre.length]? = some y:=by rw[al,aK (aw _),jB];rfl
     rw[hZ,Nat.add_comm]at this;exact this
    obtain⟨o,ho1,ho2⟩:=ard s _ _ l y hl1 hy e hl2;obtain⟨x,r,ef⟩:∃x r,(y.filter λq=>decide (q∈nx s e))=x::r:=by
     cases hf:y.filter λq=>decide (q∈nx s e) with
     |nil =>
      have:o∈y.filter λq=>decide (q∈nx s e):=cG.mpr ⟨ho1,by simpa using ho2⟩
      rw[hf]at this;cases this
     |cons x r=>exact⟨x,r,rfl⟩
    have hx:x∈y/\x∈nx s e:=by
     have:x∈y.filter λq=>decide (q∈nx s e):=by rw[ef];simp
     have:=cG.mp this
     exact⟨this.1,by simpa using this.2⟩
    have yl:y.length<=1000:=by
     exact fwl _ y hy
    have ch:=avk (0::qs);have eb:e<=wt s:=fin _ l hl1 e hl2;have zf:sZ (a02 (sIt (sV 5)) MI.t1 (ag6 gf) (ag5 gf) [3,4]) (Bw s w L [some (lsN y),t6]) [.lst ((0::qs).map bz)]=.ok (lsN (x::r)) [.lst ((0::qs).map bz)]:=by
     rw[<-ef];exact a9l bz (λq=>decide (q∈nx s e)) y (a6o (bw rfl) rfl) yl (λ_ _=>cz _) ch (λq _=>t2s (bw rfl) (kj (bw rfl) (kj (bw rfl) (v6 ckk (a0s 1)) (hlast ▸ af0 (f:=bz) (d:=0) (l:=0::qs) (by simp) rfl)) (a8v eb _)) (DRW.adg q (nx s e) _)) λq _=>bw rfl
    refine⟨(Bw s w L [some (lsN y),t6]),_,rfl,(Bw s w L [some (lsN y),some (lsN (x::r))]),[.lst ((0::qs).map bz++[bz x])],?_,qs++[x],x,_,_,rfl,?_,?_,?_,?_,y,?_,hx.1⟩
    .unfold aav;refine aU (jw zf) ?_;exact a3f (bw rfl) rfl (cns (vo rfl (avw (j:=0) rfl)) nlo) (a8c rfl (by have:=agd (n:=qs.length+1) (by omega);rw[ar];exact this))
    .rw[<-bX,bF];rfl
    .rw[ah,show([y]:List (List Nat)).length=1 from rfl,jC,ag pk]
     refine G.snoc hx.2 ?_;obtain⟨c,hc,h2⟩:=agp s _ _ y hy;exact arf s _ w rfl pre.length _ c (ag pk) hc x (h2 x hx.1)
    .rw[ah,ah,hq];rfl
    .rw[<-bX,eK,List.getLast?_concat];rfl
    .rw[ah];exact hy)
   ⟨[],0,none,none,rfl,rfl,rfl,rfl,rfl,l0,e0,z⟩
  have ld:(L.drop 1).length=w.length:=by rw[aY,fl',rl];rfl
  rw[ld]at G hq hl1;rw[List.take_length]at G;refine⟨qs,e,G,am8 s _ _ l (by rw[rl]) hl1 e hl2,?_⟩
  refine Pu.of rfl (abe s w) (r:=.ok (tpN qs) [.lst ((0::qs).map bz)]) ?_ (jd (gj (j4 _)) (by simp)) (gj (j4 _))
  unfold a2l;rw[ig];show toR (ahx gf [some (spD s),some (.str (S w)),none,none,none,none,none] [])=_;unfold ahx;refine ets (vm (bw rfl) (bw rfl) (a9q hw hl [])) ?_;have t0:tru (lsN l0) []=.ok true []:=by rw[a5w];cases l0 with|nil=>exact absurd rfl z0|cons=>rfl
  refine eti (a73 (ur (vo rfl (g0 [])) t0)) ?_;refine ets (vo rfl (agc (j:=1) rfl)) ?_;refine etr (jw (h1:=[.lst [bz 0]]) (d:=.ref 0) (qg ckk rfl)) ?_;have sl:∀{τ:Sd} {h:Hd} {i:Nat} {l:List D},τ[i]? = some (some (.rol l))->clos 0 l->(∀o∈h,uv 0 o)->sZ (a1l (sV i) (oS (sI 1)) oN) τ h=.ok (.rol (l.drop 1)) h:=λ{τ h i l} hv cl ch=>by
   refine zrl (h1:=h) (a75 (bw hv) (a5j ckk) onn ?_) rfl (jo.mpr λx hx=>jo.mp cl x (fD hx)) ch;show R.ok _ (h++[.lst (a5i l (some ((1:Nat):Int)) none)])=_;rw[a4r]
  refine etr (a4m (a6o (xs:=(L.drop 1).map lsN) (sl rfl (abf L) (avk [0])) (by rw[List.map_drop];rfl))) ?_
  refine aU (aI (λz=>toR (MI.thn z _)) e7) ?_;have sl2:sZ (a1l (sV 4) (oS (sI 1)) oN) (Bw s w L [t5,t6]) [.lst ((0::qs).map bz)]=.ok (.rol (qs.map bz)) [.lst ((0::qs).map bz)]:=by
   refine zrl (h1:=[.lst ((0::qs).map bz)]) (a75 (bw rfl) (a5j ckk) onn ?_) rfl (j4 _) (avk _);show R.ok _ ([.lst ((0::qs).map bz)]++[.lst (a5i ((0::qs).map bz) (some ((1:Nat):Int)) none)])=_;rw[a4r];rfl
  exact aI toR (jl (qg sl2 SHD.ue))
def Th(x:D):Prop:=MI.clo 0 x/\((∃i,x=.int i)\/(∃b,x=.bl b)\/x=.non\/(∃t,x=.str t)\/(∃l,x=.rol l)\/(∃a b,x=.rod a b)\/∃l,x=.tup l)
def isI:D->Bool
 |.int _=>true
 |_=>false
def isR(n:Nat):D->Bool
 |.tup xs=>decide (xs.length=n)
 |_=>false
theorem arh(n:Nat):Th (bz n):=⟨cz _,.inl ⟨_,rfl⟩⟩
theorem isInt{x:D}(p:Th x)(h:Hd):a2p [x,.ty "int"] h=.ok (.bl (isI x || (match x with|.bl _=>true|_=>false))) h/\a2p [x,.ty "bool"] h=.ok (.bl (match x with|.bl _=>true|_=>false)) h/\a2p [x,.ty "tuple"] h=.ok (.bl (match x with|.tup _=>true|_=>false)) h:=by
 rcases p.2 with⟨_,rfl⟩|⟨_,rfl⟩|rfl|⟨_,rfl⟩|⟨_,rfl⟩|⟨_,_,rfl⟩|⟨_,rfl⟩<;>exact⟨rfl,rfl,rfl⟩
def ou:SF:=n8 a2e 1
theorem apo{x:D}(p:Th x):Pu ou 1 [x] (.bl (isI x)):=by
 refine Pu.of rfl (b0j p.1) (r:=.ok (.bl (isI x)) []) ?_ (jd (lr _) nlc) (lr _);unfold ou;rw[ig];show toR (a2e [some x] [])=_;unfold a2e;obtain⟨h1,h2,_⟩:=isInt p []
 by_cases z:isI x=true
 .obtain⟨i,rfl⟩:∃i,x=.int i:=by cases x<;>first|exact⟨_,rfl⟩|cases z
  exact aI toR (jl (ai1 (vm (bw rfl) ckk h1) (EVX.ar5 (vm (bw rfl) ckk h2))))
 .by_cases y:∃b,x=.bl b
  .obtain⟨b,rfl⟩:=y;exact aI toR (jl (ai1 (vm (bw rfl) ckk h1) (EVX.ar5 (vm (bw rfl) ckk h2))))
  .have h1':a2p [x,.ty "int"] []=.ok (.bl false) []:=by
    rw[h1]
    cases x<;>first|rfl|exact absurd rfl z|exact absurd ⟨_,rfl⟩ y
   have:isI x=false:=by simpa using z
   rw[this];exact aI toR (jl (av1 (vm (bw rfl) ckk h1')))
def zg:SF:=n8 a6y 3
theorem b6v{f g k:SE}{τ:Sd}{h:Hd}{a x b:Int}(e1:f τ h=.ok (.int a) h)(e2:g τ h=.ok (.int x) h)(e3:k τ h=.ok (.int b) h):sCh gLe gLe f g k τ h=.ok (.bl (decide (a<=x/\x<=b))) h:=by
 unfold sCh;rw[e1,cj,e2,cj];show(R.ok (D.bl (decide (a<=x))) h).bind _=_;rw[cj]
 by_cases z:a<=x
 .simp only[z,jF,true_and];rw[e3,cj];rfl
 .simp only[z,jA,false_and]
theorem apq{x:D}{n:Nat}(p:Th x):Pu zg 3 [x,bz n,bz n] (.bl (isR n x)):=by
 refine Pu.of rfl (λy hy=>by
  simp only[aL,bg,cW]at hy
  rcases hy with rfl|rfl|rfl
  .exact p.1
  .exact cz _
  .exact cz _) (r:=.ok (.bl (isR n x)) []) ?_ (jd (lr _) nlc) (lr _)
 unfold zg;rw[ig];show toR (a6y [some x,some (bz n),some (bz n)] [])=_;unfold a6y;obtain⟨_,_,h3⟩:=isInt p []
 by_cases y:∃l,x=.tup l
 .obtain⟨l,rfl⟩:=y;refine aI toR (jl (ai1 (vm (bw rfl) ckk h3) ?_));rw[b6v (bw rfl) (qg (bw rfl) ltn) (bw rfl)]
  congr 2
  show _=decide (l.length=n);exact gK.mpr ⟨λz=>by omega,λz=>by omega⟩
 .have h3':a2p [x,.ty "tuple"] []=.ok (.bl false) []:=by
   rw[h3]
   cases x<;>first|rfl|exact absurd ⟨_,rfl⟩ y
  have:isR n x=false:=by cases x<;>first|rfl|exact absurd ⟨_,rfl⟩ y
  rw[this];exact aI toR (jl (av1 (vm (bw rfl) ckk h3')))
theorem Go.det{s:Sh}:∀{w qs:List Nat} {p e e':Nat},Go s p w qs e->Go s p w qs e'->e=e'
 |[],[],_,_,_,h,h'=>by simp only[Go]at h h';omega
 |[],_::_,_,_,_,h,_=>by simp only[Go]at h
 |_::_,[],_,_,_,h,_=>by simp only[Go]at h
 |_::w,_::qs,_,_,_,h,h'=>by simp only[Go]at h h';exact Go.det h.2.2 h'.2.2
abbrev prS(z:Nat×D):D:=.tup [.str (S [z.1]),z.2]
theorem a8h{s:Sh}{g:SG}{b:SS}(mk:Nat->Option D->Option D->Sd)
  : ∀(w:List Nat) (xs:List D) (p:Nat) (t t':Option D),p<=wt s->
  (∀x∈xs,∀c e t t',e<=wt s->g (prS (c,x)) (mk e t t') []=.nx (mk e (some (.str (S [c]))) (some x)) []/\((∃q,x=bz q/\q∈nx s e/\c∈sg s q/\b (mk e (some (.str (S [c]))) (some x)) []=.nx (mk q (some (.str (S [c]))) (some x)) [])\/(b (mk e (some (.str (S [c]))) (some x)) []=.rt (.bl false) []/\¬ ∃q,x=bz q/\q∈nx s e/\c∈sg s q)))->
  (∃qs e t2 t3,forL (λ_=>True) g b ((w.zip xs).map prS) (mk p t t') []=.nx (mk e t2 t3) []/\(w.length=xs.length->xs=qs.map bz/\Go s p w qs e))\/(forL (λ_=>True) g b ((w.zip xs).map prS) (mk p t t') []=.rt (.bl false) []/\¬ ∃qs e,xs=qs.map bz/\Go s p w qs e)
 |[],xs,p,t,t',_,_=>.inl ⟨[],p,t,t',a1z ..,λz=>by
   cases xs with
   |nil=>exact⟨rfl,rfl⟩
   |cons=>cases z⟩
 |c::w,[],p,t,t',_,_=>.inl ⟨[],p,t,t',a1z ..,λz=>by cases z⟩
 |c::w,x::xs,p,t,t',hp,st=>by
  obtain⟨e1,q⟩:=st x (by simp) c p t t' hp
  rw[List.zip_cons_cons,aZ,a1q _ _ _ _ _ _ _ _ e1]
  rcases q with⟨q,rfl,q1,q2,e2⟩|⟨e2,no⟩
  .rw[e2,aqn]
   rcases a8h mk w xs q (some (.str (S [c]))) (some (bz q)) (ai4 q1).2 (λy hy=>st y (by simp[hy])) with⟨qs,e,t2,t3,f,h⟩|⟨f,h⟩
   .refine .inl ⟨q::qs,e,t2,t3,f,λz=>?_⟩;obtain⟨h1,h2⟩:=h (by simpa using z)
    exact⟨by rw[h1];rfl,q1,q2,h2⟩
   .refine .inr ⟨f,?_⟩
    rintro⟨qs,e,h1,h2⟩
    cases qs with
    |nil=>cases h1
    |cons y qs =>
     rw[aZ]at h1;obtain⟨hy,h3⟩:=jK h1;obtain rfl:q=y:=eV.mp (D.int.inj hy);simp only[Go]at h2;exact h ⟨qs,e,h3,h2.2.2⟩
  .rw[e2,aqo];refine .inr ⟨rfl,?_⟩
   rintro⟨qs,e,h1,h2⟩
   cases qs with
   |nil=>cases h1
   |cons y qs =>
    rw[aZ]at h1;obtain⟨hy,h1⟩:=jK h1;simp only[Go]at h2;exact no ⟨y,hy,h2.1,h2.2.1⟩
def Vd(s:Sh)(w:List Nat)(x:D):Prop:=∃qs e,x=tpN qs/\Go s 0 w qs e/\e∈rwE s
theorem b0n{s:Sh}{w:List Nat}{xs:List D}{qs:List Nat}{e:Nat}(h1:xs=qs.map bz)(h2:Go s 0 w qs e):Vd s w (.tup xs)↔e∈rwE s:=by
 subst h1
 constructor
 .rintro⟨qs',e',h3,h4,h5⟩
  have inj:∀{a b:List Nat},a.map bz=b.map bz->a=b:=λ{a b} h=>by
   induction a generalizing b with
   |nil=>cases b with|nil=>rfl|cons=>cases h
   |cons x a ih=>cases b with
    |nil=>cases h
    |cons y b =>
     rw[aZ,aZ]at h;obtain⟨h,h'⟩:=jK h;rw[eV.mp (D.int.inj h),ih h']
  obtain rfl:=inj (D.tup.inj h3)
  rw[h2.det h4];exact h5
 .exact λh=>⟨qs,e,rfl,h2,h⟩
theorem ama(neg:Bool)(i:Int)(l:List Nat)(h:Hd):gIn neg (.int i) (.tup (l.map bz)) h=.ok (.bl (if neg then !decide (∃n∈l,i=(n:Int)) else decide (∃n∈l,i=(n:Int)))) h:=by
 have e:inD (.int i) (l.map bz)=decide (∃n∈l,i=(n:Int)):=by
  unfold inD;rw[List.any_map]
  induction l with
  |nil=>simp
  |cons a l ih =>
   rw[gO,ih];show((a:Int) == i || _)=_
   rw[Bool.eq_iff_iff];simp only[bS,eD,eh,aL]
   constructor
   .rintro(h|⟨n,h1,h2⟩)
    .exact⟨a,.inl rfl,h.symm⟩
    .exact⟨n,.inr h1,h2⟩
   .rintro⟨n,rfl|h1,h2⟩
    .exact .inl h2.symm
    .exact .inr ⟨n,h1,h2⟩
 show(if a0g (.int i)=true/\(l.map bz).all a0g=true then R.ok (D.bl (if neg then !inD (.int i) (l.map bz) else inD (.int i) (l.map bz))) h else .no)=_
 rw[aJ ⟨rfl,by rw[bN];intro x hx;obtain⟨y,_,rfl⟩:=cf.mp hx;rfl⟩,e]
theorem amb(neg:Bool)(c:Nat)(t:List Nat)(h:Hd):gIn neg (.str (S [c])) (.str (S t)) h=.ok (.bl (if neg then !decide (c∈t) else decide (c∈t))) h:=by
 show(match (S [c]).cps.toList with|[c]=>R.ok (D.bl (if neg then !decide (c∈(S t).cps.toList) else decide (c∈(S t).cps.toList))) h|_=>.no)=_
 rw[aax,aax]
theorem ari{f g:SE}{τ:Sd}{w:List Nat}{xs:List D}(e1:f τ []=.ok (.str (S w)) [])(e2:g τ []=.ok (.tup xs) []):atd f g τ []=.ok ⟨(w.zip xs).map prS,λ_=>True⟩ []:=by
 unfold atd;rw[e1,cj,e2,cj];show R.ok (⟨((a01 (S w)).zip xs).map λp=>.tup [p.1,p.2],λh=>True/\True⟩:Itm) []=_;rw[sgs,List.zip_map_left,dS]
 congr 2
 funext h
 simp
open Classical in
abbrev vd(s:Sh)(w:List Nat)(x:D):Bool:=decide (Vd s w x)
open Classical in
theorem avz{s:Sh}{w:List Nat}{x:D}(h:¬ Vd s w x):vd s w x=false:=bI h
open Classical in
theorem b3k{s:Sh}{w:List Nat}{xs:List D}{qs:List Nat}{e:Nat}(h1:xs=qs.map bz)(h2:Go s 0 w qs e):vd s w (.tup xs)=decide (e∈rwE s):=by
 unfold vd;rw[Bool.eq_iff_iff,decide_eq_true_iff,decide_eq_true_iff];exact b0n h1 h2
def Tp(x:D):Prop:=Th x/\∀xs,x=.tup xs->(∀y∈xs,Th y)/\xs.length<=900
theorem af1{s:Sh}{w:List Nat}{x:D}(c:MI.clo 0 x):∀y∈[spD s,.str (S w),x],MI.clo 0 y:=λy hy=>by
 simp only[aL,bg,cW]at hy
 rcases hy with rfl|rfl|rfl
 .exact a6j s
 .exact dz _
 .exact c
theorem b0o{c1 c2:ST}{τ:Sd}{h:Hd}(e:c1 τ h=.ok false h)(e':c2 τ h=.ok true h):sOr c1 c2 τ h=.ok true h:=orF e e'
def jf:SF:=n8 (a2f ou zg) 9
theorem b0p{s:Sh}{w:List Nat}{x:D}(hl:w.length<=1000)(p:Tp x):Pu jf 3 [spD s,.str (S w),x] (.bl (vd s w x)):=by
 refine Pu.of rfl (af1 p.1.1) (r:=.ok (.bl (vd s w x)) []) ?_ (jd (lr _) nlc) (lr _);unfold jf;rw[ig];show toR (a2f ou zg [some (spD s),some (.str (S w)),some x,none,none,none,none,none,none] [])=_;unfold a2f;refine etr (ym (auy (bw rfl) rfl)) ?_;have ln:∀h,vg [.str (S w)] h=.ok (bz w.length) h:=λh=>a8t (ik (by omega))
 have ir:=apq (n:=w.length) p.1
 by_cases y:isR w.length x=true
 .obtain⟨xs,rfl⟩:∃xs,x=.tup xs:=by cases x<;>first|exact⟨_,rfl⟩|cases y
  have le:xs.length=w.length:=by simpa[isR] using y
  rw[y]at ir;refine eti (a73 (ur (amq (bw rfl) (qg (bw rfl) (ln _)) (qg (bw rfl) (ln _)) (ir [])) (ju _))) ?_;refine etr (jw ckk) ?_;refine etr (a4m (ari (bw rfl) (bw rfl))) ?_
  rcases a8h (s:=s) (g:=ah8 2 (a07 (kN 7) (a07 (kN 8) ai8))) (b:=a1k ou zg) (λe t t'=>[some (spD s),some (.str (S w)),some (.tup xs),some (.tup (.str ""::sgD (mk s))),some (.tup (rws s)),some (tpN (rwE s)),some (bz e),t,t']) w xs 0 none none (bb _) (by
   intro x hx c e t t' he
   refine⟨rfl,?_⟩;have px:=(p.2 xs rfl).1 x hx;unfold a1k;have nu:=apo px
   by_cases z:isI x=true
   .obtain⟨i,rfl⟩:∃i,x=.int i:=by cases x<;>first|exact⟨_,rfl⟩|cases z
    have n1:∀{f:ST} {τ:Sd} {u:Bool},τ[8]? = some (some (.int i))->f τ []=.ok u []->sOr (a92 (a7m (sA (jx false 1 ou) (aj (sV 8) di)))) f τ []=.ok u []:=λhv hf=>orF (a73 (ur (qg (bw hv) (nu [])) (ju _))) hf
    by_cases m:∃n∈nx s e,i=(n:Int)
    .obtain⟨q,q1,rfl⟩:=m;have t1:gIn true (.int (q:Int)) (tpN (nx s e)) []=.ok (.bl false) []:=by rw[ama];simp only[dO];rw[e8 ⟨q,q1,rfl⟩];rfl
     have gq:=avf (ai4 q1).2 []
     by_cases m2:c∈sg s q
     .refine .inl ⟨q,rfl,q1,m2,?_⟩;have t2:gIn true (.str (S [c])) (.str (S (sg s q))) []=.ok (.bl false) []:=by rw[amb];simp only[dO];rw[e8 m2];rfl
      refine aU (ifN (n1 rfl (orF (t2s (bw rfl) (kj (bw rfl) (bw rfl) (a8v he [])) t1) (t2s (bw rfl) (kj (bw rfl) (bw rfl) gq) t2)))) ?_;exact agb (bw rfl)
     .refine .inr ⟨?_,λ⟨q',h1,h2,h3⟩=>?_⟩
      .have t2:gIn true (.str (S [c])) (.str (S (sg s q))) []=.ok (.bl true) []:=by rw[amb];simp only[dO];rw[bI m2];rfl
       exact um (aU (ifT (n1 rfl (b0o (t2s (bw rfl) (kj (bw rfl) (bw rfl) (a8v he [])) t1) (t2s (bw rfl) (kj (bw rfl) (bw rfl) gq) t2)))) (jl ckk))
      .obtain rfl:q=q':=eV.mp (D.int.inj h1)
       exact m2 h3
    .refine .inr ⟨?_,λ⟨q',h1,h2,h3⟩=>m ⟨q',h2,D.int.inj h1⟩⟩;have t1:gIn true (.int i) (tpN (nx s e)) []=.ok (.bl true) []:=by rw[ama];simp only[dO];rw[bI m];rfl
     exact um (aU (ifT (n1 rfl (orT (t2s (bw rfl) (kj (bw rfl) (bw rfl) (a8v he [])) t1)))) (jl ckk))
   .refine .inr ⟨?_,λ⟨q',h1,_⟩=>z (by rw[h1];rfl)⟩
    have:isI x=false:=by simpa using z
    rw[this]at nu;exact um (aU (ifT (orT (a8u (ur (qg (bw rfl) (nu [])) (ju _))))) (jl ckk))) with⟨qs,e,t2,t3,f,h⟩|⟨f,h⟩
  .obtain⟨h1,h2⟩:=h le.symm;refine aU (aI (λz=>toR (MI.thn z _)) f) ?_;rw[b3k h1 h2];exact aI toR (jl (kj (bw rfl) (bw rfl) (DRW.adg e (rwE s) [])))
  .refine aU (aI (λz=>toR (MI.thn z _)) f) ?_;rw[avz λ⟨qs,e,h1,h2,_⟩=>h ⟨qs,e,D.tup.inj h1,h2⟩];rfl
 .have y':isR w.length x=false:=by simpa using y
  rw[y']at ir;rw[avz λ⟨qs,e,h1,h2,_⟩=>y (by rw[h1];simp[isR,h2.len])]
  exact aI toR (um (aU (ifT (a8u (ur (amq (bw rfl) (qg (bw rfl) (ln _)) (qg (bw rfl) (ln _)) (ir [])) (ju _)))) (jl ckk)))
def qe:SF:=n8 a5f 2
def b0q:D->Bool
 |.tup xs=>xs.all isI
 |_=>false
theorem b0r{x:D}(p:Tp x):Pu qe 1 [x] (.bl (b0q x)):=by
 refine Pu.of rfl (b0j p.1.1) (r:=.ok (.bl (b0q x)) []) ?_ (jd (lr _) nlc) (lr _);unfold qe;rw[ig];show toR (a5f [some x,none] [])=_;unfold a5f;obtain⟨_,_,h3⟩:=isInt p.1 []
 by_cases y:∃l,x=.tup l
 .obtain⟨xs,rfl⟩:=y;refine eti (a73 (ur (vm (bw rfl) ckk h3) (ju _))) ?_;refine etr (a4m (a6o (xs:=xs.map λx=>x) (bw rfl) (by rw[List.map_id'];rfl))) ?_
  rcases aak (g:=kN 1) (b:=a3d) (λx:D=>x) (λpre τ h=>(∃t1:Option D,τ=[some (.tup xs),t1])/\h=[]/\pre.all isI=true) (λd h=>d=.bl false/\h=[]/\xs.all isI=false) xs [] [some (.tup xs),none] []
   (by
    rintro pre q post τ h al ⟨⟨t1,rfl⟩,rfl,hp⟩
    have hq:q∈xs:=by
     have:q∈[]++xs:=by rw[al];simp
     simpa using this
    obtain⟨h1,h2,_⟩:=isInt ((p.2 xs rfl).1 q hq) [];refine⟨[some (.tup xs),some q],[],rfl,?_⟩;unfold a3d
    by_cases z:isI q=true
    .obtain⟨i,rfl⟩:∃i,q=.int i:=by cases q<;>first|exact⟨_,rfl⟩|cases z
     exact .inl ⟨_,_,ifF (orF (a73 (ur (vm (bw rfl) ckk h1) (ju _))) (ur (vm (bw rfl) ckk h2) (ju _))),⟨_,rfl⟩,rfl,by rw[List.all_append,hp];rfl⟩
    .refine .inr ⟨.bl false,[],?_,rfl,rfl,?_⟩
     .by_cases yb:∃b,q=.bl b
      .obtain⟨b,rfl⟩:=yb;exact aU (ifT (b0o (a73 (ur (vm (bw rfl) ckk h1) (ju _))) (ur (vm (bw rfl) ckk h2) (ju _)))) (jl ckk)
      .have h1':a2p [q,.ty "int"] []=.ok (.bl false) []:=by
        rw[h1]
        cases q<;>first|rfl|exact absurd rfl z|exact absurd ⟨_,rfl⟩ yb
       exact aU (ifT (orT (a8u (ur (vm (bw rfl) ckk h1') (ju _))))) (jl ckk)
     .rw[Bool.eq_false_iff]
      intro h
      exact z (bN.mp h q hq))
   ⟨⟨_,rfl⟩,rfl,rfl⟩ with⟨τ',h',e,⟨t1,rfl⟩,rfl,ha⟩|⟨d,h',e,rfl,rfl,ha⟩
  .refine aU (aI (λz=>toR (MI.thn z _)) e) ?_;have ha:xs.all isI=true:=by simpa using ha
   show _=R.ok (D.bl (xs.all isI)) [];rw[ha];exact aI toR (jl ckk)
  .refine aU (aI (λz=>toR (MI.thn z _)) e) ?_;show _=R.ok (D.bl (xs.all isI)) [];rw[ha];rfl
 .have h3':a2p [x,.ty "tuple"] []=.ok (.bl false) []:=by
   rw[h3]
   cases x<;>first|rfl|exact absurd ⟨_,rfl⟩ y
  have:b0q x=false:=by cases x<;>first|rfl|exact absurd ⟨_,rfl⟩ y
  rw[this];exact aI toR (um (aU (ifT (a8u (ur (vm (bw rfl) ckk h3') (ju _)))) (jl ckk)))
def jb:SF:=n8 zb 6
theorem avl{s:Sh}{w qs:List Nat}(hl:w.length<=1000)(le:qs.length=w.length)(hq:∀q∈qs,q<=wt s):Pu jb 3 [spD s,.str (S w),tpN qs] (.bl (vd s w (tpN qs))):=by
 refine Pu.of rfl (af1 (gj (j4 _))) (r:=.ok (.bl (vd s w (tpN qs))) []) ?_ (jd (lr _) nlc) (lr _);unfold jb;rw[ig];show toR (zb [some (spD s),some (.str (S w)),some (tpN qs),none,none,none] [])=_;unfold zb;refine etr (jw ckk) ?_;refine etr (a4m (ari (bw rfl) (bw rfl))) ?_
 rcases a8h (s:=s) (g:=ah8 2 (a07 (kN 4) (a07 (kN 5) ai8))) (b:=yu) (λe t t'=>[some (spD s),some (.str (S w)),some (tpN qs),some (bz e),t,t']) w (qs.map bz) 0 none none (bb _) (by
   intro x hx c e t t' he
   refine⟨rfl,?_⟩;obtain⟨q,hq',rfl⟩:=cf.mp hx;have qb:=hq q hq';unfold yu;have gq:=avf qb [];have i1:=ama true q (nx s e) [];have i2:=amb true c (sg s q) [];simp only[dO]at i1 i2
   by_cases m:q∈nx s e
   .rw[e8 ⟨q,m,rfl⟩]at i1
    by_cases m2:c∈sg s q
    .rw[e8 m2]at i2;refine .inl ⟨q,rfl,m,m2,?_⟩;refine aU (ifN (orF (t2s (bw rfl) (kj (vo rfl SHD.ix1) (bw rfl) (a8v he [])) i1) (t2s (bw rfl) (kj (vo rfl SHD.ix0) (bw rfl) gq) i2))) ?_;exact agb (bw rfl)
    .rw[bI m2]at i2;refine .inr ⟨um (aU (ifT (b0o (t2s (bw rfl) (kj (vo rfl SHD.ix1) (bw rfl) (a8v he [])) i1) (t2s (bw rfl) (kj (vo rfl SHD.ix0) (bw rfl) gq) i2))) (jl ckk)),λ⟨q',h1,h2,h3⟩=>?_⟩;obtain rfl:q=q':=eV.mp (D.int.inj h1);exact m2 h3
   .rw[bI λ⟨n,h1,h2⟩=>m (by rw[eV.mp h2];exact h1)]at i1
    refine .inr ⟨um (aU (ifT (orT (t2s (bw rfl) (kj (vo rfl SHD.ix1) (bw rfl) (a8v he [])) i1))) (jl ckk)),λ⟨q',h1,h2,h3⟩=>?_⟩;obtain rfl:q=q':=eV.mp (D.int.inj h1);exact m h2) with⟨qs',e,t2,t3,f,h⟩|⟨f,h⟩
 .obtain⟨h1,h2⟩:=h (by rw[ar,le])
  refine aU (aI (λz=>toR (MI.thn z _)) f) ?_;rw[b3k h1 h2];have lw:vg [.str (S w)] []=.ok (bz w.length) []:=a8t (ik (by omega))
  have lq:vg [tpN qs] []=.ok (bz w.length) []:=by rw[ltn,ar,le]
  exact aI toR (jl (ai1 (kj (qg (bw rfl) lw) (qg (bw rfl) lq) (zy rfl)) (kj (bw rfl) (vo rfl SHD.ix2) (DRW.adg e (rwE s) []))))
 .refine aU (aI (λz=>toR (MI.thn z _)) f) ?_;rw[avz λ⟨qs',e,h1,h2,_⟩=>h ⟨qs',e,D.tup.inj h1,h2⟩];rfl
theorem b6w{f g k:SE}{τ:Sd}{h:Hd}{a x b:Int}(e1:f τ h=.ok (.int a) h)(e2:g τ h=.ok (.int x) h)(e3:k τ h=.ok (.int b) h):sCh gLt gLt f g k τ h=.ok (.bl (decide (a<x/\x<b))) h:=by
 unfold sCh;rw[e1,cj,e2,cj];show(R.ok (D.bl (decide (a<x))) h).bind _=_;rw[cj]
 by_cases z:a<x
 .simp only[z,jF,true_and];rw[e3,cj];rfl
 .simp only[z,jA,false_and]
theorem amc(neg:Bool)(l:List Int)(h:Hd):atu neg (.rol (l.map D.int)) (.rol []) h=.ok (.bl (if neg then !l.isEmpty else l.isEmpty)) h:=by
 show(if (l.map D.int).all (pur 59)=true/\([]:List D).all (pur 59)=true then R.ok (D.bl (if neg then !adn (l.map D.int) [] else adn (l.map D.int) [])) h else .no)=_
 rw[aJ ⟨by rw[bN];intro x hx;obtain⟨y,_,rfl⟩:=cf.mp hx;rfl,rfl⟩]
 cases l<;>rfl
theorem b4r:∀{xs:List D},xs.all isI=true->∃l:List Int,xs=l.map D.int
 |[],_=>⟨[],rfl⟩
 |x::xs,h=>by
  rw[fS,bM]at h;obtain⟨l,rfl⟩:=b4r h.2;obtain⟨i,rfl⟩:∃i,x=.int i:=by cases x<;>first|exact⟨_,rfl⟩|cases h.1
  exact⟨i::l,rfl⟩
def jj:SF:=n8 (a2j qe jb) 3
theorem apr{s:Sh}{w:List Nat}{x:D}(hw:wt s<=10)(hl:w.length<=1000)(p:Tp x):Pu jj 3 [spD s,.str (S w),x] (.bl (vd s w x)):=by
 refine Pu.of rfl (af1 p.1.1) (r:=.ok (.bl (vd s w x)) []) ?_ (jd (lr _) nlc) (lr _);unfold jj;rw[ig];show toR (a2j qe jb [some (spD s),some (.str (S w)),some x] [])=_;unfold a2j;have R:=b0r p;have lw:vg [.str (S w)] []=.ok (bz w.length) []:=a8t (ik (by omega))
 by_cases z:b0q x=true
 .rw[z]at R;obtain⟨xs,rfl⟩:∃xs,x=.tup xs:=by cases x<;>first|exact⟨_,rfl⟩|cases z
  obtain⟨l,rfl⟩:=b4r z;have xl:=(p.2 _ rfl).2;rw[ar]at xl;have lx:vg [.tup (l.map D.int)] []=.ok (bz l.length) []:=by rw[ltn,ar]
  have r1:a92 (a7m (sA (jx false 1 qe) (aj (sV 2) di))) [some (spD s),some (.str (S w)),some (.tup (l.map D.int))] []=.ok false []:=a73 (ur (qg (bw rfl) (R [])) (ju _))
  by_cases le:l.length=w.length
  .refine eti (orF r1 (t2s (qg (bw rfl) lx) (qg (bw rfl) lw) (a3t (by rw[le])))) ?_
   have f:=a9l D.int (λi => !decide (0<i/\i<((wt s+1:Nat):Int))) l (fi:=sIt (sV 2)) (c:=a3z qe jb) (fe:=a3y qe jb) (ix:=[0]) (τ:=[some (spD s),some (.str (S w)),some (.tup (l.map D.int))]) (h:=[]) (a6o (bw rfl) rfl) (by omega) (λ_ _=>cz _) nlc (λi _=>by
    have ls:vg [.tup (.str ""::sgD (mk s))] []=.ok (bz (wt s+1)) []:=by rw[ltn,aN,ar,K11.a8f]
    exact auw (tof (b6w ckk (bw rfl) (qg (vo rfl SHD.ix0) ls)))) λ_ _=>bw rfl
   have t1:=kj (G:=atu true) f K11.avy (amc true _ []);simp only[dO]at t1
   by_cases em:(l.filter λi => !decide (0<i/\i<((wt s+1:Nat):Int)))=[]
   .rw[em]at t1;refine eti (tof t1) ?_;have inb:∀i∈l,0<i/\i<((wt s+1:Nat):Int):=λi hi=>by
     have:=List.filter_eq_nil_iff.mp em i hi
     simpa using this
    have el:l.map D.int=(l.map Int.toNat).map bz:=by
     rw[dS];refine dG λi hi=>?_;show D.int i=D.int (i.toNat:Int);rw[Int.toNat_of_nonneg (by have:=inb i hi;omega)]
    rw[el];exact aI toR (jl (amq (bw rfl) (bw rfl) (bw rfl) (avl hl (by rw[ar,le]) (λq hq=>by
     obtain⟨i,hi,rfl⟩:=cf.mp hq;have:=inb i hi;omega) [])))
   .rw[show(l.filter λi => !decide (0<i/\i<((wt s+1:Nat):Int))).isEmpty=false by simpa using em]at t1
    rw[avz λ⟨qs,e,h1,h2,_⟩=>em (List.filter_eq_nil_iff.mpr λi hi=>by
     have:D.int i∈qs.map bz:=by rw[<-D.tup.inj h1];exact List.mem_map_of_mem hi
     obtain⟨q,hq,e'⟩:=cf.mp this;obtain rfl:=D.int.inj e';have:=h2.bd q hq;simp;omega)]
    exact aI toR (um (aU (ifT (tof t1)) (jl ckk)))
  .rw[avz λ⟨qs,e,h1,h2,_⟩=>le (by
    have:=aI List.length (D.tup.inj h1)
    rw[ar,ar]at this;rw[this,h2.len])]
   exact aI toR (um (aU (ifT (b0o r1 (t2s (qg (bw rfl) lx) (qg (bw rfl) lw) (a3u (λh=>le (eV.mp h)))))) (jl ckk)))
 .have z':b0q x=false:=by simpa using z
  rw[z']at R;rw[avz λ⟨qs,e,h1,h2,_⟩=>z (by
   rw[h1];show(qs.map bz).all isI=true;rw[List.all_map,bN]
   intro q _;rfl)]
  exact aI toR (um (aU (ifT (orT (a8u (ur (qg (bw rfl) (R [])) (ju _))))) (jl ckk)))
def jg:SF:=n8 a2g 2
theorem agq(b:Bool):Pu jg 2 [.bl b,.bl b] (.bl true):=by
 refine Pu.of rfl (λy hy=>by
  simp only[aL,bg,cW]at hy
  rcases hy with rfl|rfl
  .exact lr _
  .exact lr _) (r:=.ok (.bl true) []) ?_ (jd (lr _) nlc) (lr _)
 unfold jg;rw[ig];show toR (a2g [some (.bl b),some (.bl b)] [])=_;unfold a2g;have i1:a2p [.bl b,.ty "bool"] []=.ok (.bl true) []:=by simp[a2p,b19,tyD,avr]
 exact aI toR (jl (ai1 (vm (bw rfl) ckk i1) (kj (bw rfl) (bw rfl) ((ald b b).trans (by simp)))))
def jr:SF:=n8 (a3q SRC.au) 5
theorem b0s(l:List Nat)(h:Hd):hNe (tpN l) (.tup []) h=.ok (.bl (!l.isEmpty)) h:=by
 have p1:pur 60 (tpN l)=true:=by
  show(l.map bz).all (pur 59)=true;rw[bN];intro x hx;obtain⟨y,_,rfl⟩:=cf.mp hx;rfl
 have p2:pur 60 (.tup [])=true:=rfl;unfold hNe;rw[aJ ⟨p1,p2⟩]
 cases l<;>rfl
theorem arj{F:SF}{ds:List D}{n:Nat}{o o':O}{zs:List D}(hn:ds.length+1=n)(cd:∀x∈ds,MI.clo 0 x)(co:uv 0 o)(e:F (.ref 0::ds) [o]=.ok (.ref 1) [o',.lst zs])(c:clos 0 zs)(co':uv 0 o'):Dr F n ds o (.rol zs) o' :=
 Dr.of hn cd co e (a4z (aw _) rfl (xx (bb _) c) (λu hu=>by
  obtain rfl:u=o':=by simpa using hu
  exact a1j (bb _) co')) (jh c) co'
theorem avm{s:Sh}{n N:Nat}{o:O}(hw:wt s<=10)(hn:n<=1000)(P:Src o N)(hN:N<=900000000):∃row o',Dr jr 3 [spD s,bz n] o (lsN row) o'/\(∀q∈row,q<=wt s)/\row.length<=n/\Src o' (N+n):=by
 rcases b2s (c:=a2h SRC.au) (f:=a2i SRC.au)
  (λm τ h=>∃(row:List Nat) (e:Nat) (o1:O),τ=[some (.ref 0),some (spD s),some (bz n),some (.ref 1),some (bz e)]/\h=[o1,.lst (row.map bz)]/\m=n-row.length/\row.length<=n/\e<=wt s/\(∀q∈row,q<=wt s)/\Src o1 (N+row.length))
  (λτ h=>∃(row:List Nat) (e:Nat) (o1:O),τ=[some (.ref 0),some (spD s),some (bz n),some (.ref 1),some (bz e)]/\h=[o1,.lst (row.map bz)]/\row.length<=n/\(∀q∈row,q<=wt s)/\Src o1 (N+row.length)) (λ_ _=>False)
  (by
   rintro m τ h ⟨row,e,o1,rfl,rfl,rfl,rn,he,rb,P1⟩
   have g1:∀{τ:Sd} {h:Hd},τ[1]? = some (some (spD s))->τ[4]? = some (some (bz e))->s2 gIx (s2 gIx (sV 1) (sI 1)) (sV 4) τ h=.ok (tpN (nx s e)) h:=λh1 h2=>kj (kj (bw h1) ckk SHD.ix1) (bw h2) (a8v he _);have ll:vg [.ref 1] [o1,.lst (row.map bz)]=.ok (bz row.length) [o1,.lst (row.map bz)]:=by rw[auz rfl,ar]
   unfold a2h
   by_cases c1:row.length<n
   .have t1:sT (s2 gLt (sA vg (aj (sV 3) di)) (sV 2)) [some (.ref 0),some (spD s),some (bz n),some (.ref 1),some (bz e)] [o1,.lst (row.map bz)]=.ok true [o1,.lst (row.map bz)]:=t2s (qg (bw rfl) ll) (bw rfl) (ab5 (by omega))
    have t2:sT (s2 hNe (s2 gIx (s2 gIx (sV 1) (sI 1)) (sV 4)) (sA MI.yj di)) [some (.ref 0),some (spD s),some (bz n),some (.ref 1),some (bz e)] [o1,.lst (row.map bz)]=.ok (!(nx s e).isEmpty) [o1,.lst (row.map bz)]:=t2s (g1 rfl rfl) (b01 PAP.a3v) (b0s _ _)
    by_cases em:nx s e=[]
    .rw[em]at t2;exact .inl ⟨_,a8j t1 t2,row,e,o1,rfl,rfl,rn,rb,P1⟩
    .rw[show(nx s e).isEmpty=false by simpa using em]at t2
     refine .inr ⟨_,a8j t1 t2,.inl ?_⟩;have pos:0<(nx s e).length:=List.length_pos_iff.mpr em;obtain⟨r,o2,e2,rb2,P2⟩:=dw (m:=((nx s e).length:Int)) P1 (by omega) (by omega) (by have:=am0 s e;omega)
     have hr:r<(nx s e).length:=by omega
     have qi:=ai4 (bW hr);have lx:∀h,vg [tpN (nx s e)] h=.ok (.int ((nx s e).length:Int)) h:=λh=>by rw[ltn,ar]
     refine⟨_,[o2,.lst (row.map bz++[bz (nx s e)[r]])],n-(row++[(nx s e)[r]]).length,?_,by rw[ah];simp;omega,row++[(nx s e)[r]],(nx s e)[r],o2,rfl,?_,rfl,by rw[ah];simp;omega,qi.2,?_,by rw[ah];exact P2⟩
     .unfold a2i;refine aU (jw (kj (g1 rfl rfl) (vm (bw rfl) (qg (g1 rfl rfl) (lx _)) (drz e2)) (agc (by rw[bD,ag hr];rfl)))) ?_
      exact a3f (bw rfl) rfl (cns (bw rfl) nlo) (a8c (i:=1) rfl (by have:=agd (n:=row.length) (by omega);rw[ar];exact this))
     .rw[bF];rfl
     .intro q hq
      rcases bq.mp hq with hq|hq
      .exact rb q hq
      .obtain rfl:=ax.mp hq;exact qi.2
   .exact .inl ⟨_,ab4 (t2s (qg (bw rfl) ll) (bw rfl) (a9h (by omega))),row,e,o1,rfl,rfl,rn,rb,P1⟩)
  n 100000 [some (.ref 0),some (spD s),some (bz n),some (.ref 1),some (bz 0)] [o,.lst []] (by omega) ⟨[],0,o,rfl,rfl,rfl,bb _,bb _,by simp,P⟩ with⟨τ',h',e,row,e',o',rfl,rfl,rn,rb,P'⟩|⟨_,_,_,z⟩
 .refine⟨row,o',arj rfl (λy hy=>?_) P.clo ?_ (j4 _) P'.clo,rb,rn,P'.up (by omega)⟩
  .simp only[aL,bg,cW]at hy
   rcases hy with rfl|rfl
   .exact a6j s
   .exact cz _
  .unfold jr;rw[ig];show toR (a3q SRC.au [some (.ref 0),some (spD s),some (bz n),none,none] [o])=_;unfold a3q;refine etr (jw (d:=.ref 1) (h1:=[o,.lst []]) (b01 rfl)) ?_;refine etr (jw ckk) ?_;refine etr (ym e) ?_;exact aI toR (jl (bw rfl))
 .exact z.elim
def Sy(y:D):Prop:=Th y/\∃t:Str,t.length<=5000/\∀h,aat [y] h=.ok (.str t) h
theorem ark{i:Int}(hi:i.natAbs<10^1000):Sy (.int i):=by
 refine⟨⟨cz _,.inl ⟨_,rfl⟩⟩,(toString i:String),?_,λh=>?_⟩
 .have:=int_text_length_le10 (k:=1000) (by decide) hi
  rw[ofString_length];omega
 .show(if i.natAbs<10^4300 then R.ok (D.str (toString i:String)) h else .no)=_
  rw[aJ (Nat.lt_trans hi (by decide +kernel))]
theorem b3l:1000<10^1000:=by decide +kernel
theorem agr{i:Int}(hi:i.natAbs<=1000):Sy (.int i):=ark (fV hi b3l)
theorem ags{n:Nat}(h:n<=1000):Sy (bz n):=agr (by simpa using h)
theorem amd{y:D}{p:PyData}(t:Th y)(ni:∀i,y≠.int i)(ns:∀x,y≠.str x)(e:toPy y=some p)(o:okR y p)(z:p.shown.length<=5000):Sy y:=by
 refine⟨t,p.shown,z,λh=>?_⟩;have g:aat [y] h=(match toPy y with|some p=>(open Classical in if okR y p/\∀x,y≠.str x then R.ok (.str p.shown) h else .no)|none=>.no):=by
  unfold aat
  cases y<;>first|rfl|exact absurd rfl (ni _)|exact absurd rfl (ns _)
 rw[g,e];exact aJ ⟨o,ns⟩
theorem b0t{x:Str}(h:x.length<=5000):Sy (.str x):=⟨⟨dz _,.inr (.inr (.inr (.inl ⟨_,rfl⟩)))⟩,x,h,λ_=>rfl⟩
theorem b3m:Sy (.bl true):=amd (p:=.bool true) ⟨lr _,.inr (.inl ⟨_,rfl⟩)⟩ (by simp) (by simp) rfl ⟨by decide,by decide,by decide,by decide +kernel⟩ (by decide +kernel)
theorem arl:Sy .non:=amd (p:=.none) ⟨rm,.inr (.inr (.inl rfl))⟩ (by simp) (by simp) rfl ⟨by decide,by decide,by decide,by decide +kernel⟩ (by decide +kernel)
theorem arn:Sy (.rod [] []):=amd (p:=.dict []) ⟨by simp[MI.clo,MI.clos],.inr (.inr (.inr (.inr (.inr (.inl ⟨_,_,rfl⟩)))))⟩ (by simp) (by simp) rfl ⟨by decide,by decide,by decide,by decide +kernel⟩ (by decide +kernel)
theorem ame:∀n:Fin 11,(PyData.list [.int (n.1:Int)]).showable=true/\(PyData.tuple [.int (n.1:Int)]).showable=true/\(PyData.list [.int (n.1:Int)]).shown.length<=5000/\(PyData.tuple [.int (n.1:Int)]).shown.length<=5000:=by decide +kernel
theorem sz5{n:Nat}(h:n<=5000):n<=sizeLine:=bC h (by decide +kernel)
theorem b0u{n:Nat}(h:n<=10):Sy (.rol [bz n]):=by
 obtain⟨a,_,c,_⟩:=ame ⟨n,by omega⟩
 exact amd (p:=.list [.int n]) ⟨jh (bu (cz _) gh),.inr (.inr (.inr (.inr (.inl ⟨_,rfl⟩))))⟩ (by simp) (by simp) rfl ⟨(λz=>by cases z),a,by simp[PyData.depth,PyData.depthAll],sz5 c⟩ c
theorem b0v{n:Nat}(h:n<=10):Sy (.tup [bz n]):=by
 obtain⟨_,a,_,c⟩:=ame ⟨n,by omega⟩
 exact amd (p:=.tuple [.int n]) ⟨gj (bu (cz _) gh),.inr (.inr (.inr (.inr (.inr (.inr ⟨_,rfl⟩)))))⟩ (by simp) (by simp) rfl ⟨(λz=>by cases z),a,by simp[PyData.depth,PyData.depthAll],sz5 c⟩ c
def big:Int:=((10:Int)^(60:Int).toNat)^(16:Int).toNat
theorem b0w(τ:Sd)(h:Hd):s2 a6n (s2 a6n (sI 10) (sI 60)) (sI 16) τ h=.ok (.int big) h:=by
 have c1:ad1 10 60:=by decide +kernel
 have c2:ad1 ((10:Int)^(60:Int).toNat) 16:=by decide +kernel
 have g1:a6n (.int 10) (.int 60) h=.ok (.int ((10:Int)^(60:Int).toNat)) h:=by unfold a6n;exact aJ c1
 have g2:a6n (.int ((10:Int)^(60:Int).toNat)) (.int 16) h=.ok (.int big) h:=by unfold a6n;exact aJ c2
 exact kj (kj ckk ckk g1) ckk g2
theorem b0x:big.natAbs+10<10^1000:=by unfold big;decide +kernel
def iz:SF:=n8 (a1e SRC.au) 7
def SL(n:Nat)(l:List D):Prop:=(∀y∈l,Sy y)/\l.length<=n
theorem SL.clo{n:Nat}{l:List D}(h:SL n l):clos 0 l:=jo.mpr λy hy=>(h.1 y hy).1.1
theorem SL.sub{n:Nat}{l m:List D}(h:SL n l)(s:∀y∈m,y∈l)(z:m.length<=l.length):SL n m:=⟨λy hy=>h.1 y (s y hy),bC z h.2⟩
theorem SL.one{y:D}(h:Sy y):SL 1 [y]:=⟨λz hz=>by obtain rfl:=ax.mp hz;exact h,aw _⟩
theorem SL.app{n k:Nat}{l m:List D}(h:SL n l)(h':SL k m):SL (n+k) (l++m):=⟨λy hy=>(bq.mp hy).elim (h.1 y) (h'.1 y),by rw[ah];exact Nat.add_le_add h.2 h'.2⟩
def Ev(n:Nat)(f:SE)(τ:Sd)(h h1:Hd):Prop:=∃l,f τ h=.ok (.rol l) h1/\SL n l
section
variable{τ:Sd}{u o':O}{f g:SE}{n k:Nat}
theorem co1(c:uv 0 u):∀v∈[u],uv 0 v:=λv hv=>by obtain rfl:=ax.mp hv;exact c
theorem a8i{lo hi:SO}{a b:Option Int}{i:Nat}{xs:List D}(e:τ[i]? = some (some (.rol xs)))(h:SL n xs)(e1:lo τ [u]=.ok a [u])(e2:hi τ [u]=.ok b [u])(c:uv 0 u):Ev n (sZ (a1l (sV i) lo hi)) τ [u] [u]:=by
 have s:SL n (a5i xs a b):=h.sub (λy hy=>fD (eM hy)) (by unfold a5i;rw[aQ,aY];omega)
 exact⟨_,zrl (h1:=[u]) (a75 (bw e) e1 e2 rfl) rfl s.clo (co1 c),s⟩
theorem amf(h:Ev n f τ [u] [u])(h':Ev k g τ [u] [o'])(c:uv 0 o')(z:n+k<=900):Ev (n+k) (sZ (s2 ie f g)) τ [u] [o']:=by
 obtain⟨l,e,s⟩:=h;obtain⟨m,e',s'⟩:=h';have:=s.2;have:=s'.2;exact⟨_,EVT.wg e e' rfl s.clo s'.clo (co1 c) (by omega),s.app s'⟩
theorem agt(h:Ev n f τ [u] [o'])(h':Ev k g τ [o'] [o'])(z:n+k<=900):∃l,s2 ie f g τ [u]=.ok (.ref 1) [o',.lst l]/\SL (n+k) l:=by
 obtain⟨l,e,s⟩:=h;obtain⟨m,e',s'⟩:=h';have:=s.2;have:=s'.2;exact⟨_,kj e e' (by rw[ae7 (xs:=l) (ys:=m) rfl rfl,aJ (ik (by omega))];rfl),s.app s'⟩
end
theorem b6y{f:SE}{τ:Sd}{h:Hd}{l:List D}(e:f τ h=.ok (.rol l) h):a6f f oN (s1 a97 (sI 1)) τ h=.ok (.ref h.length) (h++[.lst l.reverse]):=by
 unfold a6f;rw[e,cj,onn,cj,v6 ckk (a0s 1),cj,ayt]
theorem min2(i j:Nat)(hh:Hd):acg [bz i,bz j] hh=.ok (bz (min i j)) hh:=by
 show R.ok (D.int (if (j:Int)<(i:Int) then (j:Int) else (i:Int))) hh=_
 congr 2
 rcases Nat.lt_or_ge j i with h|h
 .rw[aJ (by omega),iQ (by omega)]
 .rw[ba (by omega),gU h]
def SR(N:Nat)(r:R D):Prop:=∃ys o' d hh,r=.ok d (o'::hh)/\((d=.rol ys/\hh=[])\/(d=.ref 1/\hh=[.lst ys]))/\SL 301 ys/\Src o' (N+5)
theorem SR.tr{N:Nat}{x y:Fl}(e:x=y)(h:SR N (toR y)):SR N (toR x):=e ▸ h
theorem SR.l{N n:Nat}{τ:Sd}{h:Hd}{f:SE}{p q:SS}{c:ST}{o':O}{l:List D}(t:c τ h=.ok true h)(e:f τ h=.ok (.ref 1) [o',.lst l])(s:SL n l)(z:n<=301)(P:Src o' (N+2)):SR N (toR (iy (sIf c (pq f) p) q τ h)):=⟨l,o',_,_,aI toR (um (aU (ifT t) (jl e))),.inr ⟨rfl,rfl⟩,⟨s.1,bC s.2 z⟩,P.up (by omega)⟩
theorem ai5{row:List Nat}{m N:Nat}{o:O}(rl:row.length<=100)(rb:∀q∈row,q<=10)(hm:m<=10)(P:Src o N)(hN:N<=900000000):SR N (iz [.ref 0,lsN row,bz m] [o]):=by
 have sn:SL 100 (row.map bz):=⟨λy hy=>by
  obtain⟨q,hq,rfl⟩:=cf.mp hy;exact ags (by have:=rb q hq;omega),by rw[ar];exact rl⟩
 obtain⟨r1,o1,e1,b1,P1⟩:=dw (m:=((row.length+1:Nat):Int)) P (by omega) (by omega) (by omega)
 obtain⟨r2,o2,e2,b2,P2⟩:=dw (m:=12) P1 (by omega) (by decide) (by decide)
 have c2:=P2.clo;have ll:∀h,vg [lsN row] h=.ok (bz row.length) h:=λh=>by rw[EVT.yq,ar]
 have a1:ie (bz row.length) (.int 1) [o]=.ok (.int ((row.length+1:Nat):Int)) [o]:=rfl;have nz:∀{τ:Sd},sZ (sA MI.xq di) τ [o2]=.ok (.rol []) [o2]:=zds nlo rfl gh (co1 c2) (by simp)
 have eq0:atu false (lsN row) (.rol []) [o2]=.ok (.bl row.isEmpty) [o2]:=by
  have:=amc false (row.map λx:Nat=>(x:Int)) [o2]
  rw[dS]at this;rw[show lsN row=.rol (row.map (D.int ∘ λx:Nat=>(x:Int))) from rfl,this]
  cases row<;>rfl
 have go:iz [.ref 0,lsN row,bz m] [o]=toR (a1e SRC.au [some (.ref 0),some (lsN row),some (bz m),none,none,none,none] [o]):=by
  unfold iz;rw[ig];rfl
 rw[go];unfold a1e;refine .tr (jw (vm (bw rfl) (kj (qg (bw rfl) (ll _)) ckk a1) (drz e1))) ?_;refine .tr (jw (vm (bw rfl) ckk (drz e2))) ?_
 by_cases q:r2<3\/row=[]
 .refine⟨_,o2,_,_,aI toR (um (aU (ifT (h1:=[o2]) ?_) (jl (bw rfl)))),.inl ⟨rfl,rfl⟩,⟨sn.1,bC sn.2 (by omega)⟩,P2.up (by omega)⟩
  by_cases q3:r2<3
  .exact orT (tvc rfl (ab5 (by omega)))
  .rw[show row.isEmpty=true by rw[q.resolve_left q3];rfl]at eq0
   exact b0o (tvc rfl (a9h (by omega))) (t2s (bw rfl) nz eq0)
 obtain⟨q3,em⟩:=not_or.mp q;rw[show row.isEmpty=false by cases row with|nil=>exact absurd rfl em|cons=>rfl]at eq0
 have pos:0<row.length:=List.length_pos_iff.mpr em;obtain⟨a,ea⟩:∃a,min r1 (row.length-1)=a:=⟨_,rfl⟩;have ha:a<row.length:=by omega
 obtain⟨p,ep⟩:∃p,row[a]=p:=⟨_,rfl⟩;have hp:p<=10:=by rw[<-ep];exact rb _ (bW ha)
 have sb:MI.a77 (bz row.length) (.int 1) [o2]=.ok (bz (row.length-1)) [o2]:=by
  show R.ok (D.int ((row.length:Int)-1)) [o2]=R.ok (D.int ((row.length-1:Nat):Int)) [o2]
  congr 2;omega
 have mn:=min2 r1 (row.length-1) [o2];rw[ea]at mn;refine .tr (ifN (orF (tvc rfl (a9h (by omega))) (t2s (bw rfl) nz eq0))) ?_
 refine .tr (jw (vm (bw rfl) (kj (qg (bw rfl) (ll _)) ckk sb) mn)) ?_;refine .tr (jw (kj (bw rfl) (bw rfl) (avw (y:=bz p) (by rw[bD,ag ha,ep];rfl)))) ?_
 let τ:Sd:=[some (.ref 0),some (lsN row),some (bz m),some (bz a),some (bz r2),some (bz p),none]
 have ak:∀{τ:Sd} {u:O} (k:Nat),τ[3]? = some (some (bz a))->oS (s2 ie (sV 3) (sC (.int (k:Int)))) τ [u]=.ok (some ((a+k:Nat):Int)) [u]:=λk h3=>a5j (kj (bw h3) ckk rfl);have T0:=a8i (τ:=τ) (lo:=oN) (hi:=oS (sV 3)) (i:=1) rfl sn onn (a5j (bw rfl)) c2;have sp':Sy (bz p):=ags (by omega)
 have nk:∀{k:Nat},r2≠k->sT (s2 hEq (sV 4) (sC (.int (k:Int)))) τ [o2]=.ok false [o2]:=λh=>tvc rfl (a0x (by omega))
 have yk:∀{k:Nat},r2=k->sT (s2 hEq (sV 4) (sC (.int (k:Int)))) τ [o2]=.ok true [o2]:=λh=>tvc rfl (zy (by omega))
 by_cases s3:r2=3
 .obtain⟨l,e,s⟩:=agt T0 (a8i (i:=1) rfl sn (ak 1 rfl) onn c2) (by omega)
  exact .l (yk s3) e s (by omega) (P2.up (by omega))
 refine .tr (ifN (nk s3)) ?_;have l1:Ev 1 (sZ (sA MI.xq (aj (sV 5) di))) τ [o2] [o2]:=⟨_,zds (cns (bw rfl) nlo) rfl (bu (cz _) gh) (co1 c2) (by simp),.one sp'⟩
 by_cases s4:r2=4
 .obtain⟨l,e,s⟩:=agt (amf T0 l1 c2 (by omega)) (a8i (i:=1) rfl sn (a5j (bw (i:=3) rfl)) onn c2) (by omega)
  exact .l (yk s4) e s (by omega) (P2.up (by omega))
 refine .tr (ifN (nk s4)) ?_
 by_cases s5:r2=5
 .obtain⟨l0,e0,s0⟩:=a8i (τ:=τ) (i:=1) rfl sn (a5j (bw (i:=3) rfl)) (ak 2 rfl) c2;have s0':=s0.sub (m:=l0.reverse) (λy hy=>List.mem_reverse.mp hy) (by rw[eB];exact aw _)
  have bk:Ev 100 (sZ (a6f (sZ (a1l (sV 1) (oS (sV 3)) (oS (s2 ie (sV 3) (sI 2))))) oN (s1 a97 (sI 1)))) τ [o2] [o2]:=⟨_,zrl (h1:=[o2]) (b6y e0) rfl s0'.clo (co1 c2),s0'⟩;obtain⟨l,e,s⟩:=agt (amf T0 bk c2 (by omega)) (a8i (i:=1) rfl sn (ak 2 rfl) onn c2) (by omega)
  exact .l (yk s5) e s (by omega) (P2.up (by omega))
 refine .tr (ifN (nk s5)) ?_;obtain⟨r3,o3,e3,b3,P3⟩:=dw (m:=((m+2:Nat):Int)) P2 (by omega) (by omega) (by omega)
 obtain⟨_,t,tl',te⟩:=id sp'
 let L7:List D:=[bz (p+1),.int ((p:Int)-1),bz (1+r3),.bl true,.non,.str t,.int ((p:Int)+big)]
 let L3:List D:=[.rol [bz p],.rod [] [],.tup [bz p]]
 have c3:=P3.clo;have sL:∀y∈L7++L3,Sy y:=λy hy=>by
  simp only[L7,L3,bq,aL,bg,cW]at hy
  rcases hy with(rfl|rfl|rfl|rfl|rfl|rfl|rfl)|rfl|rfl|rfl
  .exact ags (by omega)
  .exact agr (by omega)
  .exact ags (by omega)
  .exact b3m
  .exact arl
  .exact b0t tl'
  .exact ark (fV (Int.natAbs_add_le _ _) (by have:=b0x;omega))
  .exact b0u hp
  .exact arn
  .exact b0v hp
 obtain⟨r4,o4,e4,b4,P4⟩:=dw (m:=10) P3 (by omega) (by decide) (by decide)
 have c4:=P4.clo;have h4:r4<(L7++L3).length:=by show r4<10;omega
 have sy:=sL _ (bW h4);have a3:ie (bz m) (.int 2) [o2]=.ok (.int ((m+2:Nat):Int)) [o2]:=rfl;have g7:MI.yj L7 [o3]=.ok (.tup L7) [o3]:=aJ (ik (by simp[L7]))
 refine .tr (jw (aoo (cns (vo rfl rfl) (cns (vo rfl (vz _ _)) (cns (kj ckk (vm (bw rfl) (vo rfl a3) (drz e3)) (DRW.av7 (a:=1))) (cns ckk (cns ckk (cns (qg (bw rfl) (te _)) (cns (kj (bw rfl) (b0w _ _) rfl) nlo))))))) g7)) ?_;refine .tr (jw (kj (bw rfl) (aoo (cns (zds (cns (bw rfl) nlo) rfl (bu (cz _) gh) (co1 c3) (by simp)) (cns (EVT.zr (co1 c3)) (cns (qg (bw rfl) a2k) nlo))) adc) (PAP.a3w (xs:=L7) (ys:=L3) (by simp[L7,L3])))) ?_
 let τ':Sd:=[some (.ref 0),some (lsN row),some (bz m),some (bz a),some (bz r2),some (bz p),some (.tup (L7++L3))]
 have l10:∀h,vg [.tup (L7++L3)] h=.ok (.int 10) h:=λh=>ltn;have l1:Ev 1 (sZ (sA MI.xq (aj (s2 gIx (sV 6) (sA (jx false 2 SRC.au) (aj (sV 0) (aj (sA vg (aj (sV 6) di)) di)))) di))) τ' [o3] [o4]:=⟨_,zds (cns (kj (bw rfl) (vm (bw rfl) (qg (bw rfl) (l10 _)) (drz e4)) (agc (ag h4))) nlo) rfl (bu sy.1.1 gh) (co1 c4) (by simp),.one sy⟩
 obtain⟨l,e,s⟩:=agt (amf (a8i (τ:=τ') (lo:=oN) (hi:=oS (sV 3)) (i:=1) rfl sn onn (a5j (bw rfl)) c3) l1 c4 (by omega)) (a8i (i:=1) rfl sn (ak 1 rfl) onn c4) (by omega)
 exact⟨l,o4,_,_,aI toR (jl e),.inr ⟨rfl,rfl⟩,⟨s.1,bC s.2 (by omega)⟩,P4.up (by omega)⟩
theorem amg{row:List Nat}{m N:Nat}{o:O}(rl:row.length<=100)(rb:∀q∈row,q<=10)(hm:m<=10)(P:Src o N)(hN:N<=900000000):∃ys o',Dr iz 3 [lsN row,bz m] o (.rol ys) o'/\(∀y∈ys,Sy y)/\ys.length<=301/\Src o' (N+5):=by
 obtain⟨ys,o',d,hh,e,z,s,P'⟩:=ai5 rl rb hm P hN;have cd:∀y∈[lsN row,bz m],MI.clo 0 y:=λy hy=>by
  simp only[aL,bg,cW]at hy
  rcases hy with rfl|rfl
  .exact jh (j4 _)
  .exact cz _
 refine⟨ys,o',?_,s.1,s.2,P'⟩
 rcases z with⟨rfl,rfl⟩|⟨rfl,rfl⟩
 .exact Dr.of rfl cd P.clo e (jd (afr (bb _) (jh s.clo)) (λu hu=>by
   obtain rfl:u=o':=by simpa using hu
   exact a1j (bb _) P'.clo)) (jh s.clo) P'.clo
 .exact arj rfl cd P.clo e s.clo P'.clo
end K15
namespace K15
open L2 MI AT HND EVX SPR
open SHD
open PAP hiding v7 a2k a3v a03 aof
open DRW (wt wts dw)
open SRC (Src)
open ENG (fl a4b aep a6g)
open K11 (pt aey adh mk a8f rwB rwF rwE tpN spD sgD a3h j4 a6j a1t a9l b0j)
def qm:SF:=n8 (a6z (K11.j9 10) K11.ux (K11.qj 5)) 1
theorem amh{tg:List Nat}{d:Nat}{s:Sh}(k:abh tg d s)(h5:d<=5)(hw:wt s<=10):Pu qm 1 [sd s] (spD s):=by
 refine Pu.of rfl (b0j (a1f s)) (r:=.ok (spD s) []) ?_ (jd (a6j s) nlc) (a6j s);unfold qm;rw[ig];show toR (a6z (K11.j9 10) K11.ux (K11.qj 5) [some (sd s)] [])=_;unfold a6z;have c:sT (s2 gGt (sA (jx false 1 (K11.qj 5)) (aj (sV 0) di)) (sI 10)) [some (sd s)] []=.ok (decide (10<wt s)) []:=t2s (qg (bw rfl) (K11.a9p d 5 h5 s k [])) ckk (K11.b6u (b:=10));rw[bI (by omega)]at c
 obtain⟨u,pu,w,g⟩:=K11.abd d 10 (by omega) (by omega) s k (by omega) 0
 refine etr (ifN c) ?_;exact aI toR (jl (qg (vm (bw rfl) ckk (pu [])) (K11.ave (by omega) hw w g [])))
theorem avn{s:Sh}{w:List Nat}(hw:wt s<=10)(hl:w.length<=1000):∃hd:D,Pu a2l 2 [spD s,.str (S w)] hd/\(hd=.non\/∃qs,hd=tpN qs/\vd s w hd=true/\(∀q∈qs,q<=wt s)/\qs.length=w.length):=by
 rcases b0m hw hl with h|⟨qs,e,g,he,h⟩
 .exact⟨_,h,.inl rfl⟩
 .refine⟨_,h,.inr ⟨qs,rfl,?_,λq hq=>(g.bd q hq).2,g.len.symm⟩⟩;rw[b3k rfl g];exact e8 he
theorem avo{qs:List Nat}(h:qs.length<=900):Tp (tpN qs):=⟨⟨gj (j4 _),.inr (.inr (.inr (.inr (.inr (.inr ⟨_,rfl⟩)))))⟩,λxs e=>by
 cases e
 exact⟨λy hy=>by obtain⟨q,_,rfl⟩:=cf.mp hy;exact arh q,by rw[ar];exact h⟩⟩
theorem ami{x:D}(t:Th x)(n:∀xs,x≠.tup xs):Tp x:=⟨t,λxs e=>absurd e (n xs)⟩
open Classical in
def tx(y:D):Str:=if h:∃t:Str,t.length<=5000/\∀h,aat [y] h=.ok (.str t) h then h.choose else ""
theorem b0y{y:D}(h:Sy y):(tx y).length<=5000/\∀h,aat [y] h=.ok (.str (tx y)) h:=by
 unfold tx;rw[dif_pos h.2];exact h.2.choose_spec
theorem amj:∀l:List D,a8p (l.map λy=>.str (tx y))=some (l.map tx)
 |[]=>rfl
 |y::l=>by rw[aZ,a8p,amj l];rfl
theorem aro{b:Nat}:∀{l:List Nat},(∀x∈l,x<=b)->l.sum<=l.length*b
 |[],_=>by simp
 |x::l,h=>by
  have:=aro (l:=l) λy hy=>h y (by simp[hy])
  have:=h x (by simp)
  rw[jJ,aN,cN];omega
theorem avp{l:List D}{h:Hd}(n:l.length<=4)(a:∀y∈l,Sy y):∃z,ach (.str (S [])) [.rol (l.map λy=>.str (tx y))] h=.ok (.str z) h:=by
 refine⟨Txt.join (S []) (l.map tx),?_⟩;show(match a8p (l.map λy=>D.str (tx y)) with|some zs=>if (zs.map λz:Str=>z.length).sum+zs.length*(S []).length<=16777216 then R.ok (D.str (Txt.join (S []) zs)) h else .no|none=>.no)=_
 rw[amj];refine aJ ?_;have s:=aro (b:=5000) (l:=(l.map tx).map Str.length) (λx hx=>by
  obtain⟨t,ht,rfl⟩:=cf.mp hx;obtain⟨y,hy,rfl⟩:=cf.mp ht;exact(b0y (a y hy)).1)
 rw[ar,ar]at s;rw[aay,bK,Nat.mul_zero,Nat.add_zero];exact bC s (by omega)
def aps:SF:=n8 (ap5 SRC.au jr jj (DRW.fu 5) SRC.j5 iz SRC.jc jg (DRW.cu 5) (DRW.gw 5) DRW.g8 qm a2l jf) 14
def Tr(r:R D):Prop:=∃h',r=.ok (.bl true) h'
theorem Tr.tr{x y:Fl}(e:x=y)(h:Tr (toR y)):Tr (toR x):=e ▸ h
theorem Tr.ex{α:Type}(t:α->Sd)(hh:α->Hd)(P:α->Prop){p g:SS}{τ:Sd}{h:Hd}(hp:∃x,p τ h=.nx (t x) (hh x)/\P x)(k:∀x,P x->Tr (toR (g (t x) (hh x)))):Tr (toR (iy p g τ h)):=by
 obtain⟨x,e,q⟩:=hp;exact .tr (ym e) (k x q)
theorem b0z(ns:List Int):∃h',aps [.scr (ns.map D.int)] []=.ok (.bl true) h':=by
 obtain⟨o,P,es⟩:=SRC.alg ns [];obtain⟨r0,o1,e0,b0,P1⟩:=dw (m:=14) P (by omega) (by decide) (by decide)
 obtain⟨r1,o2,e1,b1,P2⟩:=dw (m:=3) P1 (by omega) (by decide) (by decide)
 obtain⟨tg,o3,T,e3,P3⟩:=SRC.alh P2 (by omega)
 obtain⟨t1,t6,nd⟩:1<=tg.length/\tg.length<=6/\tg.Nodup:=⟨T.lo,T.hi,T.nd⟩;have b5:bnd 5=3361400:=by decide
 obtain⟨s,o4,ks,hw,_,d4,P4⟩:=DRW.agh t1 t6 nd 4 4 (by omega) (by omega) o3 _ 10 24 P3 (by rw[b5];omega) (by omega)
 have nl:∀H:Hd,MI.xq [.int 24] H=.ok (.ref H.length) (H++[.lst [.int 24]]):=λH=>aJ (ik (by simp))
 have e4:=d4 0 1 [o3,.lst [.int 24]] (by omega) rfl rfl
 obtain⟨Z,eZ⟩:∃Z:O,Z=.lst [.int (24-DRW.pn s)]:=⟨_,rfl⟩;have cZ:uv 0 Z:=by rw[eZ];exact bu (cz _) gh
 have cO:∀{u:O} {N:Nat},Src u N->∀v∈[u,Z],uv 0 v:=λP v hv=>by
  simp only[aL,bg,cW]at hv
  rcases hv with rfl|rfl
  .exact P.clo
  .exact cZ
 obtain⟨x,o5,e5,lx,_,P5⟩:=DRW.alr (tg:=tg) 5 5 (by omega) (by omega) s ks o4 _ P4 (by rw[b5];omega)
 rw[b5]at P4 P5
 let B (w hd a b c d:Option D):Sd:=[some (.scr (ns.map D.int)),some (.ref 0),some (bz r0),some (bz r1),some (.str (S tg)),some (sd s),some (bz (wt s)),some (spD s),w,hd,a,b,c,d]
 obtain⟨r6,o6,e6,b6,P6⟩:=dw (m:=3) P5 (by omega) (by decide) (by decide)
 show Tr _;unfold aps;rw[ig];show Tr (toR (ap5 SRC.au jr jj (DRW.fu 5) SRC.j5 iz SRC.jc jg (DRW.cu 5) (DRW.gw 5) DRW.g8 qm a2l jf [some (.scr (ns.map D.int)),none,none,none,none,none,none,none,none,none,none,none,none,none] []));unfold ap5;refine .tr (jw (qg (bw rfl) es)) ?_;refine .tr (jw (vm (bw rfl) ckk (drz e0))) ?_;refine .tr (jw (vm (bw rfl) ckk (drz e1))) ?_;refine .tr (jw (qg (bw rfl) (drz e3))) ?_;refine .tr (jw (d:=sd s) (h1:=[o4,Z]) (aoo (cns (bw rfl) (cns (bw rfl) (cns ckk (cns ckk (cns (aoo (cns ckk nlo) (nl _)) nlo))))) (by rw[eZ];exact e4))) ?_
 refine .tr (jw (qg (bw rfl) (DRW.a8d 5 5 (by omega) s ks _))) ?_
 refine .tr (jw (qg (bw rfl) (amh ks (by omega) hw _))) ?_
 refine .tr (jw (a75 (vm (bw rfl) (bw rfl) (drz e5)) onn (a5j ckk) (b1g 15 (ik (bC lx (by decide)))))) ?_
 refine .ex (λx:List Nat×O=>B (some (.str (S x.1))) none none none none none) (λx=>[x.2,Z]) (λx=>x.1.length<=16/\Src x.2 100000000) ?_ ?_
 .by_cases z:r6=0
  .obtain⟨y,o7,ey,yl,_,P7⟩:=DRW.av9 (w:=x.take 15) t1 t6 (by rw[aQ];omega) P6 (by omega)
   exact⟨(y,o7),aU (ifT (h1:=[o6,Z]) (t2s (vm (bw rfl) ckk (drz e6)) ckk (zy (by omega)))) (agb (amq (bw rfl) (bw rfl) (bw rfl) (drz ey))),by rw[aQ]at yl;show y.length<=16;omega,P7.up (by omega)⟩
  .exact⟨(x.take 15,o6),ifF (h1:=[o6,Z]) (t2s (vm (bw rfl) ckk (drz e6)) ckk (a0x (by omega))),by show(x.take 15).length<=16;rw[aQ];omega,P6.up (by omega)⟩
 rintro⟨w,o7⟩ ⟨hl,P7⟩
 have hl:w.length<=16:=hl;obtain⟨hd,ehd,hh⟩:=avn (s:=s) (w:=w) hw (by omega)
 have lw:∀h,vg [.str (S w)] h=.ok (bz w.length) h:=λh=>a8t (ik (by omega))
 refine .tr (jw (vm (bw rfl) (bw rfl) (ehd _))) ?_;refine .ex (λl:List Nat=>B (some (.str (S w))) (some hd) (some (lsN l)) none none none) (λ_=>[o7,Z]) (λl=>(∀q∈l,q<=10)/\l.length<=16) ?_ ?_
 .rcases hh with rfl|⟨qs,rfl,_,qb,ql⟩
  .exact⟨[],agb (EVT.b4m (tvc rfl rfl) (zds nlo rfl gh (cO P7) (by simp))),by simp,by simp⟩
  .exact⟨qs,agb (EVT.b4l (tvc rfl rfl) (EVT.vp (bw rfl) rfl (j4 _) (cO P7))),λq hq=>by have:=qb q hq;omega,by omega⟩
 rintro row0 ⟨rb0,rl0⟩
 refine .ex (λx:List Nat×O=>B (some (.str (S w))) (some hd) (some (lsN x.1)) none none none) (λx=>[x.2,Z]) (λx=>(∀q∈x.1,q<=10)/\x.1.length<=16/\Src x.2 200000000) ?_ ?_
 .by_cases z1:r1=1
  .obtain⟨row,o8,eg,gb,gl,P8⟩:=avm (s:=s) (n:=w.length) hw (by omega) P7 (by omega)
   exact⟨(row,o8),aU (ifT (h1:=[o7,Z]) (tvc rfl (zy (by omega)))) (agb (amq (bw rfl) (bw rfl) (qg (bw rfl) (lw _)) (drz eg))),λq hq=>by have:=gb q hq;omega,by show row.length<=16;omega,P8.up (by omega)⟩
  .have n1:sT (s2 hEq (sV 3) (sI 1)) (B (some (.str (S w))) (some hd) (some (lsN row0)) none none none) [o7,Z]=.ok false [o7,Z]:=tvc rfl (a0x (by omega))
   by_cases z2:r1=2/\0<wt s
   .obtain⟨ys,o8,ec,q,P8,_⟩:=DRW.agi (fi:=sIt (sV 8)) (t:=MI.t1) (fe:=ag7 SRC.au jr jj (DRW.fu 5) SRC.j5 iz SRC.jc jg (DRW.cu 5) (DRW.gw 5) DRW.g8 qm a2l jf) (ix:=[1,6]) (τ:=B (some (.str (S w))) (some hd) (some (lsN row0)) none none none) (o0:=o7) (hs:=[Z]) w (λc:Nat=>D.str (S [c])) bz (λ_ q=>q<=10) (B:=1) (M:=100000100) P7 (by omega) (by omega) (by simpa using cZ) (a6o (bw rfl) (by show R.ok (⟨a01 (S w),_⟩:Itm) _=_;rw[sgs])) (λc _ u M Pu hM=>by
     obtain⟨r,u',e,rb,Pu'⟩:=dw (m:=(wt s:Int)) Pu (by omega) (by omega) (by omega)
     refine⟨1+r,u',?_,cz _,by omega,Pu'⟩
     rw[a4l];exact kj ckk (vm (bw rfl) (bw rfl) (drz e)) (DRW.av7 (a:=1)))
    have ql:=q.len;exact⟨(ys,o8),aU (ifF (h1:=[o7,Z]) n1) (aU (ifT (h1:=[o7,Z]) (a8j (tvc rfl (zy (by omega))) (tvc rfl (ada (by omega))))) (agb ec)),λy hy=>(q.rt y hy).elim λ_ h=>h.2,by show ys.length<=16;omega,P8.up (by omega)⟩
   .refine⟨(row0,o7),aU (ifF (h1:=[o7,Z]) n1) (ifF (h1:=[o7,Z]) ?_),rb0,rl0,P7.up (by omega)⟩
    by_cases z3:r1=2
    .exact a8j (tvc rfl (zy (by omega))) (tvc rfl (adb (by omega)))
    .exact ab4 (tvc rfl (a0x (by omega)))
 rintro⟨row,o8⟩ ⟨rb,rl,P8⟩
 have rl:row.length<=16:=rl;obtain⟨ys,o9,e9,sy,yl,P9⟩:=amg (row:=row) (m:=wt s) (by omega) rb hw P8 (by omega)
 refine .tr (jw (amq (bw rfl) (bw rfl) (bw rfl) (drz e9))) ?_;have cys:clos 0 ys:=jo.mpr λy hy=>(sy y hy).1.1;have tpl:Th (.rol ys):=⟨jh cys,.inr (.inr (.inr (.inr (.inl ⟨_,rfl⟩))))⟩;have tu:∀{l:List D},clos 0 l->(∀y∈l,Th y)->l.length<=900->Tp (.tup l):=λc t z=>⟨⟨gj c,.inr (.inr (.inr (.inr (.inr (.inr ⟨_,rfl⟩)))))⟩,λxs e=>by cases e;exact⟨t,z⟩⟩
 have cs:=cO P9;refine .tr (jw (qg (bw rfl) SHD.ue)) ?_;refine .ex (λpl:D=>B (some (.str (S w))) (some hd) (some (.rol ys)) (some pl) none none) (λ_=>[o9,Z]) Tp ?_ ?_
 .by_cases z:r0<6
  .have st:SL 301 (ys.take 4):=SL.sub ⟨sy,yl⟩ (λy hy=>eM hy) (by rw[aQ];omega)
   have cp:sZ (a0w (sIt (sZ (a1l (sV 10) oN (oS (sI 4))))) MI.t1 (ag8 SRC.au jr jj (DRW.fu 5) SRC.j5 iz SRC.jc jg (DRW.cu 5) (DRW.gw 5) DRW.g8 qm a2l jf) []) (B (some (.str (S w))) (some hd) (some (.rol ys)) (some (.tup ys)) none none) [o9,Z]=.ok (.rol ((ys.take 4).map λy=>.str (tx y))) [o9,Z]:=by
    refine zrl (h1:=[o9,Z]) (a3e (λy:D=>y) (λy=>.str (tx y)) (ys.take 4) (a6o (zrl (h1:=[o9,Z]) (a75 (bw rfl) onn (a5j ckk) ?_) rfl st.clo cs) (by rw[List.map_id'];rfl)) (ik (by rw[aQ];omega)) λy hy=>?_) rfl (dq λ_ _=>dz _) cs
    .show R.ok _ ([o9,Z]++[.lst (a5i ys none (some ((4:Nat):Int)))])=_;rw[aa1]
    .rw[a4l];exact qg (bw rfl) ((b0y (st.1 y hy)).2 _)
   obtain⟨j,ej⟩:=avp (l:=ys.take 4) (h:=[o9,Z]) (by rw[aQ];omega) st.1
   let C:List D:=[.rol ys,.str j,bz w.length,.non,.rod [] [],.tup [.rol ys]]
   have tC:∀y∈C,Tp y:=λy hy=>by
    simp only[C,aL,bg,cW]at hy
    rcases hy with rfl|rfl|rfl|rfl|rfl|rfl
    .exact ami tpl (by simp)
    .exact ami ⟨dz _,.inr (.inr (.inr (.inl ⟨_,rfl⟩)))⟩ (by simp)
    .exact ami (arh _) (by simp)
    .exact ami arl.1 (by simp)
    .exact ami arn.1 (by simp)
    .exact tu (bu (jh cys) gh) (λy hy=>by obtain rfl:=ax.mp hy;exact tpl) (by simp)
   have hr:r0<C.length:=z;have gC:∀h,MI.yj C h=.ok (.tup C) h:=λh=>aJ (ik (by simp[C]))
   exact⟨C[r0],aU (ifT (h1:=[o9,Z]) (tvc rfl (ab5 (by omega)))) (agb (kj (aoo (cns (bw rfl) (cns (K76.b4n (z:=S []) ckk (arg1 cp) ej) (cns (qg (bw rfl) (lw _)) (cns ckk (cns (EVT.zr cs) (cns (qg (bw rfl) a2k) nlo)))))) (gC _)) (bw rfl) (agc (ag hr)))),tC _ (bW hr)⟩
  .exact⟨.tup ys,ifF (h1:=[o9,Z]) (tvc rfl (a9h (by omega))),tu cys (λy hy=>(sy y hy).1) (by omega)⟩
 intro pl tp
 have wh:=b0p (s:=s) (w:=w) (by omega) tp
 have tr:=agq (vd s w pl);refine .tr (jw (amq (bw rfl) (bw rfl) (bw rfl) (apr hw (by omega) tp _))) ?_
 obtain⟨τ',h',ef,⟨t13,rfl⟩,rfl⟩:=a0z (g:=kN 13) (b:=aaw SRC.au jr jj (DRW.fu 5) SRC.j5 iz SRC.jc jg (DRW.cu 5) (DRW.gw 5) DRW.g8 qm a2l jf) (λi:Nat=>bz i) (λ_ τ h=>(∃t13:Option D,τ=B (some (.str (S w))) (some hd) (some (.rol ys)) (some pl) (some (.bl (vd s w pl))) t13)/\h=[o9,Z]) (List.range 2) (B (some (.str (S w))) (some hd) (some (.rol ys)) (some pl) (some (.bl (vd s w pl))) none) [o9,Z]
  (by
   rintro pre i post τ h al ⟨⟨t13,rfl⟩,rfl⟩
   refine⟨B (some (.str (S w))) (some hd) (some (.rol ys)) (some pl) (some (.bl (vd s w pl))) (some (bz i)),_,rfl,_,_,?_,⟨some (bz i),rfl⟩,rfl⟩;unfold aaw;refine aU (ifN (h1:=[o9,Z]) (a73 (ur (vm (amq (bw rfl) (bw rfl) (bw rfl) (wh _)) (bw rfl) (tr _)) (ju _)))) ?_
   rcases hh with rfl|⟨qs,rfl,hv,qb,ql⟩
   .exact ifF (h1:=[o9,Z]) (ab4 (tvc rfl rfl))
   .have w2:=b0p (s:=s) (w:=w) (by omega) (avo (qs:=qs) (by omega))
    rw[hv]at w2;exact ifF (h1:=[o9,Z]) (a8j (tvc rfl rfl) (a73 (ur (vm (amq (bw rfl) (bw rfl) (bw rfl) (w2 _)) ckk (agq true _)) (ju _)))))
  ⟨⟨_,rfl⟩,rfl⟩
 refine .tr (a4m (h1:=[o9,Z]) (xs:=(List.range 2).map λi:Nat=>bz i) (ck:=λ_=>True) (by
  unfold sRg;rw[arg1 ckk,cj];exact ale (n:=2) _ (ik (by omega)))) ?_
 refine .tr (aI (λz=>MI.thn z _) ef) ?_;exact⟨_,aI toR (jl ckk)⟩
end K15
namespace K15
open L2 MI
section
variable{P:Program}{w:World}{K:Fg}{mg:Str->Option Value}{base:Heap}{f:Addr}{fd:FuncData}
theorem d_4{f_4:Addr}{e_4:FuncData}(Fu_4:Fun K "weight" "weight" (top 10) f_4 e_4)(mk_4:mg "weight" = some (.ref f_4))(kp_4:PySem.W.keepIn K (.ref f_4)=true)(bd_4:Binds K e_4 ["shape"] [])(M:Nm mg){a_3:Addr}{d_3:FuncData}(D_3:Dn P w K mg base 1 "inner" ["shape"] (ug K 1 (ENG.xg)) a_3 d_3):∀n:Nat,Dn P w K mg base (n+1) "weight" ["shape"] (ug K 1 (K11.qj n)) f_4 e_4:=by
 intro n
 induction n with
 |zero=>exact⟨aha (ps:=["shape"]),mk_4,kp_4,bd_4⟩
 |succ n ih =>
  have e:n+1+1=n+1+1:=by omega
  rw[e];have s_weight:=ih;exact⟨a4x Fu_4 b4f (m_4 M D_3 (by omega) s_weight (by omega)),mk_4,kp_4,bd_4⟩
theorem d_8{f_8:Addr}{e_8:FuncData}(Fu_8:Fun K "patch_of" "patch_of" (top 15) f_8 e_8)(mk_8:mg "patch_of" = some (.ref f_8))(kp_8:PySem.W.keepIn K (.ref f_8)=true)(bd_8:Binds K e_8 ["shape","at"] []){f_9:Addr}{e_9:FuncData}(Fu_9:Fun K "patches_of" "patches_of" (top 16) f_9 e_9)(mk_9:mg "patches_of" = some (.ref f_9))(kp_9:PySem.W.keepIn K (.ref f_9)=true)(bd_9:Binds K e_9 ["shapes","at"] [])(M:Nm mg){C_Patch:Addr}(Q_Patch:CK K mg "Patch" C_Patch ["signs","firsts","pairs","lasts","empty"]){f_5:Addr}{e_5:FuncData}(D_5:Di P w K mg base 1 "Patch" C_Patch ["signs","firsts","pairs","lasts","empty"] ["self","signs","firsts","pairs","lasts","empty"] 5 K11.bh f_5 e_5){a_13:Addr}{d_13:FuncData}(D_13:Dn P w K mg base 3 "patch_again" ["patch"] (ug K 1 (K11.mq)) a_13 d_13){a_11:Addr}{d_11:FuncData}(D_11:Dn P w K mg base 4 "patch_in_turn" ["patches"] (ug K 1 (K11.jq)) a_11 d_11){a_12:Addr}{d_12:FuncData}(D_12:Dn P w K mg base 3 "patch_of_one" ["patches"] (ug K 1 (K11.jy)) a_12 d_12){a_14:Addr}{d_14:FuncData}(D_14:Dn P w K mg base 4 "patch_of_times" ["copies","low"] (ug K 2 (K11.jm)) a_14 d_14):∀n:Nat,Dn P w K mg base (n+4) "patch_of" ["shape","at"] (ug K 2 (K11.j9 n)) f_8 e_8/\Dn P w K mg base (n+4) "patches_of" ["shapes","at"] (ug K 2 (K11.mz n)) f_9 e_9:=by
 intro n
 induction n with
 |zero=>exact⟨⟨aha (ps:=["shape","at"]),mk_8,kp_8,bd_8⟩,⟨aha (ps:=["shapes","at"]),mk_9,kp_9,bd_9⟩⟩
 |succ n ih =>
  have e:n+1+4=n+4+1:=by omega
  rw[e];obtain⟨s_patch_of,s_patches_of⟩:=ih;exact⟨⟨a4x Fu_8 b4j (m_8 Q_Patch D_5 (by omega) D_13 (by omega) D_11 (by omega) s_patch_of (by omega) D_12 (by omega) D_14 (by omega) s_patches_of (by omega)),mk_8,kp_8,bd_8⟩,⟨a4x Fu_9 b4k (m_9 M Q_Patch s_patch_of (by omega)),mk_9,kp_9,bd_9⟩⟩
theorem aw0{f_25:Addr}{e_25:FuncData}(Fu_25:Fun K "_law_weight" "_law_weight" (top 34) f_25 e_25)(mk_25:mg "_law_weight" = some (.ref f_25))(kp_25:PySem.W.keepIn K (.ref f_25)=true)(bd_25:Binds K e_25 ["_law_shape_here"] [])(M:Nm mg):∀n:Nat,Dn P w K mg base (n+0) "_law_weight" ["_law_shape_here"] (ug K 1 (DRW.cu n)) f_25 e_25:=by
 intro n
 induction n with
 |zero=>exact⟨aha (ps:=["_law_shape_here"]),mk_25,kp_25,bd_25⟩
 |succ n ih =>
  have e:n+1+0=n+0+1:=by omega
  rw[e];have s_law_weight:=ih;exact⟨a4x Fu_25 azb (b63 M s_law_weight (by omega)),mk_25,kp_25,bd_25⟩
theorem b3n{f_26:Addr}{e_26:FuncData}(Fu_26:Fun K "_law_shape" "_law_shape" (top 35) f_26 e_26)(mk_26:mg "_law_shape" = some (.ref f_26))(kp_26:PySem.W.keepIn K (.ref f_26)=true)(bd_26:Binds K e_26 ["_law_left","_law_tongue_here","_law_deep","_law_purse","_law_room"] [])(M:Nm mg){a_21:Addr}{d_21:FuncData}(D_21:Dn P w K mg base 1 "_law_draw" ["_law_left","_law_many"] (ug K 2 (SRC.au)) a_21 d_21){a_24:Addr}{d_24:FuncData}(D_24:Dn P w K mg base 2 "_law_ones" ["_law_left","_law_tongue_here"] (ug K 2 (DRW.n6)) a_24 d_24){a_25:Addr}{aw0:FuncData}(D_25:Dn P w K mg base 5 "_law_weight" ["_law_shape_here"] (ug K 1 (DRW.cu 5)) a_25 aw0):∀n:Nat,Dn P w K mg base (n+5) "_law_shape" ["_law_left","_law_tongue_here","_law_deep","_law_purse","_law_room"] (ug K 5 (DRW.fu n)) f_26 e_26:=by
 intro n
 induction n with
 |zero=>exact⟨aha (ps:=["_law_left","_law_tongue_here","_law_deep","_law_purse","_law_room"]),mk_26,kp_26,bd_26⟩
 |succ n ih =>
  have e:n+1+5=n+5+1:=by omega
  rw[e];have s_law_shape:=ih;exact⟨a4x Fu_26 azc (b64 M D_21 (by omega) D_24 (by omega) s_law_shape (by omega) D_25 (by omega)),mk_26,kp_26,bd_26⟩
theorem b3o{f_27:Addr}{e_27:FuncData}(Fu_27:Fun K "_law_word" "_law_word" (top 36) f_27 e_27)(mk_27:mg "_law_word" = some (.ref f_27))(kp_27:PySem.W.keepIn K (.ref f_27)=true)(bd_27:Binds K e_27 ["_law_left","_law_shape_here"] [])(M:Nm mg){a_21:Addr}{d_21:FuncData}(D_21:Dn P w K mg base 1 "_law_draw" ["_law_left","_law_many"] (ug K 2 (SRC.au)) a_21 d_21):∀n:Nat,Dn P w K mg base (n+1) "_law_word" ["_law_left","_law_shape_here"] (ug K 2 (DRW.gw n)) f_27 e_27:=by
 intro n
 induction n with
 |zero=>exact⟨aha (ps:=["_law_left","_law_shape_here"]),mk_27,kp_27,bd_27⟩
 |succ n ih =>
  have e:n+1+1=n+1+1:=by omega
  rw[e];have s_law_word:=ih;exact⟨a4x Fu_27 azd (b65 M D_21 (by omega) s_law_word (by omega)),mk_27,kp_27,bd_27⟩
end
noncomputable def apt(K:Fg):Sp:=λvs H Q _=>∃(a:Addr) (ns:List Int),vs=[.ref a]/\SqF K H a (ns.map V.int)/\ns.length<=63/\∀H',Q (.bl true) H'
theorem a2z{K:Fg}{U:List Addr}{H:Hp}:∀ns:List Int,Reps K U H (ns.map V.int) (ns.map D.int)
 |[]=>.nil
 |n::ns=>.cons (.int n) (a2z ns)
theorem b11{K:Fg}(vs:List V)(H:Hp)(Q:VK)(E:XK)(h:apt K vs H Q E):ug K 1 K15.aps vs H Q E:=by
 obtain⟨a,ns,rfl,hS,hl,q⟩:=h;obtain⟨h',e⟩:=K15.b0z ns;refine⟨rfl,[],[.scr (ns.map D.int)],[],.cons (.scr hS (a2z ns)) .nil,⟨i9,rfl,λi a o z=>by simp at z⟩,?_⟩
 rw[e]
 intro U' H' b g r hr
 cases r
 exact q H'
theorem b12{K:Fg}{H:Hp}{a:Addr}{vs:List V}(hO:Only H)(hS:SqL K H a vs):SqF K H a vs:=by
 rcases hS with r|r
 .rcases r with r|⟨o,r⟩
  .rcases hO a with z|⟨o,xs,z⟩<;>rw[z]at r<;>cases r
  .exact .inl ⟨o,r⟩
 .exact .inr (.inr r)
abbrev fo(x:Str)(t:Stmt)(kV dc pm:Value)(an:Option Addr)(cd ct:Value):=PySem.W.fnOf x x (a2q t) (xr t) (dh t) .none kV dc pm an cd ct
def Df(K:Fg)(f:Addr)(nm:Str)(i:Nat):Prop:=∃oc od kV dc pm an cd ct sl,PySem.W.nsIn K mainGlobals nm=some (some (.ref f))/\K.lookup f=some ⟨oc,od,.func (fo nm (top i) kV dc pm an cd ct),sl⟩/\PySem.W.codeIn K cd nm=true/\PySem.W.keepIn K (.ref f)=true
theorem df{K:Fg}{f:Addr}{nm:Str}{i:Nat}(d:Df K f nm i):∃e,PySem.W.nsIn K mainGlobals nm=some (some (.ref f))/\Fun K nm nm (top i) f e:=by
 obtain⟨_,_,_,_,_,_,_,_,_,a,l,c,k⟩:=d;exact⟨_,a,aq1 l c k⟩
theorem yo{P:Program}{w:World}{K:Fg}{mg:Str->Option Value}{base h:Heap}{f:Addr}{nm:Str}{i k:Nat}{F:SF}{N ps:List Str}{b:SS}(S:FnScope N ps (dh (top i)))(d:Df K f nm i)(X:K.In h)(G:h.Ns mainGlobals mg)
  (hb:∀(cdv:Value) (A:Around) (outer:List Env) (s:Shared) (H:Hp) (E:XK),Room k (A.deeper (PyProof.Rows.envOfC nm (dh (top i)) s.heap.objs.size f cdv))->MSs (air CX0 P w K mg base N nm (dh (top i)) f cdv A outer s H E).nox X0 (xr (top i)) b)
  (h:∀(kV doc pm:Value) (an:Option Addr) (cdv ct:Value) (us:List Value),us.length=ps.length->bindArgs (PySem.W.fnOf nm nm (a2q (top i)) (xr (top i)) (dh (top i)) .none kV doc pm an cdv ct) ⟨us,[]⟩=pure (ps.zip us)) (e:F=n8 b N.length:=by rfl) :
  ∃fd,Dn P w K mg base (k+1) nm ps (ug K ps.length F) f fd:=by
 obtain⟨_,a,Fu⟩:=df d;rw[e];exact⟨_,a4x Fu S hb,dN X G a,Fu.kp,Fu.binds h⟩
local macro_rules|`(tactic|walk_at "b") => `(tactic|(intro _ _ _ _ _ _ us hl;first|(apply b46 hl;intro _;exact rfl)|(apply b47 hl;intro _ _;exact rfl)|(apply b48 hl;intro _ _ _;exact rfl)|(apply b49 hl;intro _ _ _ _;exact rfl)|(apply b4a hl;intro _ _ _ _ _;exact rfl)|(apply b5n hl;intro _ _ _ _ _ _;exact rfl)|(apply len0 hl;exact rfl)))
theorem b13{l:PySem.W.OpenLaw}{w:World}{K:Fg}{h:Heap}{mg:Str->Option Value}{fa f1 f2 f3 f4 f5 f6 f7 f8 f9 f10 f11 f12 f13 f14 f15 f16 f17 f18 f19 f20 f21 f22 f23 f24 f25 f26 f27 f28 f29 f30 f31 f32 f33 f34 f35:Addr}(X:K.In h)(G:h.Ns mainGlobals mg)(hfa:mg "law" = some (.ref fa))
  (d1:Df K f1 "is_number" 1)
  (d2:Df K f2 "is_row" 2)
  (d3:Df K f3 "rising" 3)
  (d4:Df K f4 "inner" 9)
  (d5:Df K f5 "weight" 10)
  (d6:Df K f6 "spread" 13)
  (d7:Df K f7 "patch_rows" 14)
  (d8:Df K f8 "patch_of" 15)
  (d9:Df K f9 "patches_of" 16)
  (d10:Df K f10 "joined" 17)
  (d11:Df K f11 "patch_in_turn" 18)
  (d12:Df K f12 "patch_of_one" 19)
  (d13:Df K f13 "patch_again" 20)
  (d14:Df K f14 "patch_of_times" 21)
  (d15:Df K f15 "behind" 22)
  (d16:Df K f16 "stands" 23)
  (d17:Df K f17 "way" 25)
  (d18:Df K f18 "fitting_layers" 26)
  (d19:Df K f19 "way_holds" 27)
  (d20:Df K f20 "_law_source" 29)
  (d21:Df K f21 "_law_draw" 30)
  (d22:Df K f22 "_law_signs" 31)
  (d23:Df K f23 "_law_tongue" 32)
  (d24:Df K f24 "_law_ones" 33)
  (d25:Df K f25 "_law_weight" 34)
  (d26:Df K f26 "_law_shape" 35)
  (d27:Df K f27 "_law_word" 36)
  (d28:Df K f28 "_law_word_bent" 37)
  (d29:Df K f29 "_law_row" 38)
  (d30:Df K f30 "_law_way_good" 39)
  (d31:Df K f31 "_law_truth" 40)
  (d32:Df K f32 "_law_gone" 41)
  (d33:Df K f33 "_law_spoilt" 42)
  (d34:Df K f34 "_law_holds" 43)
  (d35:Df K f35 "law" 44)
  {C1 j1:Addr} {jc1:Value} {jd1 jn1:Option Addr} {js1:Array (Option Value)} {jk1 jo1 jp1 jv1 jt1:Value}
  (q1:PySem.W.nsIn K mainGlobals "Patch" = some (some (.ref C1))) (qc1:Cls K C1) (qn1_0:NoAttr K C1 "signs") (qn1_1:NoAttr K C1 "firsts") (qn1_2:NoAttr K C1 "pairs") (qn1_3:NoAttr K C1 "lasts") (qn1_4:NoAttr K C1 "empty") (qm1:Mk K C1 j1) (jl1:K.lookup j1=some ⟨jc1,jd1,.func (PySem.W.fnOf "__init__" "Patch.__init__" (a2q (cst (top 12) 0)) (xr (cst (top 12) 0)) (dh (cst (top 12) 0)) .none jk1 jo1 jp1 jn1 jv1 jt1),js1⟩) (ji1:PySem.W.codeIn K jv1 "Patch.__init__" = true) (je1:PySem.W.keepIn K (.ref j1)=true)
  (dg:PySem.W.nsIn K cStatics "sys.int_max_str_digits" = some none)
  (z1:PySem.W.nsIn K mainGlobals "abs" = some none) (z2:PySem.W.nsIn K mainGlobals "any" = some none) (z3:PySem.W.nsIn K mainGlobals "bool" = some none) (z4:PySem.W.nsIn K mainGlobals "int" = some none) (z5:PySem.W.nsIn K mainGlobals "isinstance" = some none) (z6:PySem.W.nsIn K mainGlobals "len" = some none) (z7:PySem.W.nsIn K mainGlobals "list" = some none) (z8:PySem.W.nsIn K mainGlobals "max" = some none) (z9:PySem.W.nsIn K mainGlobals "min" = some none) (z10:PySem.W.nsIn K mainGlobals "range" = some none) (z11:PySem.W.nsIn K mainGlobals "reversed" = some none) (z12:PySem.W.nsIn K mainGlobals "set" = some none) (z13:PySem.W.nsIn K mainGlobals "sorted" = some none) (z14:PySem.W.nsIn K mainGlobals "str" = some none) (z15:PySem.W.nsIn K mainGlobals "sum" = some none) (z16:PySem.W.nsIn K mainGlobals "tuple" = some none) (z17:PySem.W.nsIn K mainGlobals "zip" = some none) {ty1:Tok} (y1:PySem.W.nsIn K mainGlobals "HEAVIEST" = some (some (.int 10 ty1))) :
  ∃fd:FuncData,(∀(s:Shared) (v:Value),BindsTo s fd ⟨[v],[]⟩ [("_law_script",v)])/\∀base:Heap,K.In base->base.Ns mainGlobals mg->FnOk l.prog w K mg base CX0 16 fa fd ["_law_script"] (apt K):=by
 obtain⟨_,a5,F5⟩:=df d5;have b5:=F5.binds (ps:=["shape"]) (by walk_at "b")
 obtain⟨_,a8,F8⟩:=df d8;have b8:=F8.binds (ps:=["shape","at"]) (by walk_at "b")
 obtain⟨_,a9,F9⟩:=df d9;have b9:=F9.binds (ps:=["shapes","at"]) (by walk_at "b")
 obtain⟨_,a25,F25⟩:=df d25;have b25:=F25.binds (ps:=["_law_shape_here"]) (by walk_at "b")
 obtain⟨_,a26,F26⟩:=df d26;have b26:=F26.binds (ps:=["_law_left","_law_tongue_here","_law_deep","_law_purse","_law_room"]) (by walk_at "b")
 obtain⟨_,a27,F27⟩:=df d27;have b27:=F27.binds (ps:=["_law_left","_law_shape_here"]) (by walk_at "b")
 obtain⟨_,a35,F35⟩:=df d35;have e:=hfa.symm.trans (dN X G a35);cases e
 obtain⟨oc,od,kV35,dc35,pm35,an35,cd35,ct35,sl,rfl,lk,hc⟩:=id F35.ex;have b35:=F35.binds (ps:=["_law_script"]) (by walk_at "b")
 have M:Nm mg:=⟨bH X G z1,bH X G z2,bH X G z3,bH X G z4,bH X G z5,bH X G z6,bH X G z7,bH X G z8,bH X G z9,bH X G z10,bH X G z11,bH X G z12,bH X G z13,bH X G z14,bH X G z15,bH X G z16,bH X G z17⟩;have C:Cn mg:=⟨⟨_,dN X G y1⟩⟩
 have GK:Kn l.prog w K mg:=⟨dg⟩;refine⟨PySem.W.fnOf "law" "law" (a2q (top 44)) (xr (top 44)) (dh (top 44)) .none kV35 dc35 pm35 an35 cd35 ct35,λs v=>.of_eq rfl,λbase _ _=>?_⟩;have Q_Patch:CK K mg "Patch" C1 ["signs","firsts","pairs","lasts","empty"]:=⟨dN X G q1,q1,qc1,λk hk=>by
  simp only[aL,bg,cW]at hk
  rcases hk with rfl|rfl|rfl|rfl|rfl
  .exact qn1_0
  .exact qn1_1
  .exact qn1_2
  .exact qn1_3
  .exact qn1_4⟩
 have J1:=aq1 (st:=cst (top 12) 0) jl1 ji1 je1;have jb1:=J1.binds (ps:=["self","signs","firsts","pairs","lasts","empty"]) (by walk_at "b")
 have D_5:Di l.prog w K mg base 1 "Patch" C1 ["signs","firsts","pairs","lasts","empty"] ["self","signs","firsts","pairs","lasts","empty"] 5 K11.bh _ _:=⟨a4x J1 b4g (m_5 Q_Patch),jb1,qm1,Q_Patch⟩;obtain⟨_,D_0⟩:=yo (F:=K15.ou) (k:=0) b4b d1 X G (m_0 M) (by walk_at "b")
 obtain⟨_,D_1⟩:=yo (F:=K15.zg) (k:=0) b4c d2 X G (m_1 M) (by walk_at "b")
 obtain⟨_,D_2⟩:=yo (F:=K11.j6) (k:=0) b4d d3 X G (m_2 M) (by walk_at "b")
 obtain⟨_,D_3⟩:=yo (F:=ENG.xg) (k:=0) b4e d4 X G (m_3 ) (by walk_at "b")
 have D_4:=d_4 (P:=l.prog) (w:=w) (base:=base) F5 (dN X G a5) F5.kp b5 M D_3 5;obtain⟨_,D_13⟩:=yo (F:=K11.mq) (k:=2) ayz d13 X G (b5r Q_Patch D_5 (by decide)) (by walk_at "b")
 obtain⟨_,D_10⟩:=yo (F:=K11.mj) (k:=2) ayw d10 X G (b5o Q_Patch D_5 (by decide)) (by walk_at "b")
 obtain⟨_,D_11⟩:=yo (F:=K11.jq) (k:=3) ayx d11 X G (b5p Q_Patch D_5 (by decide) D_10 (by decide)) (by walk_at "b")
 obtain⟨_,D_12⟩:=yo (F:=K11.jy) (k:=2) ayy d12 X G (b5q Q_Patch D_5 (by decide)) (by walk_at "b")
 obtain⟨_,D_14⟩:=yo (F:=K11.jm) (k:=3) az0 d14 X G (b5s M Q_Patch D_5 (by decide) D_10 (by decide)) (by walk_at "b")
 obtain⟨D_8,D_9⟩:=d_8 (P:=l.prog) (w:=w) (base:=base) F8 (dN X G a8) F8.kp b8 F9 (dN X G a9) F9.kp b9 M Q_Patch D_5 D_13 D_11 D_12 D_14 10;obtain⟨_,D_7⟩:=yo (F:=K11.ux) (k:=1) b4i d7 X G (m_7 M Q_Patch D_2 (by decide)) (by walk_at "b")
 obtain⟨_,D_6⟩:=yo (F:=K15.qm) (k:=14) b4h d6 X G (m_6 C D_8 (by decide) D_7 (by decide) D_4 (by decide)) (by walk_at "b")
 obtain⟨_,D_15⟩:=yo (F:=K15.zc) (k:=1) az1 d15 X G (b5t D_2 (by decide)) (by walk_at "b")
 obtain⟨_,D_16⟩:=yo (F:=K15.jk) (k:=2) az2 d16 X G (b5u M D_15 (by decide)) (by walk_at "b")
 obtain⟨_,D_18⟩:=yo (F:=K15.gf) (k:=3) az4 d18 X G (b5w M D_16 (by decide)) (by walk_at "b")
 obtain⟨_,D_17⟩:=yo (F:=K15.a2l) (k:=4) az3 d17 X G (b5v M D_18 (by decide)) (by walk_at "b")
 obtain⟨_,D_19⟩:=yo (F:=K15.jf) (k:=1) az5 d19 X G (b5x M D_0 (by decide) D_1 (by decide)) (by walk_at "b")
 obtain⟨_,D_20⟩:=yo (F:=SRC.j5) (k:=0) az6 d20 X G (b5y M) (by walk_at "b")
 obtain⟨_,D_21⟩:=yo (F:=SRC.au) (k:=0) az7 d21 X G (b5z M) (by walk_at "b")
 obtain⟨_,D_22⟩:=yo (F:=SRC.m7) (k:=0) az8 d22 X G (b60 ) (by walk_at "b")
 obtain⟨_,D_23⟩:=yo (F:=SRC.jc) (k:=1) az9 d23 X G (b61 M D_21 (by decide) D_22 (by decide)) (by walk_at "b")
 obtain⟨_,D_24⟩:=yo (F:=DRW.n6) (k:=1) aza d24 X G (b62 M D_21 (by decide)) (by walk_at "b")
 have D_25:=aw0 (P:=l.prog) (w:=w) (base:=base) F25 (dN X G a25) F25.kp b25 M 5;have D_26:=b3n (P:=l.prog) (w:=w) (base:=base) F26 (dN X G a26) F26.kp b26 M D_21 D_24 D_25 5;have D_27:=b3o (P:=l.prog) (w:=w) (base:=base) F27 (dN X G a27) F27.kp b27 M D_21 5;obtain⟨_,D_28⟩:=yo (F:=DRW.g8) (k:=1) aze d28 X G (b66 M D_21 (by decide)) (by walk_at "b")
 obtain⟨_,D_29⟩:=yo (F:=K15.qe) (k:=0) azf d29 X G (b67 M) (by walk_at "b")
 obtain⟨_,D_30⟩:=yo (F:=K15.jb) (k:=0) azg d30 X G (b68 M) (by walk_at "b")
 obtain⟨_,D_31⟩:=yo (F:=K15.jg) (k:=0) azh d31 X G (b69 M) (by walk_at "b")
 obtain⟨_,D_32⟩:=yo (F:=K15.jr) (k:=1) azi d32 X G (b6a M D_21 (by decide)) (by walk_at "b")
 obtain⟨_,D_33⟩:=yo (F:=K15.iz) (k:=1) azj d33 X G (b6b M GK D_21 (by decide)) (by walk_at "b")
 obtain⟨_,D_34⟩:=yo (F:=K15.jj) (k:=1) azk d34 X G (b6c M D_29 (by decide) D_30 (by decide)) (by walk_at "b")
 have D_35:Dn l.prog w K mg base 16 "law" ["_law_script"] (ug K 1 (K15.aps)) _ _:=⟨a4x F35 azl (b6d M GK D_21 (by decide) D_32 (by decide) D_34 (by decide) D_26 (by decide) D_20 (by decide) D_33 (by decide) D_23 (by decide) D_31 (by decide) D_25 (by decide) D_27 (by decide) D_28 (by decide) D_6 (by decide) D_17 (by decide) D_19 (by decide)),dN X G a35,F35.kp,b35⟩
 exact D_35.ok.imp b11
theorem walk{l:PySem.W.OpenLaw}{q:Program}{loose:List Str}{XP:(Str->Option Value)->Heap->Prop}{YP:World->Heap->Prop}{d:DefRec}{K:Params->Fg}(hn:l.most=some 63)(hdf:d.params.defaults=[])
  (hY:∀(w:World) (h:Heap),YP w h->(K w.params).In h)
  (F:∀(w:World) (mg:Str->Option Value) (fa:Addr) (h:Heap),(K w.params).In h->h.Ns mainGlobals mg->mg d.name=some (.ref fa)->
   ∃fd:FuncData,(∀(s:Shared) (u:Value),BindsTo s fd ⟨[u],[]⟩ [("_law_script",u)])/\∀base:Heap,(K w.params).In base->base.Ns mainGlobals mg->FnOk l.prog w (K w.params) mg base CX0 16 fa fd ["_law_script"] (apt (K w.params))) :
  PySem.W.WalkO q loose XP YP l.row.toRowW d [] (λf vs=>PySem.call f vs) :=
 L2.asl (n:=63) (k:=16) (x := "_law_script") (CX:=λ_=>CX0) (sp:=λw=>apt (K w.params)) hn (by decide) hdf ⟨rfl,by decide,by decide,rfl⟩ hY F (λ_ _ a ns hl hO hS=>⟨a,ns,rfl,b12 hO hS,hl,λ_=>rfl⟩) λ_ _ _ _ _ z=>z
end K15
open PySem.W PyProof.Rows
local macro_rules|`(tactic|o_head $H) => `(tactic|refine PySem.W.holds_open (q:=K15.hq) (loose:=K15.hl) (Xt:=fun _=>true) (XP:=fun _ _=>True) (Yf:=Hook.obs $H) (Ya:=Hook.val $H) (YP:=Hook.says $H) (N:=20000) ?hl (Hook.of $H) (Hook.keeps $H) (fun _ _=>trivial) (fun _ _ _ _ _=>trivial) (by rfl) (by rfl) (by rfl) (fun _ _=>recFacts_nil rfl) (by rfl) (by assumption) (by decide +kernel) ⟨rfl,rfl,rfl,rfl,rfl,by decide +kernel⟩ ?hw ?hc)
set_option maxRecDepth 100000 in
set_option maxHeartbeats 0 in
theorem PySem.Challenge.cw_nearreach_k15_ways_looked_at_holds : PySem.Challenge.rw_nearreach_k15_ways_looked_at.Holds := by
 w_on;refine holds_law K15.said fun said=>?_;o_head (kHook K15.A.heap_1 [2,3,15,17,18,20,21,22,24,25,27,28,29,31,32,34,35,36,43,44,45,46,49,56,57,58,61,63,64,66,67,68,71,72,80,82,83,85,86,87,88,89,90,91,94,96,97,99,100,101,104,105,106,108,109,111,112,113,115,116,118,119,120,123,124,125,127,128,130,131,132,134,135,137,138,139,142,143,144,146,147,149,150,151,154,155,156,158,159,161,162,163,166,167,168,171,172,173,175,176,178,179,180,183,184,185,187,188,190,191,192,194,195,197,198,199,201,202,204,205,206,208,209,211,212,213,216,217,218,220,221,223,224,225,228,229,230,232,233,235,236,237,239,240,242,243,244,246,247,249,250,251,253,254,256,257,258,260,261,263,264,265,267,268,270,271,272,275,276,277,280,281] (fun _=>by kernel_rfl))
 (case hw=>w_witness2)
 (case hl=>exact K15.hlok)
 k_fill
 refine K15.walk (l:=PySem.Challenge.rw_nearreach_k15_ways_looked_at) rfl rfl (fun w h Y=>PySem.W.kIn_of Y) ?F
 case F =>
  intro w mg fa h KX G hmg
  refine' K15.b13 KX G hmg ?_ ?_ ?_ ?_ ?_ ?_ ?_ ?_ ?_ ?_ ?_ ?_ ?_ ?_ ?_ ?_ ?_ ?_ ?_ ?_ ?_ ?_ ?_ ?_ ?_ ?_ ?_ ?_ ?_ ?_ ?_ ?_ ?_ ?_ ?_ ?q1 ?qc1 ?qn1_0 ?qn1_1 ?qn1_2 ?qn1_3 ?qn1_4 ?qm1 ?jl1 ?ji1 ?je1 ?dg ?_ ?_ ?_ ?_ ?_ ?_ ?_ ?_ ?_ ?_ ?_ ?_ ?_ ?_ ?_ ?_ ?_ ?y1
  all_goals first | k_is | exact ⟨_,_,_,_,_,_,_,_,_,by k_is,by k_is,by k_is,by k_is⟩ | skip
  try (case q1=>k_is)
  try (case qm1=>constructor<;>first | k_is | kernel_rfl)
  try (case jl1=>k_is)
  try (case ji1=>k_is)
  try (case je1=>k_is)
  try (case qc1=>constructor<;>first | k_is | kernel_rfl)
  try (case qn1_0=>unfold L2.NoAttr;kernel_rfl)
  try (case qn1_1=>unfold L2.NoAttr;kernel_rfl)
  try (case qn1_2=>unfold L2.NoAttr;kernel_rfl)
  try (case qn1_3=>unfold L2.NoAttr;kernel_rfl)
  try (case qn1_4=>unfold L2.NoAttr;kernel_rfl)
  try (case dg=>k_is)
  try (case y1=>k_is)
